import PyProof.Rows.All
import Wide.All
import OpenK.AllK
import Wide.FinOn
import Lean
import PyProof.EqAt
import PyProof.EqKinds
import PyProof.TupleCall
import KE.KSortTup
import KE.KDictSum
import KE.KDictOf
import PyProof.AttrMissHeap
import OpenK.KRaise
import KE.KIsAll
import KE.KTryMore
import KE.RegKIsAll
import KE.RegKTryMore
import PyProof.NsDelKeeps
import PyProof.ExcArgs
import PyProof.FitsReplace
import PyProof.Rows.StrJoin2
import PySem.Challenge.RW_oncedoor_k32_texts_of_no_row
set_option Elab.async false
set_option linter.all false
set_option maxRecDepth 100000
set_option maxHeartbeats 4000000
theorem Zk {p:Prop} (h:p:=by decide +kernel):p:=h
theorem Zo {p:Prop} (h:p:=by omega):p:=h
theorem Zs {p:Prop} (h:p:=by simp):p:=h
theorem Zd {p:Prop} (h:p:=by decide):p:=h
def Zfm:=@List.forall_mem_cons
def aZ:=@List.length_map
def iV:=@PySem.Heap.get?_push_of_some
def Zgs:=@List.getElem?_eq_some_iff
def jH:=@List.getElem?_eq_getElem
def gT:=@List.mem_cons_of_mem
def Zmm:=@List.mem_map
def hW:=@List.map_append
def eG:=@List.length_append
def kH:=@List.getElem?_map
def oR:=@Int.eq_ofNat_of_zero_le
def kB:=@Nat.le_trans
def iW:=@List.mem_cons_self
def fY:=@List.size_toArray
def fS:=@List.length_take
def rV:=@List.take_of_length_le
def Zma:=@List.mem_append
def Zms:=@List.mem_singleton
def fI:=@List.length_cons
def Wf:=@Nat.lt_of_le_of_lt
def cL:=@Nat.le_refl
def Mj:=@List.take_add_one
def sN:=@List.mem_of_getElem?
namespace L2
open PySem PySem.Spec PyProof.Rows
abbrev dQ:=Sum Int Str
def kM:dQ->Value->Bool
 | .inl k,v=>Value.isInt k v
 | .inr x,v=>Value.isStrOf x v
def Wm (w:World):dQ->Int
 | .inl k=>hashInt k
 | .inr x=>hashStr w x
theorem bQ:∀ {k:dQ} {v:Value},kM k v=true->(∃i t,k=Sum.inl i/\v=Value.int i t)∨(∃x t,k=Sum.inr x/\v=Value.str x t)
 | .inl i,v,h=>by
  obtain⟨t,e⟩:=Value.isInt_shape (k:=i) (v:=v) h
  exact .inl ⟨i,t,rfl,e⟩
 | .inr x,v,h=>by
  obtain⟨t,e⟩:=Value.isStrOf_shape (x:=x) (v:=v) h
  exact .inr ⟨x,t,rfl,e⟩
theorem Ds (i:Int) (t:Tok):kM (.inl i) (.int i t)=true:=by simp [kM,Value.isInt]
theorem Dt (x:Str) (t:Tok):kM (.inr x) (.str x t)=true:=by simp [kM,Value.isStrOf]
theorem Rf (a b:Int):decide ((Sum.inl a:dQ)=Sum.inl b)=(a == b):=by
 by_cases e:a=b
 ·subst e;simp
 ·have h:¬ (Sum.inl a:dQ)=Sum.inl b:=fun q=>e (Sum.inl.inj q)
  rw[decide_eq_false h];exact(beq_eq_false_iff_ne.mpr e).symm
theorem Rg (a b:Str):decide ((Sum.inr a:dQ)=Sum.inr b)=decide (a=b):=by
 by_cases e:a=b
 ·subst e;simp
 ·have h:¬ (Sum.inr a:dQ)=Sum.inr b:=fun q=>e (Sum.inr.inj q)
  rw[decide_eq_false h,decide_eq_false e]
theorem Rh (a:Int) (b:Str):decide ((Sum.inl a:dQ)=Sum.inr b)=false:=decide_eq_false (fun q=>nomatch q)
theorem Ri (a:Str) (b:Int):decide ((Sum.inr a:dQ)=Sum.inl b)=false:=decide_eq_false (fun q=>nomatch q)
def bM (prog:Program) (w:World):PySem.KeyKind prog w dQ where
 is:=kM
 hash:=Wm w
 inj:=fun v a b ha hb=>by
  rcases bQ ha with⟨i,t,rfl,rfl⟩ | ⟨x,t,rfl,rfl⟩
  ·rcases bQ hb with⟨j,u,rfl,e⟩ | ⟨y,u,rfl,e⟩
   ·injection e with e1 _;rw[e1]
   ·exact nomatch e
  ·rcases bQ hb with⟨j,u,rfl,e⟩ | ⟨y,u,rfl,e⟩
   ·exact nomatch e
   ·injection e with e1 _;rw[e1]
 byValue:=fun k v h=>by
  rcases bQ h with⟨i,t,rfl,rfl⟩ | ⟨x,t,rfl,rfl⟩ <;> rfl
 pyHash:=fun hv h=>by
  rcases bQ hv with⟨i,t,rfl,rfl⟩ | ⟨x,t,rfl,rfl⟩
  ·exact wpAny_pyHash_int h
  ·exact wpAny_pyHash_str h
 eqBool:=fun hu hv h=>by
  rcases bQ hu with⟨i,t,rfl,rfl⟩ | ⟨x,t,rfl,rfl⟩
  ·rcases bQ hv with⟨j,u,rfl,rfl⟩ | ⟨y,u,rfl,rfl⟩
   ·rw[Rf]at h;exact wpAny_eqBool_int h
   ·rw[Rh]at h;exact SeqAt.EqAt.int_str i t y u _ _ _ _ h
  ·rcases bQ hv with⟨j,u,rfl,rfl⟩ | ⟨y,u,rfl,rfl⟩
   ·rw[Ri]at h;exact SeqAt.EqAt.str_int x t j u _ _ _ _ h
   ·rw[Rg]at h;exact wpAny_eqBool_str h
 «strs»:=fun k x t v h=>by
  rcases bQ h with⟨i,u,rfl,e⟩ | ⟨y,u,rfl,e⟩
  ·exact nomatch e
  ·injection e with e1 _
   subst e1;cases v <;> rfl
theorem xH (prog:Program) (w:World) (i:Int) (t:Tok):(bM prog w).is (.inl i) (.int i t)=true:=Ds i t
theorem xI (prog:Program) (w:World) (x:Str) (t:Tok):(bM prog w).is (.inr x) (.str x t)=true:=Dt x t
end L2
namespace L2
open PySem PySem.Spec PyProof.Rows
inductive V where
 | non | bl (b:Bool) | int (i:Int) | str (x:Str) | byt (b:Array UInt8) | flt (b:UInt64) | ref (a:Addr) | ty (n:String)
 deriving DecidableEq
def RelV:V->Value->Prop
 | .non,u=>u=Value.none
 | .bl b,u=>u=Value.bool b
 | .int i,u=>∃t,u=Value.int i t
 | .str x,u=>∃t,u=Value.str x t
 | .byt b,u=>∃t,u=Value.bytes b t
 | .flt b,u=>∃t,u=Value.float b t
 | .ref a,u=>u=Value.ref a
 | .ty n,u=>u=Value.type n
abbrev Vals:List V->List Value->Prop:=Paired RelV
theorem Vals.length {xs:List V} {us:List Value} (r:Vals xs us):xs.length=us.length:=Paired.length r
theorem Vals.get:∀ {xs:List V} {us:List Value} {i:Nat} {x:V},Vals xs us->xs[i]?=some x->∃u,us[i]?=some u/\RelV x u
 | _,_,_,_,.nil,e=>by simp at e
 | _,_,0,_,.cons r _,e=>by simp at e;subst e;exact⟨_,rfl,r⟩
 | _,_,i+1,x,.cons _ t,e=>by
  obtain⟨u,h1,h2⟩:=Vals.get (i:=i) (x:=x) t (by simpa using e)
  exact⟨u,by simpa using h1,h2⟩
theorem Vals.set {x:V} {u:Value} (r:RelV x u):∀ {xs:List V} {us:List Value} (i:Nat),Vals xs us->Vals (xs.set i x) (us.set i u)
 | _,_,_,.nil=>.nil
 | _,_,0,.cons _ t=>.cons r t
 | _,_,i+1,.cons q t=>.cons q (Vals.set r i t)
theorem Vals.append:∀ {xs ys:List V} {us ws:List Value},Vals xs us->Vals ys ws->Vals (xs++ys) (us++ws)
 | _,_,_,_,.nil,s=>s
 | _,_,_,_,.cons r t,s=>.cons r (Vals.append t s)
theorem Vals.take:∀ {xs:List V} {us:List Value} (n:Nat),Vals xs us->Vals (xs.take n) (us.take n)
 | _,_,0,_=>.nil
 | _,_,_+1,.nil=>.nil
 | _,_,n+1,.cons r t=>.cons r (Vals.take n t)
theorem Vals.drop:∀ {xs:List V} {us:List Value} (n:Nat),Vals xs us->Vals (xs.drop n) (us.drop n)
 | _,_,0,r=>r
 | _,_,_+1,.nil=>.nil
 | _,_,n+1,.cons _ t=>Vals.drop n t
def RelO:Option V->Option Value->Prop
 | some v,some u=>RelV v u
 | none,none=>True
 | _,_=>False
def KV {κ:Type}:List (κ × V)->List (κ × Value)->Prop:=Paired fun(p:κ × V) (q:κ × Value)=>p.1=q.1/\RelV p.2 q.2
def kV:dQ->V
 | .inl i=>.int i
 | .inr x=>.str x
inductive HO where
 /-- a list -/
 | lst (xs:List V)
 /-- a tuple (never changes) -/
 | tup (xs:List V)
 /-- a dict whose keys are ints and texts;one whose keys are tuples of ints and texts (the empty one is both) -/
 | dK (kvs:List (dQ × V)) | dT (kvs:List (List dQ × V))
 /-- a set of ints: its members,its size -/
 | set (S:Int->Bool) (n:Nat)
 /-- an instance of the class at C,its dict at dx,its attributes -/
 | ins (C dx:Addr) (fs:List (Str × V))
 /-- the dict of the instance at x -/
 | own (x:Addr)
 /-- the dict of an exception -/
 | xd (fs:List (Str × V))
 /-- a bound method,f of x -/
 | met (f x:Addr)
 /-- a range object lo,lo+1,.. below hi -/
 | rng (lo hi:Int)
 /-- a thing that is known to the object (the script;a dict while a loop walks it): read,never written while it is so -/
 | frz (o:Obj) (u:HO)
 /-- a code object's table -/
 | tbl (ps:Array Value)
 /-- any other thing,by what is true of its one object (a def of one's own: SetO a S n:=HO.ext fun h=>..) -/
 | ext (φ:Heap->Prop)
abbrev Hp:=Addr->Option HO
def aJ (H:Hp) (a:Addr) (o:HO):Hp:=fun b=>if b=a then some o else H b
theorem aD {H:Hp} {a:Addr} {o:HO}:aJ H a o a=some o:=by unfold aJ;rw[if_pos rfl]
theorem aM {H:Hp} {a b:Addr} {o:HO} (h:b≠a):aJ H a o b=H b:=by unfold aJ;rw[if_neg h]
theorem Wn {H:Hp} {a b:Addr} {o u:HO} (h:H a=some o) (h':H b=some u) (d:o≠u):a≠b:=by
 intro e;subst e;rw[h]at h';exact d (Option.some.inj h')
theorem aH {H:Hp} {a b:Addr} {o:HO} (h:H a=some o) (h':H b=none):a≠b:=by
 intro e;subst e;rw[h]at h';cases h'
section
variable (P:Program) (w:World)
def ObjOk (H:Hp) (h:Heap) (a:Addr):HO->Prop
 | .lst xs=>xs.length<=sizeLine/\∃(its:List Value) (n:Nat),Vals xs its/\h.get? a=some {cls:=.type "list",data:=.seq its.toArray n }
 | .tup xs=>xs.length<=sizeLine/\∃its:List Value,Vals xs its/\IsTup h a its.toArray
 | .dK kvs=>kvs.length<=sizeLine/\(a == sysModules)=false/\∃vs,KV kvs vs/\h.DictOf (bM P w) a vs
 | .dT kvs=>kvs.length<=sizeLine/\(a == sysModules)=false/\∃xs:List (List dQ × Addr × Value),
   Paired (fun(p:List dQ × V) (q:List dQ × Addr × Value)=>p.1=q.1/\H q.2.1=some (.tup (p.1.map kV))/\RelV p.2 q.2.2) kvs xs ∧
   ∃o es ep,h.get? a=some o/\o.ExactDict/\o.data=.dict es ep/\es.toList=xs.map (entryOfKey (tupleKind (bM P w)))/\(xs.map (·.1)).Nodup
 | .set S n=>h.SetOf (intKind P w) a S n
 | .ins C dx fs=>H dx=some (.own a)/\fs.length<=1000/\dx≠a/\h.get? a=some (W.instObj C dx) ∧
   ∃mA,h.Ns1 dx mA/\(∀f,RelO (fs.lookup f) (mA f))/\PySem.Within mA (fs.map (·.1))
 | .own _=>∃o,h.get? a=some o
 | .xd fs=>∃mA,h.Ns1 a mA/\∀f,RelO (fs.lookup f) (mA f)
 | .rng lo hi=>∃t u v,h.get? a=some {cls:=.type "range",data:=.fields #[.int lo t,.int hi u,.int 1 v] }
 | .frz o u=>h.get? a=some o/\ObjOk H h a u
 | .tbl ps=>h.get? a=some {cls:=.none,data:=.fields ps }
 | .met f x=>h.get? a=some (W.methodObj (.ref f) (.ref x))
 | .ext φ=>φ h/\(∃o,h.get? a=some o)/\∀h1 h2:Heap,φ h1->(∀o,h1.get? a=some o->h2.get? a=some o)->φ h2
def HOk (H:Hp) (h:Heap):Prop:=∀a o,H a=some o->ObjOk P w H h a o
end
section
variable {P:Program} {w:World} {H H':Hp} {h h':Heap} {a:Addr} {o:HO}
theorem ObjOk.lt (x:ObjOk P w H h a o):a<h.objs.size:=by
 cases o with
 | lst xs=>obtain⟨_,_,_,_,e⟩:=x;exact Heap.lt_size e
 | tup xs=>obtain⟨_,_,_,p⟩:=x;exact p.lt
 | dK kvs=>obtain⟨_,_,_,_,o,_,_,e,_⟩:=x;exact Heap.lt_size e
 | dT kvs=>obtain⟨_,_,_,_,o,_,_,e,_⟩:=x;exact Heap.lt_size e
 | set S n=>obtain⟨o,_,_,_,e,_⟩:=x;exact Heap.lt_size e
 | ins C dx fs=>obtain⟨_,_,_,e,_⟩:=x;exact Heap.lt_size e
 | own y=>obtain⟨_,e⟩:=x;exact Heap.lt_size e
 | xd fs=>obtain⟨_,⟨_,_,_,e,_⟩,_⟩:=x;exact Heap.lt_size e
 | rng lo hi=>obtain⟨_,_,_,e⟩:=x;exact Heap.lt_size e
 | frz ob u=>obtain⟨e,_⟩:=x;exact Heap.lt_size e
 | tbl ps=>exact Heap.lt_size (show h.get? a=some _ from x)
 | met f y=>exact Heap.lt_size (show h.get? a=some _ from x)
 | ext φ=>obtain⟨_,⟨_,e⟩,_⟩:=x;exact Heap.lt_size e
theorem Paired.mapP {α β:Type} {F G:α->β->Prop}:∀ {l₁:List α} {l₂:List β},Paired F l₁ l₂->(∀a b,F a b->G a b)->Paired G l₁ l₂
 | _,_,.nil,_=>.nil
 | _,_,.cons r t,f=>.cons (f _ _ r) (Paired.mapP t f)
theorem ObjOk.stay (x:ObjOk P w H h a o) (k:∀b u,(b=a∨H b=some (.own a))->h.get? b=some u->h'.get? b=some u)
  (ho:∀b,H b=some (.own a)->H' b=some (.own a)) (ht:∀b xs,H b=some (.tup xs)->H' b=some (.tup xs)):ObjOk P w H' h' a o:=by
 induction o with
 | lst xs=>obtain⟨z,its,n,r,e⟩:=x;exact⟨z,its,n,r,k _ _ (.inl rfl) e⟩
 | tup xs=>obtain⟨z,its,r,ob,e,c⟩:=x;exact⟨z,its,r,ob,k _ _ (.inl rfl) e,c⟩
 | dK kvs=>obtain⟨z,y,vs,r,ob,es,ep,e,c⟩:=x;exact⟨z,y,vs,r,ob,es,ep,k _ _ (.inl rfl) e,c⟩
 | dT kvs=>
  obtain⟨z,y,xs,r,ob,es,ep,e,c⟩:=x
  exact⟨z,y,xs,Paired.mapP r fun p q z=>⟨z.1,ht _ _ z.2.1,z.2.2⟩,ob,es,ep,k _ _ (.inl rfl) e,c⟩
 | set S n=>obtain⟨ob,es,ep,t,e,c⟩:=x;exact⟨ob,es,ep,t,k _ _ (.inl rfl) e,c⟩
 | ins C dx fs=>
  obtain⟨d,z,ne,e,mA,⟨od,es,ep,e2,c⟩,r⟩:=x
  exact⟨ho _ d,z,ne,k _ _ (.inl rfl) e,mA,⟨od,es,ep,k _ _ (.inr d) e2,c⟩,r⟩
 | own y=>obtain⟨ob,e⟩:=x;exact⟨ob,k _ _ (.inl rfl) e⟩
 | xd fs=>obtain⟨mA,⟨od,es,ep,e,c⟩,r⟩:=x;exact⟨mA,⟨od,es,ep,k _ _ (.inl rfl) e,c⟩,r⟩
 | rng lo hi=>obtain⟨t,u,v,e⟩:=x;exact⟨t,u,v,k _ _ (.inl rfl) e⟩
 | frz ob u ih=>obtain⟨e,q⟩:=x;exact⟨k _ _ (.inl rfl) e,ih q⟩
 | tbl ps=>
  have e:h.get? a=some {cls:=.none,data:=.fields ps }:=x
  show h'.get? a=some {cls:=.none,data:=.fields ps }
  exact k a _ (.inl rfl) e
 | met f y=>
  have e:h.get? a=some (W.methodObj (.ref f) (.ref y)):=x
  show h'.get? a=some (W.methodObj (.ref f) (.ref y))
  exact k a _ (.inl rfl) e
 | ext φ=>obtain⟨p,⟨o,e⟩,st⟩:=x;exact⟨st _ _ p fun o q=>k _ _ (.inl rfl) q,⟨o,k _ _ (.inl rfl) e⟩,st⟩
theorem HOk.lt (x:HOk P w H h) (e:H a=some o):a<h.objs.size:=(x a o e).lt
theorem HOk.fresh (x:HOk P w H h) (e:h.objs.size<=a):H a=none:=by
 cases q:H a with
 | none=>rfl
 | some u=>exact absurd (Nat.lt_of_lt_of_le (x.lt q) e) (Nat.lt_irrefl _)
theorem HOk.kept (x:HOk P w H h) (k:∀b u,h.get? b=some u->h'.get? b=some u):HOk P w H h':=fun a o e=>
 (x a o e).stay (fun b u _ q=>k b u q) (fun _ q=>q) fun _ _ q=>q
theorem HOk.laid (x:HOk P w H h) (k:∀b u,h.get? b=some u->h'.get? b=some u) (hp:h.objs.size<=a) (new:ObjOk P w (aJ H a o) h' a o):HOk P w (aJ H a o) h':=fun b u e=>by
 have hn:=x.fresh hp
 by_cases hb:b=a
 ·subst hb;rw[aD]at e;cases e;exact new
 ·rw[aM hb]at e;exact(x b u e).stay (fun c v _ q=>k c v q) (fun c q=>by rw[aM (aH q hn)];exact q) fun c xs q=>by rw[aM (aH q hn)];exact q
end
def Rd (H:Hp) (a:Addr) (u:HO):Prop:=H a=some u∨∃o,H a=some (.frz o u)
theorem Rd.ok {P:Program} {w:World} {H:Hp} {h:Heap} {a:Addr} {u:HO} (r:Rd H a u) (x:HOk P w H h):ObjOk P w H h a u:=by
 rcases r with r | ⟨o,r⟩
 ·exact x a u r
 ·obtain⟨_,q⟩:=x a _ r
  exact q
def Wo:Option HO->Prop
 | some (.lst _)=>True
 | some (.dK _)=>True
 | some (.dT _)=>True
 | some (.set _ _)=>True
 | some (.ins _ _ _)=>True
 | some (.ext _)=>True
 | _=>False
section
variable {P:Program} {w:World} {H:Hp} {h h':Heap} {x e:Addr} {o':HO}
theorem HOk.write (ok:HOk P w H h) (mu:Wo (H x)) (he:e=x∨H e=some (.own x)) (k:∀b u,b≠e->h.get? b=some u->h'.get? b=some u) (heo:∃u,h'.get? e=some u)
  (new:ObjOk P w (aJ H x o') h' x o'):HOk P w (aJ H x o') h':=fun b u q=>by
 have nown:∀c y,H c=some (.own y)->c≠x:=fun c y r z=>by subst z;rw[r]at mu;exact mu
 have ntup:∀c xs,H c=some (.tup xs)->c≠x:=fun c xs r z=>by subst z;rw[r]at mu;exact mu
 by_cases hb:b=x
 ·subst hb;rw[aD]at q;cases q;exact new
 ·rw[aM hb]at q;by_cases hbe:b=e
  ·have q':H b=some (.own x):=by
    rcases he with z | z
    ·exact absurd (hbe.trans z) hb
    ·rw[hbe];exact z
   rw[q]at q';cases q'
   obtain⟨v,hv⟩:=heo
   exact⟨v,by rw[hbe];exact hv⟩
  ·refine(ok b u q).stay (fun c v hc r=>k c v ?_ r) (fun c r=>by rw[aM (nown c b r)];exact r) fun c xs r=>by rw[aM (ntup c xs r)];exact r
   rcases hc with rfl | hc
   ·exact hbe
   ·rintro rfl
    rcases he with z | z
    ·exact nown c b hc z
    ·rw[hc]at z;cases z;exact hb rfl
end
structure Un (fs ex:List Addr) (H H':Hp) (h h':Heap):Prop where
 keep:∀b o,h.get? b=some o->H b=none->b∉fs->b∉ex->h'.get? b=some o
 slot:∀b o,h.get? b=some o->H b=none->b∈fs->b∉ex->∃sl,h'.get? b=some {o with slots:=sl }
 free:∀b o,h.get? b=some o->H b=none->b∉ex->H' b=none
 there:∀b o,h.get? b=some o->b∉ex->∃o',h'.get? b=some o'
 tups:∀b xs,H b=some (.tup xs)->H' b=some (.tup xs)
 frzs:∀b o u,H b=some (.frz o u)->H' b=some (.frz o u)
 tbls:∀b ps,H b=some (.tbl ps)->∃more,H' b=some (.tbl (ps++more))
section
variable {fs fs' ex ex':List Addr} {H H1 H2:Hp} {h h1 h2 h':Heap} {a x e:Addr} {o:HO}
theorem Un.any (u:Un fs ex H H1 h h1) {b:Addr} {ob:Obj} (q:h.get? b=some ob) (n:H b=none) (hx:b∉ex):∃sl,h1.get? b=some {ob with slots:=sl }:=by
 by_cases hb:b∈fs
 ·exact u.slot b ob q n hb hx
 ·exact⟨ob.slots,u.keep b ob q n hb hx⟩
theorem Un.kept (k:∀b u,h.get? b=some u->h'.get? b=some u):Un fs ex H H h h':=
 ⟨fun b ob q _ _ _=>k b ob q,fun b ob q _ _ _=>⟨ob.slots,k b ob q⟩,fun _ _ _ n _=>n,fun b ob q _=>⟨ob,k b ob q⟩,fun _ _ q=>q,fun _ _ _ q=>q,fun _ ps q=>⟨#[],by rw[q];simp⟩⟩
theorem Un.refl:Un fs ex H H h h:=Un.kept fun _ _ q=>q
theorem Un.laid (k:∀b u,h.get? b=some u->h'.get? b=some u) (hp:h.objs.size<=a) (hn:H a=none):Un fs ex H (aJ H a o) h h' where
 keep:=fun b u q _ _ _=>k b u q
 slot:=fun b u q _ _ _=>⟨u.slots,k b u q⟩
 free:=fun b u q n _=>by rw[aM (Nat.ne_of_lt (Nat.lt_of_lt_of_le (Heap.lt_size q) hp))];exact n
 there:=fun b u q _=>⟨u,k b u q⟩
 tups:=fun b xs q=>by rw[aM (aH q hn)];exact q
 frzs:=fun b u xs q=>by rw[aM (aH q hn)];exact q
 tbls:=fun b ps q=>⟨#[],by rw[aM (aH q hn),q];simp⟩
theorem Un.write (mu:Wo (H x)) (he:e=x∨H e=some (.own x)) (k:∀b u,b≠e->h.get? b=some u->h'.get? b=some u) (heo:∃u,h'.get? e=some u):Un fs ex H (aJ H x o) h h':=by
 have hx:∀b,H b=none->b≠x:=fun b n z=>by subst z;rw[n]at mu;exact mu
 have hb:∀b,H b=none->b≠e:=fun b n z=>by
  subst z;rcases he with r | r
  ·exact hx b n r
  ·rw[n]at r;cases r
 have hm:∀b u,H b=some u->¬ Wo (some u)->b≠x:=fun b u q nm z=>by subst z;rw[q]at mu;exact nm mu
 refine⟨fun b u q n _ _=>k b u (hb b n) q,fun b u q n _ _=>⟨u.slots,k b u (hb b n) q⟩,fun b u q n _=>by rw[aM (hx b n)];exact n,fun b u q _=>?_,
  fun b xs q=>by rw[aM (hm b _ q fun z=>z)];exact q,fun b u xs q=>by rw[aM (hm b _ q fun z=>z)];exact q,fun b ps q=>⟨#[],by rw[aM (hm b _ q fun z=>z),q];simp⟩⟩
 by_cases hbe:b=e
 ·subst hbe;exact heo
 ·exact⟨u,k b u hbe q⟩
end
def Zq (h:Heap) (H:Hp):List Addr:=(List.range h.objs.size).filter fun a=>(H a).isSome
def uG (h:Heap) (H:Hp):Heap:=W.hideAll h (Zq h H)
theorem Du (h:Heap) (H:Hp):(uG h H).objs.size=h.objs.size:=W.hideAll_size _ _
theorem Gs {h:Heap} {H:Hp} {b:Addr} {o:Obj} (e:h.get? b=some o) (n:H b=none):(uG h H).get? b=some o:=
 W.hideAll_get _ e fun hm=>by
  have q:(H b).isSome=true:=(List.mem_filter.mp hm).2
  rw[n]at q;simp at q
theorem Mk {h:Heap} {H:Hp} {b:Addr} {o:Obj} (e:(uG h H).get? b=some o):h.get? b=some o/\H b=none:=by
 have e':h.get? b=some o:=W.of_hideAll (Zq h H) e
 refine⟨e',?_⟩
 cases q:H b with
 | none=>rfl
 | some x=>
  have hm:b∈Zq h H:=List.mem_filter.mpr ⟨List.mem_range.mpr (Heap.lt_size e'),by simp [q]⟩
  have z:(uG h H).get? b=none:=W.hideAll_none (Zq h H) hm
  rw[z]at e;cases e
end L2
namespace L2
open PySem PySem.Spec PyProof.Rows
structure Mod (K:W.Frag) (mg:Str->Option Value) (base:Heap):Prop where
 kin:K.In base
 glob:base.Ns mainGlobals mg
 blt:∃mb,base.Ns builtinsNs mb/\∀x:Str,x≠"__name__"->mb x=bootBuiltins x
 nolimit:base.NoLimit
structure Cx where
 prog:Program
 w:World
 K:W.Frag
 mg:Str->Option Value
 base:Heap
 A:Around
 N:List Str
 s₀:Shared
 H₀:Hp
 env:Env
 outer:List Env
 stack:List Env
 ex:List Addr
 fn:Str->Bool
 calm:Bool
 pn:List (Addr × Obj)
 xe:Value->Shared->Prop
def kI (l:List Env):List Addr:=l.filterMap (·.frame)
abbrev Cx.fs (X:Cx):List Addr:=kI X.outer
def Wp (sc:Scope) (x:Str):Prop:=sc.names.lookup x=some .local∨sc.names.lookup x=some .cell∨sc.names.lookup x=some .free
def Gq (sc:Scope) (x:Str):Prop:=sc.names.lookup x=some .local∨sc.names.lookup x=some .cell
def aAi (env:Env) (h:Heap) (m:Str->Option Value) (x:Str) (u:Value):Prop:=
 (env.kindOf x=some .local/\m x=some u)∨((env.kindOf x=some .cell∨env.kindOf x=some .free)/\∃c,env.cells.lookup x=some c/\h.IsCell c (some u))
structure Cx.Ok (X:Cx):Prop where
 mod:Mod X.K X.mg X.base
 kind:X.env.scope.kind=.function
 glob:X.env.globals=mainGlobals
 blt:X.env.builtins=builtinsNs
 above:X.s₀.heap.objs.size<=X.env.locals
 inj:∀x y c,X.env.cells.lookup x=some c->X.env.cells.lookup y=some c->x=y
 has:∀x,(X.env.kindOf x=some .cell∨X.env.kindOf x=some .free)->∃c,X.env.cells.lookup x=some c
 cab:∀x c,X.fn x=true->X.env.cells.lookup x=some c->X.s₀.heap.objs.size<=c
 hd:X.calm=true->X.A.handled=none
 frames:X.A.frames=some X.stack
 stk:X.stack=X.outer∨(X.stack=X.env::X.outer/\X.env.frame=some X.env.locals)
 exf:∀b∈X.ex,b≠X.env.locals/\∀x c,X.env.cells.lookup x=some c->c≠b
 bs:∀b o,X.base.get? b=some o->X.s₀.heap.get? b=some o/\X.H₀ b=none
 bsz:X.base.objs.size<=X.s₀.heap.objs.size
 noex:∀b o,X.base.get? b=some o->b∉X.ex
 exfs:∀b∈X.ex,b∉X.fs
 funs:X.s₀.heap.FunFrames X.base X.outer
 frf:∀b∈X.fs,X.H₀ b=none
structure Inv (X:Cx) (pins:List (Addr × Obj)) (σ:List (Option V)) (H:Hp) (s:Shared):Prop where
 ok:X.Ok
 os:s.os=X.s₀.os
 bare:AllBare s.gens
 base:Un X.fs X.ex X.H₀ H X.s₀.heap s.heap
 loc:∃m,s.heap.Ns X.env.locals m/\∀(i:Nat) (x:Str) (v:V),X.N[i]?=some x->σ[i]?=some (some v)->Wp X.env.scope x->∃u,RelV v u/\aAi X.env s.heap m x u
 cell:∀x c,X.env.cells.lookup x=some c->∃v,s.heap.IsCell c v
 free:H X.env.locals=none
 freeC:∀x c,X.env.cells.lookup x=some c->H c=none
 pin:∀p∈X.pn++pins,s.heap.get? p.1=some p.2/\H p.1=none/\p.1≠X.env.locals/\p.1∉X.fs/\∀v,p.2.data≠.cell v
 hok:HOk X.prog X.w H s.heap
 len:σ.length=X.N.length
section
variable {X:Cx} {pins:List (Addr × Obj)} {σ:List (Option V)} {H H':Hp} {s:Shared} {h':Heap}
theorem Cx.Ok.nofr (ok:X.Ok) {b:Addr} {o:Obj} (e:X.base.get? b=some o):b∉X.fs:=fun hb=>by
 have:=(ok.funs.mem hb).1
 rw[e]at this;cases this
theorem Inv.bs (I:Inv X pins σ H s):∀b o,X.base.get? b=some o->s.heap.get? b=some o/\H b=none:=fun b o e=>
 ⟨I.base.keep b o (I.ok.bs b o e).1 (I.ok.bs b o e).2 (I.ok.nofr e) (I.ok.noex b o e),I.base.free b o (I.ok.bs b o e).1 (I.ok.bs b o e).2 (I.ok.noex b o e)⟩
theorem Inv.bk (I:Inv X pins σ H s):∀b o,X.base.get? b=some o->s.heap.get? b=some o:=fun b o e=>(I.bs b o e).1
theorem Inv.mod (I:Inv X pins σ H s):Mod X.K X.mg X.base:=I.ok.mod
theorem Inv.kIn (I:Inv X pins σ H s):X.K.In s.heap:=I.ok.mod.kin.keeps I.bk
theorem Inv.fr (I:Inv X pins σ H s):∃m,Fr X.base X.env.locals s.heap m:=
 let ⟨m,hn,_⟩:=I.loc
 ⟨m,hn,I.bk,kB I.ok.bsz I.ok.above⟩
theorem Inv.lt (I:Inv X pins σ H s):X.env.locals<s.heap.objs.size:=let ⟨_,hn,_⟩:=I.loc;hn.lt
theorem Inv.sz (I:Inv X pins σ H s):X.s₀.heap.objs.size<=s.heap.objs.size:=kB I.ok.above (Nat.le_of_lt I.lt)
theorem Inv.nofs (I:Inv X pins σ H s) {a:Addr} (h:s.heap.objs.size<=a):a∉X.fs:=fun hb=>by
 obtain⟨_,o,ho,_⟩:=I.ok.funs.mem hb
 exact absurd (Nat.lt_of_lt_of_le (Heap.lt_size ho) (kB I.sz h)) (Nat.lt_irrefl _)
theorem Inv.cne (I:Inv X pins σ H s):∀x c,X.env.cells.lookup x=some c->c≠X.env.locals:=fun x c e z=>by
 obtain⟨v,o,ho,hd⟩:=I.cell x c e
 obtain⟨m,⟨o',es,ep,ho',hd',_⟩,_⟩:=I.loc
 rw[z,ho']at ho;cases ho;rw[hd']at hd;cases hd
theorem Inv.funs (I:Inv X pins σ H s):s.heap.FunFrames X.base X.outer:=by
 have all:∀(l:List Env),(∀b∈kI l,b∈X.fs)->X.s₀.heap.FunFrames X.base l->s.heap.FunFrames X.base l:=by
  intro l;induction l with
  | nil=>intro _ _;trivial
  | cons env r ih=>
   intro hs hl;obtain⟨hk,⟨L,o,hf,hn,ho,hd⟩,hr⟩:=hl
   have hL:L∈X.fs:=hs L (by unfold kI;rw[List.filterMap_cons,hf];exact iW)
   obtain⟨sl,e⟩:=I.base.slot L o ho (I.ok.frf L hL) hL fun z=>I.ok.exfs L z hL
   exact⟨hk,⟨L,_,hf,hn,e,hd⟩,ih (fun b hb=>hs b (by unfold kI;rw[List.filterMap_cons,hf];exact gT _ hb)) hr⟩
 exact all X.outer (fun _ hb=>hb) I.ok.funs
theorem Inv.stack (I:Inv X pins σ H s):s.heap.FunFrames X.base X.stack:=by
 rcases I.ok.stk with e | ⟨e,hf⟩
 ·rw[e];exact I.funs
 ·rw[e];obtain⟨m,hn,_⟩:=I.loc
  refine .cons (by rw[I.ok.kind];decide) hf hn ?_ I.funs
  exact Heap.get?_none_of_le (kB I.ok.bsz I.ok.above)
theorem Inv.stkSub (I:Inv X pins σ H s):∀b∈kI X.stack,b∈X.env.locals::X.fs:=fun b hb=>by
 rcases I.ok.stk with e | ⟨e,hf⟩
 ·rw[e]at hb;exact gT _ hb
 ·rw[e]at hb;unfold kI at hb;rw[List.filterMap_cons,hf]at hb;exact hb
theorem Inv.stkFree (I:Inv X pins σ H s):∀b∈kI X.stack,H b=none:=fun b hb=>by
 rcases List.mem_cons.mp (I.stkSub b hb) with e | hb
 ·rw[e];exact I.free
 ·obtain⟨_,o,ho,_⟩:=I.ok.funs.mem hb
  exact I.base.free b o ho (I.ok.frf b hb) fun z=>I.ok.exfs b z hb
theorem Inv.step {g':Array GenState} {t':Nat} {d':Drawn} {ch:List Addr} (I:Inv X pins σ H s)
  (hch:∀b∈ch,(b∈X.ex∨X.s₀.heap.objs.size<=b)/\b≠X.env.locals/\(∀x c,X.env.cells.lookup x=some c->c≠b)/\∀p∈X.pn++pins,p.1≠b)
  (keep:∀b o,b≠X.env.locals->b∉X.fs->b∉ch->s.heap.get? b=some o->H b=none->h'.get? b=some o)
  (slot:∀b o,b≠X.env.locals->b∈X.fs->b∉ch->s.heap.get? b=some o->H b=none->∃sl,h'.get? b=some {o with slots:=sl }) (free:∀b o,b∉ch->s.heap.get? b=some o->H b=none->H' b=none)
  (there:∀b o,b∉ch->s.heap.get? b=some o->∃o',h'.get? b=some o')
  (tups:∀b xs,H b=some (.tup xs)->H' b=some (.tup xs)) (frzs:∀b o u,H b=some (.frz o u)->H' b=some (.frz o u)) (tbls:∀b ps,H b=some (.tbl ps)->∃more,H' b=some (.tbl (ps++more)))
  (ns:∀m,s.heap.Ns X.env.locals m->h'.Ns X.env.locals m) (hok:HOk X.prog X.w H' h') (hg:AllBare g') :
  Inv X pins σ H' {s with heap:=h',gens:=g',drawn:=d',toks:=t' }:=by
 have neL:∀b o,X.s₀.heap.get? b=some o->b≠X.env.locals:=fun b o e=>Nat.ne_of_lt (Nat.lt_of_lt_of_le (Heap.lt_size e) I.ok.above)
 have neC:∀b o,X.s₀.heap.get? b=some o->b∉X.ex->b∉ch:=fun b o e hx hb=>by
  rcases(hch b hb).1 with z | z
  ·exact hx z
  ·exact absurd (Nat.lt_of_lt_of_le (Heap.lt_size e) z) (Nat.lt_irrefl _)
 have cellK:∀x c,X.env.cells.lookup x=some c->∀v,s.heap.IsCell c v->h'.IsCell c v:=fun x c e v ⟨o,ho,hd⟩=>by
  have nch:c∉ch:=fun z=>(hch c z).2.2.1 x c e rfl
  by_cases hc:c∈X.fs
  ·obtain⟨sl,q⟩:=slot c o (I.cne x c e) hc nch ho (I.freeC x c e)
   exact⟨_,q,hd⟩
  ·exact⟨o,keep c o (I.cne x c e) hc nch ho (I.freeC x c e),hd⟩
 refine⟨I.ok,I.os,hg,⟨fun b o e n hb hx=>?_,fun b o e n hb hx=>?_,fun b o e n hx=>?_,fun b o e hx=>?_,fun b xs e=>tups b xs (I.base.tups b xs e),fun b o xs e=>frzs b o xs (I.base.frzs b o xs e),fun b ps e=>?_⟩,?_,fun x c e=>?_,?_,fun x c e=>?_,fun p hp=>?_,hok,I.len⟩
 ·exact keep b o (neL b o e) hb (neC b o e hx) (I.base.keep b o e n hb hx) (I.base.free b o e n hx)
 ·obtain⟨sl,e1⟩:=I.base.slot b o e n hb hx
  obtain⟨sl',e2⟩:=slot b _ (neL b o e) hb (neC b o e hx) e1 (I.base.free b o e n hx)
  exact⟨sl',e2⟩
 ·obtain⟨o',e1⟩:=I.base.there b o e hx
  exact free b o' (neC b o e hx) e1 (I.base.free b o e n hx)
 ·obtain⟨o',e1⟩:=I.base.there b o e hx
  exact there b o' (neC b o e hx) e1
 ·obtain⟨m1,e1⟩:=I.base.tbls b ps e
  obtain⟨m2,e2⟩:=tbls b _ e1
  exact⟨m1++m2,by rw[e2,Array.append_assoc]⟩
 ·obtain⟨m,hn,hl⟩:=I.loc
  refine⟨m,ns m hn,fun i x v e1 e2 e3=>?_⟩
  obtain⟨u,r,l⟩:=hl i x v e1 e2 e3
  refine⟨u,r,?_⟩
  rcases l with l | ⟨k,c,e,z⟩
  ·exact .inl l
  ·exact .inr ⟨k,c,e,cellK x c e _ z⟩
 ·obtain⟨v,z⟩:=I.cell x c e
  exact⟨v,cellK x c e v z⟩
 ·obtain⟨m,⟨o,_,_,ho,_⟩,_⟩:=I.loc
  exact free _ o (fun z=>(hch _ z).2.1 rfl) ho I.free
 ·obtain⟨v,o,ho,hd⟩:=I.cell x c e
  exact free c o (fun z=>(hch c z).2.2.1 x c e rfl) ho (I.freeC x c e)
 ·obtain⟨e,n,ne,nf,d⟩:=I.pin p hp
  have nch:p.1∉ch:=fun z=>(hch p.1 z).2.2.2 p hp rfl
  exact⟨keep p.1 p.2 ne nf nch e n,free p.1 p.2 nch e n,ne,nf,d⟩
theorem Inv.un {t':Nat} (I:Inv X pins σ H s) (u:Un X.fs [] H H' s.heap h') (hok:HOk X.prog X.w H' h'):Inv X pins σ H' {s with heap:=h',toks:=t' }:=by
 obtain⟨m,⟨o,es,ep,ho,r⟩,_⟩:=id I.loc
 obtain⟨sl,hL⟩:=u.any ho I.free Zs
 exact I.step (g':=s.gens) (d':=s.drawn) (ch:=[]) (fun _ z=>nomatch z) (fun b o _ hb _ e n=>u.keep b o e n hb Zs) (fun b o _ hb _ e n=>u.slot b o e n hb Zs) (fun b o _ e n=>u.free b o e n Zs) (fun b o _ e=>u.there b o e Zs) u.tups u.frzs u.tbls (fun m' hm=>by
  obtain⟨o',es',ep',ho',r'⟩:=hm
  rw[ho]at ho';cases ho'
  exact⟨_,es',ep',hL,r'⟩) hok I.bare
theorem Inv.call {g':Array GenState} {t':Nat} {d':Drawn} {ch:List Addr} (I:Inv X pins σ H s) (u:Un (kI X.stack) ch H H' s.heap h') (hok:HOk X.prog X.w H' h') (hg:AllBare g')
  (hch:∀b∈ch,(b∈X.ex∨X.s₀.heap.objs.size<=b)/\b≠X.env.locals/\(∀x c,X.env.cells.lookup x=some c->c≠b)/\∀p∈X.pn++pins,p.1≠b) :
  Inv X pins σ H' {s with heap:=h',gens:=g',drawn:=d',toks:=t' }:=by
 obtain⟨m,⟨o,es,ep,ho,r⟩,_⟩:=id I.loc
 obtain⟨sl,hL⟩:=u.any ho I.free fun z=>(hch _ z).2.1 rfl
 exact I.step (ch:=ch) hch (fun b o hL hb hc e n=>u.keep b o e n (fun z=>(List.mem_cons.mp (I.stkSub b z)).elim hL hb) hc) (fun b o _ _ hc e n=>u.any e n hc) (fun b o hc e n=>u.free b o e n hc) (fun b o hc e=>u.there b o e hc) u.tups u.frzs u.tbls (fun m' hm=>by
  obtain⟨o',es',ep',ho',r'⟩:=hm
  rw[ho]at ho';cases ho'
  exact⟨_,es',ep',hL,r'⟩) hok hg
theorem Inv.turned {t':Nat} {it:Addr} (I:Inv X pins σ H s) (k:∀b o,b≠it->s.heap.get? b=some o->h'.get? b=some o) (hn:H it=none) (hL:it≠X.env.locals)
  (h1:it∈X.ex∨X.s₀.heap.objs.size<=it) (h2:∀x c,X.env.cells.lookup x=some c->c≠it) (h3:∀p∈X.pn++pins,p.1≠it):Inv X pins σ H {s with heap:=h',toks:=t' }:=by
 have nit:∀b u,H b=some u->b≠it:=fun b u e z=>by rw[z,hn]at e;cases e
 refine I.step (g':=s.gens) (d':=s.drawn) (ch:=[it]) (fun b hb=>?_) (fun b o _ _ hc e _=>k b o (fun z=>hc (by simp [z])) e) (fun b o _ _ hc e _=>⟨o.slots,k b o (fun z=>hc (by simp [z])) e⟩) (fun _ _ _ _ n=>n)
  (fun b o hc e=>⟨o,k b o (fun z=>hc (by simp [z])) e⟩) (fun _ _ e=>e) (fun _ _ _ e=>e) (fun b ps e=>⟨#[],by rw[e];simp⟩) (fun m hm=>?_) (fun b u e=>?_) I.bare
 ·have e:b=it:=by simpa using hb
  subst e;exact⟨h1,hL,h2,h3⟩
 ·obtain⟨o,es,ep,ho,r⟩:=hm
  exact⟨o,es,ep,k _ o (Ne.symm hL) ho,r⟩
 ·refine(I.hok b u e).stay (fun c v hc q=>k c v ?_ q) (fun _ q=>q) fun _ _ q=>q
  rcases hc with z | z
  ·rw[z];exact nit b u e
  ·exact nit c _ z
theorem Inv.tok (I:Inv X pins σ H s) (t:Nat):Inv X pins σ H {s with toks:=t }:=I.un (h':=s.heap) (t':=t) Un.refl I.hok
theorem Inv.kept {t':Nat} (I:Inv X pins σ H s) (k:∀b u,s.heap.get? b=some u->h'.get? b=some u):Inv X pins σ H {s with heap:=h',toks:=t' }:=I.un (Un.kept k) (I.hok.kept k)
theorem Inv.laid {a:Addr} {o:HO} {t':Nat} (I:Inv X pins σ H s) (k:∀b u,s.heap.get? b=some u->h'.get? b=some u) (hp:s.heap.objs.size<=a) (new:ObjOk X.prog X.w (aJ H a o) h' a o) :
  Inv X pins σ (aJ H a o) {s with heap:=h',toks:=t' }:=I.un (Un.laid k hp (I.hok.fresh hp)) (I.hok.laid k hp new)
theorem Inv.write {x e:Addr} {o:HO} {t':Nat} (I:Inv X pins σ H s) (mu:Wo (H x)) (he:e=x∨H e=some (.own x)) (k:∀b u,b≠e->s.heap.get? b=some u->h'.get? b=some u) (heo:∃u,h'.get? e=some u)
  (new:ObjOk X.prog X.w (aJ H x o) h' x o):Inv X pins σ (aJ H x o) {s with heap:=h',toks:=t' }:=I.un (Un.write mu he k heo) (I.hok.write mu he k heo new)
theorem Inv.weak {σ':List (Option V)} (I:Inv X pins σ H s) (hl:σ'.length=σ.length) (w:∀(i:Nat) v,σ'[i]?=some (some v)->σ[i]?=some (some v)):Inv X pins σ' H s:=
 ⟨I.ok,I.os,I.bare,I.base,let ⟨m,hn,hl'⟩:=I.loc;⟨m,hn,fun i x v e1 e2 e3=>hl' i x v e1 (w i v e2) e3⟩,I.cell,I.free,I.freeC,I.pin,I.hok,hl.trans I.len⟩
theorem Inv.pins_of {pins':List (Addr × Obj)} (I:Inv X pins σ H s) (h:∀p∈pins',s.heap.get? p.1=some p.2/\H p.1=none/\p.1≠X.env.locals/\p.1∉X.fs/\∀v,p.2.data≠.cell v):Inv X pins' σ H s:=
 ⟨I.ok,I.os,I.bare,I.base,I.loc,I.cell,I.free,I.freeC,fun p hp=>(Zma.mp hp).elim (fun z=>I.pin p (List.mem_append_left _ z)) (h p),I.hok,I.len⟩
theorem nI {N:List Str} (hN:N.Nodup) {i j:Nat} {x:Str} (a:N[i]?=some x) (b:N[j]?=some x):i=j:=by
 obtain⟨h1,e1⟩:=Zgs.mp a
 obtain⟨h2,e2⟩:=Zgs.mp b
 exact(List.getElem_inj hN).mp (e1.trans e2.symm)
theorem sO {M:Model} {A:Around} {E:Value->Shared->Prop} {i:Nat} {x:Str} {v:V} {u:Value} {Q:Unit->Shared->Prop} (I:Inv X pins σ H s) (hN:X.N.Nodup) (hi:X.N[i]?=some x) (hx:Gq X.env.scope x) (r:RelV v u)
  (h:∀s',Inv X pins (σ.set i (some v)) H s'->(∃a,Heap.SameBut a s.heap s'.heap/\(a=X.env.locals∨X.env.cells.lookup x=some a))->Q () s') (hf:X.fn x=true∨X.env.scope.names.lookup x=some .local:=by first | exact .inl rfl | exact .inr rfl | assumption):wpAny M A (storeName X.env x u) Q E s:=by
 obtain⟨m,hn,hl⟩:=id I.loc
 have hcls:(X.env.scope.kind == .class||(X.env.scope.kind == .module&&X.env.locals != X.env.globals))=false:=by rw[I.ok.kind];rfl
 have hiσ:i<σ.length:=by rw[I.len];exact(Zgs.mp hi).1
 have cne:=I.cne
 have tracked:∀ {a:Addr} {h':Heap},(∃o,s.heap.get? a=some o/\H a=none)->Heap.SameBut a s.heap h'->HOk X.prog X.w H h':=fun {a h'} ha hs b ob e=>by
  obtain⟨_,_,hfree⟩:=ha
  refine(I.hok b ob e).stay (fun c w' hc q=>(hs.2 c ?_).trans q) (fun _ q=>q) fun _ _ q=>q
  rintro rfl
  rcases hc with rfl | hc
  ·rw[hfree]at e;cases e
  ·rw[hfree]at hc;cases hc
 rcases hx with hk | hk
 ·refine wpAny_storeName_local hk hn (fun h' hn' hs=>?_) hcls
  obtain⟨oL,_,_,hoL,_⟩:=id hn
  refine h _ ⟨I.ok,I.os,I.bare,⟨fun b o e n hb hx=>?_,fun b o e n hb hx=>?_,I.base.free,fun b o e hx=>?_,I.base.tups,I.base.frzs,I.base.tbls⟩,⟨_,hn',fun j y v' e1 e2 e3=>?_⟩,fun y c e=>?_,I.free,I.freeC,fun p hp=>?_,tracked ⟨oL,hoL,I.free⟩ hs,by simpa using I.len⟩ ⟨_,hs,.inl rfl⟩
  ·exact(hs.2 b (Nat.ne_of_lt (Nat.lt_of_lt_of_le (Heap.lt_size e) I.ok.above))).trans (I.base.keep b o e n hb hx)
  ·obtain⟨sl,e1⟩:=I.base.slot b o e n hb hx
   exact⟨sl,(hs.2 b (Nat.ne_of_lt (Nat.lt_of_lt_of_le (Heap.lt_size e) I.ok.above))).trans e1⟩
  ·obtain⟨o',e1⟩:=I.base.there b o e hx
   exact⟨o',(hs.2 b (Nat.ne_of_lt (Nat.lt_of_lt_of_le (Heap.lt_size e) I.ok.above))).trans e1⟩
  ·by_cases hj:j=i
   ·subst hj;rw[hi]at e1;cases e1
    rw[List.getElem?_set_self hiσ]at e2;cases e2
    exact⟨u,r,.inl ⟨hk,Zs⟩⟩
   ·rw[List.getElem?_set_ne (Ne.symm hj)]at e2;obtain⟨u',r',q⟩:=hl j y v' e1 e2 e3
    refine⟨u',r',?_⟩
    rcases q with⟨k,e⟩ | ⟨k,c,e,z⟩
    ·refine .inl ⟨k,?_⟩
     have:y≠x:=fun e=>hj (nI hN e1 (e ▸ hi))
     simp [this,e]
    ·exact .inr ⟨k,c,e,z.sameBut hs (cne y c e)⟩
  ·obtain⟨w',z⟩:=I.cell y c e
   exact⟨w',z.sameBut hs (cne y c e)⟩
  ·obtain⟨e,n,ne,nf,d⟩:=I.pin p hp
   exact⟨(hs.2 p.1 ne).trans e,n,ne,nf,d⟩
 ·have hfn:X.fn x=true:=by
   rcases hf with z | z
   ·exact z
   ·rw[z]at hk;cases hk
  obtain⟨c,hc⟩:=I.ok.has x (.inl hk)
  obtain⟨w',z⟩:=I.cell x c hc
  refine wpAny_storeName_cell I.ok.kind hk hc z (fun h' hc' hs=>?_)
  obtain⟨oc,hoc,hocd⟩:=id z
  refine h {s with heap:=h' } ⟨I.ok,I.os,I.bare,⟨fun b o e n hb hx=>?_,fun b o e n hb hx=>?_,I.base.free,fun b o e hx=>?_,I.base.tups,I.base.frzs,I.base.tbls⟩,⟨m,hn.sameBut hs (Ne.symm (cne x c hc)),fun j y v' e1 e2 e3=>?_⟩,fun y c' e=>?_,I.free,I.freeC,fun p hp=>?_,tracked ⟨oc,hoc,I.freeC x c hc⟩ hs,by simpa using I.len⟩ ⟨c,hs,.inr hc⟩
  ·exact(hs.2 b (Nat.ne_of_lt (Nat.lt_of_lt_of_le (Heap.lt_size e) (I.ok.cab x c hfn hc)))).trans (I.base.keep b o e n hb hx)
  ·obtain⟨sl,e1⟩:=I.base.slot b o e n hb hx
   exact⟨sl,(hs.2 b (Nat.ne_of_lt (Nat.lt_of_lt_of_le (Heap.lt_size e) (I.ok.cab x c hfn hc)))).trans e1⟩
  ·obtain⟨o',e1⟩:=I.base.there b o e hx
   exact⟨o',(hs.2 b (Nat.ne_of_lt (Nat.lt_of_lt_of_le (Heap.lt_size e) (I.ok.cab x c hfn hc)))).trans e1⟩
  ·by_cases hj:j=i
   ·subst hj;rw[hi]at e1;cases e1
    rw[List.getElem?_set_self hiσ]at e2;cases e2
    exact⟨u,r,.inr ⟨.inl hk,c,hc,hc'⟩⟩
   ·rw[List.getElem?_set_ne (Ne.symm hj)]at e2;obtain⟨u',r',q⟩:=hl j y v' e1 e2 e3
    refine⟨u',r',?_⟩
    rcases q with q | ⟨k,c',e,z'⟩
    ·exact .inl q
    ·refine .inr ⟨k,c',e,z'.sameBut hs ?_⟩
     rintro rfl
     exact hj (nI hN e1 (I.ok.inj _ _ _ e hc ▸ hi))
  ·by_cases hcc:c'=c
   ·subst hcc;exact⟨_,hc'⟩
   ·obtain⟨w2,z2⟩:=I.cell y c' e
    exact⟨w2,z2.sameBut hs hcc⟩
  ·obtain⟨e,n,ne,nf,d⟩:=I.pin p hp
   refine⟨(hs.2 p.1 ?_).trans e,n,ne,nf,d⟩
   intro q;rw[q,hoc]at e;have q':oc=p.2:=Option.some.inj e
   exact d w' (by rw[<- q'];exact hocd)
theorem nJ {M:Model} {A:Around} {E:Value->Shared->Prop} {i:Nat} {x:Str} {v:V} {u:Value} {Q:Unit->Shared->Prop} (I:Inv X pins σ H s) (hN:X.N.Nodup) (hi:X.N[i]?=some x) (hx:Gq X.env.scope x) (r:RelV v u)
  (h:∀s',Inv X pins (σ.set i (some v)) H s'->Q () s') (hf:X.fn x=true∨X.env.scope.names.lookup x=some .local:=by first | exact .inl rfl | exact .inr rfl | assumption):wpAny M A (storeName X.env x u) Q E s:=
 sO I hN hi hx r (fun s' I' _=>h s' I') hf
theorem Inv.call' {s':Shared} {ch:List Addr} (I:Inv X pins σ H s) (ho:s'.os=s.os) (u:Un (kI X.stack) ch H H' s.heap s'.heap) (hok:HOk X.prog X.w H' s'.heap) (hg:AllBare s'.gens)
  (hch:∀b∈ch,(b∈X.ex∨X.s₀.heap.objs.size<=b)/\b≠X.env.locals/\(∀x c,X.env.cells.lookup x=some c->c≠b)/\∀p∈X.pn++pins,p.1≠b):Inv X pins σ H' s':=by
 obtain⟨h',g',d',t',o'⟩:=s'
 have e:o'=s.os:=ho
 subst e;exact I.call (g':=g') (t':=t') (d':=d') u hok hg hch
end
abbrev XK:=Value->Option Addr->Hp->Prop
abbrev St:=List (Option V)
abbrev VK:=V->Hp->Prop
abbrev TE:=St->Hp->VK->Prop
abbrev TT:=St->Hp->(Bool->Hp->Prop)->Prop
abbrev TA:=St->Hp->(List V->Hp->Prop)->Prop
structure pU where
 nx:St->Hp->Prop
 rt:VK
 bk:St->Hp->Prop:=fun _ _=>False
 ct:St->Hp->Prop:=fun _ _=>False
abbrev TS:=pU->St->Hp->Prop
def EP (X:Cx) (pins:List (Addr × Obj)) (σ:St) (Q:VK) (u:Value) (s':Shared):Prop:=∃v H',Inv X pins σ H' s'/\RelV v u/\Q v H'
def TP (X:Cx) (pins:List (Addr × Obj)) (σ:St) (Q:Bool->Hp->Prop) (b:Bool) (s':Shared):Prop:=∃H',Inv X pins σ H' s'/\Q b H'
def AP (X:Cx) (pins:List (Addr × Obj)) (σ:St) (Q:List V->Hp->Prop) (us:List Value) (s':Shared):Prop:=∃vs H',Inv X pins σ H' s'/\Vals vs us/\Q vs H'
def SP (X:Cx) (pins:List (Addr × Obj)) (D:pU) (f:Flow) (s':Shared):Prop:=
 match f with
 | .next=>∃ σ' H',Inv X pins σ' H' s'/\D.nx σ' H'
 | .brk=>∃ σ' H',Inv X pins σ' H' s'/\D.bk σ' H'
 | .cont=>∃ σ' H',Inv X pins σ' H' s'/\D.ct σ' H'
 | .ret u=>∃v σ' H',Inv X pins σ' H' s'/\RelV v u/\D.rt v H'
def PE (X:Cx) (e:Expr) (t:TE):Prop:=
 ∀(pins:List (Addr × Obj)) (s:Shared) (σ:St) (H:Hp) (Q:VK),Inv X pins σ H s->t σ H Q->wpAny (model X.prog X.w) X.A (eval e X.env) (EP X pins σ Q) X.xe s
def PT (X:Cx) (e:Expr) (t:TT):Prop:=
 ∀(pins:List (Addr × Obj)) (s:Shared) (σ:St) (H:Hp) (Q:Bool->Hp->Prop),Inv X pins σ H s->t σ H Q->wpAny (model X.prog X.w) X.A (isTrue e X.env (eval e X.env)) (TP X pins σ Q) X.xe s
def PW (X:Cx) (e:Expr) (t:TT):Prop:=
 ∀(whole:Sem Value) (pins:List (Addr × Obj)) (s:Shared) (σ:St) (H:Hp) (Q:Bool->Hp->Prop),Inv X pins σ H s->t σ H Q->wpAny (model X.prog X.w) X.A (isTrue e X.env whole) (TP X pins σ Q) X.xe s
theorem PW.pt {X:Cx} {e:Expr} {t:TT} (h:PW X e t):PT X e t:=h _
def PA (X:Cx) (es:List Expr) (t:TA):Prop:=
 ∀(pos:Pos) (pins:List (Addr × Obj)) (s:Shared) (σ:St) (H:Hp) (Q:List V->Hp->Prop),Inv X pins σ H s->t σ H Q->wpAny (model X.prog X.w) X.A (spliced (backTo pos (starEach es X.env))) (AP X pins σ Q) X.xe s
def PS (X:Cx) (st:Stmt) (t:TS):Prop:=
 ∀(pins:List (Addr × Obj)) (s:Shared) (σ:St) (H:Hp) (D:pU),Inv X pins σ H s->t D σ H->wpAny (model X.prog X.w) X.A (exec st X.env) (SP X pins D) X.xe s
def PSs (X:Cx) (st:List Stmt) (t:TS):Prop:=
 ∀(pins:List (Addr × Obj)) (s:Shared) (σ:St) (H:Hp) (D:pU),Inv X pins σ H s->t D σ H->wpAny (model X.prog X.w) X.A (execs st X.env) (SP X pins D) X.xe s
theorem bX {α:Type} {t:Sem α} {Q Q':α->Shared->Prop} {M:Model} {A:Around} {E:Value->Shared->Prop} {s:Shared} (h:wpAny M A t Q E s) (hQ:∀a s,Q a s->Q' a s):wpAny M A t Q' E s:=wpAny_mono h hQ fun _ _ x=>x
end L2
namespace L2
open PySem PySem.Spec PyProof.Rows
section
variable {X:Cx}
theorem bin {a b:Expr} {ta tb:TE} (ha:PE X a ta) (hb:PE X b tb) {pins:List (Addr × Obj)} {s:Shared} {σ:St} {H:Hp} {R:V->V->Hp->Prop} (I:Inv X pins σ H s) (h:ta σ H fun x H1=>tb σ H1 fun y H2=>R x y H2)
  {α:Type} {Q:α->Shared->Prop} {f:Value->Value->Sem α}
  (hf:∀v u s2 x y H2,Inv X pins σ H2 s2->RelV x v->RelV y u->R x y H2->wpAny (model X.prog X.w) X.A (f v u) Q X.xe s2) :
  wpAny (model X.prog X.w) X.A (eval a X.env) (fun v s₁=>wpAny (model X.prog X.w) X.A (eval b X.env) (fun u s₂=>wpAny (model X.prog X.w) X.A (f v u) Q X.xe s₂) X.xe s₁) X.xe s:=by
 refine bX (ha pins s σ H _ I h) fun v s1 ⟨x,H1,I1,r1,q1⟩=>?_
 refine bX (hb pins s1 σ H1 _ I1 q1) fun u s2 ⟨y,H2,I2,r2,q2⟩=>?_
 exact hf v u s2 x y H2 I2 r1 r2 q2
def Rj (i:Nat):TE:=fun σ H Q=>∃v,σ[i]?=some (some v)/\Q v H
def tC (v:V):TE:=fun _ H Q=>Q v H
theorem Rk {i:Nat} {x:Str} {pos:Pos} (hN:X.N[i]?=some x) (hv:Wp X.env.scope x) (hd:(x == ("__debug__":Str))=false:=by decide) (hcd:(x == ("__classdict__":Str))=false:=by decide):PE X (.Name x pos) (Rj i):=by
 intro pins s σ H Q I h;obtain⟨v,e,h⟩:=h
 obtain⟨m,hn,hl⟩:=I.loc
 obtain⟨u,r,l⟩:=hl i x v hN e hv
 have fin:EP X pins σ Q u s:=⟨v,H,I,r,h⟩
 rcases l with⟨hk,hm⟩ | ⟨hk,c,hc,hcell⟩
 ·exact wpAny_Name (wpAny_loadName_local I.ok.kind hk hn hm fin) hd
 ·rcases hk with hk | hk
  ·exact wpAny_Name (wpAny_loadName_cell I.ok.kind hk hc hcell fin) hd
  ·exact wpAny_Name (wpAny_loadName_free I.ok.kind hk hc hcell fin hcd) hd
theorem Rl {i j pos}:PE X (.Constant (.int i) j pos) (tC (.int i)):=fun _ _ _ H _ I h=>wpAny_Constant_int ⟨.int i,H,I.tok _,⟨_,rfl⟩,h⟩
theorem Wq {b j pos}:PE X (.Constant (.bool b) j pos) (tC (.bl b)):=fun _ _ _ H _ I h=>Constant_bool ⟨.bl b,H,I,rfl,h⟩
theorem Rm {j pos}:PE X (.Constant .none j pos) (tC .non):=fun _ _ _ H _ I h=>Constant_none ⟨.non,H,I,rfl,h⟩
theorem Rn {x j pos}:PE X (.Constant (.str x) j pos) (tC (.str x)):=fun _ _ _ H _ I h=>Calls.Constant_str ⟨.str x,H,I.tok _,⟨_,rfl⟩,h⟩
def Gl (X:Cx) (x:Str):Prop:=X.env.kindOf x=some .globalImplicit
theorem jI {E:Value->Shared->Prop} {pins:List (Addr × Obj)} {s:Shared} {σ:St} {H:Hp} {x:Str} {u:Value} {pos:Pos} {Q:Value->Shared->Prop} (I:Inv X pins σ H s) (hg:Gl X x) (hm:X.mg x=some u) (h:Q u s)
  (hd:(x == ("__debug__":Str))=false:=by decide):wpAny (model X.prog X.w) X.A (eval (.Name x pos) X.env) Q E s:=
 Calls.Name_function_global I.ok.kind hg (Calls.loadGlobal_global (by rw[I.ok.glob];exact I.mod.glob.keeps I.bk) hm h) hd
theorem oV {E:Value->Shared->Prop} {pins:List (Addr × Obj)} {s:Shared} {σ:St} {H:Hp} {x:Str} {u:Value} {pos:Pos} {Q:Value->Shared->Prop} (I:Inv X pins σ H s) (hg:Gl X x) (hm:X.mg x=none) (hv:bootBuiltins x=some u) (h:Q u s)
  (hn:x≠"__name__":=by decide) (hd:(x == ("__debug__":Str))=false:=by decide):wpAny (model X.prog X.w) X.A (eval (.Name x pos) X.env) Q E s:=by
 obtain⟨mb,h1,h2⟩:=I.mod.blt
 exact Calls.Name_function_global I.ok.kind hg (Calls.loadGlobal_builtin (by rw[I.ok.glob];exact I.mod.glob.keeps I.bk) hm (by rw[I.ok.blt];exact h1.keeps I.bk) ((h2 x hn).trans hv) h) hd
theorem uH {x:Str} {v:V} {u:Value} {pos:Pos} (hg:Gl X x) (hm:X.mg x=some u) (r:RelV v u) (hd:(x == ("__debug__":Str))=false:=by decide):PE X (.Name x pos) (tC v):=
 fun _ _ _ H _ I h=>jI I hg hm ⟨v,H,I,r,h⟩ hd
theorem Bs {x:Str} {v:V} {u:Value} {pos:Pos} (hg:Gl X x) (hm:X.mg x=none) (hv:bootBuiltins x=some u) (r:RelV v u) (hn:x≠"__name__":=by decide) (hd:(x == ("__debug__":Str))=false:=by decide):PE X (.Name x pos) (tC v):=
 fun _ _ _ H _ I h=>oV I hg hm hv ⟨v,H,I,r,h⟩ hn hd
variable {a b:Expr} {ta tb:TE} {pos:Pos}
def PC (X:Cx) (op:CmpOp) (a b:Expr) (t:TE):Prop:=
 ∀(pins:List (Addr × Obj)) (s:Shared) (σ:St) (H:Hp) (Q:VK),Inv X pins σ H s->t σ H Q →
  wpAny (model X.prog X.w) X.A (eval a X.env) (fun v s₁=>wpAny (model X.prog X.w) X.A (eval b X.env) (fun u s₂=>wpAny (model X.prog X.w) X.A (compareOp op v u) (EP X pins σ Q) X.xe s₂) X.xe s₁) X.xe s
def tB (t:TE):TT:=fun σ H Q=>t σ H fun x H1=>∃c,x=.bl c/\Q c H1
theorem aAj {op:CmpOp} {t:TE} (h:PC X op a b t) (h1:behindInMarks op b=false:=by first | exact nobehind _ Zd Zd | rfl):PT X (.Compare a [op] [b] pos) (tB t):=by
 intro pins s σ H Q I hw;refine wpAny_isTrue_Compare1 (bX (h pins s σ H _ I hw) fun v s1 h1=>bX h1 fun u s2 h2=>bX h2 fun c s3 ⟨x,H1,I1,r1,q1⟩=>?_) h1
 obtain⟨d,rfl,q⟩:=q1
 cases r1
 exact wpAny_truthy_bool ⟨H1,I1,q⟩
theorem Ro {e:Expr} {t:TE} (h:PE X e t) (he:∀whole,isTrue e X.env whole=(do let v ← whole;standAt e.pos;holding [v] (truthy v)):=by intro _;rfl):PT X e (tB t):=by
 intro pins s σ H Q I hw;refine isTrue_plain (bX (h pins s σ H _ I hw) fun v s1 ⟨x,H1,I1,r1,q1⟩=>?_) (he _)
 obtain⟨d,rfl,q⟩:=q1
 cases r1
 exact wpAny_truthy_bool ⟨H1,I1,q⟩
variable {tA tB':TT} {rest:List Expr}
def jJ (t u:TT):TT:=fun σ H Q=>t σ H fun c H1=>if c=true then u σ H1 Q else Q false H1
def Wg (t u:TT):TT:=fun σ H Q=>t σ H fun c H1=>if c=true then Q true H1 else u σ H1 Q
def Rp (t:TT):TT:=fun σ H Q=>t σ H fun c H1=>Q (!c) H1
theorem Ml (ha:PT X a tA):PW X (.BoolOp .And [a] pos) tA:=by
 intro wh pins s σ H Q I h;refine isTrue_and (bX (ha pins s σ H Q I h) fun c s1 e=>?_)
 cases c with
 | true=>exact isTrue_and_nil e
 | false=>exact e
theorem Rq (ha:PT X a tA):PW X (.BoolOp .Or [a] pos) tA:=by
 intro wh pins s σ H Q I h;refine isTrue_or (bX (ha pins s σ H Q I h) fun c s1 e=>?_)
 cases c with
 | false=>exact isTrue_or_nil e
 | true=>exact e
theorem Rr (ha:PT X a tA) (hb:PW X (.BoolOp .And (b::rest) pos) tB'):PW X (.BoolOp .And (a::b::rest) pos) (jJ tA tB'):=by
 intro wh pins s σ H Q I h;refine isTrue_and (bX (ha pins s σ H _ I h) fun c s1 ⟨H1,I1,q1⟩=>?_)
 cases c with
 | true=>exact hb wh pins s1 σ H1 Q I1 q1
 | false=>exact⟨H1,I1,q1⟩
theorem Wr (ha:PT X a tA) (hb:PW X (.BoolOp .Or (b::rest) pos) tB'):PW X (.BoolOp .Or (a::b::rest) pos) (Wg tA tB'):=by
 intro wh pins s σ H Q I h;refine isTrue_or (bX (ha pins s σ H _ I h) fun c s1 ⟨H1,I1,q1⟩=>?_)
 cases c with
 | true=>exact⟨H1,I1,q1⟩
 | false=>exact hb wh pins s1 σ H1 Q I1 q1
theorem Rs (ha:PT X a tA):PT X (.UnaryOp .Not a pos) (Rp tA):=by
 intro pins s σ H Q I h;exact isTrue_not (ha pins s σ H (fun c H1=>Q (!c) H1) I h)
def Gu (ta tb:TE):TE:=fun σ H Q=>ta σ H fun x H1=>∃c,x=.bl c/\if c=true then tb σ H1 Q else Q (.bl false) H1
def Rt (ta tb:TE):TE:=fun σ H Q=>ta σ H fun x H1=>∃c,x=.bl c/\if c=true then Q (.bl true) H1 else tb σ H1 Q
def Gv (ta:TE):TE:=fun σ H Q=>ta σ H fun x H1=>∃c,x=.bl c/\Q (.bl (!c)) H1
theorem Ru {op} {t:TE} (h:PE X a t):PE X (.BoolOp op [a] pos) t:=fun pins s σ H Q I hw=>BoolOp_one (h pins s σ H Q I hw)
theorem Rv (ha:PE X a ta) (hb:PE X (.BoolOp .And (b::rest) pos) tb):PE X (.BoolOp .And (a::b::rest) pos) (Gu ta tb):=by
 intro pins s σ H Q I h;refine BoolOp_and (bX (ha pins s σ H _ I h) fun v s1 ⟨x,H1,I1,r1,q1⟩=>?_)
 obtain⟨c,rfl,q1⟩:=q1
 cases r1
 refine wpAny_truthy_bool ?_
 cases c with
 | true=>exact hb pins s1 σ H1 Q I1 q1
 | false=>exact⟨.bl false,H1,I1,rfl,q1⟩
theorem Ws (ha:PE X a ta) (hb:PE X (.BoolOp .Or (b::rest) pos) tb):PE X (.BoolOp .Or (a::b::rest) pos) (Rt ta tb):=by
 intro pins s σ H Q I h;refine BoolOp_or (bX (ha pins s σ H _ I h) fun v s1 ⟨x,H1,I1,r1,q1⟩=>?_)
 obtain⟨c,rfl,q1⟩:=q1
 cases r1
 refine wpAny_truthy_bool ?_
 cases c with
 | false=>exact hb pins s1 σ H1 Q I1 q1
 | true=>exact⟨.bl true,H1,I1,rfl,q1⟩
theorem Rw (ha:PE X a ta):PE X (.UnaryOp .Not a pos) (Gv ta):=by
 intro pins s σ H Q I h;refine UnaryOp_ (bX (ha pins s σ H _ I h) fun v s1 ⟨x,H1,I1,r1,q1⟩=>?_)
 obtain⟨c,rfl,q1⟩:=q1
 cases r1
 exact not_of (wpAny_truthy_bool ⟨.bl (!c),H1,I1,rfl,q1⟩)
def tIf (t:TT) (ta tb:TE):TE:=fun σ H Q=>t σ H fun c H1=>if c=true then ta σ H1 Q else tb σ H1 Q
theorem Gw {c:Expr} (hc:PT X c tA) (ha:PE X a ta) (hb:PE X b tb):PE X (.IfExp c a b pos) (tIf tA ta tb):=by
 intro pins s σ H Q I h;refine wpAny_IfExp (bX (hc pins s σ H _ I h) fun d s1 ⟨H1,I1,q1⟩=>?_)
 cases d with
 | true=>exact ha pins s1 σ H1 Q I1 q1
 | false=>exact hb pins s1 σ H1 Q I1 q1
end
end L2
namespace L2
open PySem PySem.Spec PyProof.Rows
def SqL (K:W.Frag) (H:Hp) (a:Addr) (xs:List V):Prop:=
 Rd H a (.lst xs)∨
  ∃(o:Obj) (its:Array Value) (n:Nat),K.lookup a=some o/\o.cls=.type "list"/\o.dict=none/\o.data=.seq its n/\its.size<=sizeLine/\Vals xs its.toList
def SqT (K:W.Frag) (H:Hp) (a:Addr) (xs:List V):Prop:=
 Rd H a (.tup xs)∨
  ∃(o:Obj) (its:Array Value) (n:Nat),K.lookup a=some o/\o.cls=.type "tuple"/\o.data=.seq its n/\its.size<=sizeLine/\Vals xs its.toList
def aAk:Value->Option V
 | .none=>some .non
 | .bool b=>some (.bl b)
 | .int i _=>some (.int i)
 | .str x _=>some (.str x)
 | .bytes b _=>some (.byt b)
 | .float b _=>some (.flt b)
 | .ref a=>some (.ref a)
 | .type n=>some (.ty n)
 | _=>none
theorem RelV.abs {x:V} {u:Value} (r:RelV x u):aAk u=some x:=by
 cases x with
 | non=>cases r;rfl
 | bl _=>cases r;rfl
 | int _=>obtain⟨t,rfl⟩:=r;rfl
 | str _=>obtain⟨t,rfl⟩:=r;rfl
 | byt _=>obtain⟨t,rfl⟩:=r;rfl
 | flt _=>obtain⟨t,rfl⟩:=r;rfl
 | ref _=>cases r;rfl
 | ty _=>cases r;rfl
theorem RelV.inj {x y:V} {u:Value} (r:RelV x u) (q:RelV y u):x=y:=Option.some.inj (r.abs.symm.trans q.abs)
theorem Vals.inj:∀ {xs ys:List V} {us:List Value},Vals xs us->Vals ys us->xs=ys
 | _,_,_,.nil,.nil=>rfl
 | _,_,_,.cons r t,.cons r' t'=>by rw[r.inj r',Vals.inj t t']
section
variable {X:Cx} {pins:List (Addr × Obj)} {σ:St} {H:Hp} {s:Shared} {a:Addr} {xs ys:List V}
theorem SqL.of {K:W.Frag} (h:H a=some (.lst xs)):SqL K H a xs:=.inl (.inl h)
theorem SqT.of {K:W.Frag} (h:H a=some (.tup xs)):SqT K H a xs:=.inl (.inl h)
theorem Inv.list (I:Inv X pins σ H s) (h:SqL X.K H a xs):∃its:List Value,Vals xs its/\PlainL s.heap a its.toArray/\xs.length<=sizeLine:=by
 rcases h with h | ⟨o,its,n,hk,hc,hd,hs,hz,r⟩
 ·obtain⟨z,its,n,r,e⟩:=h.ok I.hok
  exact⟨its,r,⟨_,n,e,rfl,rfl,rfl⟩,z⟩
 ·refine⟨its.toList,r,⟨o,n,I.kIn a o hk,hc,hd,by simpa using hs⟩,?_⟩
  have e:=r.length
  simp only [Array.length_toList]at e
  omega
theorem Inv.tuple (I:Inv X pins σ H s) (h:SqT X.K H a xs):∃its:List Value,Vals xs its/\IsTup s.heap a its.toArray/\xs.length<=sizeLine:=by
 rcases h with h | ⟨o,its,n,hk,hc,hs,hz,r⟩
 ·obtain⟨z,its,r,p⟩:=h.ok I.hok
  exact⟨its,r,p,z⟩
 ·refine⟨its.toList,r,⟨o,I.kIn a o hk,hc,n,by simpa using hs⟩,?_⟩
  have e:=r.length
  simp only [Array.length_toList]at e
  omega
theorem Inv.list_inj (I:Inv X pins σ H s) (h:SqL X.K H a xs) (h':SqL X.K H a ys):xs=ys:=by
 obtain⟨its,r,⟨o,n,e,_,_,d⟩,_⟩:=I.list h
 obtain⟨its',r',⟨o',n',e',_,_,d'⟩,_⟩:=I.list h'
 rw[e]at e';cases e'
 rw[d]at d';injection d' with d1 _
 have:its=its':=by simpa using congrArg Array.toList d1
 subst this;exact r.inj r'
theorem Inv.tuple_inj (I:Inv X pins σ H s) (h:SqT X.K H a xs) (h':SqT X.K H a ys):xs=ys:=by
 obtain⟨its,r,⟨o,e,_,n,d⟩,_⟩:=I.tuple h
 obtain⟨its',r',⟨o',e',_,n',d'⟩,_⟩:=I.tuple h'
 rw[e]at e';cases e'
 rw[d]at d';injection d' with d1 _
 have:its=its':=by simpa using congrArg Array.toList d1
 subst this;exact r.inj r'
end
abbrev Cx.wish (X:Cx) (E:Value->Shared->Prop):Cx:={X with xe:=E }
abbrev Cx.nox (X:Cx):Cx:=X.wish fun _ _=>False
theorem Cx.Ok.wish {X:Cx} (ok:X.Ok) (E:Value->Shared->Prop):(X.wish E).Ok:=
 ⟨ok.mod,ok.kind,ok.glob,ok.blt,ok.above,ok.inj,ok.has,ok.cab,ok.hd,ok.frames,ok.stk,ok.exf,ok.bs,ok.bsz,ok.noex,ok.exfs,ok.funs,ok.frf⟩
theorem Cx.Ok.unwish {X:Cx} {E:Value->Shared->Prop} (ok:(X.wish E).Ok):X.Ok:=
 ⟨ok.mod,ok.kind,ok.glob,ok.blt,ok.above,ok.inj,ok.has,ok.cab,ok.hd,ok.frames,ok.stk,ok.exf,ok.bs,ok.bsz,ok.noex,ok.exfs,ok.funs,ok.frf⟩
section
variable {X:Cx} {pins:List (Addr × Obj)} {σ:St} {H:Hp} {s:Shared} {E:Value->Shared->Prop}
theorem Inv.wish (I:Inv X pins σ H s) (E:Value->Shared->Prop):Inv (X.wish E) pins σ H s:=⟨I.ok.wish E,I.os,I.bare,I.base,I.loc,I.cell,I.free,I.freeC,I.pin,I.hok,I.len⟩
theorem Inv.unwish (I:Inv (X.wish E) pins σ H s):Inv X pins σ H s:=⟨I.ok.unwish,I.os,I.bare,I.base,I.loc,I.cell,I.free,I.freeC,I.pin,I.hok,I.len⟩
theorem SP.unwish {D:pU} {f:Flow} {s':Shared} (h:SP (X.wish E) pins D f s'):SP X pins D f s':=by
 cases f with
 | next=>obtain⟨σ',H',I,q⟩:=h;exact⟨σ',H',I.unwish,q⟩
 | brk=>obtain⟨σ',H',I,q⟩:=h;exact⟨σ',H',I.unwish,q⟩
 | cont=>obtain⟨σ',H',I,q⟩:=h;exact⟨σ',H',I.unwish,q⟩
 | ret u=>obtain⟨v,σ',H',I,r,q⟩:=h;exact⟨v,σ',H',I.unwish,r,q⟩
theorem PSs.nox {st:List Stmt} {t:TS} (h:PSs X.nox st t):PSs X st t:=fun pins s σ H D I hw=>
 wpAny_mono (h pins s σ H D (I.wish _) hw) (fun _ _ q=>q.unwish) fun _ _ z=>False.elim z
end
section
variable {X:Cx} {st:Stmt} {rest:List Stmt} {t u:TS} {e:Expr} {te:TE} {pos:Pos}
def aR:TS:=fun D σ H=>D.nx σ H
def nK (t u:TS):TS:=fun D σ H=>t {D with nx:=u D } σ H
theorem Mm:PSs X [] aR:=fun _ _ σ H _ I h=>wpAny_execs_nil ⟨σ,H,I,h⟩
theorem Gx (h1:PS X st t) (h2:PSs X rest u):PSs X (st::rest) (nK t u):=by
 intro pins s σ H D I h;refine wpAny_execs_cons (bX (h1 pins s σ H {D with nx:=u D } I h) fun f s1 q=>?_)
 cases f with
 | next=>
  obtain⟨σ',H',I',q⟩:=q
  exact h2 pins s1 σ' H' D I' q
 | ret v=>exact q
 | brk=>exact q
 | cont=>exact q
theorem Mn (h1:PS X st t):PSs X [st] t:=by
 intro pins s σ H D I h;refine wpAny_execs_cons (bX (h1 pins s σ H D I h) fun f s1 q=>?_)
 cases f with
 | next=>exact wpAny_execs_nil q
 | ret v=>exact q
 | brk=>exact q
 | cont=>exact q
theorem Inv.quiet {pins:List (Addr × Obj)} {σ:St} {H:Hp} {s:Shared} (I:Inv X pins σ H s):interactive X.env=false:=by simp [interactive,I.ok.kind]
def Qc (te:TE):TS:=fun D σ H=>te σ H fun _ H1=>D.nx σ H1
theorem Mo (he:PE X e te) (hs:swapsWith e none pos.line X.env=pure false:=by rfl):PS X (.Expr e pos) (Qc te):=by
 intro pins s σ H D I h;exact wpAny_Expr_any (bX (he pins s σ H _ I h) fun v s1 ⟨x,H1,I1,r1,q1⟩=>⟨σ,H1,I1,q1⟩) I.quiet hs
def Dv (te:TE):TS:=fun D σ H=>te σ H D.rt
theorem Rx (he:PE X e te):PS X (.Return (some e) pos) (Dv te):=by
 intro pins s σ H D I h;exact wpAny_Return_some (bX (he pins s σ H _ I h) fun v s1 ⟨x,H1,I1,r1,q1⟩=>⟨x,σ,H1,I1,r1,q1⟩)
def Gy (c:TT) (t u:TS):TS:=fun D σ H=>c σ H fun b H1=>if b=true then t D σ H1 else u D σ H1
theorem Wt {c:Expr} {a b:List Stmt} {tc:TT} (hc:PT X c tc) (ha:PSs X a t) (hb:PSs X b u):PS X (.If c a b pos) (Gy tc t u):=by
 intro pins s σ H D I h;refine wpAny_If (bX (hc pins s σ H _ I h) fun d s1 ⟨H1,I1,q1⟩=>?_)
 cases d with
 | true=>exact ha pins s1 σ H1 D I1 q1
 | false=>exact hb pins s1 σ H1 D I1 q1
end
abbrev TG:=V->St->Hp->(St->Hp->Prop)->Prop
abbrev Bt:=List V->St->Hp->(St->Hp->Prop)->Prop
def PG (X:Cx) (target:Expr) (t:TG):Prop:=
 ∀(pins:List (Addr × Obj)) (s:Shared) (σ:St) (H:Hp) (v:V) (u:Value) (Q:St->Hp->Prop),Inv X pins σ H s->RelV v u->t v σ H Q →
  wpAny (model X.prog X.w) X.A (assign target X.env u) (fun _ s'=>∃ σ' H',Inv X pins σ' H' s'/\Q σ' H') X.xe s
def Wu (X:Cx) (ts:List Expr) (t:Bt):Prop:=
 ∀(pins:List (Addr × Obj)) (s:Shared) (σ:St) (H:Hp) (vs:List V) (us:List Value) (Q:St->Hp->Prop),Inv X pins σ H s->Vals vs us->t vs σ H Q →
  wpAny (model X.prog X.w) X.A (assignInOrder ((assignEach ts X.env).map (·.2)) us) (fun _ s'=>∃ σ' H',Inv X pins σ' H' s'/\Q σ' H') X.xe s
abbrev Gz:=V->V->V->Hp->(Hp->Prop)->Prop
def Ry (X:Cx) (t:Gz):Prop:=
 ∀(pins:List (Addr × Obj)) (s:Shared) (σ:St) (H:Hp) (o i v:V) (ov iv u:Value) (Q:Hp->Prop),Inv X pins σ H s->RelV o ov->RelV i iv->RelV v u->t o i v H Q →
  wpAny (model X.prog X.w) X.A (setItem ov iv u) (fun _ s'=>∃H',Inv X pins σ H' s'/\Q H') X.xe s
section
variable {X:Cx} {pos:Pos}
def aI (i:Nat):TG:=fun v σ H Q=>Q (σ.set i (some v)) H
theorem Mp {i:Nat} {x:Str} (hN:X.N.Nodup) (hi:X.N[i]?=some x) (hx:Gq X.env.scope x) (hf:X.fn x=true∨X.env.scope.names.lookup x=some .local:=by first | exact .inl rfl | exact .inr rfl | assumption):PG X (.Name x pos) (aI i):=by
 intro pins s σ H v u Q I r h;exact wpAny_assign_Name (nJ I hN hi hx r (fun s' I'=>⟨_,H,I',h⟩) hf)
def Rz:Bt:=fun vs σ H Q=>vs=[]/\Q σ H
def Hb (t:TG) (u:Bt):Bt:=fun vs σ H Q=>∃v r,vs=v::r/\t v σ H fun σ' H'=>u r σ' H' Q
theorem Mq:Wu X [] Rz:=by
 intro pins s σ H vs us Q I r h;obtain⟨e,h⟩:=h
 subst e;cases r
 exact assignInOrder_nil ⟨σ,H,I,h⟩
theorem Hc {e:Expr} {es:List Expr} {t:TG} {u:Bt} (h1:PG X e t) (h2:Wu X es u)
  (hs:(assignEach (e::es) X.env).map (·.2)=assign e X.env::(assignEach es X.env).map (·.2):=by rfl):Wu X (e::es) (Hb t u):=by
 intro pins s σ H vs us Q I r h;obtain⟨v,vr,e1,h⟩:=h
 subst e1;cases r with
 | cons r rr=>
  rw[hs];refine assignInOrder_cons (bX (h1 pins s σ H _ _ _ I r h) fun _ s1 ⟨σ1,H1,I1,q1⟩=>?_)
  exact h2 pins s1 σ1 H1 _ _ Q I1 rr q1
def Mr (K:W.Frag) (n:Nat) (t:Bt):TG:=fun v σ H Q=>∃a xs,v=.ref a/\SqT K H a xs/\xs.length=n/\t xs σ H Q
theorem Sa {es:List Expr} {k:Nat} {t:Bt} {n:Nat} (hc:X.calm=true) (h:Wu X es t)
  (hn:(assignEach es X.env).length=n:=by rfl) (hst:(assignEach es X.env).findIdx? (·.1)=none:=by rfl):PG X (.Tuple es k pos) (Mr X.K n t):=by
 intro pins s σ H v u Q I r hw;obtain⟨a,xs,e1,hq,hl,hw⟩:=hw
 subst e1;cases r
 obtain⟨its,rv,ht,hz⟩:=I.tuple hq
 refine assign_Tuple_tuple (I.ok.hd hc) ht (by simp [hn,<- hl,rv.length]) hst fun h' hx=>?_
 have I1:Inv X pins σ H {s with heap:=h' }:=I.kept (t':=s.toks) fun b o e=>hx b o (Nat.ne_of_lt (Heap.lt_size e)) e
 exact h pins _ σ H xs _ Q I1 (by simpa using rv) hw
def Wv (to ti:TE) (t:Gz):TG:=fun v σ H Q=>to σ H fun o H1=>ti σ H1 fun i H2=>t o i v H2 fun H3=>Q σ H3
theorem Sb {o i:Expr} {to ti:TE} {t:Gz} (ho:PE X o to) (hi:PE X i ti) (hs:Ry X t)
  (ha:∀v,assign (.Subscript o i pos) X.env v=(do
   let ov ← holding [v] (eval o X.env)
   let iv ← holding [v,ov] (eval i X.env)
   standAt pos
   holding [v,ov,iv] (setItem ov iv v)
   release [v,ov,iv] []):=by intro _;rfl):PG X (.Subscript o i pos) (Wv to ti t):=by
 intro pins s σ H v u Q I r h;rw[ha];refine wpAny_bind (wpAny_holding (bX (ho pins s σ H _ I h) fun ov s1 ⟨x,H1,I1,r1,q1⟩=>?_))
 refine wpAny_bind (wpAny_holding (bX (hi pins s1 σ H1 _ I1 q1) fun iv s2 ⟨y,H2,I2,r2,q2⟩=>?_))
 refine wpAny_bind (wpAny_standAt (wpAny_bind (wpAny_holding (bX (hs pins s2 σ H2 x y v ov iv u _ I2 r1 r2 r q2) fun _ s3 ⟨H3,I3,q3⟩=>?_))))
 exact wpAny_release ⟨σ,H3,I3,q3⟩
def Hd (te:TE) (g:TG):TS:=fun D σ H=>te σ H fun x H1=>g x σ H1 D.nx
theorem Sc {tg e:Expr} {te:TE} {g:TG} (he:PE X e te) (hg:PG X tg g) (hs:swapsWithSole [tg] e pos.line X.env=pure false:=by rfl) (hw:swappedStores [tg] e X.env=pure none:=by rfl)
  (h1:(assignEach [tg] X.env).map (·.2)=[assign tg X.env]:=by rfl):PS X (.Assign [tg] e pos) (Hd te g):=by
 intro pins s σ H D I h;refine wpAny_Assign_stores (bX (he pins s σ H _ I h) fun v s1 ⟨x,H1,I1,r1,q1⟩=>?_) hs hw
 rw[h1];exact bX (hg pins s1 σ H1 x v _ I1 r1 q1) fun _ s2 q=>q
theorem Sd {i:Nat} {x:Str} {e:Expr} {te:TE} {pos':Pos} (hN:X.N.Nodup) (hi:X.N[i]?=some x) (hx:Gq X.env.scope x) (he:PE X e te) (hs:swapsWith e (some (.Name x pos')) pos.line X.env=pure false:=by rfl) (hf:X.fn x=true∨X.env.scope.names.lookup x=some .local:=by first | exact .inl rfl | exact .inr rfl | assumption) :
  PS X (.Assign [.Name x pos'] e pos) (Hd te (aI i)):=by
 intro pins s σ H D I h;refine wpAny_Assign_Name (bX (he pins s σ H _ I h) fun v s1 ⟨y,H1,I1,r1,q1⟩=>?_) hs
 exact nJ I1 hN hi hx r1 (fun s2 I2=>⟨_,H1,I2,q1⟩) hf
end
structure It where
 go:Nat->Hp->Prop
 yld:Nat->Hp->V->Hp->Prop
 stop:Nat->Hp->Prop
def oW (X:Cx) (pins:List (Addr × Obj)) (H:Hp) (b:Addr):Prop:=
 H b=none/\b≠X.env.locals/\b∉X.fs/\(b∈X.ex∨X.s₀.heap.objs.size<=b)/\(∀x c,X.env.cells.lookup x=some c->c≠b)/\∀p∈X.pn++pins,p.1≠b
theorem Inv.fpOk {X:Cx} {pins:List (Addr × Obj)} {σ:St} {H H':Hp} {s:Shared} {b:Addr} (I:Inv X pins σ H s) (hb:s.heap.objs.size<=b) (hn:H' b=none):oW X pins H' b:=by
 refine⟨hn,Nat.ne_of_gt (Nat.lt_of_lt_of_le I.lt hb),I.nofs hb,.inr (kB I.sz hb),fun x c e z=>?_,fun p hp z=>?_⟩
 ·obtain⟨v,q⟩:=I.cell x c e
  exact absurd (Nat.lt_of_lt_of_le q.lt (by rw[z];exact hb)) (Nat.lt_irrefl _)
 ·exact absurd (Nat.lt_of_lt_of_le (Heap.lt_size (I.pin p hp).1) (by rw[z];exact hb)) (Nat.lt_irrefl _)
structure uI (P:Program) (w:World) (K:W.Frag) (tg:Expr) (J:It) (fp:List Addr) (it:Addr) (tn:Nat->Heap->Prop):Prop where
 mem:it∈fp
 obj:∀i h,tn i h->∀b∈fp,∃o,h.get? b=some o/\∀v,o.data≠.cell v
 keep:∀i h h',tn i h->(∀b∈fp,∀o,h.get? b=some o->h'.get? b=some o)->tn i h'
 item:∀(X:Cx),X.prog=P->X.w=w->X.K=K->X.calm=true->∀(i:Nat) (pins:List (Addr × Obj)) (s:Shared) (σ:St) (H:Hp) (E:Value->Shared->Prop),Inv X pins σ H s->(∀b∈fp,oW X pins H b)->tn i s.heap->J.go i H →
  wpAny (model P w) X.A (pyNext (.ref it)) (fun r s1=>∃u,r=some u ∧
   wpAny (model P w) X.A (letOwnedTupleGo tg (.ref it) u) (fun _ s2=>∃x H',Inv X pins σ H' s2/\RelV x u/\J.yld i H x H'/\tn (i+1) s2.heap/\∀b∈fp,H' b=none) E s1) E s
 done:∀(X:Cx),X.prog=P->X.w=w->X.K=K->X.calm=true->∀(i:Nat) (pins:List (Addr × Obj)) (s:Shared) (σ:St) (H:Hp) (E:Value->Shared->Prop),Inv X pins σ H s->(∀b∈fp,oW X pins H b)->tn i s.heap->J.stop i H →
  wpAny (model P w) X.A (pyNext (.ref it)) (fun r s1=>r=none/\Inv X pins σ H s1) E s
 self:∀(A:Around) (i:Nat) (s:Shared) (Q:Value->Shared->Prop) (E:Value->Shared->Prop),tn i s.heap->Q (.ref it) s->wpAny (model P w) A (pyIter (.ref it)) Q E s
abbrev TI:=St->Hp->(It->Hp->Prop)->Prop
def PIE (X:Cx) (pins:List (Addr × Obj)) (σ:St) (tg:Expr) (R:It->Hp->Prop) (itv:Value) (s2:Shared):Prop:=
 ∃(it:Addr) (fp:List Addr) (tn:Nat->Heap->Prop) (J:It) (H':Hp),itv=.ref it/\Inv X pins σ H' s2/\uI X.prog X.w X.K tg J fp it tn/\tn 0 s2.heap/\(∀b∈fp,oW X pins H' b)/\R J H'
def PI (X:Cx) (tg iter:Expr) (wi:TI):Prop:=
 ∀(pins:List (Addr × Obj)) (s:Shared) (σ:St) (H:Hp) (R:It->Hp->Prop),Inv X pins σ H s->wi σ H R →
  wpAny (model X.prog X.w) X.A (eval iter X.env) (fun v s1=>wpAny (model X.prog X.w) X.A (pyIter v) (PIE X pins σ tg R) X.xe s1) X.xe s
theorem xJ {M:Model} {A:Around} {E:Value->Shared->Prop} {s:Shared} {tg:Expr} {it:Addr} {u:Value} {o:Obj} {n:String} {vs:Array Value} {Q:Unit->Shared->Prop} (ho:s.heap.get? it=some o) (hc:o.cls=.type n) (hd:o.data=.fields vs)
    (hn:["enumerate","zip","dict_itemiterator","dict_reverseitemiterator","odict_iterator","itertools.zip_longest","itertools.pairwise"].contains n=false) (hQ:Q () s):wpAny M A (letOwnedTupleGo tg (.ref it) u) Q E s:=by
  unfold letOwnedTupleGo;cases tg <;> first
    | exact wpAny_pure hQ
    | (cases u <;> first
        | exact wpAny_pure hQ
        | (refine wpAny_bind (wpAny_load ho ?_)
           rw[hc,hd];show wpAny M A (if (["enumerate","zip","dict_itemiterator","dict_reverseitemiterator","odict_iterator","itertools.zip_longest","itertools.pairwise"].contains n&&vs[0]? == some (rawInt _))=true then _ else _) Q E s
           rw[if_neg (by intro h;rw[hn,Bool.false_and]at h;cases h)]
           exact wpAny_pure hQ))
def Itl (K:W.Frag) (a:Addr):It:=
 ⟨fun i H=>∃xs x,SqL K H a xs/\xs[i]?=some x,fun i H x H'=>H'=H/\∀xs,SqL K H a xs->xs[i]?=some x,fun i H=>∃xs,SqL K H a xs/\xs.length<=i⟩
def Itt (K:W.Frag) (a:Addr):It:=
 ⟨fun i H=>∃xs x,SqT K H a xs/\xs[i]?=some x,fun i H x H'=>H'=H/\∀xs,SqT K H a xs->xs[i]?=some x,fun i H=>∃xs,SqT K H a xs/\xs.length<=i⟩
def Se (lo:Int) (n:Nat):It:=⟨fun i _=>i<n,fun i H x H'=>H'=H/\x=.int (lo+i),fun i _=>n<=i⟩
theorem Dw {P:Program} {w:World} {K:W.Frag} {tg:Expr} (a it:Addr):uI P w K tg (Itl K a) [it] it (fun i h=>h.IsListIter it a i) where
 mem:=by simp
 obj:=fun i h st b hb=>by
  have e:b=it:=by simpa using hb
  subst e;obtain⟨o,e,c,d⟩:=st
  exact⟨o,e,fun v z=>by rw[d]at z;cases z⟩
 keep:=fun i h h' st k=>st.at fun o e=>k it Zs o e
 item:=by
  intro X hP hw hK hc i pins s σ H E I hf st hg;subst hP hw hK;obtain⟨xs,x,hq,hx⟩:=hg
  obtain⟨its,rv,p,hz⟩:=I.list hq
  obtain⟨u,hu,ru⟩:=rv.get hx
  obtain⟨f0,f1,f2,f3,f4,f5⟩:=hf it Zs
  refine wpAny_pyNext_list_item st p.isList (x:=u) (by simpa using hu) fun h' st' sb=>?_
  have I1:Inv X pins σ H {s with heap:=h' }:=I.turned (t':=s.toks) (fun b o hb e=>(sb.2 b hb).trans e) f0 f1 f3 f4 f5
  obtain⟨o,e,c,d⟩:=id st'
  exact⟨u,rfl,xJ (s:={s with heap:=h' }) e c d Zd ⟨x,H,I1,ru,⟨rfl,fun ys hy=>by rw[I.list_inj hy hq];exact hx⟩,st',fun b hb=>(hf b hb).1⟩⟩
 done:=by
  intro X hP hw hK hc i pins s σ H E I hf st hg;subst hP hw hK;obtain⟨xs,hq,hx⟩:=hg
  obtain⟨its,rv,p,hz⟩:=I.list hq
  obtain⟨f0,f1,f2,f3,f4,f5⟩:=hf it Zs
  have hl:=rv.length
  exact wpAny_pyNext_list_end (I.ok.hd hc) st p.isList (by simp;omega) fun h' eb=>⟨rfl,I.turned (t':=s.toks) (fun b o hb e=>eb b o hb e) f0 f1 f3 f4 f5⟩
 self:=fun _ _ _ _ _ st h=>wpAny_pyIter_listiter st h
theorem zQ {P:Program} {w:World} {K:W.Frag} {tg:Expr} (a it:Addr):uI P w K tg (Itt K a) [it] it (fun i h=>h.IsTupleIter it a i) where
 mem:=by simp
 obj:=fun i h st b hb=>by
  have e:b=it:=by simpa using hb
  subst e;obtain⟨o,e,c,d⟩:=st
  exact⟨o,e,fun v z=>by rw[d]at z;cases z⟩
 keep:=fun i h h' st k=>st.at fun o e=>k it Zs o e
 item:=by
  intro X hP hw hK hc i pins s σ H E I hf st hg;subst hP hw hK;obtain⟨xs,x,hq,hx⟩:=hg
  obtain⟨its,rv,p,hz⟩:=I.tuple hq
  obtain⟨u,hu,ru⟩:=rv.get hx
  obtain⟨f0,f1,f2,f3,f4,f5⟩:=hf it Zs
  refine wpAny_pyNext_tuple_item st (show s.heap.IsTuple a its.toArray from p) (x:=u) (by simpa using hu) fun h' st' sb=>?_
  have I1:Inv X pins σ H {s with heap:=h' }:=I.turned (t':=s.toks) (fun b o hb e=>(sb.2 b hb).trans e) f0 f1 f3 f4 f5
  obtain⟨o,e,c,d⟩:=id st'
  exact⟨u,rfl,xJ (s:={s with heap:=h' }) e c d Zd ⟨x,H,I1,ru,⟨rfl,fun ys hy=>by rw[I.tuple_inj hy hq];exact hx⟩,st',fun b hb=>(hf b hb).1⟩⟩
 done:=by
  intro X hP hw hK hc i pins s σ H E I hf st hg;subst hP hw hK;obtain⟨xs,hq,hx⟩:=hg
  obtain⟨its,rv,p,hz⟩:=I.tuple hq
  obtain⟨f0,f1,f2,f3,f4,f5⟩:=hf it Zs
  have hl:=rv.length
  exact wpAny_pyNext_tuple_end (I.ok.hd hc) st (show s.heap.IsTuple a its.toArray from p) (by simp;omega) fun h' eb=>⟨rfl,I.turned (t':=s.toks) (fun b o hb e=>eb b o hb e) f0 f1 f3 f4 f5⟩
 self:=fun _ _ _ _ _ st h=>wpAny_pyIter_tupleiter st h
theorem zR {P:Program} {w:World} {K:W.Frag} {tg:Expr} (it:Addr) (lo:Int) (n:Nat):uI P w K tg (Se lo n) [it] it (fun i h=>IsRangeIter h it (lo+(i:Nat)*1) ((n:Int) - (i:Nat)) 1) where
 mem:=by simp
 obj:=fun i h st b hb=>by
  have e:b=it:=by simpa using hb
  subst e;exact⟨_,st,fun v z=>by
   have z':Data.fields _=Data.cell v:=z
   cases z'⟩
 keep:=fun i h h' st k=>k it Zs _ st
 item:=by
  intro X hP hw hK hc i pins s σ H E I hf st hg;subst hP hw hK;obtain⟨f0,f1,f2,f3,f4,f5⟩:=hf it Zs
  have W:=Walks.range (prog:=X.prog) (w:=X.w) (I.ok.hd hc) it lo 1 n
  refine W.item i s _ _ hg st fun v h' tk hv st' kk=>?_
  obtain⟨t,rfl⟩:=hv
  have I1:Inv X pins σ H {s with heap:=h',toks:=tk }:=I.turned (fun b o hb e=>kk b o (by simpa using hb) e) f0 f1 f3 f4 f5
  refine⟨_,rfl,xJ (s:={s with heap:=h',toks:=tk }) (n:="range_iterator") st' rfl rfl Zd ⟨.int (lo+i),H,I1,⟨t,?_⟩,⟨rfl,rfl⟩,st',fun b hb=>(hf b hb).1⟩⟩
  rw[Int.mul_one]
 done:=by
  intro X hP hw hK hc i pins s σ H E I hf st hg;subst hP hw hK;obtain⟨f0,f1,f2,f3,f4,f5⟩:=hf it Zs
  exact wpAny_pyNext_range_end (I.ok.hd hc) st (by have:n<=i:=hg;omega) fun h' eb=>⟨rfl,I.turned (t':=s.toks) (fun b o hb e=>eb b o hb e) f0 f1 f3 f4 f5⟩
 self:=fun _ _ _ _ _ st h=>wpAny_pyIter_rangeiter st h
end L2
namespace L2
open PySem PySem.Spec PyProof.Rows
section
variable {X:Cx} {tg:Expr}
def Bu (K:W.Frag) (tl:TE):TI:=fun σ H R=>tl σ H fun x H1=>∃a,x=.ref a/\(∃xs,SqL K H1 a xs)/\R (Itl K a) H1
def Sf (K:W.Frag) (tl:TE):TI:=fun σ H R=>tl σ H fun x H1=>∃a,x=.ref a/\(∃xs,SqT K H1 a xs)/\R (Itt K a) H1
theorem Ms {l:Expr} {tl:TE} (hl:PE X l tl):PI X tg l (Bu X.K tl):=by
 intro pins s σ H R I h;refine bX (hl pins s σ H _ I h) fun v s1 ⟨x,H1,I1,r1,q1⟩=>?_
 obtain⟨a,e,⟨xs,hq⟩,q⟩:=q1
 subst e;cases r1
 obtain⟨its,rv,p,hz⟩:=I1.list hq
 refine wpAny_pyIter_list p.isList ?_
 refine⟨s1.heap.objs.size,[s1.heap.objs.size],_,_,H1,rfl,I1.kept (t':=s1.toks) fun b o e=>iV _ e,Dw a _,⟨_,Heap.get?_push_size _ rfl,rfl,rfl⟩,fun b hb=>?_,q⟩
 have e:b=s1.heap.objs.size:=by simpa using hb
 subst e;exact I1.fpOk (cL _) (I1.hok.fresh (cL _))
theorem Sg {l:Expr} {tl:TE} (hl:PE X l tl):PI X tg l (Sf X.K tl):=by
 intro pins s σ H R I h;refine bX (hl pins s σ H _ I h) fun v s1 ⟨x,H1,I1,r1,q1⟩=>?_
 obtain⟨a,e,⟨xs,hq⟩,q⟩:=q1
 subst e;cases r1
 obtain⟨its,rv,p,hz⟩:=I1.tuple hq
 refine wpAny_pyIter_tuple (show s1.heap.IsTuple a its.toArray from p) ?_
 refine⟨s1.heap.objs.size,[s1.heap.objs.size],_,_,H1,rfl,I1.kept (t':=s1.toks) fun b o e=>iV _ e,zQ a _,⟨_,Heap.get?_push_size _ rfl,rfl,rfl⟩,fun b hb=>?_,q⟩
 have e:b=s1.heap.objs.size:=by simpa using hb
 subst e;exact I1.fpOk (cL _) (I1.hok.fresh (cL _))
theorem He {pins:List (Addr × Obj)} {σ:St} {H:Hp} {s:Shared} {R:It->Hp->Prop} {E:Value->Shared->Prop} {lo hi:Int} {t u v:Tok} {tk:Nat} (I:Inv X pins σ H s) (h1:-(2 ^ 62)<=lo) (h2:lo<2 ^ 62) (h3:-(2 ^ 62)<=hi) (h4:hi<2 ^ 62)
  (q:R (Se lo (hi - lo).toNat) H):wpAny (model X.prog X.w) X.A (pyIter (.ref s.heap.objs.size)) (PIE X pins σ tg R) E {s with heap:=s.heap.push {cls:=.type "range",data:=.fields #[.int lo t,.int hi u,.int 1 v] },toks:=tk }:=by
 refine wpAny_pyIter_range (IsRange.new ..) (small_one h1 h2 h3 h4) ?_
 have I1:Inv X pins σ H {s with heap:=s.heap.push {cls:=.type "range",data:=.fields #[.int lo t,.int hi u,.int 1 v] },toks:=tk }:=I.kept fun b o e=>iV _ e
 refine⟨(s.heap.push {cls:=.type "range",data:=.fields #[.int lo t,.int hi u,.int 1 v] }).objs.size,[(s.heap.push {cls:=.type "range",data:=.fields #[.int lo t,.int hi u,.int 1 v] }).objs.size],_,_,H,rfl,
  I1.kept (t':=tk) fun b o e=>iV _ e,zR _ lo (hi - lo).toNat,?_,fun b hb=>?_,q⟩
 ·have e1:lo+((0:Nat):Int)*1=lo:=by simp
  have e2:(((hi - lo).toNat:Nat):Int) - ((0:Nat):Int)=Builtin.Range.rangeSize lo hi 1:=by rw[rangeSize_one];split <;> omega
  show IsRangeIter _ _ (lo+((0:Nat):Int)*1) ((((hi - lo).toNat:Nat):Int) - ((0:Nat):Int)) 1
  rw[e1,e2];exact Heap.get?_push_size _ rfl
 ·have e:b=(s.heap.push {cls:=.type "range",data:=.fields #[.int lo t,.int hi u,.int 1 v] }).objs.size:=by simpa using hb
  subst e;exact I1.fpOk (cL _) (I1.hok.fresh (cL _))
def Qd (ta:TA):TI:=fun σ H R=>ta σ H fun vs H1=>∃j:Int,vs=[.int j]/\-(2 ^ 62)<=j/\j<2 ^ 62/\R (Se 0 j.toNat) H1
theorem Dx {a:Expr} {ta:TA} {p pos:Pos} (hg:Gl X "range") (hm:X.mg "range"=none) (ha:PA X [a] ta) (hs:starEach [a] X.env=[(false,eval a X.env)]:=by rfl):PI X tg (.Call (.Name "range" p) [a] [] pos) (Qd ta):=by
 intro pins s σ H R I h;refine Call_ (oV I hg hm boot_range (PyProof.Rows.callWith_type1 (bX (ha pos pins s σ H _ I h) fun us s1 ⟨vs,H1,I1,r1,q1⟩=>?_) hs rfl))
 obtain⟨j,e,q1,q2,q⟩:=q1
 subst e;cases r1 with
 | cons r rr=>
  cases rr
  obtain⟨t,rfl⟩:=r
  exact call_range_1 (He I1 Zo Zo q1 q2 (by simpa using q))
def Ww (wi:TI) (g:TG) (tb:TS):TS:=fun D σ H=>wi σ H fun J H1=>∃W:Nat->Nat->St->Hp->Prop,(∃m,W 0 m σ H1)/\∀i m σ H,W i m σ H →
 (J.stop i H/\D.nx σ H)∨(J.go i H/\∃N:St->Hp->Prop,(∀ σ' H',N σ' H'->∃m',m'<m/\W (i+1) m' σ' H')/\∀x H',J.yld i H x H'->g x σ H' fun σ2 H2=>tb {D with nx:=N,ct:=N,bk:=D.nx } σ2 H2)
def qN (fp:List Addr) (h:Heap):List (Addr × Obj):=fp.filterMap fun b=>(h.get? b).map fun o=>(b,o)
theorem jK {fp:List Addr} {h:Heap} {b:Addr} {o:Obj} (hb:b∈fp) (e:h.get? b=some o):(b,o)∈qN fp h:=List.mem_filterMap.mpr ⟨b,hb,by rw[e];rfl⟩
theorem Dy {fp:List Addr} {h:Heap} {p:Addr × Obj} (hp:p∈qN fp h):p.1∈fp/\h.get? p.1=some p.2:=by
 obtain⟨b,hb,e⟩:=List.mem_filterMap.mp hp
 cases q:h.get? b with
 | none=>rw[q]at e;cases e
 | some o=>
  rw[q]at e;have e':(b,o)=p:=Option.some.inj e
  subst e';exact⟨hb,q⟩
theorem Inv.pinned {pins:List (Addr × Obj)} {σ:St} {H:Hp} {s:Shared} {fp:List Addr} (I:Inv X pins σ H s) (hf:∀b∈fp,oW X pins H b) (ho:∀b∈fp,∃o,s.heap.get? b=some o/\∀v,o.data≠.cell v):Inv X (pins++qN fp s.heap) σ H s:=
 I.pins_of fun p hp=>(Zma.mp hp).elim (fun z=>I.pin p (List.mem_append_right _ z)) fun z=>by
  obtain⟨hb,e⟩:=Dy z
  obtain⟨f0,f1,f2,_⟩:=hf p.1 hb
  obtain⟨o,e',d⟩:=ho p.1 hb
  rw[e]at e';cases e'
  exact⟨e,f0,f1,f2,d⟩
theorem Inv.unpinned {pins pl:List (Addr × Obj)} {σ:St} {H:Hp} {s:Shared} (I:Inv X (pins++pl) σ H s):Inv X pins σ H s:=I.pins_of fun p hp=>I.pin p (List.mem_append_right _ (List.mem_append_left _ hp))
theorem Sh {iter:Expr} {body:List Stmt} {wi:TI} {g:TG} {tb:TS} {pos:Pos} (hp:PassesOwn (model X.prog X.w) X.A X.env X.xe) (hc:X.calm=true) (hi:PI X tg iter wi) (hg:PG X tg g) (hb:PSs X body tb)
  (hs:∀x,foldedSetIterable iter X.env x=pure x:=by intro _;rfl):PS X (.For tg iter body [] pos) (Ww wi g tb):=by
 intro pins s σ H D I h;refine wpAny_For (bX (hi pins s σ H _ I h) fun v s1 h1=>bX h1 fun itv s2 h2=>?_) hs
 obtain⟨it,fp,tn,J,H2,e,I2,T,st2,f2,W,⟨m0,w0⟩,turn⟩:=h2
 subst e;have stat:∀ {H':Hp},(∀b∈fp,H' b=none)->∀b∈fp,oW X pins H' b:=fun hn b hb=>⟨hn b hb,(f2 b hb).2⟩
 refine codeAny_forLoop_any (fun n s'=>∃i σ' H',Inv X pins σ' H' s'/\tn i s'.heap/\(∀b∈fp,H' b=none)/\W i n σ' H') ?_ m0 ⟨0,σ,H2,I2,st2,fun b hb=>(f2 b hb).1,w0⟩
 rintro n s3 ⟨i,σ3,H3,I3,st3,fr3,w3⟩
 rcases turn i n σ3 H3 w3 with⟨stop,qn⟩ | ⟨go,N,hN,step⟩
 ·refine wpAny_passesOwn hp (bX (T.done X rfl rfl rfl hc i pins s3 σ3 H3 X.xe I3 (stat fr3) st3 stop) fun r s4 ⟨hr,I4⟩=>?_)
  subst hr;exact wpAny_execs_nil ⟨σ3,H3,I4,qn⟩
 ·refine wpAny_passesOwn hp (bX (T.item X rfl rfl rfl hc i pins s3 σ3 H3 X.xe I3 (stat fr3) st3 go) fun r s4 ⟨u,hr,h4⟩=>?_)
  subst hr;refine wpAny_passesOwn hp (bX h4 fun _ s5 ⟨x,H5,I5,r5,y5,st5,fr5⟩=>?_)
  have I5':=I5.pinned (stat fr5) (T.obj _ _ st5)
  refine wpAny_passesOwn hp (bX (hg _ s5 σ3 H5 x u _ I5' r5 (step x H5 y5)) fun _ s6 ⟨σ6,H6,I6,q6⟩=>?_)
  refine wpAny_passesOwn hp (bX (hb _ s6 σ6 H6 _ I6 q6) fun f s7 q7=>?_)
  have again:∀ {σ7:St} {H7:Hp},Inv X (pins++qN fp s5.heap) σ7 H7 s7->N σ7 H7->∃m,m<n/\∃i σ' H',Inv X pins σ' H' s7/\tn i s7.heap/\(∀b∈fp,H' b=none)/\W i m σ' H':=fun {σ7 H7} I7 n7=>by
   obtain⟨m',hm,w7⟩:=hN σ7 H7 n7
   refine⟨m',hm,i+1,σ7,H7,I7.unpinned,T.keep _ _ _ st5 fun b hb o e=>(I7.pin (b,o) (List.mem_append_right _ (List.mem_append_right _ (jK hb e)))).1,fun b hb=>?_,w7⟩
   obtain⟨o,e,d⟩:=T.obj _ _ st5 b hb
   exact(I7.pin (b,o) (List.mem_append_right _ (List.mem_append_right _ (jK hb e)))).2.1
  cases f with
  | next=>obtain⟨σ7,H7,I7,n7⟩:=q7;exact again I7 n7
  | cont=>obtain⟨σ7,H7,I7,n7⟩:=q7;exact again I7 n7
  | brk=>obtain⟨σ7,H7,I7,q7⟩:=q7;exact⟨σ7,H7,I7.unpinned,q7⟩
  | ret v=>obtain⟨x7,σ7,H7,I7,r7,q7⟩:=q7;exact⟨x7,σ7,H7,I7.unpinned,r7,q7⟩
end
theorem Dz {lo:Int} {n:Nat} {g:TG} {tb:TS} {D:pU} {σ:St} {H:Hp} (Pv:Nat->St->Hp->Prop) (h0:Pv 0 σ H)
  (hs:∀i σ H,i<n->Pv i σ H->g (.int (lo+i)) σ H fun σ2 H2=>tb {D with nx:=Pv (i+1),ct:=Pv (i+1),bk:=D.nx } σ2 H2) (hd:∀ σ H,Pv n σ H->D.nx σ H) :
  ∃W:Nat->Nat->St->Hp->Prop,(∃m,W 0 m σ H)/\∀i m σ H,W i m σ H →
   ((Se lo n).stop i H/\D.nx σ H)∨((Se lo n).go i H/\∃N:St->Hp->Prop,(∀ σ' H',N σ' H'->∃m',m'<m/\W (i+1) m' σ' H')/\∀x H',(Se lo n).yld i H x H'->g x σ H' fun σ2 H2=>tb {D with nx:=N,ct:=N,bk:=D.nx } σ2 H2):=by
 refine⟨fun i m σ H=>m=n - i/\i<=n/\Pv i σ H,⟨n,Zs,Nat.zero_le _,h0⟩,?_⟩
 rintro i m σ H ⟨rfl,hi,p⟩
 by_cases hlt:i<n
 ·refine .inr ⟨hlt,Pv (i+1),fun σ' H' p'=>⟨n - (i+1),Zo,rfl,hlt,p'⟩,fun x H' y=>?_⟩
  obtain⟨e,y⟩:=y
  subst e y;exact hs i σ _ hlt p
 ·have e:i=n:=by omega
  subst e;exact .inl ⟨cL _,hd σ H p⟩
end L2
namespace L2
open PySem PySem.Spec PyProof.Rows
abbrev R2:=V->V->Hp->VK->Prop
def OpR (X:Cx) (f:Value->Value->Sem Value) (r:R2):Prop:=
 ∀(pins:List (Addr × Obj)) (s:Shared) (σ:St) (H:Hp) (x y:V) (v u:Value) (Q:VK),Inv X pins σ H s->RelV x v->RelV y u->r x y H Q →
  wpAny (model X.prog X.w) X.A (f v u) (EP X pins σ Q) X.xe s
def UnR (X:Cx) (f:Value->Sem Value) (r:V->Hp->VK->Prop):Prop:=
 ∀(pins:List (Addr × Obj)) (s:Shared) (σ:St) (H:Hp) (x:V) (v:Value) (Q:VK),Inv X pins σ H s->RelV x v->r x H Q →
  wpAny (model X.prog X.w) X.A (f v) (EP X pins σ Q) X.xe s
def CallR (X:Cx) (f:Value) (r:List V->Hp->VK->Prop):Prop:=
 ∀(pins:List (Addr × Obj)) (s:Shared) (σ:St) (H:Hp) (xs:List V) (us:List Value) (Q:VK),Inv X pins σ H s->Vals xs us->r xs H Q →
  wpAny (model X.prog X.w) X.A (call f us) (EP X pins σ Q) X.xe s
def xE (r:R2) (ta tb:TE):TE:=fun σ H Q=>ta σ H fun x H1=>tb σ H1 fun y H2=>r x y H2 Q
def Zr (r:V->Hp->VK->Prop) (ta:TE):TE:=fun σ H Q=>ta σ H fun x H1=>r x H1 Q
def rI (C:Int->Int->Prop) (g:Int->Int->V):R2:=fun x y H Q=>∃i j,x=.int i/\y=.int j/\C i j/\Q (g i j) H
def Qe (g:Int->Int->V):R2:=fun x y H Q=>∃i j,x=.int i/\y=.int j/\Q (g i j) H
def rU (g:Int->V):V->Hp->VK->Prop:=fun x H Q=>∃i,x=.int i/\Q (g i) H
section
variable {X:Cx} {a b c:Expr} {ta tb tc:TE} {pos:Pos}
theorem Si (ha:PE X a ta) (hb:PE X b tb) {pins:List (Addr × Obj)} {s:Shared} {σ:St} {H:Hp} {R:V->V->Hp->Prop} (I:Inv X pins σ H s)
  (h:ta σ H fun x H1=>tb σ H1 fun y H2=>R x y H2) {Q:Value->Shared->Prop} {f:Value->Value->Sem Value}
  (hf:∀v u s2 x y H2,Inv X pins σ H2 s2->RelV x v->RelV y u->R x y H2->wpAny (model X.prog X.w) X.A (f v u) Q X.xe s2) :
  wpAny (model X.prog X.w) X.A (eval a X.env) (fun v s₁=>wpAny (model X.prog X.w) X.A (eval b X.env) (fun u s₂=>wpAny (model X.prog X.w) X.A (f v u) Q X.xe s₂) X.xe s₁) X.xe s:=by
 refine bX (ha pins s σ H _ I h) fun v s1 ⟨x,H1,I1,r1,q1⟩=>?_
 refine bX (hb pins s1 σ H1 _ I1 q1) fun u s2 ⟨y,H2,I2,r2,q2⟩=>?_
 exact hf v u s2 x y H2 I2 r1 r2 q2
theorem Wx {op:Operator} {r:R2} (ho:OpR X (binaryOp op) r) (ha:PE X a ta) (hb:PE X b tb):PE X (.BinOp a op b pos) (xE r ta tb):=by
 intro pins s σ H Q I h;exact wpAny_BinOp (Si ha hb I h fun v u s2 x y H2 I2 rx ry q=>ho pins s2 σ H2 x y v u Q I2 rx ry q)
theorem Wy {op:UnaryOp} {r:V->Hp->VK->Prop} (ho:UnR X (unaryOp op) r) (ha:PE X a ta):PE X (.UnaryOp op a pos) (Zr r ta):=by
 intro pins s σ H Q I h;exact UnaryOp_ (bX (ha pins s σ H _ I h) fun v s1 ⟨x,H1,I1,r1,q1⟩=>ho pins s1 σ H1 x v Q I1 r1 q1)
theorem Zt {f:Value->Value->Sem Value} {C:Int->Int->Prop} {g:Int->Int->Int}
  (rule:∀(i j:Int) (t u:Tok) (s:Shared) (Q:Value->Shared->Prop) (E:Value->Shared->Prop),C i j->Q (.int (g i j) s.toks) {s with toks:=s.toks+1 }->wpAny (model X.prog X.w) X.A (f (.int i t) (.int j u)) Q E s) :
  OpR X f (rI C fun i j=>.int (g i j)):=by
 intro pins s σ H x y v u Q I rx ry h;obtain⟨i,j,rfl,rfl,hc,q⟩:=h
 obtain⟨t,rfl⟩:=rx
 obtain⟨t',rfl⟩:=ry
 exact rule i j t t' s _ _ hc ⟨.int (g i j),H,I.tok _,⟨_,rfl⟩,q⟩
theorem Wz {f:Value->Value->Sem Value} {g:Int->Int->Int}
  (rule:∀(i j:Int) (t u:Tok) (s:Shared) (Q:Value->Shared->Prop) (E:Value->Shared->Prop),Q (.int (g i j) s.toks) {s with toks:=s.toks+1 }->wpAny (model X.prog X.w) X.A (f (.int i t) (.int j u)) Q E s) :
  OpR X f (Qe fun i j=>.int (g i j)):=by
 intro pins s σ H x y v u Q I rx ry h;obtain⟨i,j,rfl,rfl,q⟩:=h
 obtain⟨t,rfl⟩:=rx
 obtain⟨t',rfl⟩:=ry
 exact rule i j t t' s _ _ ⟨.int (g i j),H,I.tok _,⟨_,rfl⟩,q⟩
theorem Sj {f:Value->Value->Sem Value} {g:Int->Int->Bool}
  (rule:∀(i j:Int) (t u:Tok) (s:Shared) (Q:Value->Shared->Prop) (E:Value->Shared->Prop),Q (.bool (g i j)) s->wpAny (model X.prog X.w) X.A (f (.int i t) (.int j u)) Q E s) :
  OpR X f (Qe fun i j=>.bl (g i j)):=by
 intro pins s σ H x y v u Q I rx ry h;obtain⟨i,j,rfl,rfl,q⟩:=h
 obtain⟨t,rfl⟩:=rx
 obtain⟨t',rfl⟩:=ry
 exact rule i j t t' s _ _ ⟨.bl (g i j),H,I,rfl,q⟩
def Mt (i j:Int):Prop:=0<=j/\j<=1000000/\i.natAbs<2 ^ 64
def CMul (i j:Int):Prop:=(-(2 ^ 64)<i/\i<2 ^ 64)∨(-(2 ^ 64)<j/\j<2 ^ 64)
theorem CMul.ok {i j:Int} (h:CMul i j):IntMulOk i j:=by
 rcases h with⟨h1,h2⟩ | ⟨h1,h2⟩
 ·exact .of_left (intBits_le_64 h1 h2)
 ·exact .of_right (intBits_le_64 h1 h2)
theorem Sk:OpR X (binaryOp .Add) (Qe fun i j=>.int (i+j)):=Wz fun _ _ _ _ _ _ _ q=>add_int q
theorem Sl:OpR X (binaryOp .Sub) (Qe fun i j=>.int (i - j)):=Wz fun _ _ _ _ _ _ _ q=>sub_int q
theorem Sm:OpR X (binaryOp .Mult) (rI CMul fun i j=>.int (i*j)):=Zt fun _ _ _ _ _ _ _ hc q=>mul_int q hc.ok
theorem Sn:OpR X (binaryOp .Mod) (rI (fun _ j=>0<j) fun i j=>.int (i % j)):=Zt fun i j _ _ _ _ _ hc q=>by
 have h1:(0:Int)<j:=hc
 exact mod_int' Zo (by rw[Int.fmod_eq_emod_of_nonneg i Zo];exact q)
theorem So:OpR X (binaryOp .Pow) (rI Mt fun i j=>.int (i ^ j.toNat)):=Zt fun _ _ _ _ _ _ _ hc q=>pow_int_small hc.1 hc.2.1 hc.2.2 q
theorem unI {f:Value->Sem Value} {g:Int->Int}
  (rule:∀(i:Int) (t:Tok) (s:Shared) (Q:Value->Shared->Prop) (E:Value->Shared->Prop),Q (.int (g i) s.toks) {s with toks:=s.toks+1 }->wpAny (model X.prog X.w) X.A (f (.int i t)) Q E s) :
  UnR X f (rU fun i=>.int (g i)):=by
 intro pins s σ H x v Q I rx h;obtain⟨i,rfl,q⟩:=h
 obtain⟨t,rfl⟩:=rx
 exact rule i t s _ _ ⟨.int (g i),H,I.tok _,⟨_,rfl⟩,q⟩
theorem Sq:UnR X (unaryOp .USub) (rU fun i=>.int (-i)):=unI fun _ _ _ _ _ q=>neg_int q
end
def scal:V->V->Bool
 | .non,.non=>true | .non,.int _=>true | .int _,.non=>true | .non,.bl _=>true | .bl _,.non=>true | .non,.str _=>true | .str _,.non=>true
 | .int _,.int _=>true | .bl _,.bl _=>true | .str _,.str _=>true | .byt _,.byt _=>true
 | .int _,.str _=>true | .str _,.int _=>true | .bl _,.str _=>true | .str _,.bl _=>true
 | _,_=>false
def rEq:R2:=fun x y H Q=>scal x y=true/\Q (.bl (decide (x=y))) H
def rNe:R2:=fun x y H Q=>scal x y=true/\Q (.bl (!decide (x=y))) H
theorem Bv {i j:Int}:decide (V.int i=V.int j)=(i == j):=by
 rw[Bool.eq_iff_iff];simp
theorem Hf {i j:Bool}:decide (V.bl i=V.bl j)=(i == j):=by
 rw[Bool.eq_iff_iff];simp
theorem Bw {i j:Str}:decide (V.str i=V.str j)=(i == j):=by
 rw[Bool.eq_iff_iff];simp
theorem Bx {i j:Array UInt8}:decide (V.byt i=V.byt j)=(i.toList == j.toList):=by
 rw[Bool.eq_iff_iff];cases i
 cases j
 simp
section
variable {X:Cx} {a b c:Expr} {ta tb tc:TE} {pos:Pos}
theorem bD {pins:List (Addr × Obj)} {σ:St} {H:Hp} {s:Shared} {Q:VK} {k k':Bool} (I:Inv X pins σ H s) (q:Q (.bl k) H) (e:k=k'):EP X pins σ Q (.bool k') s:=by
 subst e;exact⟨.bl k,H,I,rfl,q⟩
theorem Xa:OpR X (compareOp .Eq) rEq:=by
 intro pins s σ H x y v u Q I rx ry h;obtain⟨hs,q⟩:=h
 cases x with
 | non=>
  cases rx
  cases y with
  | non=>cases ry;exact PySem.EqNone.eq_none_none (bD I q Zs)
  | bl j=>cases ry;exact PySem.EqNone.eq_none_bool (bD I q Zs)
  | int j=>obtain⟨t',rfl⟩:=ry;exact PySem.EqNone.eq_none_int (bD I q Zs)
  | str j=>obtain⟨t',rfl⟩:=ry;exact PySem.EqNone.eq_none_str (bD I q Zs)
  | _=>exact absurd (show false=true from hs) Bool.false_ne_true
 | bl i=>
  cases rx
  cases y with
  | non=>cases ry;exact PySem.EqNone.eq_bool_none (bD I q Zs)
  | bl j=>cases ry;exact eq_bool (bD I q Hf)
  | str j=>obtain⟨t',rfl⟩:=ry;exact PySem.EqMixed.eq_bool_str (bD I q Zs)
  | _=>exact absurd (show false=true from hs) Bool.false_ne_true
 | int i=>
  obtain⟨t,rfl⟩:=rx
  cases y with
  | non=>cases ry;exact PySem.EqNone.eq_int_none (bD I q Zs)
  | int j=>obtain⟨t',rfl⟩:=ry;exact eq_int (bD I q Bv)
  | str j=>obtain⟨t',rfl⟩:=ry;exact PySem.EqMixed.eq_int_str (bD I q Zs)
  | _=>exact absurd (show false=true from hs) Bool.false_ne_true
 | str i=>
  obtain⟨t,rfl⟩:=rx
  cases y with
  | non=>cases ry;exact PySem.EqNone.eq_str_none (bD I q Zs)
  | bl j=>cases ry;exact PySem.EqMixed.eq_str_bool (bD I q Zs)
  | int j=>obtain⟨t',rfl⟩:=ry;exact PySem.EqMixed.eq_str_int (bD I q Zs)
  | str j=>obtain⟨t',rfl⟩:=ry;exact eq_str (bD I q Bw)
  | _=>exact absurd (show false=true from hs) Bool.false_ne_true
 | byt i=>
  obtain⟨t,rfl⟩:=rx
  cases y with
  | byt j=>obtain⟨t',rfl⟩:=ry;exact W.eq_bytes (bD I q Bx)
  | _=>exact absurd (show false=true from hs) Bool.false_ne_true
 | _=>cases y <;> exact absurd (show false=true from hs) Bool.false_ne_true
theorem Xb:OpR X (compareOp .NotEq) rNe:=by
 intro pins s σ H x y v u Q I rx ry h;obtain⟨hs,q⟩:=h
 cases x with
 | non=>
  cases rx
  cases y with
  | non=>cases ry;exact PySem.EqNone.ne_none_none (bD I q Zs)
  | bl j=>cases ry;exact PySem.EqNone.ne_none_bool (bD I q Zs)
  | int j=>obtain⟨t',rfl⟩:=ry;exact PySem.EqNone.ne_none_int (bD I q Zs)
  | str j=>obtain⟨t',rfl⟩:=ry;exact PySem.EqNone.ne_none_str (bD I q Zs)
  | _=>exact absurd (show false=true from hs) Bool.false_ne_true
 | bl i=>
  cases rx
  cases y with
  | non=>cases ry;exact PySem.EqNone.ne_bool_none (bD I q Zs)
  | bl j=>cases ry;exact ne_bool (bD I q (congrArg not Hf))
  | str j=>obtain⟨t',rfl⟩:=ry;exact PySem.EqMixed.ne_bool_str (bD I q Zs)
  | _=>exact absurd (show false=true from hs) Bool.false_ne_true
 | int i=>
  obtain⟨t,rfl⟩:=rx
  cases y with
  | non=>cases ry;exact PySem.EqNone.ne_int_none (bD I q Zs)
  | int j=>obtain⟨t',rfl⟩:=ry;exact ne_int (bD I q (congrArg not Bv))
  | str j=>obtain⟨t',rfl⟩:=ry;exact PySem.EqMixed.ne_int_str (bD I q Zs)
  | _=>exact absurd (show false=true from hs) Bool.false_ne_true
 | str i=>
  obtain⟨t,rfl⟩:=rx
  cases y with
  | non=>cases ry;exact PySem.EqNone.ne_str_none (bD I q Zs)
  | bl j=>cases ry;exact PySem.EqMixed.ne_str_bool (bD I q Zs)
  | int j=>obtain⟨t',rfl⟩:=ry;exact PySem.EqMixed.ne_str_int (bD I q Zs)
  | str j=>obtain⟨t',rfl⟩:=ry;exact ne_str (bD I q (congrArg not Bw))
  | _=>exact absurd (show false=true from hs) Bool.false_ne_true
 | byt i=>
  obtain⟨t,rfl⟩:=rx
  cases y with
  | byt j=>obtain⟨t',rfl⟩:=ry;exact W.ne_bytes (bD I q (congrArg not Bx))
  | _=>exact absurd (show false=true from hs) Bool.false_ne_true
 | _=>cases y <;> exact absurd (show false=true from hs) Bool.false_ne_true
theorem Xc:OpR X (compareOp .Lt) (Qe fun i j=>.bl (decide (i<j))):=Sj fun _ _ _ _ _ _ _ q=>lt_int q
theorem Xd:OpR X (compareOp .LtE) (Qe fun i j=>.bl (decide (i<=j))):=Sj fun _ _ _ _ _ _ _ q=>le_int q
theorem Xe:OpR X (compareOp .Gt) (Qe fun i j=>.bl (decide (j<i))):=Sj fun _ _ _ _ _ _ _ q=>gt_int q
theorem Ea:OpR X (compareOp .In) (fun x y H Q=>∃i j,x=.str i/\y=.str j/\Q (.bl (!(Builtin.Str.occurrences j i 0 j.length 1).isEmpty)) H):=by
 intro pins s σ H x y v u Q I rx ry h;obtain⟨i,j,rfl,rfl,q⟩:=h
 obtain⟨t,rfl⟩:=rx
 obtain⟨t',rfl⟩:=ry
 exact in_str (bD I q rfl)
theorem Sr:OpR X (compareOp .Is) (fun x y H Q=>y=.non/\Q (.bl (decide (x=.non))) H):=by
 intro pins s σ H x y v u Q I rx ry h;obtain⟨rfl,q⟩:=h
 cases ry
 refine is_none_gen (bD I q ?_)
 cases x <;> first
  | (cases rx;rfl)
  | (obtain⟨t,rfl⟩:=rx;rfl)
theorem Mu:OpR X (compareOp .IsNot) (fun x y H Q=>y=.non/\Q (.bl (!decide (x=.non))) H):=by
 intro pins s σ H x y v u Q I rx ry h;obtain⟨rfl,q⟩:=h
 cases ry
 refine isnot_none_gen (bD I q ?_)
 cases x <;> first
  | (cases rx;rfl)
  | (obtain⟨t,rfl⟩:=rx;rfl)
theorem uJ (b:Expr) {op:CmpOp} (h:op≠.In:=by decide) (h2:op≠.NotIn:=by decide):behindInMarks op b=false:=by
 have e1:(op == CmpOp.In)=false:=by cases op <;> first | rfl | exact absurd rfl h
 have e2:(op == CmpOp.NotIn)=false:=by cases op <;> first | rfl | exact absurd rfl h2
 cases b <;> simp [behindInMarks,e1,e2]
theorem Mv {op:CmpOp} {r:R2} (ho:OpR X (compareOp op) r) (ha:PE X a ta) (hb:PE X b tb) (hm:behindInMarks op b=false):PE X (.Compare a [op] [b] pos) (xE r ta tb):=by
 intro pins s σ H Q I h;exact wpAny_Compare1 (Si ha hb I h fun v u s2 x y H2 I2 rx ry q=>ho pins s2 σ H2 x y v u Q I2 rx ry q) hm
def By (t:TE):TT:=fun σ H Q=>t σ H fun x H'=>∃k,x=.bl k/\Q k H'
theorem Mw {op:CmpOp} {r:R2} (ho:OpR X (compareOp op) r) (ha:PE X a ta) (hb:PE X b tb) (hm:behindInMarks op b=false):PT X (.Compare a [op] [b] pos) (By (xE r ta tb)):=by
 intro pins s σ H Q I h;refine wpAny_isTrue_Compare1 (bX (ha pins s σ H _ I h) fun v s1 ⟨x,H1,I1,r1,q1⟩=>bX (hb pins s1 σ H1 _ I1 q1) fun u s2 ⟨y,H2,I2,r2,q2⟩=>
  bX (ho pins s2 σ H2 x y v u _ I2 r1 r2 q2) fun c s3 ⟨z,H3,I3,r3,k,e,q3⟩=>?_) hm
 subst e;cases r3
 exact wpAny_truthy_bool ⟨H3,I3,q3⟩
def uK (r r':R2) (ta tb tc:TE):TE:=fun σ H Q=>ta σ H fun x H1=>tb σ H1 fun y H2=>r x y H2 fun z H3=>∃k,z=.bl k ∧
 (if k=true then tc σ H3 fun w' H4=>r' y w' H4 Q else Q (.bl false) H3)
theorem Hg {op op':CmpOp} {r r':R2} (ho:OpR X (compareOp op) r) (ho':OpR X (compareOp op') r') (ha:PE X a ta) (hb:PE X b tb) (hc:PE X c tc)
  (hm:lastMarks [op,op'] [b,c]=false:=by with_unfolding_all rfl):PE X (.Compare a [op,op'] [b,c] pos) (uK r r' ta tb tc):=by
 intro pins s σ H Q I h;refine Compare_chain (bX (ha pins s σ H _ I h) fun v s1 ⟨x,H1,I1,r1,q1⟩=>chain_link (bX (hb pins s1 σ H1 _ I1 q1) fun u s2 ⟨y,H2,I2,r2,q2⟩=>
  bX (ho pins s2 σ H2 x y v u _ I2 r1 r2 q2) fun d s3 ⟨z,H3,I3,r3,k,e,q3⟩=>?_)) hm
 subst e;cases r3
 refine wpAny_truthy_bool ?_
 cases k with
 | false=>exact ite_ff ⟨.bl false,H3,I3,rfl,q3⟩
 | true=>exact ite_tt (chain_last (bX (hc pins s3 σ H3 _ I3 q3) fun w' s4 ⟨z',H4,I4,r4,q4⟩=>ho' pins s4 σ H4 y z' u w' Q I4 r2 r4 q4))
theorem Hh {op op':CmpOp} {r r':R2} (ho:OpR X (compareOp op) r) (ho':OpR X (compareOp op') r') (ha:PE X a ta) (hb:PE X b tb) (hc:PE X c tc)
  (hm:lastMarks [op,op'] [b,c]=false:=by with_unfolding_all rfl):PT X (.Compare a [op,op'] [b,c] pos) (By (uK r r' ta tb tc)):=by
 intro pins s σ H Q I h;refine isTrue_chain (bX (ha pins s σ H _ I h) fun v s1 ⟨x,H1,I1,r1,q1⟩=>test_link (bX (hb pins s1 σ H1 _ I1 q1) fun u s2 ⟨y,H2,I2,r2,q2⟩=>
  bX (ho pins s2 σ H2 x y v u _ I2 r1 r2 q2) fun d s3 ⟨z,H3,I3,r3,k,e,q3⟩=>?_)) hm
 subst e;cases r3
 refine wpAny_truthy_bool ?_
 cases k with
 | false=>
  obtain⟨k',e',q'⟩:=q3
  cases e'
  exact ite_ff ⟨H3,I3,q'⟩
 | true=>
  refine ite_tt (test_last (bX (hc pins s3 σ H3 _ I3 q3) fun w' s4 ⟨z',H4,I4,r4,q4⟩=>bX (ho' pins s4 σ H4 y z' u w' _ I4 r2 r4 q4) fun d' s5 ⟨z2,H5,I5,r5,k2,e2,q5⟩=>?_))
  subst e2;cases r5
  exact wpAny_truthy_bool ⟨H5,I5,q5⟩
theorem oX:(sizeLine:Nat)<2 ^ 63:=by rw[sizeLine_eq];decide
theorem zS:OpR X (binaryOp .Add) (fun x y H Q=>∃i j,x=.str i/\y=.str j/\i.length+j.length<=sizeLine/\Q (.str (i++j)) H):=by
 intro pins s σ H x y v u Q I rx ry h;obtain⟨i,j,rfl,rfl,hz,q⟩:=h
 obtain⟨t,rfl⟩:=rx
 obtain⟨t',rfl⟩:=ry
 exact add_str (fun t' tk=>⟨.str (i++j),H,I.tok _,⟨_,rfl⟩,q⟩) hz
theorem kN {x:V} {us:List Value} (r:Vals [x] us):∃u,us=[u]/\RelV x u:=by
 cases r with
 | cons r1 r2=>cases r2;exact⟨_,rfl,r1⟩
theorem Qg {x y:V} {us:List Value} (r:Vals [x,y] us):∃u w',us=[u,w']/\RelV x u/\RelV y w':=by
 cases r with
 | cons r1 r2=>
  cases r2 with
  | cons r3 r4=>cases r4;exact⟨_,_,rfl,r1,r3⟩
theorem Eb (hc:X.calm=true):CallR X (.builtin "max") (fun xs H Q=>∃i j,xs=[.int i,.int j]/\Q (.int (if j > i then j else i)) H):=by
 intro pins s σ H xs us Q I r h;obtain⟨i,j,rfl,q⟩:=h
 obtain⟨u,w',rfl,⟨t,rfl⟩,⟨t',rfl⟩⟩:=Qg r
 refine max_two_ints (I.ok.hd hc) fun h' tk k=>⟨_,H,I.kept k,?_,q⟩
 by_cases hj:j > i
 ·rw[if_pos hj,if_pos hj];exact⟨_,rfl⟩
 ·rw[if_neg hj,if_neg hj];exact⟨_,rfl⟩
theorem Ec (hc:X.calm=true):CallR X (.builtin "min") (fun xs H Q=>∃i j,xs=[.int i,.int j]/\Q (.int (if j<i then j else i)) H):=by
 intro pins s σ H xs us Q I r h;obtain⟨i,j,rfl,q⟩:=h
 obtain⟨u,w',rfl,⟨t,rfl⟩,⟨t',rfl⟩⟩:=Qg r
 refine min_two_ints (I.ok.hd hc) fun h' tk k=>⟨_,H,I.kept k,?_,q⟩
 by_cases hj:j<i
 ·rw[if_pos hj,if_pos hj];exact⟨_,rfl⟩
 ·rw[if_neg hj,if_neg hj];exact⟨_,rfl⟩
theorem Ed:CallR X (.type "int") (fun xs H Q=>(∃i,xs=[.int i]/\Q (.int i) H)∨∃k,xs=[.bl k]/\Q (.int (if k then 1 else 0)) H):=by
 intro pins s σ H xs us Q I r h;rcases h with⟨i,rfl,q⟩ | ⟨k,rfl,q⟩
 ·obtain⟨u,rfl,t,rfl⟩:=kN r
  exact call_int_int ⟨.int i,H,I,⟨_,rfl⟩,q⟩
 ·obtain⟨u,rfl,r1⟩:=kN r
  cases r1
  exact call_int_bool ⟨.int (if k then 1 else 0),H,I.tok _,⟨_,rfl⟩,q⟩
theorem uL:CallR X (.type "str") (fun xs H Q=>∃i,xs=[.int i]/\i.natAbs.log2<1920/\Q (.str (toString i)) H):=by
 intro pins s σ H xs us Q I r h;obtain⟨i,rfl,hz,q⟩:=h
 obtain⟨u,rfl,t,rfl⟩:=kN r
 exact PySem.P.str_of_int hz ⟨.str _,H,I.tok _,⟨_,rfl⟩,q⟩
end
end L2
namespace L2
open PySem PySem.Spec PyProof.Rows
structure ObjM (h:Heap) (x dx C:Addr) (mA:Str->Option Value):Prop where
 obj:h.get? x=some (W.instObj C dx)
 ns:h.Ns1 dx mA
 ne:dx≠x
theorem Ee {h:Heap} {dx:Addr} {mA:Str->Option Value} (n:h.Ns1 dx mA):∃od,h.get? dx=some od/\∀name,W.lookIn name od=some (mA name):=by
 obtain⟨o,es,ep,ho,hd,hk,_,hm⟩:=n
 refine⟨o,ho,fun name=>?_⟩
 have e:=hm name
 unfold nsFind findBy at e;rw[<- Array.find?_toList]at e;unfold W.lookIn;rw[hd];dsimp only;split
 ·rename_i y q
  rw[q]at e;exact congrArg some e
 ·rename_i q
  rw[q]at e;have a:es.toList.any (·.refKey)=false:=by
   rw[List.any_eq_false];intro y hy;obtain⟨z,t,hkey⟩:=hk y (Array.mem_toList_iff.mp hy)
   simp [DictEntry.refKey,hkey]
  have a':¬ es.toList.any (·.refKey)=true:=by rw[a];exact Bool.false_ne_true
  rw[if_neg a'];exact congrArg some e
theorem ObjM.look {h:Heap} {x dx C:Addr} {mA:Str->Option Value} (I:ObjM h x dx C mA):∃od,W.InstAt h x (W.instObj C dx) C (some od)/\∀name,W.lookIn name od=some (mA name):=
 let ⟨od,ho,hl⟩:=Ee I.ns
 ⟨od,⟨I.obj,rfl,rfl,ho⟩,hl⟩
theorem RelO.some_of {v:V} {o:Option Value} (r:RelO (some v) o):∃u,o=some u/\RelV v u:=by
 cases o with
 | none=>exact(show False from r).elim
 | some u=>exact⟨u,rfl,r⟩
section
variable {P:Program} {w:World} {H H':Hp} {h h':Heap} {a C dx:Addr} {fs fs':List (Str × V)}
theorem Mx (hok:HOk P w H h) (e:H a=some (.ins C dx fs)):∃mA,ObjM h a dx C mA/\(∀f,RelO (fs.lookup f) (mA f))/\PySem.Within mA (fs.map (·.1))/\fs.length<=1000/\H dx=some (.own a):=by
 obtain⟨d,z,ne,ob,mA,n,r,q⟩:=(show ObjOk P w H h a (.ins C dx fs) from hok a _ e)
 exact⟨mA,⟨ob,n,ne⟩,r,q,z,d⟩
end
structure Cls (K:W.Frag) (C:Addr):Prop where
 pg:W.plainGet K C Str.empty=true
 hd:W.hasDictIn K C=true
 po:W.plainOver K C=true
 sa:W.findIn K (.ref C) "__setattr__"=some (some (.builtin "object.__setattr__"))
theorem Cls.get {K:W.Frag} {C:Addr} (c:Cls K C) (f:Str):W.plainGet K C f=true:=c.pg
section
variable {X:Cx} {pins:List (Addr × Obj)} {σ:St} {H:Hp} {s:Shared} {A:Around} {E:Value->Shared->Prop} {Q:Value->Shared->Prop} {c:Value} {b:Bool}
inductive nN (K:W.Frag) (H:Hp):V->Value->Prop where
 | non:nN K H .non (.type "NoneType")
 | bl (x:Bool):nN K H (.bl x) (.type "bool")
 | int (i:Int):nN K H (.int i) (.type "int")
 | str (x:Str):nN K H (.str x) (.type "str")
 | flt (x:UInt64):nN K H (.flt x) (.type "float")
 | lst {a:Addr} {xs:List V} (e:H a=some (.lst xs)):nN K H (.ref a) (.type "list")
 | frz {a:Addr} {o:Obj} {xs:List V} (e:H a=some (.frz o (.lst xs))):nN K H (.ref a) (.type "list")
 | tup {a:Addr} {xs:List V} (e:H a=some (.tup xs)):nN K H (.ref a) (.type "tuple")
 | dK {a:Addr} {kvs:List (dQ × V)} (e:H a=some (.dK kvs)):nN K H (.ref a) (.type "dict")
 | dT {a:Addr} {kvs:List (List dQ × V)} (e:H a=some (.dT kvs)):nN K H (.ref a) (.type "dict")
 | ins {a C dx:Addr} {fs:List (Str × V)} (e:H a=some (.ins C dx fs)) (cl:Cls K C) (ha:W.findIn K (.ref C) "__class__"=some (some (.builtin "object.__class__")))
   (hn:W.specialIn K (.builtin "object.__class__") "__get__"=some (some (.builtin "getset_descriptor.__get__"))) (htk:W.takesIn K (.builtin "object.__class__")=some true)
   (hm:W.mroIn K C (.type "object")=some true):nN K H (.ref a) (.ref C)
theorem Ef {x:V} {u t:Value} (I:Inv X pins σ H s) (rx:RelV x u) (ty:nN X.K H x t) (e:W.kitOne X.K t c=some b) (h:∀tk,Q (.bool b) {s with toks:=tk }) :
  wpAny (model X.prog X.w) A (call (.builtin "isinstance") [u,c]) Q E s:=by
 cases ty with
 | non=>cases (show u=Value.none from rx);exact W.kia_one W.kitx_none I.kIn True.intro e (fun z=>nomatch z) h
 | bl y=>cases (show u=Value.bool y from rx);exact W.kia_one W.kitx_bool I.kIn True.intro e (fun z=>nomatch z) h
 | int i=>obtain⟨t,q⟩:=(show ∃t,u=Value.int i t from rx);cases q;exact W.kia_one W.kitx_int I.kIn True.intro e (fun z=>nomatch z) h
 | str y=>obtain⟨t,q⟩:=(show ∃t,u=Value.str y t from rx);cases q;exact W.kia_one W.kitx_str I.kIn True.intro e (fun z=>nomatch z) h
 | flt y=>obtain⟨t,q⟩:=(show ∃t,u=Value.float y t from rx);cases q;exact W.kia_one W.kitx_float I.kIn True.intro e (fun z=>nomatch z) h
 | @lst a xs ea=>
  cases (show u=Value.ref a from rx)
  obtain⟨_,_,n,_,h1⟩:=(show ObjOk X.prog X.w H s.heap a (.lst xs) from I.hok a _ ea)
  exact W.kia_one W.kitx_list I.kIn ⟨_,h1,rfl⟩ e (fun z=>nomatch z) h
 | @frz a ob xs ea=>
  cases (show u=Value.ref a from rx)
  obtain⟨_,_,_,n,_,h1⟩:=(show ObjOk X.prog X.w H s.heap a (.frz ob (.lst xs)) from I.hok a _ ea)
  exact W.kia_one W.kitx_list I.kIn ⟨_,h1,rfl⟩ e (fun z=>nomatch z) h
 | @tup a xs ea=>
  cases (show u=Value.ref a from rx)
  obtain⟨_,_,_,p⟩:=(show ObjOk X.prog X.w H s.heap a (.tup xs) from I.hok a _ ea)
  obtain⟨o,h1,h2,_⟩:=p
  exact W.kia_one W.kitx_tuple I.kIn ⟨o,h1,h2⟩ e (fun z=>nomatch z) h
 | @dK a kvs ea=>
  cases (show u=Value.ref a from rx)
  obtain⟨_,_,vs,_,p⟩:=(show ObjOk X.prog X.w H s.heap a (.dK kvs) from I.hok a _ ea)
  obtain⟨o,es,ep,h1,h2,_⟩:=p
  exact W.kia_one W.kitx_dict I.kIn ⟨o,h1,h2.1⟩ e (fun z=>nomatch z) h
 | @dT a kvs ea=>
  cases (show u=Value.ref a from rx)
  obtain⟨_,_,xs,_,o,es,ep,h1,h2,_⟩:=(show ObjOk X.prog X.w H s.heap a (.dT kvs) from I.hok a _ ea)
  exact W.kia_one W.kitx_dict I.kIn ⟨o,h1,h2.1⟩ e (fun z=>nomatch z) h
 | @ins a C dx fs ea cl ha hn htk hm=>
  cases (show u=Value.ref a from rx)
  obtain⟨mA,O,_⟩:=Mx I.hok ea
  obtain⟨od,J,_⟩:=O.look
  exact W.kia_one (W.kitx_own (cl.get _) cl.hd ha hn htk hm) I.kIn J e (fun z=>nomatch z) h
end
end L2
namespace L2
open PySem PySem.Spec PyProof.Rows
structure Room (k:Nat) (A:Around):Prop where
 hd:A.handled=none
 dp:A.depth+3*k+5<recursionLimit
 un:A.units+16*k+200<cLine
theorem Room.mono {j k:Nat} {A:Around} (r:Room k A) (h:j<=k):Room j A:=⟨r.hd,by have:=r.dp;omega,by have:=r.un;omega⟩
theorem Room.deeper {k:Nat} {A:Around} (r:Room (k+1) A) (env:Env):Room k (A.deeper env):=
 ⟨r.hd,by have:=r.dp;show A.depth+1+3*k+5<_;omega,by have:=r.un;show A.units+3+16*k+200<_;omega⟩
theorem Room.depth {k:Nat} {A:Around} (r:Room k A):A.depth<recursionLimit:=by have:=r.dp;omega
theorem Room.units {k:Nat} {A:Around} (r:Room k A):A.units+64<cLine:=by have:=r.un;omega
theorem Room.units0 {k:Nat} {A:Around} (r:Room k A):A.units<cLine:=by have:=r.un;omega
def xK:TA:=fun _ H Q=>Q [] H
def kC (ta:TE) (tr:TA):TA:=fun σ H Q=>ta σ H fun x H1=>tr σ H1 fun xs H2=>Q (x::xs) H2
section
variable {X:Cx} {e:Expr} {es:List Expr} {te:TE} {t:TA} {pos:Pos}
theorem uM:PA X [] xK:=fun _ _ _ _ H Q I h=>Calls.spliced_nil ⟨[],H,I,.nil,h⟩
theorem uN (ha:PE X e te) (hr:PA X es t) (hs:starEach (e::es) X.env=(false,eval e X.env)::starEach es X.env:=by rfl):PA X (e::es) (kC te t):=by
 intro pos pins s σ H Q I h;rw[hs];show wpAny _ _ (spliced ((false,eval e X.env)::backTo pos (starEach es X.env))) _ _ s
 refine Calls.spliced_cons (bX (ha pins s σ H _ I h) fun u s1 ⟨x,H1,I1,r1,q1⟩=>?_)
 exact bX (hr pos pins s1 σ H1 _ I1 q1) fun us s2 ⟨xs,H2,I2,r2,q2⟩=>⟨x::xs,H2,I2,.cons r1 r2,q2⟩
def Xf (t:TA):TE:=fun σ H Q=>t σ H fun xs H1=>xs.length<=sizeLine/\∀p,H1 p=none->Q (.ref p) (aJ H1 p (.lst xs))
theorem Ss (h:PA X es t):PE X (.List es pos) (Xf t):=by
 intro pins s σ H Q I hq;refine wpAny_List_spliced (bX (h pos pins s σ H _ I hq) fun us s1 ⟨xs,H1,I1,r,z,q⟩=>⟨by rw[<- r.length];exact z,?_⟩)
 have hf:H1 s1.heap.objs.size=none:=I1.hok.fresh (cL _)
 refine⟨.ref s1.heap.objs.size,aJ H1 s1.heap.objs.size (.lst xs),I1.laid (t':=s1.toks) (fun b u e=>iV _ e) (cL _) ?_,rfl,q _ hf⟩
 exact⟨z,us,0,r,Heap.get?_push_size _ rfl⟩
end
abbrev Sp:=List V->Hp->VK->XK->Prop
abbrev Hi:=List Env->Hp->Shared->XK->Value->Shared->Prop
structure Eg (P:Program) (w:World) (K:W.Frag) (mg:Str->Option Value) (base:Heap) (A:Around) (outer:List Env) (s:Shared) (H:Hp):Prop where
 frames:A.frames=some outer
 mod:Mod K mg base
 bs:∀b o,base.get? b=some o->s.heap.get? b=some o/\H b=none
 bsz:base.objs.size<=s.heap.objs.size
 funs:s.heap.FunFrames base outer
 frf:∀b∈kI outer,H b=none
 hok:HOk P w H s.heap
 bare:AllBare s.gens
def CE (outer:List Env) (P:Program) (w:World) (H:Hp) (s:Shared) (Q:VK) (u:Value) (s':Shared):Prop:=
 ∃v H',s'.os=s.os/\AllBare s'.gens/\Un (kI outer) [] H H' s.heap s'.heap/\HOk P w H' s'.heap/\RelV v u/\Q v H'
def CR (CX:Hi) (outer:List Env) (P:Program) (w:World) (H:Hp) (s:Shared) (Q:VK) (E:XK) (r:Result) (s':Shared):Prop:=
 match r with
 | .ok (.ret u)=>CE outer P w H s Q u s'
 | .ok _=>False
 | .error e=>CX outer H s E e s'
structure pV (P:Program) (w:World) (K:W.Frag) (mg:Str->Option Value) (base:Heap) (CX:Hi) (k:Nat) (f:Addr) (fd:FuncData) (ps:List Str) (sp:Sp):Prop where
 len:∀vs H Q E,sp vs H Q E->vs.length=ps.length
 run:∀(A:Around) (outer:List Env) (s:Shared) (H:Hp) (args:Args) (us:List Value) (vs:List V) (Q:VK) (E:XK),Room k A->Eg P w K mg base A outer s H->BindsTo s fd args (ps.zip us)->Vals vs us->sp vs H Q E →
  codeAny (model P w) A (.call (.ref f) args) (CR CX outer P w H s Q E) s
section
variable {X:Cx} {pins:List (Addr × Obj)} {σ:St} {H:Hp} {s s':Shared}
theorem Inv.env0 (I:Inv X pins σ H s):Eg X.prog X.w X.K X.mg X.base X.A X.stack s H:=
 ⟨I.ok.frames,I.ok.mod,I.bs,kB I.ok.bsz I.sz,I.stack,I.stkFree,I.hok,I.bare⟩
theorem Inv.after {Q:VK} {u:Value} (I:Inv X pins σ H s) (h:CE X.stack X.prog X.w H s Q u s'):EP X pins σ Q u s':=by
 obtain⟨v,H',os,bare,un,hok,r,q⟩:=h
 obtain⟨hh,g,d,t,os'⟩:=s'
 obtain rfl:os'=s.os:=os
 exact⟨v,H',I.call (h':=hh) (g':=g) (d':=d) (t':=t) (ch:=[]) un hok bare (fun b z=>absurd z Zs),r,q⟩
end
def Xg (sp:Sp) (dvs:List V) (E:XK) (t:TA):TE:=fun σ H Q=>t σ H fun vs H1=>sp (vs++dvs) H1 Q E
def Binds (K:W.Frag) (fd:FuncData) (ps:List Str) (ds:List Value):Prop:=
 ∀(s:Shared) (us:List Value),K.In s.heap->(us++ds).length=ps.length->BindsTo s fd ⟨us,[]⟩ (ps.zip (us++ds))
theorem Binds.all {K:W.Frag} {fd:FuncData} {ps:List Str} (h:∀us:List Value,us.length=ps.length->bindArgs fd ⟨us,[]⟩=pure (ps.zip us)):Binds K fd ps []:=fun s us _ hl=>by
 rw[List.append_nil]at hl ⊢;exact .of_eq (h us hl)
def zT (CX:Hi) (X:Cx) (E:XK):Prop:=∀(pins:List (Addr × Obj)) (σ:St) (H:Hp) (s:Shared) (e:Value) (s':Shared),Inv X pins σ H s->CX X.stack H s E e s'->X.xe e s'
section
variable {X:Cx} {CX:Hi} {k:Nat} {f C:Addr} {fd:FuncData} {ps:List Str} {sp:Sp} {dvs:List V} {ds:List Value} {E:XK} {x m:Str} {p pos apos:Pos} {e o:Expr} {es:List Expr} {ta:TE} {t:TA}
theorem Su {pins:List (Addr × Obj)} {σ:St} {H:Hp} {s:Shared} {Q:VK} {us:List Value} {vs:List V} (F:pV X.prog X.w X.K X.mg X.base CX k f fd ps sp) (hr:Room k X.A) (hb:Binds X.K fd ps ds) (hd:Vals dvs ds) (hx:zT CX X E)
  (I:Inv X pins σ H s) (r:Vals vs us) (h:sp (vs++dvs) H Q E):wpAny (model X.prog X.w) X.A (call (.ref f) us) (EP X pins σ Q) X.xe s:=by
 have r2:Vals (vs++dvs) (us++ds):=r.append hd
 have hl:(us++ds).length=ps.length:=by rw[<- r2.length];exact F.len _ _ _ _ h
 refine wpAny_call (codeAny_mono (F.run X.A X.stack s H ⟨us,[]⟩ (us++ds) (vs++dvs) Q E hr I.env0 (hb s us I.kIn hl) r2 h) fun r s' hq=>?_)
 cases r with
 | error e=>exact hx pins σ H s e s' I hq
 | ok fl=>
  cases fl with
  | ret u=>exact I.after hq
  | next=>exact False.elim hq
  | brk=>exact False.elim hq
  | cont=>exact False.elim hq
theorem Mz (F:pV X.prog X.w X.K X.mg X.base CX k f fd ps sp) (hr:Room k X.A) (hg:Gl X x) (hm:X.mg x=some (.ref f)) (hk:W.keepIn X.K (.ref f)=true) (hb:Binds X.K fd ps ds) (hd:Vals dvs ds) (hx:zT CX X E)
  (ha:PA X (e::es) t) (hdb:(x == ("__debug__":Str))=false:=by decide) (he:starEach (e::es) X.env=(false,eval e X.env)::starEach es X.env:=by rfl) (hpl:(backTo pos (starEach es X.env)).any (·.1)=false:=by rfl) :
  PE X (.Call (.Name x p) (e::es) [] pos) (Xg sp dvs E t):=by
 intro pins s σ H Q I h;refine wpAny_Call_Name_kw (jI I hg hm ?_ hdb)
 refine W.callWith_K (h₀:=X.base) I.ok.mod.kin hk (bX (ha pos pins s σ H _ I h) fun us s1 ⟨vs,H1,I1,r,q⟩=>⟨I1.kIn,?_⟩) he hpl
 exact Su F hr hb hd hx I1 r q
end
structure aL (N P:List Str) (sc:Scope):Prop where
 kind:sc.kind=.function
 co:sc.isCoroutine=false
 gen:sc.isGenerator=false
 nd:N.Nodup
 pre:N.take P.length=P
 par:∀x∈P,sc.names.lookup x=some .local∨sc.names.lookup x=some .cell
 nofree:∀y∈sc.names,y.2≠.free
theorem sP {kindOf:Str->Option NameKind} {x:Str}:∀ {binds:List (Str × Value)} {m:Str->Option Value},(∀v,(x,v)∉binds)->bindL kindOf binds m x=m x
 | [],_,_=>rfl
 | (n,v)::r,m,h=>by
  unfold bindL;rw[sP fun w hw=>h w (gT _ hw)]
  split
  ·have:x≠n:=by rintro rfl;exact h v iW
   simp [this]
  ·rfl
theorem sQ {kindOf:Str->Option NameKind} {x:Str}:∀ {binds:List (Str × Value)} {m:Str->Option Value},(∀v,(x,v)∉binds)->bindC kindOf binds m x=m x
 | [],_,_=>rfl
 | (n,v)::r,m,h=>by
  unfold bindC;rw[sQ fun w hw=>h w (gT _ hw)]
  split
  ·rfl
  ·have:x≠n:=by rintro rfl;exact h v iW
   simp [this]
theorem sR {kindOf:Str->Option NameKind} {x:Str} {v:Value}:∀ {P:List Str} {vs:List Value} {i:Nat} {m:Str->Option Value},P.Nodup->P[i]?=some x->vs[i]?=some v->kindOf x=some .local →
  bindL kindOf (P.zip vs) m x=some v
 | [],_,_,_,_,h,_,_=>by simp at h
 | _::_,[],_,_,_,_,h,_=>by simp at h
 | p::P,w::vs,0,m,nd,h1,h2,hk=>by
  simp at h1 h2;subst h1;subst h2
  show bindL kindOf ((p,w)::P.zip vs) m p=_
  unfold bindL;rw[sP fun v hv=>(List.nodup_cons.mp nd).1 (List.of_mem_zip hv).1,if_pos hk]
  simp
 | p::P,w::vs,i+1,m,nd,h1,h2,hk=>by
  show bindL kindOf ((p,w)::P.zip vs) m x=_
  unfold bindL;exact sR (i:=i) (List.nodup_cons.mp nd).2 (by simpa using h1) (by simpa using h2) hk
theorem sU {kindOf:Str->Option NameKind} {x:Str} {v:Value}:∀ {P:List Str} {vs:List Value} {i:Nat} {m:Str->Option Value},P.Nodup->P[i]?=some x->vs[i]?=some v->kindOf x≠some .local →
  bindC kindOf (P.zip vs) m x=some v
 | [],_,_,_,_,h,_,_=>by simp at h
 | _::_,[],_,_,_,_,h,_=>by simp at h
 | p::P,w::vs,0,m,nd,h1,h2,hk=>by
  simp at h1 h2;subst h1;subst h2
  show bindC kindOf ((p,w)::P.zip vs) m p=_
  unfold bindC;rw[sQ fun v hv=>(List.nodup_cons.mp nd).1 (List.of_mem_zip hv).1,if_neg hk]
  simp
 | p::P,w::vs,i+1,m,nd,h1,h2,hk=>by
  show bindC kindOf ((p,w)::P.zip vs) m x=_
  unfold bindC;exact sU (i:=i) (List.nodup_cons.mp nd).2 (by simpa using h1) (by simpa using h2) hk
def start (N:List Str) (vs:List V):St:=vs.map some++List.replicate (N.length - vs.length) none
def kJ (CX:Hi) (P:Program) (w:World) (K:W.Frag) (mg:Str->Option Value) (base:Heap) (N:List Str) (qual:Str) (scope:Scope) (f:Addr) (cd:Value) (A:Around) (outer:List Env) (s:Shared) (H:Hp) (E:XK):Cx where
 prog:=P
 w:=w
 K:=K
 mg:=mg
 base:=base
 A:=A.deeper (envOfC qual scope s.heap.objs.size f cd)
 N:=N
 s₀:=s
 H₀:=H
 env:=envOfC qual scope s.heap.objs.size f cd
 outer:=outer
 stack:=envOfC qual scope s.heap.objs.size f cd::outer
 ex:=[]
 calm:=true
 fn:=fun _=>true
 pn:=[]
 xe:=fun e s'=>wpAny (model P w) (A.deeper (envOfC qual scope s.heap.objs.size f cd)) (leaving (envOfC qual scope s.heap.objs.size f cd) e) (fun _ s''=>CX outer H s E e s'') (fun e' s''=>CX outer H s E e' s'') s'
theorem xL {sc:Scope} {n:Nat} {x:Str} (h:sc.names.lookup x=some .cell):∃c,(cellsFrom n sc.names []).lookup x=some c:=by
 have q:=W.cellsFrom_some sc.names n [] (.inl h)
 exact Option.isSome_iff_exists.mp q
theorem sV {CX:Hi} {P:Program} {w:World} {K:W.Frag} {mg:Str->Option Value} {base:Heap} {N ps:List Str} {qual:Str} {scope:Scope} {f:Addr} {cd:Value} {A:Around} {outer:List Env} {s s1:Shared} {H:Hp} {E:XK} {us:List Value} {vs:List V}
  (S:aL N ps scope) (hd:A.handled=none) (e0:Eg P w K mg base A outer s H) (hl:vs.length=ps.length) (r:Vals vs us)
  (x:InCallC s s.heap.objs.size (bindL (envOfC qual scope s.heap.objs.size f cd).kindOf (ps.zip us) fun _=>none) (cellsFrom (s.heap.objs.size+1) scope.names []) (bindC (envOfC qual scope s.heap.objs.size f cd).kindOf (ps.zip us) fun _=>none) s1) :
  Inv (kJ CX P w K mg base N qual scope f cd A outer s H E) [] (start N vs) H s1:=by
 have hpl:ps.length<=N.length:=by have:=congrArg List.length S.pre;rw[fS]at this;omega
 obtain⟨h1,tk,rfl,hk⟩:=x.done
 have noA:∀b:Addr,b∉(kJ CX P w K mg base N qual scope f cd A outer s H E).ex:=fun b z=>absurd (show b∈([]:List Addr) from z) Zs
 refine⟨⟨e0.mod,S.kind,rfl,rfl,cL _,fun y z c h1 h2=>?_,fun y hy=>?_,fun y c _ h=>?_,fun _=>hd,Around.frames_deeper e0.frames,.inr ⟨rfl,rfl⟩,fun b z=>absurd z (noA b),e0.bs,e0.bsz,fun b _ _=>noA b,fun b z=>absurd z (noA b),e0.funs,e0.frf⟩,
  rfl,e0.bare,Un.kept hk,⟨_,x.toInCall.ns,fun i y v h1 h2 h3=>?_⟩,fun y c h=>⟨_,x.cell y c h⟩,e0.hok.fresh (cL _),fun y c h=>?_,fun p hp=>absurd (show p∈([]:List (Addr × Obj)) from hp) Zs,e0.hok.kept hk,?_⟩
 ·exact name_of_addr x.apart (PySem.mem_of_lookup h1) (PySem.mem_of_lookup h2)
 ·have hy:scope.names.lookup y=some .cell∨scope.names.lookup y=some .free:=hy
  rcases hy with hy | hy
  ·exact xL hy
  ·exact absurd rfl (S.nofree _ (PySem.mem_of_lookup hy))
 ·exact Nat.le_of_lt (x.above y c (PySem.mem_of_lookup h))
 ·have hi:i<vs.length:=by
   unfold start at h2;by_cases hi:i<vs.length
   ·exact hi
   ·rw[List.getElem?_append_right (by simpa using hi)]at h2
    rw[List.getElem?_replicate]at h2;split at h2 <;> cases h2
  have ha:vs[i]?=some v:=by
   unfold start at h2;rw[List.getElem?_append_left (by simpa using hi),kH]at h2
   cases e:vs[i]? with
   | none=>rw[e]at h2;cases h2
   | some a=>rw[e]at h2;cases h2;rfl
  obtain⟨u,hu,rv⟩:=r.get ha
  have hp:ps[i]?=some y:=by
   rw[<- S.pre,List.getElem?_take_of_lt Zo];exact h1
  have ndP:ps.Nodup:=by rw[<- S.pre];exact S.nd.sublist (List.take_sublist _ _)
  refine⟨u,rv,?_⟩
  rcases S.par y (sN hp) with k | k
  ·exact .inl ⟨k,sR ndP hp hu k⟩
  ·obtain⟨c,e⟩:=xL (n:=s.heap.objs.size+1) k
   refine .inr ⟨.inl k,c,e,?_⟩
   have q:=x.cell y c e
   rw[sU ndP hp hu (by show scope.names.lookup y≠_;rw[k];decide)]at q
   exact q
 ·exact e0.hok.fresh (Nat.le_of_lt (x.above y c (PySem.mem_of_lookup h)))
 ·unfold start;show _=N.length
  rw[eG,aZ,List.length_replicate];omega
theorem Qh {CX:Hi} {P:Program} {w:World} {K:W.Frag} {mg:Str->Option Value} {base:Heap} {k:Nat} {f:Addr} {name qual:Str} {params:Arguments} {body:List Stmt} {scope:Scope} {dV kV doc pm cdv ct oc:Value} {an od:Option Addr}
  {osl:Array (Option Value)} {N ps:List Str} {sp:Sp} (lk:K.lookup f=some ⟨oc,od,.func (W.fnOf name qual params body scope dV kV doc pm an cdv ct),osl⟩) (hcd:W.codeIn K cdv qual=true) (S:aL N ps scope)
  (len:∀vs H Q E,sp vs H Q E->vs.length=ps.length)
  (hbody:∀(A:Around) (outer:List Env) (s:Shared) (H:Hp) (vs:List V) (Q:VK) (E:XK),Room k (A.deeper (envOfC qual scope s.heap.objs.size f cdv))->sp vs H Q E →
   ∃t,PSs (kJ CX P w K mg base N qual scope f cdv A outer s H E) body t/\t {nx:=fun _ H'=>Q .non H',rt:=Q } (start N vs) H) :
  pV P w K mg base CX (k+1) f (W.fnOf name qual params body scope dV kV doc pm an cdv ct) ps sp:=by
 refine⟨len,fun A outer s H args us vs Q E hr e0 hb r hsp=>?_⟩
 have hl:=len _ _ _ _ hsp
 have KX:K.In s.heap:=e0.mod.kin.keeps fun b o e=>(e0.bs b o e).1
 have lim:s.heap.NoLimit:=e0.mod.nolimit.keeps fun b o e=>(e0.bs b o e).1
 have hkind:∀y∈ps.zip us,scope.names.lookup y.1=some .local∨(scope.names.lookup y.1=some .cell/\((cellsFrom (s.heap.objs.size+1) scope.names []).lookup y.1).isSome=true):=fun⟨n,v⟩ hy=>by
  rcases S.par n (List.of_mem_zip hy).1 with q | q
  ·exact .inl q
  ·exact .inr ⟨q,W.cellsFrom_some _ _ _ (.inl q)⟩
 refine codeAny_call_function hr.depth (KX _ _ lk) rfl S.co S.gen rfl (W.codeRec_of KX hcd) (hb _ _ _ _ ?_)
 refine wpAny_newFunctionEnv_cells S.kind hkind fun env he s1 x=>?_
 subst he;refine⟨lim.keeps x.toInCall.keep,codeAny_func ?_⟩
 obtain⟨t,ht,hq⟩:=hbody A outer s H vs Q E (hr.deeper _) hsp
 have I:Inv (kJ CX P w K mg base N qual scope f cdv A outer s H E) [] (start N vs) H s1:=sV S hr.hd e0 hl r x
 refine wpAny_mono (ht [] s1 (start N vs) H _ I hq) (fun fl s' hs=>?_) fun e s' hs=>hs
 have fin:∀ {σ':St} {H':Hp} {v:V} {u:Value},Inv (kJ CX P w K mg base N qual scope f cdv A outer s H E) [] σ' H' s'->RelV v u->Q v H'->CE outer P w H s Q u s':=
  fun {σ' H' v u} J rv q=>⟨v,H',J.os,J.bare,J.base,J.hok,rv,q⟩
 cases fl with
 | ret u=>
  obtain⟨v,σ',H',J,rv,q⟩:=hs
  exact fin J rv q
 | next=>
  obtain⟨σ',H',J,q⟩:=hs
  exact fin (v:=V.non) (u:=Value.none) J rfl q
 | brk=>
  obtain⟨_,_,_,q⟩:=hs
  exact False.elim q
 | cont=>
  obtain⟨_,_,_,q⟩:=hs
  exact False.elim q
end L2
namespace L2
open PySem PySem.Spec PyProof.Rows
section
variable {X:Cx} {x:Str} {p pos:Pos} {e:Expr} {es:List Expr} {t:TA} {id T:String} {r:List V->Hp->VK->Prop}
def Sv (r:List V->Hp->VK->Prop) (t:TA):TE:=fun σ H Q=>t σ H fun vs H1=>r vs H1 Q
theorem xM (hc:CallR X (.builtin id) r) (hg:Gl X x) (hm:X.mg x=none) (hv:bootBuiltins x=some (.builtin id)) (ha:PA X (e::es) t) (hn:x≠"__name__":=by decide) (hdb:(x == ("__debug__":Str))=false:=by decide)
  (he:starEach (e::es) X.env=(false,eval e X.env)::starEach es X.env:=by rfl) (hpl:(backTo pos (starEach es X.env)).any (·.1)=false:=by rfl):PE X (.Call (.Name x p) (e::es) [] pos) (Sv r t):=by
 intro pins s σ H Q I h;refine wpAny_Call_Name_kw (oV I hg hm hv ?_ hn hdb)
 exact PyProof.Rows.callWith_builtin1 (bX (ha pos pins s σ H _ I h) fun us s1 ⟨vs,H1,I1,r1,q1⟩=>hc pins s1 σ H1 vs us Q I1 r1 q1) he hpl
theorem Eh (hc:CallR X (.type T) r) (hg:Gl X x) (hm:X.mg x=none) (hv:bootBuiltins x=some (.type T)) (ha:PA X (e::es) t) (hn:x≠"__name__":=by decide) (hdb:(x == ("__debug__":Str))=false:=by decide)
  (he:starEach (e::es) X.env=(false,eval e X.env)::starEach es X.env:=by rfl) (hpl:(backTo pos (starEach es X.env)).any (·.1)=false:=by rfl):PE X (.Call (.Name x p) (e::es) [] pos) (Sv r t):=by
 intro pins s σ H Q I h;refine wpAny_Call_Name_kw (oV I hg hm hv ?_ hn hdb)
 exact PyProof.Rows.callWith_type1 (bX (ha pos pins s σ H _ I h) fun us s1 ⟨vs,H1,I1,r1,q1⟩=>hc pins s1 σ H1 vs us Q I1 r1 q1) he hpl
end
end L2
namespace HT
open PySem PyProof.Rows
section
variable {prog:Program} {w:World} {A:Around} {E:Value->Shared->Prop} {s:Shared}
theorem cat_tup {t b:Addr} {vs ws:List Value} {Q:Value->Shared->Prop} (ht:IsTup s.heap t vs.toArray) (hb:IsTup s.heap b ws.toArray) (hv:vs≠[])
  (h1:ws=[]->Q (.ref t) s) (h2:ws≠[]->Q (.ref s.heap.objs.size) {s with heap:=s.heap.push {cls:=.type "tuple",data:=.seq (vs++ws).toArray } })
  (hsz:vs.length+ws.length<=sizeLine):wpAny (model prog w) A (binaryOp .Add (.ref t) (.ref b)) Q E s:=by
 obtain⟨⟨cls,dd,data,sl⟩,ho,hc,n,hd⟩:=id ht
 obtain⟨⟨cls2,dd2,data2,sl2⟩,ho2,hc2,n2,hd2⟩:=id hb
 simp only at hc hd hc2 hd2
 subst hc hd hc2 hd2;have e:vs.toArray++ws.toArray=(vs++ws).toArray:=by simp
 by_cases hw:ws=[]
 ·exact concat_meets ⟨_,ho,rfl⟩ ⟨_,ho2,rfl⟩ noFill_tuple_add seq_tuple_add PySem.F.slot_tuple_add PySem.F.entry_tuple_add (PySem.F.args_tuple_add_2 _ _)
   (tuple_addW1 t b vs.toArray ws.toArray n n2 dd dd2 sl sl2 (by simpa using hv) (by simp [hw])) ⟨ho,ho2,h1 hw⟩
 ·refine concat_meets ⟨_,ho,rfl⟩ ⟨_,ho2,rfl⟩ noFill_tuple_add seq_tuple_add PySem.F.slot_tuple_add PySem.F.entry_tuple_add (PySem.F.args_tuple_add_2 _ _)
   (tuple_addW2 t b vs.toArray ws.toArray n n2 dd dd2 sl sl2 (by simpa using hv) (by simpa using hw) (by rw[fY,fY];exact hsz)) ⟨ho,ho2,?_⟩
  rw[e];exact h2 hw
def sIx (n d:Nat):Option Int->Nat
 | none=>d
 | some v=>if v<0 then (v+(n:Int)).toNat else min v.toNat n
theorem sIx_none (n d:Nat):sIx n d none=d:=rfl
theorem sIx_nat (n d k:Nat):sIx n d (some (k:Int))=min k n:=by
 show(if (k:Int)<0 then ((k:Int)+(n:Int)).toNat else min (k:Int).toNat n)=min k n
 rw[if_neg Zo,Int.toNat_natCast]
theorem Sw (n d:Nat) (hd:d<=n) (o:Option Int):sIx n d o<=n:=by
 cases o with
 | none=>exact hd
 | some v=>
  show(if v<0 then (v+(n:Int)).toNat else min v.toNat n)<=n
  by_cases hv:v<0
  ·rw[if_pos hv];omega
  ·rw[if_neg hv];exact Nat.min_le_right _ _
theorem Bz (v:Int) (n d:Nat):(if v<0 then max (v+(n:Int)) 0 else min v (n:Int))=((sIx n d (some v):Nat):Int):=by
 show(if v<0 then max (v+(n:Int)) 0 else min v (n:Int))=(((if v<0 then (v+(n:Int)).toNat else min v.toNat n):Nat):Int)
 by_cases hv:v<0
 ·simp only [if_pos hv];omega
 ·simp only [if_neg hv];omega
theorem zU (lo hi:Option Int) (n:Nat):Builtin.Slice.sliceAdjust lo hi 1 (n:Int)=(((sIx n 0 lo:Nat):Int),((sIx n n hi:Nat):Int)):=by
 have h1:¬ ((1:Int)<0):=by omega
 unfold Builtin.Slice.sliceAdjust;simp only [h1,if_false]
 refine Prod.ext ?_ ?_
 ·cases lo with
  | none=>rfl
  | some v=>exact Bz v n 0
 ·cases hi with
  | none=>rfl
  | some v=>exact Bz v n n
theorem zV (i j:Nat):Builtin.Slice.slicePlaces (i:Int) (j:Int) 1=j - i:=by
 unfold Builtin.Slice.slicePlaces;have h1:(1:Int) > 0:=by omega
 simp only [h1,if_true,Int.ediv_one]
 split <;> omega
theorem qO {v:Value} {o:Option Int} {Q:Option Int->Shared->Prop} (p:IsPart v o) (h:Q o s):wpAny (model prog w) A (Builtin.Slice.slicePartIndex v) Q E s:=by
 cases p with
 | none=>exact slicePart_none h
 | int i t=>exact slicePart_int h
theorem sliceApplied_gen {sl:Addr} {vl vu:Value} {lo hi:Option Int} {n:Nat} {Q:Int × Int × Nat->Shared->Prop} (hs:s.heap.IsSliceOf sl vl vu .none) (pl:IsPart vl lo) (pu:IsPart vu hi)
  (h:Q (((sIx n 0 lo:Nat):Int),1,sIx n n hi - sIx n 0 lo) s):wpAny (model prog w) A (Builtin.Slice.sliceApplied (.ref sl) (pure (n:Int))) Q E s:=by
 obtain⟨os,hos,hcs,hds⟩:=id hs
 unfold Builtin.Slice.sliceApplied Builtin.Slice.sliceFields;refine wpAny_bind (wpAny_bind (wpAny_field hos hds (x:=vl) rfl (wpAny_bind (wpAny_field hos hds (x:=vu) rfl (wpAny_bind (wpAny_field hos hds (x:=.none) rfl (wpAny_pure ?_)))))))
 refine wpAny_bind (slicePart_none ?_)
 show wpAny _ _ (if ((1:Int) == 0)=true then _ else _) _ _ s
 rw[if_neg Zd]
 refine wpAny_bind (qO pl (wpAny_bind (qO pu (wpAny_bind (wpAny_pure ?_)))))
 show wpAny _ _ (match Builtin.Slice.sliceAdjust lo hi 1 (n:Int) with | (lo,hi)=>pure (lo,(1:Int),Builtin.Slice.slicePlaces lo hi 1)) _ _ s
 rw[zU lo hi n];show wpAny _ _ (pure (((sIx n 0 lo:Nat):Int),(1:Int),Builtin.Slice.slicePlaces ((sIx n 0 lo:Nat):Int) ((sIx n n hi:Nat):Int) 1)) _ _ s
 rw[zV];exact wpAny_pure h
theorem Hj (xs:Array Value) (i k:Nat):((List.range k).filterMap fun(m:Nat)=>xs[((i:Int)+(m:Int)*1).toNat]?).toArray=((xs.toList.drop i).take k).toArray:=by
 have e:(fun(m:Nat)=>xs[((i:Int)+(m:Int)*1).toNat]?)=fun m=>xs[i+m]?:=by
  funext m
  have:((i:Int)+(m:Int)*1).toNat=i+m:=by omega
  rw[this]
 rw[e];have:=pick_run xs i k
 rw[List.filterMap_map]at this;have e2:((fun x=>xs[x]?)∘fun x=>i+x)=fun m=>xs[i+m]?:=rfl
 rw[e2]at this;rw[this]
theorem getItem_tuple_cut {t sl:Addr} {items:Array Value} {vl vu:Value} {lo hi:Option Int} {Q:Value->Shared->Prop} (ht:IsTup s.heap t items) (hs:s.heap.IsSliceOf sl vl vu .none) (pl:IsPart vl lo) (pu:IsPart vu hi)
  (hw:¬ (sIx items.size 0 lo=0/\sIx items.size items.size hi=items.size))
  (h:Q (.ref s.heap.objs.size) {s with heap:=s.heap.push {cls:=.type "tuple",data:=.seq ((items.toList.drop (sIx items.size 0 lo)).take (sIx items.size items.size hi - sIx items.size 0 lo)).toArray } })
  (hsz:items.size<=sizeLine):wpAny (model prog w) A (getItem (.ref t) (.ref sl)) Q E s:=by
 have htake:sizeOk (.seq ((items.toList.drop (sIx items.size 0 lo)).take (sIx items.size items.size hi - sIx items.size 0 lo)).toArray):=by
  show((items.toList.drop (sIx items.size 0 lo)).take (sIx items.size items.size hi - sIx items.size 0 lo)).toArray.size<=sizeLine
  rw[fY,fS,List.length_drop,Array.length_toList];omega
 have hj:sIx items.size items.size hi<=items.size:=Sw _ _ (cL _) hi
 obtain⟨os,hos,hcs,hds⟩:=id hs
 have hTs:s.TypeIs (.ref sl) "slice":=⟨os,hos,hcs⟩
 unfold getItem;try with_reducible refine wpAny_holding ?_
 first | refine wpAny_bind (wpAny_pure ?_) | skip
 refine wpAny_bind (wpAny_sequenceKey ht.typeIs Zd ?_)
 refine wpAny_bind (wpAny_callSpecial?_slot (name:=Str.ofString "__getitem__") ht.typeIs PyProof.Rows.slot_tuple_getitem
  (wpAny_call_entry PyProof.Rows.slot_tuple_getitem ht.typeIs entry_tuple_getitem ?_ (args_tuple_getitem _ _)))
 show wpAny _ _ (Builtin.Tuple.tupleItemsOf (.ref t) >>= _) _ _ s
 refine wpAny_bind (tupleItemsOf_ ht ?_)
 refine wpAny_bind (wpAny_typeOf hTs ?_)
 rw[if_pos Zd]
 refine wpAny_bind (sliceApplied_gen hs pl pu ?_)
 have hno:¬ ((((sIx items.size 0 lo:Nat):Int) == 0&&(1:Int) == 1&&(sIx items.size items.size hi - sIx items.size 0 lo) == items.size)=true):=by
  intro q;rw[Bool.and_eq_true,Bool.and_eq_true]at q;have q1:((sIx items.size 0 lo:Nat):Int)=0:=eq_of_beq q.1.1
  have q2:sIx items.size items.size hi - sIx items.size 0 lo=items.size:=eq_of_beq q.2
  exact hw ⟨Zo,Zo⟩
 show wpAny _ _ (if (((sIx items.size 0 lo:Nat):Int) == 0&&(1:Int) == 1&&(sIx items.size items.size hi - sIx items.size 0 lo) == items.size)=true then _ else _) _ _ s
 rw[if_neg hno,Hj];first
  | exact wpAny_bind (m:=Builtin.Tuple.tupleExact _) (wpAny_newObj_type (wpAny_pure ⟨_,rfl,wpAny_pure h⟩) htake)
  | exact wpAny_bind (m:=Builtin.Tuple.tupleExact _) (wpAny_newObj_type (wpAny_bind (wpAny_pure (wpAny_pure ⟨_,rfl,wpAny_pure h⟩))) htake)
  | exact wpAny_bind (wpAny_bind (m:=Builtin.Tuple.tupleExact _) (wpAny_newObj_type (wpAny_pure (wpAny_pure ⟨_,rfl,wpAny_pure h⟩)) htake))
  | exact wpAny_bind (wpAny_bind (m:=Builtin.Tuple.tupleExact _) (wpAny_newObj_type (wpAny_pure ⟨_,rfl,wpAny_pure h⟩) htake))
end
end HT
namespace L2
open PySem PySem.Spec PyProof.Rows
abbrev TO:=St->Hp->(Option Int->Hp->Prop)->Prop
def PO (X:Cx) (e:Option Expr) (t:TO):Prop:=
 ∀(pins:List (Addr × Obj)) (s:Shared) (σ:St) (H:Hp) (Q:Option Int->Hp->Prop),Inv X pins σ H s->t σ H Q →
  wpAny (model X.prog X.w) X.A (evalPart e X.env) (fun u s'=>∃o H',Inv X pins σ H' s'/\IsPart u o/\Q o H') X.xe s
def pY:TO:=fun _ H Q=>Q none H
def Hk (t:TE):TO:=fun σ H Q=>t σ H fun x H1=>∃i,x=.int i/\Q (some i) H1
section
variable {X:Cx} {e:Expr} {te:TE} {lo hi:Option Expr} {tl th:TO} {pos p2:Pos}
theorem Na:PO X none pY:=by
 intro pins s σ H Q I h;rw[evalPart_none];exact wpAny_pure ⟨none,H,I,.none,h⟩
theorem Nb (h:PE X e te):PO X (some e) (Hk te):=by
 intro pins s σ H Q I hw;rw[evalPart_some];refine bX (h pins s σ H _ I hw) fun u s1 ⟨x,H1,I1,r1,q1⟩=>?_
 obtain⟨i,rfl,q⟩:=q1
 obtain⟨t,rfl⟩:=r1
 exact⟨some i,H1,I1,.int i t,q⟩
def SlR (X:Cx) (r:V->Option Int->Option Int->Hp->VK->Prop):Prop:=
 ∀(pins:List (Addr × Obj)) (s:Shared) (σ:St) (H:Hp) (x:V) (v vl vu:Value) (lo hi:Option Int) (sl:Addr) (Q:VK),Inv X pins σ H s->RelV x v->s.heap.IsSliceOf sl vl vu .none->IsPart vl lo->IsPart vu hi->r x lo hi H Q →
  ∃T id,typeLookup (.type T) "__getitem__"=pure (some (.builtin id))/\s.TypeIs v T/\wpAny (model X.prog X.w) X.A (getItem v (.ref sl)) (EP X pins σ Q) X.xe s
def Zu (r:V->Option Int->Option Int->Hp->VK->Prop) (te:TE) (tl th:TO):TE:=fun σ H Q=>te σ H fun x H1=>tl σ H1 fun l H2=>th σ H2 fun u H3=>r x l u H3 Q
theorem Hl {r:V->Option Int->Option Int->Hp->VK->Prop} (hr:SlR X r) (he:PE X e te) (hl:PO X lo tl) (hu:PO X hi th):PE X (.Subscript e (.Slice lo hi none p2) pos) (Zu r te tl th):=by
 intro pins s σ H Q I h;refine Subscript_ (bX (he pins s σ H _ I h) fun v s1 ⟨x,H1,I1,r1,q1⟩=>?_)
 refine wpAny_Slice (bX (hl pins s1 σ H1 _ I1 q1) fun vl s2 ⟨l,H2,I2,pl,q2⟩=>bX (hu pins s2 σ H2 _ I2 q2) fun vu s3 ⟨u,H3,I3,pu,q3⟩=>?_)
 rw[evalPart_none];refine wpAny_pure ?_
 have I4:Inv X pins σ H3 {s3 with heap:=s3.heap.push {cls:=.type "slice",data:=.fields #[vl,vu,.none] } }:=I3.kept (t':=s3.toks) fun b ob q=>iV _ q
 obtain⟨T,id,hT,ht,hg⟩:=hr pins {s3 with heap:=s3.heap.push {cls:=.type "slice",data:=.fields #[vl,vu,.none] } } σ H3 x v vl vu l u s3.heap.objs.size Q I4 r1 (Heap.IsSliceOf.new ..) pl pu q3
 show wpAny (model X.prog X.w) X.A (subscriptTail e (.Slice lo hi none p2) v (.ref s3.heap.objs.size)) (EP X pins σ Q) X.xe {s3 with heap:=s3.heap.push {cls:=.type "slice",data:=.fields #[vl,vu,.none] } }
 exact tail_any (ops:=[.ref s3.heap.objs.size,v]) ht hT hg (by with_unfolding_all rfl)
def Ei (xs:List V) (lo hi:Option Int):List V:=(xs.drop (HT.sIx xs.length 0 lo)).take (HT.sIx xs.length xs.length hi - HT.sIx xs.length 0 lo)
theorem pL (xs:List V) (lo hi:Option Int):(Ei xs lo hi).length<=xs.length:=by
 unfold Ei;rw[fS,List.length_drop];omega
def aAn (K:W.Frag):V->Option Int->Option Int->Hp->VK->Prop:=fun x lo hi H Q=>∃a xs,x=.ref a/\SqT K H a xs ∧
 ¬ (HT.sIx xs.length 0 lo=0/\HT.sIx xs.length xs.length hi=xs.length)/\∀p,H p=none->Q (.ref p) (aJ H p (.tup (Ei xs lo hi)))
theorem Sx:SlR X (aAn X.K):=by
 intro pins s σ H x v vl vu lo hi sl Q I rx hs pl pu h;obtain⟨a,xs,rfl,hx,hw,q⟩:=h
 cases rx
 obtain⟨its,r,ht,hz⟩:=I.tuple hx
 have hlen:its.toArray.size=xs.length:=by rw[fY];exact r.length.symm
 refine⟨"tuple",_,PyProof.Rows.slot_tuple_getitem.lookup,ht.typeIs,?_⟩
 refine HT.getItem_tuple_cut ht hs pl pu (by rw[hlen];exact hw) ?_ (by rw[hlen];exact hz)
 rw[hlen];refine⟨.ref s.heap.objs.size,_,I.laid (t':=s.toks) (o:=.tup (Ei xs lo hi)) (fun b ob q=>iV _ q) (cL _) ?_,rfl,q _ (I.hok.fresh (cL _))⟩
 exact⟨kB (pL xs lo hi) hz,_,(r.drop (HT.sIx xs.length 0 lo)).take (HT.sIx xs.length xs.length hi - HT.sIx xs.length 0 lo),IsTup.new _ _⟩
def Xh (K:W.Frag):R2:=fun x y H Q=>∃a b xs ys,x=.ref a/\y=.ref b/\SqT K H a xs/\SqT K H b ys/\xs≠[]/\xs.length+ys.length<=sizeLine ∧
 (ys=[]->Q (.ref a) H)/\(ys≠[]->∀p,H p=none->Q (.ref p) (aJ H p (.tup (xs++ys))))
theorem Vals.nil_iff {xs:List V} {us:List Value} (r:Vals xs us):us=[]↔xs=[]:=by
 cases r with
 | nil=>simp
 | cons _ _=>simp
theorem Nc:OpR X (binaryOp .Add) (Xh X.K):=by
 intro pins s σ H x y v u Q I rx ry h;obtain⟨a,b,xs,ys,rfl,rfl,ha,hb,hx,hz,q1,q2⟩:=h
 cases rx
 cases ry
 obtain⟨its,r1,p1,_⟩:=I.tuple ha
 obtain⟨its2,r2,p2,_⟩:=I.tuple hb
 refine HT.cat_tup p1 p2 (fun z=>hx (r1.nil_iff.mp z)) (fun z=>⟨.ref a,H,I,rfl,q1 (r2.nil_iff.mp z)⟩) (fun z=>?_) (by rw[<- r1.length,<- r2.length];exact hz)
 refine⟨.ref s.heap.objs.size,_,I.laid (t':=s.toks) (o:=.tup (xs++ys)) (fun b ob q=>iV _ q) (cL _) ?_,rfl,q2 (fun w=>z (r2.nil_iff.mpr w)) _ (I.hok.fresh (cL _))⟩
 exact⟨by rw[eG];exact hz,_,r1.append r2,IsTup.new _ _⟩
end
end L2
namespace L2
open PySem PySem.Spec PyProof.Rows
def Ej (n:Nat) (i:Int):Option Nat:=if 0<=i then (if i<n then some i.toNat else none) else if -(n:Int)<=i then some (i+n).toNat else none
def eF {α:Type} (xs:List α) (i:Int):Option α:=(Ej xs.length i).bind fun j=>xs[j]?
theorem Ca {n:Nat} {i:Int} {j:Nat} (h:Ej n i=some j):seqIndex? i n=some j/\j<n/\-(n:Int)<=i/\i<n:=by
 unfold Ej at h;by_cases h0:0<=i
 ·rw[if_pos h0]at h;by_cases h1:i<n
  ·rw[if_pos h1]at h;have e:i.toNat=j:=Option.some.inj h
   exact⟨by rw[seqIndex_of h0 h1,e],Zo,Zo,h1⟩
  ·rw[if_neg h1]at h;cases h
 ·rw[if_neg h0]at h;by_cases h1:-(n:Int)<=i
  ·rw[if_pos h1]at h;have e:(i+n).toNat=j:=Option.some.inj h
   exact⟨by rw[seqIndex_neg Zo h1,e],Zo,h1,Zo⟩
  ·rw[if_neg h1]at h;cases h
theorem uO {α:Type} {xs:List α} {i:Int} {v:α} (h:eF xs i=some v):∃j,seqIndex? i xs.length=some j/\xs[j]?=some v/\j<xs.length/\-(xs.length:Int)<=i/\i<xs.length:=by
 unfold eF at h;cases e:Ej xs.length i with
 | none=>rw[e]at h;cases h
 | some j=>
  rw[e]at h;obtain⟨h1,h2,h3,h4⟩:=Ca e
  exact⟨j,h1,h,h2,h3,h4⟩
theorem aF {α:Type} {xs:List α} {j:Nat} {v:α} (h:xs[j]?=some v):eF xs (j:Int)=some v:=by
 have hj:j<xs.length:=(Zgs.mp h).1
 have e:Ej xs.length (j:Int)=some j:=by
  unfold Ej;rw[if_pos Zo,if_pos Zo];simp
 unfold eF;rw[e];exact h
theorem xN {α:Type} (xs:List α) (v:α):eF (xs++[v]) (-1)=some v:=by
 have hl:(xs++[v]).length=xs.length+1:=by simp
 have e:Ej (xs++[v]).length (-1)=some xs.length:=by
  unfold Ej;rw[hl,if_neg Zd,if_pos Zo]
  congr 1
  omega
 unfold eF;rw[e];show(xs++[v])[xs.length]?=some v
 simp
def uP (b:Expr):Prop:=∀o i,subscripted b false o i=operate [o,i] (getItem o i)
def IxR (X:Cx) (r:R2):Prop:=
 ∀(value slice:Expr) (pins:List (Addr × Obj)) (s:Shared) (σ:St) (H:Hp) (x y:V) (v u:Value) (Q:VK),Inv X pins σ H s->RelV x v->RelV y u->r x y H Q →
  subscripted slice false v u=operate [v,u] (getItem v u)->wpAny (model X.prog X.w) X.A (subscriptTail value slice v u) (EP X pins σ Q) X.xe s
def Hm (X:Cx) (id:String) (r:V->List V->Hp->VK->Prop):Prop:=
 ∀(pins:List (Addr × Obj)) (s:Shared) (σ:St) (H:Hp) (x:V) (xs:List V) (v:Value) (us:List Value) (Q:VK),Inv X pins σ H s->RelV x v->Vals xs us->r x xs H Q →
  wpAny (model X.prog X.w) X.A (call (.builtin id) (v::us)) (EP X pins σ Q) X.xe s
section
variable {X:Cx} {a b:Expr} {ta tb:TE} {pos:Pos}
theorem Xi {r:R2} (hr:IxR X r) (ha:PE X a ta) (hb:PE X b tb) (hs:uP b):PE X (.Subscript a b pos) (xE r ta tb):=by
 intro pins s σ H Q I h;exact Subscript_ (Si ha hb I h fun v u s2 x y H2 I2 rx ry q=>hr a b pins s2 σ H2 x y v u Q I2 rx ry q (hs _ _))
def aAo (K:W.Frag):R2:=fun x y H Q=>∃p xs i v,x=.ref p/\y=.int i/\SqL K H p xs/\eF xs i=some v/\Q v H
def aAp (K:W.Frag):R2:=fun x y H Q=>∃p xs i v,x=.ref p/\y=.int i/\SqT K H p xs/\eF xs i=some v/\Q v H
def aAq:R2:=fun x y H Q=>∃z i c,x=.str z/\y=.int i/\z.length<=sizeLine/\eF z.cps.toList i=some c/\Q (.str ⟨#[c]⟩) H
theorem Nd:IxR X (aAo X.K):=by
 intro value slice pins s σ H x y v u Q I rx ry h hs;obtain⟨p,xs,i,z,rfl,rfl,hq,he,q⟩:=h
 cases rx
 obtain⟨t,rfl⟩:=ry
 obtain⟨its,r,pl,hz⟩:=I.list hq
 obtain⟨j,h1,h2,h3,h4,h5⟩:=uO he
 obtain⟨w,ew,rw'⟩:=r.get h2
 have hl:=r.length
 have hn:=oX
 have fin:EP X pins σ Q w s:=⟨z,H,I,rw',q⟩
 by_cases h0:0<=i
 ·have hj:i.toNat=j:=by
   rw[seqIndex_of h0 h5]at h1;exact Option.some.inj h1
  exact item_listR pl.isList h0 Zo (by rw[hj];simpa using ew) fin hs
 ·have hj:(i+(its.toArray.size:Int)).toNat=j:=by
   rw[seqIndex_neg Zo h4]at h1
   rw[fY,<- hl];exact Option.some.inj h1
  exact subscriptTail_builtinR (x:=w) pl.isList.typeIs slot_list_getitem.lookup
   (wpAny_getItem_list_neg (Q:=fun r s'=>r=w/\EP X pins σ Q r s') pl.isList Zo (by rw[fY] <;> omega) Zo (by rw[hj];simpa using ew) ⟨rfl,fin⟩) hs
theorem Sy:IxR X (aAp X.K):=by
 intro value slice pins s σ H x y v u Q I rx ry h hs;obtain⟨p,xs,i,z,rfl,rfl,hq,he,q⟩:=h
 cases rx
 obtain⟨t,rfl⟩:=ry
 obtain⟨its,r,pl,hz⟩:=I.tuple hq
 obtain⟨j,h1,h2,h3,h4,h5⟩:=uO he
 obtain⟨w,ew,rw'⟩:=r.get h2
 have hl:=r.length
 have hn:=oX
 have fin:EP X pins σ Q w s:=⟨z,H,I,rw',q⟩
 exact subscriptTail_builtinR (x:=w) pl.typeIs slot_tuple_getitem.lookup
  (getItem_tuple (j:=j) (Q:=fun r s'=>r=w/\EP X pins σ Q r s') pl Zo Zo (by rw[fY,<- hl];exact h1) (by simpa using ew) ⟨rfl,fin⟩) hs
theorem Sz:IxR X aAq:=by
 intro value slice pins s σ H x y v u Q I rx ry h hs;obtain⟨z,i,c,rfl,rfl,hz,he,q⟩:=h
 obtain⟨t,rfl⟩:=rx
 obtain⟨t',rfl⟩:=ry
 obtain⟨j,h1,h2,h3,h4,h5⟩:=uO he
 have hl:z.cps.toList.length=z.length:=by simp [Str.length]
 rw[hl]at h1 h4 h5;have hn:=oX
 exact tail_any (typeIs_str s z t) slot_str_getitem.lookup (getItem_str (c:=c) (by
  have e1:decide (i < -(2 ^ 63:Int))=false:=decide_eq_false Zo
  have e2:decide (i ≥ 2 ^ 63)=false:=decide_eq_false Zo
  rw[e1,e2,Bool.or_false]) (by rw[h1];simpa using h2) ⟨.str ⟨#[c]⟩,H,I.tok _,⟨_,rfl⟩,q⟩) hs
theorem zW (its:List Value) (n j:Nat) (u:Value):Obj.mapSeq (·.setIfInBounds j u) {cls:=.type "list",data:=.seq its.toArray n }={cls:=.type "list",data:=.seq (its.set j u).toArray n }:=by
 simp [Obj.mapSeq]
theorem Inv.lst {pins:List (Addr × Obj)} {σ:St} {H:Hp} {s:Shared} {p:Addr} {xs:List V} (I:Inv X pins σ H s) (h:H p=some (.lst xs)) :
  ∃(its:List Value) (n:Nat),Vals xs its/\s.heap.get? p=some {cls:=.type "list",data:=.seq its.toArray n }/\xs.length<=sizeLine:=by
 obtain⟨z,its,n,r,e⟩:=I.hok p _ h
 exact⟨its,n,r,e,z⟩
theorem Inv.lstUpd {pins:List (Addr × Obj)} {σ:St} {H:Hp} {s:Shared} {p:Addr} {xs ys:List V} {its its':List Value} {n n':Nat} {f:Obj->Obj} (I:Inv X pins σ H s) (h:H p=some (.lst xs))
  (ho:s.heap.get? p=some {cls:=.type "list",data:=.seq its.toArray n }) (hf:f {cls:=.type "list",data:=.seq its.toArray n }={cls:=.type "list",data:=.seq its'.toArray n' }) (r:Vals ys its') (hz:ys.length<=sizeLine) (t:Nat) :
  Inv X pins σ (aJ H p (.lst ys)) {s with heap:=s.heap.update p f,toks:=t }:=by
 have e:(s.heap.update p f).get? p=some {cls:=.type "list",data:=.seq its'.toArray n' }:=by
  rw[Heap.get?_update_self f ho (by rw[hf] <;> rfl),hf]
 refine I.write (x:=p) (e:=p) (by rw[h];trivial) (.inl rfl) (fun b u hb q=>(Heap.get?_update_other _ _ (Ne.symm hb)).trans q) ⟨_,e⟩ ?_
 exact⟨hz,its',n',r,e⟩
def Qi:V->V->V->Hp->(Hp->Prop)->Prop:=fun o i v H Q=>∃p xs k j,o=.ref p/\i=.int k/\H p=some (.lst xs)/\Ej xs.length k=some j/\Q (aJ H p (.lst (xs.set j v)))
theorem Hn:Ry X Qi:=by
 intro pins s σ H o i v ov iv u Q I ro ri rv h;obtain⟨p,xs,k,j,rfl,rfl,hp,hj,q⟩:=h
 cases ro
 obtain⟨t,rfl⟩:=ri
 obtain⟨its,n,r,ho,hz⟩:=I.lst hp
 obtain⟨h1,h2,h3,h4⟩:=Ca hj
 have hl:=r.length
 have hn:=oX
 have I':Inv X pins σ (aJ H p (.lst (xs.set j v))) {s with heap:=s.heap.update p (Obj.mapSeq (·.setIfInBounds j u)) }:=
  I.lstUpd hp ho (zW its n j u) (r.set rv j) (by rw[List.length_set];exact hz) s.toks
 by_cases h0:0<=k
 ·have hk:k.toNat=j:=by
   rw[seqIndex_of h0 h4]at h1;exact Option.some.inj h1
  exact W.ki_setAt ho h0 Zo (by rw[fY,<- hl];exact h4) (by rw[hk];exact⟨_,I',q⟩)
 ·have hk:(k+(its.toArray.size:Int)).toNat=j:=by
   rw[seqIndex_neg Zo h3]at h1
   rw[fY,<- hl];exact Option.some.inj h1
  exact W.ki_setBack ho Zo (by rw[fY,<- hl];exact h3) Zo (by rw[hk];exact⟨_,I',q⟩)
theorem uQ (lo hi:Option Int) (n:Nat):(sliceBounds lo hi none n).1=((HT.sIx n 0 lo:Nat):Int)/\(sliceBounds lo hi none n).2.1=((HT.sIx n n hi:Nat):Int)/\(sliceBounds lo hi none n).2.2=1:=by
 refine⟨?_,?_,rfl⟩
 ·cases lo with
  | none=>simp [sliceBounds,HT.sIx]
  | some i=>
   simp only [sliceBounds,HT.sIx,Option.getD_none,show(1:Int) > 0 by decide,if_true]
   by_cases h:i<0
   ·simp only [h,if_true] <;> omega
   ·simp only [h,if_false] <;> omega
 ·cases hi with
  | none=>simp [sliceBounds,HT.sIx]
  | some i=>
   simp only [sliceBounds,HT.sIx,Option.getD_none,show(1:Int) > 0 by decide,if_true]
   by_cases h:i<0
   ·simp only [h,if_true] <;> omega
   ·simp only [h,if_false] <;> omega
theorem rW (its:List Value) (lo hi:Option Int):slicePick its.toArray lo hi none=((its.drop (HT.sIx its.length 0 lo)).take (HT.sIx its.length its.length hi - HT.sIx its.length 0 lo)).toArray:=by
 obtain⟨h1,h2,h3⟩:=uQ lo hi its.toArray.size
 unfold slicePick;rw[h1,h2,h3];simp only [sliceRange_one,pick_run,fY] <;> rfl
def aAr (K:W.Frag):V->Option Int->Option Int->Hp->VK->Prop:=fun x lo hi H Q=>∃a xs,x=.ref a/\SqL K H a xs/\∀p,H p=none->Q (.ref p) (aJ H p (.lst (Ei xs lo hi)))
theorem Nf:SlR X (aAr X.K):=by
 intro pins s σ H x v vl vu lo hi sl Q I rx hs pl pu h;obtain⟨a,xs,rfl,hx,q⟩:=h
 cases rx
 obtain⟨its,r,ht,hz⟩:=I.list hx
 have hlen:=r.length
 refine⟨"list",_,slot_list_getitem.lookup,ht.isList.typeIs,?_⟩
 refine wpAny_getItem_list_slice ht.isList hs pl pu .none Zs ?_ (by rw[fY] <;> omega)
 rw[rW,<- hlen];refine⟨.ref s.heap.objs.size,_,I.laid (t':=s.toks) (o:=.lst (Ei xs lo hi)) (fun b ob q=>iV _ q) (cL _) ?_,rfl,q _ (I.hok.fresh (cL _))⟩
 exact⟨kB (pL xs lo hi) hz,_,0,(r.drop (HT.sIx xs.length 0 lo)).take (HT.sIx xs.length xs.length hi - HT.sIx xs.length 0 lo),Heap.get?_push_size _ rfl⟩
def bS:V->Bool
 | .non=>true
 | .bl _=>true
 | .int _=>true
 | .str _=>true
 | _=>false
def uR:V->V->Bool
 | .non,.non=>true
 | .bl a,.bl b=>a == b
 | .bl a,.int b=>(if a then 1 else 0) == b
 | .int a,.bl b=>a == (if b then 1 else 0)
 | .int a,.int b=>a == b
 | .str a,.str b=>a == b
 | _,_=>false
theorem qP {A:Around} {s:Shared} {y x:V} {u v:Value} (ry:RelV y u) (rx:RelV x v) (fy:bS y=true) (fx:bS x=true):SeqAt.EqAt A s u v (uR y x):=by
 cases y with
 | non=>
  cases ry
  cases x with
  | non=>cases rx;exact SeqAt.EqAt.same _
  | bl b=>cases rx;exact SeqAt.EqAt.none_bool b
  | int b=>obtain⟨t,rfl⟩:=rx;exact SeqAt.EqAt.none_int b t
  | str b=>obtain⟨t,rfl⟩:=rx;exact SeqAt.EqAt.none_str b t
  | _=>exact absurd (show false=true from fx) Bool.false_ne_true
 | bl a=>
  cases ry
  cases x with
  | non=>cases rx;exact SeqAt.EqAt.bool_none a
  | bl b=>cases rx;exact SeqAt.EqAt.bool_bool a b
  | int b=>obtain⟨t,rfl⟩:=rx;exact SeqAt.EqAt.bool_int a b t
  | str b=>obtain⟨t,rfl⟩:=rx;exact SeqAt.EqAt.bool_str a b t
  | _=>exact absurd (show false=true from fx) Bool.false_ne_true
 | int a=>
  obtain⟨t',rfl⟩:=ry
  cases x with
  | non=>cases rx;exact SeqAt.EqAt.int_none a t'
  | bl b=>cases rx;exact SeqAt.EqAt.int_bool a t' b
  | int b=>obtain⟨t,rfl⟩:=rx;exact SeqAt.EqAt.int_int a t' b t
  | str b=>obtain⟨t,rfl⟩:=rx;exact SeqAt.EqAt.int_str a t' b t
  | _=>exact absurd (show false=true from fx) Bool.false_ne_true
 | str a=>
  obtain⟨t',rfl⟩:=ry
  cases x with
  | non=>cases rx;exact SeqAt.EqAt.str_none a t'
  | bl b=>cases rx;exact SeqAt.EqAt.str_bool a t' b
  | int b=>obtain⟨t,rfl⟩:=rx;exact SeqAt.EqAt.str_int a t' b t
  | str b=>obtain⟨t,rfl⟩:=rx;exact SeqAt.EqAt.str_str a t' b t
  | _=>exact absurd (show false=true from fx) Bool.false_ne_true
 | _=>exact absurd (show false=true from fy) Bool.false_ne_true
def oY (x:V) (u:Value):Bool:=match u with
 | .none=>uR .non x
 | .bool b=>uR (.bl b) x
 | .int i _=>uR (.int i) x
 | .str z _=>uR (.str z) x
 | _=>false
theorem uS {x y:V} {u:Value} (r:RelV y u) (f:bS y=true):oY x u=uR y x:=by
 cases y with
 | non=>cases r;rfl
 | bl b=>cases r;rfl
 | int i=>obtain⟨t,rfl⟩:=r;rfl
 | str z=>obtain⟨t,rfl⟩:=r;rfl
 | _=>exact absurd (show false=true from f) Bool.false_ne_true
theorem nO {x:V}:∀ {xs:List V} {us:List Value},Vals xs us->xs.all bS=true->us.any (oY x)=xs.any fun y=>uR y x
 | _,_,.nil,_=>rfl
 | y::xs,u::us,.cons r t,f=>by
  rw[List.all_cons,Bool.and_eq_true]at f;rw[List.any_cons,List.any_cons,uS r f.1,nO t f.2]
theorem eI {A:Around} {s:Shared} {x:V} {v:Value} (rx:RelV x v) (fx:bS x=true):∀ {xs:List V} {us:List Value},Vals xs us->xs.all bS=true->∀u∈us,SeqAt.EqAt A s u v (oY x u)
 | _,_,.nil,_=>fun u hu=>by cases hu
 | y::xs,u::us,.cons r t,f=>fun u' hu=>by
  rw[List.all_cons,Bool.and_eq_true]at f;rcases List.mem_cons.mp hu with rfl | hu
  ·rw[uS r f.1];exact qP r rx f.1 fx
  ·exact eI rx fx t f.2 u' hu
def cQ (x:V) (xs:List V):Bool:=xs.any fun y=>uR y x
def Ta (K:W.Frag) (neg:Bool):R2:=fun x y H Q=>∃p xs,y=.ref p/\(SqL K H p xs∨SqT K H p xs)/\bS x=true/\xs.all bS=true/\Q (.bl (if neg then !cQ x xs else cQ x xs)) H
theorem Ek:OpR X (compareOp .In) (Ta X.K false):=by
 intro pins s σ H x y v u Q I rx ry h;obtain⟨p,xs,rfl,hq,fx,fs,q⟩:=h
 cases ry
 rcases hq with hq | hq
 ·obtain⟨its,r,pl,hz⟩:=I.list hq
  refine SeqAt.in_listAt (oY x) pl.isList (fun w hw=>eI rx fx r fs w (by simpa using hw)) ⟨.bl _,H,I,rfl,?_⟩
  rw[show its.toArray.any (oY x)=its.any (oY x) by simp,nO r fs]
  exact q
 ·obtain⟨its,r,pl,hz⟩:=I.tuple hq
  refine SeqAt.in_tupleAt (oY x) pl (fun w hw=>eI rx fx r fs w (by simpa using hw)) ⟨.bl _,H,I,rfl,?_⟩
  rw[show its.toArray.any (oY x)=its.any (oY x) by simp,nO r fs]
  exact q
theorem uT:OpR X (compareOp .NotIn) (Ta X.K true):=by
 intro pins s σ H x y v u Q I rx ry h;obtain⟨p,xs,rfl,hq,fx,fs,q⟩:=h
 cases ry
 rcases hq with hq | hq
 ·obtain⟨its,r,pl,hz⟩:=I.list hq
  refine SeqAt.notIn_listAt (oY x) pl.isList (fun w hw=>eI rx fx r fs w (by simpa using hw)) ⟨.bl _,H,I,rfl,?_⟩
  rw[show its.toArray.any (oY x)=its.any (oY x) by simp,nO r fs]
  exact q
 ·obtain⟨its,r,pl,hz⟩:=I.tuple hq
  refine SeqAt.notIn_tupleAt (oY x) pl (fun w hw=>eI rx fx r fs w (by simpa using hw)) ⟨.bl _,H,I,rfl,?_⟩
  rw[show its.toArray.any (oY x)=its.any (oY x) by simp,nO r fs]
  exact q
theorem uU:OpR X (compareOp .NotIn) (fun x y H Q=>∃i j,x=.str i/\y=.str j/\Q (.bl (!(!(Builtin.Str.occurrences j i 0 j.length 1).isEmpty))) H):=by
 intro pins s σ H x y v u Q I rx ry h;obtain⟨i,j,rfl,rfl,q⟩:=h
 obtain⟨t,rfl⟩:=rx
 obtain⟨t',rfl⟩:=ry
 exact notIn_str ⟨.bl _,H,I,rfl,q⟩
theorem uV:CallR X (.builtin "len") (fun xs H Q=>∃p ys,xs=[.ref p]/\(SqL X.K H p ys∨SqT X.K H p ys)/\Q (.int ys.length) H):=by
 intro pins s σ H xs us Q I r h;obtain⟨p,ys,rfl,hq,q⟩:=h
 obtain⟨u,rfl,rx⟩:=kN r
 cases rx
 have hn:=oX
 rcases hq with hq | hq
 ·obtain⟨its,r',pl,hz⟩:=I.list hq
  have hlen:=r'.length
  exact Calls.call_len_list pl.isList (by simp only [fY] <;> omega) ⟨.int ys.length,H,I.tok _,⟨s.toks+1,by rw[fY,hlen]⟩,q⟩
 ·obtain⟨its,r',pl,hz⟩:=I.tuple hq
  have hlen:=r'.length
  exact len_tuple pl (by simp only [fY] <;> omega) ⟨.int ys.length,H,I.tok _,⟨s.toks+1,by rw[fY,hlen]⟩,q⟩
theorem uW:CallR X (.builtin "len") (fun xs H Q=>∃z,xs=[.str z]/\z.length<=sizeLine/\Q (.int z.length) H):=by
 intro pins s σ H xs us Q I r h;obtain⟨z,rfl,hz,q⟩:=h
 obtain⟨u,rfl,t,rfl⟩:=kN r
 have hn:=oX
 exact len_str Zo ⟨.int z.length,H,I.tok _,⟨_,rfl⟩,q⟩
theorem uX:CallR X (.type "list") (fun xs H Q=>∃p ys,xs=[.ref p]/\(SqL X.K H p ys∨SqT X.K H p ys)/\∀l,H l=none->Q (.ref l) (aJ H l (.lst ys))):=by
 intro pins s σ H xs us Q I r h;obtain⟨p,ys,rfl,hq,q⟩:=h
 obtain⟨u,rfl,rx⟩:=kN r
 cases rx
 have fin:∀(its:List Value),Vals ys its->ys.length<=sizeLine->∀(h':Heap) (c':Nat),(∀b o',s.heap.get? b=some o'->h'.get? b=some o') →
   h'.get? s.heap.objs.size=some {cls:=.type "list",dict:=none,data:=.seq its.toArray c',slots:=#[] }->EP X pins σ Q (.ref s.heap.objs.size) {s with heap:=h' }:=fun its r' hz h' c' kp e=>
  ⟨.ref s.heap.objs.size,_,I.laid (t':=s.toks) kp (cL _) (show ObjOk X.prog X.w _ h' _ (.lst ys) from⟨hz,its,c',r',e⟩),rfl,q _ (I.hok.fresh (cL _))⟩
 rcases hq with hq | hq
 ·obtain⟨its,r',pl,hz⟩:=I.list hq
  have hlen:=r'.length
  obtain⟨o,ho,hc,n,hd⟩:=pl.isList
  exact call_list_seq p (.inl rfl) ho hc hd (fun h' c' kp e=>fin its r' hz h' c' kp e) (by simp only [fY] <;> omega)
 ·obtain⟨its,r',pl,hz⟩:=I.tuple hq
  have hlen:=r'.length
  obtain⟨o,ho,hc,n,hd⟩:=pl
  exact call_list_seq p (.inr rfl) ho hc hd (fun h' c' kp e=>fin its r' hz h' c' kp e) (by simp only [fY] <;> omega)
theorem rX:CallR X (.type "tuple") (fun xs H Q=>∃p ys,xs=[.ref p]/\((SqL X.K H p ys/\∀l,H l=none->Q (.ref l) (aJ H l (.tup ys)))∨(SqT X.K H p ys/\Q (.ref p) H))):=by
 intro pins s σ H xs us Q I r h;obtain⟨p,ys,rfl,h⟩:=h
 obtain⟨u,rfl,rx⟩:=kN r
 cases rx
 rcases h with⟨hq,q⟩ | ⟨hq,q⟩
 ·obtain⟨its,r',pl,hz⟩:=I.list hq
  have hlen:=r'.length
  refine call_tuple_list pl.isList (fun h' kp=>?_) (by simp only [fY] <;> omega)
  have I1:Inv X pins σ H {s with heap:=h' }:=I.kept (t':=s.toks) kp
  have I2:Inv X pins σ (aJ H h'.objs.size (.tup ys)) {s with heap:=h'.push {cls:=.type "tuple",data:=.seq its.toArray } }:=
   I1.laid (t':=s.toks) (fun b o e=>iV _ e) (cL _) (show ObjOk X.prog X.w _ _ _ (.tup ys) from⟨hz,its,r',IsTup.new _ _⟩)
  exact⟨.ref h'.objs.size,_,I2,rfl,q _ (I1.hok.fresh (cL _))⟩
 ·obtain⟨its,r',pl,hz⟩:=I.tuple hq
  exact call_tuple_same pl ⟨.ref p,H,I,rfl,q⟩
def tyV (K:W.Frag) (T:String) (x:V) (H:Hp):Prop:=match x with
 | .str _=>T="str"
 | .int _=>T="int"
 | .ref p=>(T="list"/\∃xs,SqL K H p xs)∨(T="tuple"/\∃o,K.lookup p=some o/\o.cls=.type "tuple"/\o.dict=none)∨
   (T="dict"/\((∃kvs,H p=some (.dK kvs))∨∃kvs,H p=some (.dT kvs)))∨(T="set"/\∃S n,H p=some (.set S n))
 | _=>False
theorem Tb {pins:List (Addr × Obj)} {σ:St} {H:Hp} {s:Shared} {T:String} {x:V} {v:Value} (I:Inv X pins σ H s) (r:RelV x v) (ty:tyV X.K T x H) :
  s.TypeIs v T/\∀a,v=.ref a->∃ob,s.heap.get? a=some ob/\ob.dict=none:=by
 cases x with
 | str z=>
  obtain⟨t,rfl⟩:=r
  cases (show T="str" from ty)
  exact⟨typeIs_str s z t,fun _ e=>nomatch e⟩
 | int i=>
  obtain⟨t,rfl⟩:=r
  cases (show T="int" from ty)
  exact⟨typeIs_int s i t,fun _ e=>nomatch e⟩
 | ref p=>
  cases r
  rcases ty with⟨rfl,xs,hq⟩ | ⟨rfl,o,hk,hc,hd⟩ | ⟨rfl,hk⟩ | ⟨rfl,S,n,hk⟩
  ·obtain⟨its,_,pl,_⟩:=I.list hq
   refine⟨pl.isList.typeIs,fun a e=>?_⟩
   cases e
   obtain⟨o,n,e,c,hd,_⟩:=pl
   exact⟨o,e,hd⟩
  ·refine⟨⟨o,I.kIn p o hk,hc⟩,fun a e=>?_⟩
   cases e
   exact⟨o,I.kIn _ o hk,hd⟩
  ·have z:∃o,s.heap.get? p=some o/\o.ExactDict:=by
    rcases hk with⟨kvs,hk⟩ | ⟨kvs,hk⟩
    ·obtain⟨_,_,_,_,o,_,_,e,ex,_⟩:=I.hok p _ hk
     exact⟨o,e,ex⟩
    ·obtain⟨_,_,_,_,o,_,_,e,ex,_⟩:=I.hok p _ hk
     exact⟨o,e,ex⟩
   obtain⟨o,e,ex⟩:=z
   refine⟨⟨o,e,ex.1⟩,fun a e2=>?_⟩
   cases e2
   exact⟨o,e,ex.2.1⟩
  ·obtain⟨o,_,_,_,e,ex,_⟩:=I.hok p _ hk
   refine⟨⟨o,e,ex.1⟩,fun a e2=>?_⟩
   cases e2
   exact⟨o,e,ex.2.1⟩
 | _=>exact False.elim ty
def Zv (K:W.Frag) (T:String) (r:V->List V->Hp->VK->Prop) (to:TE) (t:TA):TE:=fun σ H Q=>to σ H fun x H1=>tyV K T x H1/\t σ H1 fun xs H2=>r x xs H2 Q
variable {o e:Expr} {es:List Expr} {to:TE} {t:TA} {name:Str} {apos cpos:Pos} {T id:String} {r:V->List V->Hp->VK->Prop}
theorem Xj (pa:PlainAttrs T) (slot:Slot T name id) (hty:typeOf (.builtin id)=pure (.type "method_descriptor")) (hm:Hm X id r) (ho:PE X o to) (ha:PA X (e::es) t)
  (hbase:attributeBase o name X.env (eval o X.env)=eval o X.env:=by rfl)
  (hfew:((backTo cpos (starEach (e::es) X.env)).all (fun x=>!x.1)&&(backToKw cpos (keywordEach [] X.env)).all (fun x=>x.1.isSome)
   && decide ((e::es).length+([]:List Keyword).length+(if ([]:List Keyword).isEmpty then 0 else 1)<30))=true:=by rfl)
  (hline:(apos.endLine == cpos.line)=true:=by rfl) (hs:starEach (e::es) X.env=(false,eval e X.env)::starEach es X.env:=by rfl) (hplain:(backTo cpos (starEach es X.env)).any (·.1)=false:=by rfl) :
  PE X (.Call (.Attribute o name apos) (e::es) [] cpos) (Zv X.K T r to t):=by
 intro pins s σ H Q I h;refine wpAny_Call_method_late hbase hfew hline rfl (bX (ho pins s σ H _ I h) fun v s1 ⟨x,H1,I1,r1,ty,q1⟩=>?_)
 obtain⟨h1,h2⟩:=Tb I1 r1 ty
 refine⟨T,id,pa,slot,hty,h1,h2,?_⟩
 have hA:=ha cpos pins s1 σ H1 _ I1 q1
 rw[hs]at hA ⊢;refine Calls.callWith_builtin (by show(false||(backTo cpos (starEach es X.env)).any (·.1))=false;rw[hplain] <;> rfl) (Calls.evalArgs_plain ?_)
 exact bX hA fun us s2 ⟨vs,H2,I2,r2,q2⟩=>hm pins s2 σ H2 x vs v us Q I2 r1 r2 q2
/- xs.append(e),list.index on a module's tuple .. are Hm facts of 06m -/
end
end L2
namespace L2
open PySem PySem.Spec PyProof.Rows
def MtM (X:Cx) (id:String) (r:V->List V->Hp->VK->Prop):Prop:=
 ∀(pins:List (Addr × Obj)) (s:Shared) (σ:St) (H:Hp) (x:V) (xs:List V) (v:Value) (us:List Value) (Q:VK),Inv X pins σ H s->RelV x v->Vals xs us->r x xs H Q →
  wpAny (model X.prog X.w) X.A (call (.builtin id) (v::us)) (EP X pins σ Q) X.xe s
theorem Vals.one:∀ {x:V} {us:List Value},Vals [x] us->∃u,us=[u]/\RelV x u
 | _,_,.cons r .nil=>⟨_,rfl,r⟩
theorem Vals.rep {xs:List V} {us:List Value} (h:Vals xs us):∀k:Nat,Vals (List.replicate k xs).flatten (List.replicate k us).flatten
 | 0=>.nil
 | k+1=>by
  rw[List.replicate_succ,List.replicate_succ,List.flatten_cons,List.flatten_cons];exact Vals.append h (Vals.rep h k)
theorem sW (its:List Value):∀(k:Nat) (acc:List Value),
  List.foldl (fun x1 x2=>x1++x2) acc.toArray (List.replicate k its.toArray)=(acc++(List.replicate k its).flatten).toArray
 | 0,acc=>by simp
 | k+1,acc=>by
  have e:acc.toArray++its.toArray=(acc++its).toArray:=by simp
  have e2:(acc++its)++(List.replicate k its).flatten=acc++(List.replicate (k+1) its).flatten:=by
   rw[List.replicate_succ,List.flatten_cons,List.append_assoc]
  rw[<- e2,<- sW its k (acc++its),<- e,List.replicate_succ,List.foldl_cons]
section
variable {X:Cx} {pins:List (Addr × Obj)} {σ:St} {H:Hp} {s:Shared} {l b:Addr} {xs ys zs:List V}
theorem Inv.lset {its its':List Value} {n:Nat} {f:Array Value->Array Value} {t':Nat} (I:Inv X pins σ H s) (hH:H l=some (.lst xs))
  (e:s.heap.get? l=some {cls:=.type "list",data:=.seq its.toArray n }) (hf:f its.toArray=its'.toArray) (hv:Vals ys its') (hz:ys.length<=sizeLine) :
  Inv X pins σ (aJ H l (.lst ys)) {s with heap:=s.heap.update l (Obj.mapSeq f),toks:=t' }:=by
 have q:=PySem.IsL.update e f
 rw[hf]at q;refine I.write (x:=l) (e:=l) (by rw[hH];exact trivial) (.inl rfl) (fun b' u hb hu=>(Heap.get?_update_other s.heap (Obj.mapSeq f) (Ne.symm hb)).trans hu) ⟨_,q⟩ ?_
 exact⟨hz,its',_,hv,q⟩
theorem Inv.lnew {its:List Value} {t':Nat} (I:Inv X pins σ H s) (hv:Vals ys its) (hz:ys.length<=sizeLine) :
  Inv X pins σ (aJ H s.heap.objs.size (.lst ys)) {s with heap:=s.heap.push {cls:=.type "list",data:=.seq its.toArray },toks:=t' }:=
 I.laid (fun _ _ q=>iV _ q) (cL _) ⟨hz,its,0,hv,Heap.get?_push_size _ rfl⟩
theorem Inv.fresh (I:Inv X pins σ H s):H s.heap.objs.size=none:=I.hok.fresh (cL _)
theorem Inv.lstM (I:Inv X pins σ H s) (hH:H l=some (.lst xs)):xs.length<=sizeLine/\∃(its:List Value) (n:Nat),Vals xs its/\xs.length=its.length/\s.heap.get? l=some {cls:=.type "list",data:=.seq its.toArray n }:=by
 obtain⟨z,its,n,r,e⟩:=I.hok l _ hH
 exact⟨z,its,n,r,r.length,e⟩
theorem xO {n:Nat} (h:n<=sizeLine):Builtin.List.listTooLong n=false:=by
 unfold Builtin.List.listTooLong;exact decide_eq_false Zo
end
section
variable {X:Cx}
def Cb:V->List V->Hp->VK->Prop:=fun x vs H Q=>∃l xs y,x=.ref l/\vs=[y]/\H l=some (.lst xs)/\xs.length<sizeLine/\Q .non (aJ H l (.lst (xs++[y])))
theorem El:MtM X "list.append" Cb:=by
 intro pins s σ H x vs v us Q I rx rv h;obtain⟨l,xs,y,rfl,rfl,hH,hz,q⟩:=h
 cases rx
 obtain⟨u,rfl,ru⟩:=rv.one
 obtain⟨z,its,n,r,hl,e⟩:=I.lstM hH
 refine call_meets F.slot_list_append ⟨_,e,rfl⟩ F.entry_list_append (F.args_list_append_2 _ _) (PySem.list_append l its.toArray n u (by rw[fY];omega)) ⟨e,?_⟩
 refine⟨.non,_,I.lset (its':=its++[u]) hH e Zs (r.append (.cons ru .nil)) ?_,rfl,q⟩
 rw[eG,List.length_singleton];omega
def Ng:V->List V->Hp->VK->Prop:=fun x vs H Q=>∃l b xs zs,x=.ref l/\vs=[.ref b]/\H l=some (.lst xs)/\H b=some (.lst zs)/\xs.length+zs.length<=sizeLine/\Q .non (aJ H l (.lst (xs++zs)))
theorem Wh:MtM X "list.extend" Ng:=by
 intro pins s σ H x vs v us Q I rx rv h;obtain⟨l,b,xs,zs,rfl,rfl,hH,hB,hz,q⟩:=h
 cases rx
 obtain⟨u,rfl,ru⟩:=rv.one
 cases ru
 obtain⟨z,its,n,r,hl,e⟩:=I.lstM hH
 obtain⟨z2,its2,n2,r2,hl2,e2⟩:=I.lstM hB
 have hsz:its.toArray.size+its2.toArray.size<=sizeLine:=by rw[fY,fY];omega
 have hlong:¬ (!its.toArray.isEmpty&&Builtin.List.listTooLong (its.toArray.size+its2.toArray.size))=true:=by
  rw[xO hsz,Bool.and_false];exact Bool.false_ne_true
 refine call_meets F.slot_list_extend ⟨_,e,rfl⟩ F.entry_list_extend (F.args_list_extend_2 _ _)
  (AutoSeq1.list_extend_list_list_0 l its.toArray n b its2.toArray n2 hlong (by rw[fY];omega) Zo) ⟨e,e2,?_⟩
 refine⟨.non,_,I.lset (its':=its++its2) hH e Zs (r.append r2) ?_,rfl,q⟩
 rw[eG];omega
def aAs:R2:=fun x y H Q=>∃l b xs zs,x=.ref l/\y=.ref b/\H l=some (.lst xs)/\H b=some (.lst zs)/\xs.length+zs.length<=sizeLine/\∀p,H p=none->Q (.ref p) (aJ H p (.lst (xs++zs)))
theorem Tc:OpR X (binaryOp .Add) aAs:=by
 intro pins s σ H x y v u Q I rx ry h;obtain⟨l,b,xs,zs,rfl,rfl,hH,hB,hz,q⟩:=h
 cases rx
 cases ry
 obtain⟨z,its,n,r,hl,e⟩:=I.lstM hH
 obtain⟨z2,its2,n2,r2,hl2,e2⟩:=I.lstM hB
 refine PySem.P.add_list e e2 ?_ (by rw[fY,fY];omega)
 have ea:its.toArray++its2.toArray=(its++its2).toArray:=by simp
 rw[ea];exact⟨.ref _,_,I.lnew (t':=s.toks) (r.append r2) (by rw[eG];omega),rfl,q _ I.fresh⟩
def aAt:R2:=fun x y H Q=>∃l k xs,x=.ref l/\y=.int k/\H l=some (.lst xs)/\-(2 ^ 63)<=k/\k<2 ^ 63/\xs.length*k.toNat<=sizeLine ∧
 ∀p,H p=none->Q (.ref p) (aJ H p (.lst (List.replicate k.toNat xs).flatten))
theorem Cc {α:Type} (xs:List α) (k:Nat):(List.replicate k xs).flatten.length=k*xs.length:=by
 induction k with
 | zero=>simp
 | succ k ih=>rw[List.replicate_succ,List.flatten_cons,eG,ih,Nat.succ_mul,Nat.add_comm]
theorem Td:OpR X (binaryOp .Mult) aAt:=by
 intro pins s σ H x y v u Q I rx ry h;obtain⟨l,k,xs,rfl,rfl,hH,h1,h2,hz,q⟩:=h
 cases rx
 obtain⟨t,rfl⟩:=ry
 obtain⟨z,its,n,r,hl,e⟩:=I.lstM hH
 have hlen:its.toArray.size*k.toNat<=sizeLine:=by rw[fY,<- hl];exact hz
 have hcap:¬ its.toArray.size*k.toNat > (2 ^ 63 - 1) / 8:=by
  have:(sizeLine:Nat)<=(2 ^ 63 - 1) / 8:=by decide
  omega
 have hfit:¬ (!Builtin.List.listFitsIndex k)=true:=by
  rw[fitsIndex_both h1 h2];exact Bool.false_ne_true
 have hlong:¬ Builtin.List.listTooLong (its.toArray.size*k.toNat)=true:=by
  rw[xO hlen];exact Bool.false_ne_true
 have hnew:List.foldl (fun x1 x2=>x1++x2) #[] (List.replicate (if its.toArray.isEmpty=true then 0 else k.toNat) its.toArray)=(List.replicate k.toNat its).flatten.toArray:=by
  have f0:∀m:Nat,List.foldl (fun x1 x2=>x1++x2) #[] (List.replicate m its.toArray)=(List.replicate m its).flatten.toArray:=fun m=>by
   have:=sW its m []
   rw[List.nil_append]at this;exact this
  rw[f0];cases its with
  | nil=>simp
  | cons a r'=>rw[if_neg Zs]
 refine wpAny_binaryOp_repeat_ref (T:="list") (U:="int") Zd ⟨_,e,rfl⟩ (fun s'=>typeIs_int s' k t) noFill_list_mul F.fills_int_mul F.slot_int_rmul repeat_list F.slot_int_index.lookup
  (call_meets F.slot_int_rmul (typeIs_int s k t) F.entry_int_rmul (F.args_int_rmul_2 _ _) (int___rmul___int_list k t l its.toArray n)
   ⟨e,rfl,⟨_,e,rfl⟩,call_meets F.slot_list_mul ⟨_,e,rfl⟩ F.entry_list_mul (F.args_list_mul_2 _ _) (AutoListH.list___mul___list_int_3 l its.toArray n k t hfit hcap hlong) ⟨e,?_⟩⟩)
 rw[hnew];exact⟨.ref _,_,I.lnew (t':=s.toks) (r.rep k.toNat) (by rw[Cc,Nat.mul_comm];exact hz),rfl,q _ I.fresh⟩
end
end L2
namespace L2
open PySem PySem.Spec PyProof.Rows
section
variable {κ:Type} [DecidableEq κ]
def dB (kvs:List (κ × V)) (k:κ):Option V:=(kvs.find? fun kv=>decide (kv.1=k)).map (·.2)
def oZ (kvs:List (κ × V)) (k:κ) (v:V):List (κ × V):=
 if (kvs.any fun kv=>decide (kv.1=k))=true then kvs.map (fun kv=>if kv.1=k then (kv.1,v) else kv) else kvs++[(k,v)]
theorem cR {p:κ × V} {r:List (κ × V)} {k:κ} (e:p.1=k):dB (p::r) k=some p.2:=by simp [dB,List.find?_cons,e]
theorem cS {p:κ × V} {r:List (κ × V)} {k:κ} (e:¬ p.1=k):dB (p::r) k=dB r k:=by simp [dB,List.find?_cons,e]
theorem nP (k:κ):∀kvs:List (κ × V),(kvs.any fun kv=>decide (kv.1=k))=(dB kvs k).isSome
 | []=>rfl
 | p::r=>by
  rw[List.any_cons];by_cases e:p.1=k
  ·simp only [cR e,decide_eq_true e,Bool.true_or,Option.isSome_some]
  ·rw[cS e,decide_eq_false e,Bool.false_or];exact nP k r
theorem xP (k j:κ) (y:V):∀kvs:List (κ × V),dB (kvs.map fun kv=>if kv.1=k then (kv.1,y) else kv) j=(dB kvs j).map fun x=>if j=k then y else x
 | []=>rfl
 | p::r=>by
  have ih:=xP k j y r
  rw[List.map_cons];by_cases h:p.1=k
  ·rw[if_pos h];by_cases e:p.1=j
   ·rw[cR (p:=(p.1,y)) e,cR e,Option.map_some,if_pos (e.symm.trans h)]
   ·rw[cS (p:=(p.1,y)) e,cS e,ih]
  ·rw[if_neg h];by_cases e:p.1=j
   ·rw[cR (p:=p) e,cR e,Option.map_some,if_neg (fun z=>h (e.trans z))]
   ·rw[cS (p:=p) e,cS e,ih]
theorem sX (k j:κ) (y:V):∀kvs:List (κ × V),dB kvs k=none->dB (kvs++[(k,y)]) j=if j=k then some y else dB kvs j
 | [],_=>by
  by_cases e:k=j
  ·rw[if_pos e.symm];exact cR (p:=(k,y)) e
  ·rw[if_neg (fun z=>e z.symm)];exact cS (p:=(k,y)) e
 | p::r,hn=>by
  rw[List.cons_append];have hk:¬ p.1=k:=fun z=>by rw[cR z]at hn;cases hn
  rw[cS hk]at hn;have ih:=sX k j y r hn
  by_cases e:p.1=j
  ·rw[cR e,cR e,if_neg (fun z=>hk (e.trans z))]
  ·rw[cS e,cS e,ih]
theorem Ho (kvs:List (κ × V)) (k j:κ) (y:V):dB (oZ kvs k y) j=if j=k then some y else dB kvs j:=by
 unfold oZ;by_cases a:(kvs.any fun kv=>decide (kv.1=k))=true
 ·rw[if_pos a,xP];rw[nP]at a;by_cases e:j=k
  ·obtain⟨x,hx⟩:=Option.isSome_iff_exists.mp a
   rw[if_pos e,e,hx,Option.map_some,if_pos rfl]
  ·rw[if_neg e];cases dB kvs j with
   | none=>rfl
   | some x=>rw[Option.map_some,if_neg e]
 ·rw[if_neg a];refine sX k j y kvs ?_
  rw[nP]at a;cases q:dB kvs k with
  | none=>rfl
  | some x=>rw[q]at a;exact(a rfl).elim
theorem xQ (kvs:List (κ × V)) (k:κ) (v:V):(oZ kvs k v).length<=kvs.length+1:=by
 unfold oZ;split
 ·rw[aZ];omega
 ·rw[eG,fI,List.length_nil];omega
theorem Hq {kvs:List (κ × V)} {k:κ} (v:V) (h:dB kvs k=none):oZ kvs k v=kvs++[(k,v)]:=by
 unfold oZ;rw[nP,h];exact if_neg Zd
theorem RelO.isSome_eq {o:Option V} {u:Option Value} (r:RelO o u):o.isSome=u.isSome:=by
 cases o with
 | none=>cases u with
  | none=>rfl
  | some _=>exact(show False from r).elim
 | some _=>cases u with
  | none=>exact(show False from r).elim
  | some _=>rfl
theorem RelO.getD {o:Option V} {u:Option Value} {d:V} {d':Value} (r:RelO o u) (rd:RelV d d'):RelV (o.getD d) (u.getD d'):=by
 cases o with
 | none=>cases u with
  | none=>exact rd
  | some _=>exact(show False from r).elim
 | some _=>cases u with
  | none=>exact(show False from r).elim
  | some _=>exact r
theorem KV.val {kvs:List (κ × V)} {vs:List (κ × Value)} (r:KV kvs vs) (k:κ):RelO (dB kvs k) (valueAt vs k):=by
 unfold KV at r;induction r with
 | nil=>exact True.intro
 | @cons p q ps qs h t ih=>
  obtain⟨h1,h2⟩:=h
  by_cases e:p.1=k
  ·have e':q.1=k:=h1.symm.trans e
   have b:valueAt (q::qs) k=some q.2:=by simp [valueAt,List.find?_cons,e']
   rw[cR e,b];exact h2
  ·have e':¬ q.1=k:=fun z=>e (h1.trans z)
   have b:valueAt (q::qs) k=valueAt qs k:=by simp [valueAt,List.find?_cons,e']
   rw[cS e,b];exact ih
theorem KV.any {kvs:List (κ × V)} {vs:List (κ × Value)} (r:KV kvs vs) (k:κ):(kvs.any fun kv=>decide (kv.1=k))=vs.any fun kv=>decide (kv.1=k):=by
 unfold KV at r;induction r with
 | nil=>rfl
 | cons h t ih=>rw[List.any_cons,List.any_cons,ih,h.1]
theorem KV.repl {kvs:List (κ × V)} {vs:List (κ × Value)} (r:KV kvs vs) (k:κ) {y:V} {u:Value} (ry:RelV y u) :
  KV (kvs.map fun kv=>if kv.1=k then (kv.1,y) else kv) (vs.map fun kv=>if kv.1=k then (kv.1,u) else kv):=by
 unfold KV at r ⊢
 induction r with
 | nil=>exact .nil
 | @cons p q ps qs h t ih=>
  rw[List.map_cons,List.map_cons];refine .cons ?_ ih
  obtain⟨h1,h2⟩:=h
  by_cases e:p.1=k
  ·rw[if_pos e,if_pos (h1.symm.trans e)];exact⟨h1,ry⟩
  ·rw[if_neg e,if_neg (fun z=>e (h1.trans z))];exact⟨h1,h2⟩
theorem KV.put {kvs:List (κ × V)} {vs:List (κ × Value)} (r:KV kvs vs) (k:κ) {y:V} {u:Value} (ry:RelV y u):KV (oZ kvs k y) (stored vs k u):=by
 unfold oZ stored;rw[r.any k];by_cases e:(vs.any fun kv=>decide (kv.1=k))=true
 ·rw[if_pos e,if_pos e];exact r.repl k ry
 ·rw[if_neg e,if_neg e];exact Paired.snoc r ⟨rfl,ry⟩
end
theorem sY {P:Program} {w:World} {k:dQ} {u:Value} (r:RelV (kV k) u):(bM P w).is k u=true:=by
 cases k with
 | inl i=>obtain⟨t,e⟩:=(show ∃t,u=Value.int i t from r);subst e;exact xH P w i t
 | inr x=>obtain⟨t,e⟩:=(show ∃t,u=Value.str x t from r);subst e;exact xI P w x t
theorem sZ {P:Program} {w:World}:∀ {ks:List dQ} {us:List Value},Vals (ks.map kV) us->ItemsAre (bM P w) ks us
 | [],_,r=>by rw[List.map_nil]at r;cases r;exact .nil
 | k::ks,_,r=>by
  rw[List.map_cons]at r;cases r with
  | cons h t=>exact .cons (sY h) (sZ t)
abbrev KT (H:Hp):List (List dQ × V)->List (List dQ × Addr × Value)->Prop:=Paired fun p q=>p.1=q.1/\H q.2.1=some (.tup (p.1.map kV))/\RelV p.2 q.2.2
theorem KT.val {H:Hp} {kvs:List (List dQ × V)} {xs:List (List dQ × Addr × Value)} (r:KT H kvs xs) (k:List dQ):RelO (dB kvs k) ((atKey xs k).map (·.2)):=by
 induction r with
 | nil=>exact True.intro
 | @cons p q ps qs h t ih=>
  obtain⟨h1,_,h2⟩:=h
  by_cases e:p.1=k
  ·have e':q.1=k:=h1.symm.trans e
   have b:atKey (q::qs) k=some q.2:=by simp [atKey,List.find?_cons,e']
   rw[cR e,b];exact h2
  ·have e':¬ q.1=k:=fun z=>e (h1.trans z)
   have b:atKey (q::qs) k=atKey qs k:=by simp [atKey,List.find?_cons,e']
   rw[cS e,b];exact ih
section
variable {P:Program} {w:World} {H:Hp} {h:Heap} {a:Addr}
theorem Qj {u:HO} (ok:HOk P w H h) (e:Rd H a u):ObjOk P w H h a u:=e.ok ok
theorem qQ {kvs:List (dQ × V)} (ok:HOk P w H h) (e:Rd H a (.dK kvs)):kvs.length<=sizeLine/\(a == sysModules)=false/\∃vs,KV kvs vs/\h.DictOf (bM P w) a vs:=
 show ObjOk P w H h a (.dK kvs) from Qj ok e
theorem Hr {kvs:List (dQ × V)} (ok:HOk P w H h) (e:H a=some (.dK kvs)):kvs.length<=sizeLine/\(a == sysModules)=false/\∃vs,KV kvs vs/\h.DictOf (bM P w) a vs:=qQ ok (.inl e)
theorem qR {ks:List dQ} (ok:HOk P w H h) (e:H a=some (.tup (ks.map kV))):(tupleKind (bM P w)).is h ks a:=by
 obtain⟨_,its,r,o,h1,h2,n,h3⟩:=(show ObjOk P w H h a (.tup (ks.map kV)) from ok a _ e)
 exact⟨o,its.toArray,n,h1,h2,h3,by simpa using sZ r⟩
theorem tE {kvs:List (List dQ × V)} (ok:HOk P w H h) (e:Rd H a (.dT kvs)):kvs.length<=sizeLine/\(a == sysModules)=false ∧
  ∃xs,KT H kvs xs/\h.DictOfH (tupleKind (bM P w)) a xs:=by
 obtain⟨z,y,xs,r,o,es,ep,h1,h2,h3,h4,h5⟩:=(show ObjOk P w H h a (.dT kvs) from Qj ok e)
 refine⟨z,y,xs,r,o,es,ep,h1,h2,h3,h4,fun x hx=>?_,h5⟩
 have all:∀ {l:List (List dQ × V)} {m:List (List dQ × Addr × Value)},KT H l m->∀x∈m,(tupleKind (bM P w)).is h x.1 x.2.1:=by
  intro l m q;induction q with
  | nil=>intro x hx;exact nomatch hx
  | @cons p q ps qs hq t ih=>
   intro x hx;rcases List.mem_cons.mp hx with e | hx
   ·subst e;exact qR ok (by rw[<- hq.1];exact hq.2.1)
   ·exact ih x hx
 exact all r x hx
end
def DGet (H:Hp) (a:Addr) (y:V) (r:Option V):Prop:=
 (∃kvs k,Rd H a (.dK kvs)/\y=kV k/\r=dB kvs k)∨∃kvs k b,Rd H a (.dT kvs)/\y=.ref b/\H b=some (.tup (k.map kV))/\r=dB kvs k
theorem DGet.k {H:Hp} {a:Addr} {kvs:List (dQ × V)} {k:dQ} (e:H a=some (.dK kvs)):DGet H a (kV k) (dB kvs k):=.inl ⟨kvs,k,.inl e,rfl,rfl⟩
section
variable {X:Cx} {pins:List (Addr × Obj)} {σ:St} {H:Hp} {s:Shared} {a:Addr} {y v:V} {u r:Value} {o:Option V} {A:Around} {E:Value->Shared->Prop}
theorem Inv.big (I:Inv X pins σ H s):sysModules<s.heap.objs.size:=by
 have h:mainGlobals<s.heap.objs.size:=(I.mod.glob.keeps I.bk).lt
 exact Nat.lt_trans Zd h
theorem Em {Q:Value->Shared->Prop} (hu:A.units+1<cLine) (I:Inv X pins σ H s) (g:DGet H a y (some v)) (ry:RelV y u) (h:∀w' s',Inv X pins σ H s'->RelV v w'->Q w' s') :
  wpAny (model X.prog X.w) A (getItem (.ref a) u) Q E s:=by
 rcases g with⟨kvs,k,e,ey,l⟩ | ⟨kvs,k,b,e,ey,eb,l⟩
 ·subst ey;obtain⟨z,hd,vs,rel,dd⟩:=qQ I.hok e
  obtain⟨w',hw,rw'⟩:=RelO.some_of (v:=v) (o:=valueAt vs k) (by rw[l];exact rel.val k)
  exact wpAny_getItem_of (sY ry) dd.mapOf hw (h w' _ (I.tok _) rw')
 ·subst ey;cases (show u=Value.ref b from ry)
  obtain⟨z,hd,xs,rel,dd⟩:=tE I.hok e
  obtain⟨w',hw,rw'⟩:=RelO.some_of (v:=v) (o:=(atKey xs k).map (·.2)) (by rw[l];exact rel.val k)
  obtain⟨p,hp,hp2⟩:=Option.map_eq_some_iff.mp hw
  refine wpAny_getItem_heap (tupleKind_room_in1 hu) (qR I.hok eb) dd hp ?_
  rw[hp2];exact h w' _ (I.tok _) rw'
theorem aAu {Q:Value->Shared->Prop} (hu:A.units+1<cLine) (I:Inv X pins σ H s) (g:DGet H a y o) (ry:RelV y u) (h:∀s',Inv X pins σ H s'->Q (.bool o.isSome) s') :
  wpAny (model X.prog X.w) A (compareOp .In u (.ref a)) Q E s:=by
 rcases g with⟨kvs,k,e,ey,l⟩ | ⟨kvs,k,b,e,ey,eb,l⟩
 ·subst ey;obtain⟨z,hd,vs,rel,dd⟩:=qQ I.hok e
  refine wpAny_in_of (sY ry) hd dd.mapOf ?_
  rw[<- (rel.val k).isSome_eq,<- l];exact h _ (I.tok _)
 ·subst ey;cases (show u=Value.ref b from ry)
  obtain⟨z,hd,xs,rel,dd⟩:=tE I.hok e
  refine wpAny_in_heap (tupleKind_room_in1 hu) (qR I.hok eb) hd dd ?_
  have q:=(rel.val k).isSome_eq
  rw[Option.isSome_map]at q;rw[<- q,<- l];exact h _ (I.tok _)
theorem Nh {Q:Value->Shared->Prop} (hu:A.units+1<cLine) (I:Inv X pins σ H s) (g:DGet H a y o) (ry:RelV y u) (h:∀s',Inv X pins σ H s'->Q (.bool (!o.isSome)) s') :
  wpAny (model X.prog X.w) A (compareOp .NotIn u (.ref a)) Q E s:=by
 rcases g with⟨kvs,k,e,ey,l⟩ | ⟨kvs,k,b,e,ey,eb,l⟩
 ·subst ey;obtain⟨z,hd,vs,rel,dd⟩:=qQ I.hok e
  refine wpAny_notIn_of (sY ry) hd dd.mapOf ?_
  rw[<- (rel.val k).isSome_eq,<- l];exact h _ (I.tok _)
 ·subst ey;cases (show u=Value.ref b from ry)
  obtain⟨z,hd,xs,rel,dd⟩:=tE I.hok e
  refine wpAny_notIn_heap (tupleKind_room_in1 hu) (qR I.hok eb) hd dd ?_
  have q:=(rel.val k).isSome_eq
  rw[Option.isSome_map]at q;rw[<- q,<- l];exact h _ (I.tok _)
theorem Ni {h':Heap} {t':Nat} {ob:HO} (I:Inv X pins σ H s) (mu:Wo (H a)) (hs:Heap.SameBut a s.heap h') (he:∃q,h'.get? a=some q) (new:ObjOk X.prog X.w (aJ H a ob) h' a ob) :
  Inv X pins σ (aJ H a ob) {s with heap:=h',toks:=t' }:=
 I.write (x:=a) (e:=a) mu (.inl rfl) (fun b q hb z=>(hs.2 b hb).trans z) he new
theorem Te {P:Program} {w:World} {H':Hp} {h':Heap} {kvs:List (dQ × V)} {vs:List (dQ × Value)} (z:kvs.length<=sizeLine) (hd:(a == sysModules)=false) (rel:KV kvs vs) (dd:h'.DictOf (bM P w) a vs) :
  ObjOk P w H' h' a (.dK kvs):=⟨z,hd,vs,rel,dd⟩
end
def Tf (i:Expr):Prop:=∀ov iv,subscripted i false ov iv=operate [ov,iv] (getItem ov iv)
theorem Nj {prog:Program} {w:World} {A:Around} {E:Value->Shared->Prop} {s:Shared} {env:Env} {value slice:Expr} {pos:Pos} {T id:String} {Q:Value->Shared->Prop}
  (hl:typeLookup (.type T) "__getitem__"=pure (some (.builtin id))) (hs:Tf slice)
  (h:wpAny (model prog w) A (eval value env) (fun o s₁=>wpAny (model prog w) A (eval slice env) (fun i s₂=>s₂.TypeIs o T/\wpAny (model prog w) A (getItem o i) Q E s₂) E s₁) E s) :
  wpAny (model prog w) A (eval (.Subscript value slice pos) env) Q E s:=by
 refine Subscript_ (wpAny_mono h (fun o s₁ h₁=>wpAny_mono h₁ (fun i s₂ h₂=>?_) fun _ _ x=>x) fun _ _ x=>x)
 obtain⟨hT,h₂⟩:=h₂
 unfold subscriptTail;refine wpAny_bind ?_
 rw[getitemInPython_of_ne hT.not_modules];refine wpAny_bind (wpAny_specialOf hT hl ?_)
 have fin:wpAny (model prog w) A (subscripted slice false o i) (fun r s₃=>wpAny (model prog w) A (letTemporaryGo value o r >>= fun _=>pure r) Q E s₃) E s₂:=by
  rw[hs o i];exact wpAny_operating (wpAny_mono h₂ (fun r s₃ h₃=>wpAny_bind (wpAny_letTemporaryGo (wpAny_pure h₃))) fun _ _ x=>x)
 first
  | exact wpAny_pure (wpAny_bind fin)
  | exact wpAny_bind (wpAny_pure (wpAny_bind fin))
  | exact wpAny_bind fin
theorem xR {X:Cx} {pins:List (Addr × Obj)} {σ:St} {H:Hp} {s:Shared} {a:Addr} {y:V} {o:Option V} (I:Inv X pins σ H s) (g:DGet H a y o):s.TypeIs (.ref a) "dict":=by
 rcases g with⟨kvs,k,e,_,_⟩ | ⟨kvs,k,b,e,_,_,_⟩
 ·obtain⟨_,_,vs,_,dd⟩:=qQ I.hok e
  exact dd.typeIs
 ·obtain⟨_,_,xs,_,dd⟩:=tE I.hok e
  exact dd.typeIs
def Qk (td ty:TE):TE:=fun σ H Q=>td σ H fun x H1=>ty σ H1 fun y H2=>∃a v,x=.ref a/\DGet H2 a y (some v)/\Q v H2
section
variable {X:Cx} {o i e value:Expr} {pos pos' tpos:Pos} {td ty tv:TE}
theorem Nk (hu:X.A.units+1<cLine) (ho:PE X o td) (hi:PE X i ty) (hs:Tf i):PE X (.Subscript o i pos) (Qk td ty):=by
 intro pins s σ H Q I h;refine Nj PySem.F.slot_dict_getitem.lookup hs (bX (ho pins s σ H _ I h) fun u s1 ⟨x,H1,I1,rx,q1⟩=>bX (hi pins s1 σ H1 _ I1 q1) fun iv s2 ⟨y,H2,I2,ry,a,v,ex,g,q2⟩=>?_)
 subst ex;obtain rfl:u=Value.ref a:=rx
 exact⟨xR I2 g,Em hu I2 g ry fun w' s3 I3 rw'=>⟨v,H2,I3,rw',q2⟩⟩
end
theorem xS {P:Program} {w:World} {H:Hp} (h:Heap) (hb:sysModules<h.objs.size):ObjOk P w H (h.push {cls:=.type "dict",data:=.dict #[] }) h.objs.size (.dK []):=
 ⟨Nat.zero_le _,beq_eq_false_iff_ne.mpr (Ne.symm (Nat.ne_of_lt hb)),[],.nil,Heap.DictOf.new h⟩
def Hs:TE:=fun _ H Q=>∀p,H p=none->Q (.ref p) (aJ H p (.dK []))
section
variable {X:Cx} {pos:Pos}
theorem Ht:PE X (.Dict [] [] pos) Hs:=fun pins s σ H Q I h=>
 wpAny_Dict_empty ⟨.ref s.heap.objs.size,_,I.laid (a:=s.heap.objs.size) (o:=.dK []) (t':=s.toks) (fun _ _ q=>iV _ q) (cL _) (xS s.heap I.big),rfl,h _ (I.hok.fresh (cL _))⟩
end
def zX:List (TE × TE)->St->Hp->(List (V × V)->Hp->Prop)->Prop
 | [],_,H,Q=>Q [] H
 | (tk,tv)::r,σ,H,Q=>tk σ H fun x H1=>tv σ H1 fun y H2=>zX r σ H2 fun ps H3=>Q ((x,y)::ps) H3
abbrev VV:List (V × V)->List (Value × Value)->Prop:=Paired fun p q=>RelV p.1 q.1/\RelV p.2 q.2
def Xk (X:Cx) (pos:Pos) (keys:List (Option Expr)) (values:List Expr) (trs:List (TE × TE)):Prop:=
 ∀(pins:List (Addr × Obj)) (s:Shared) (σ:St) (H:Hp) (Q:List (V × V)->Hp->Prop),Inv X pins σ H s->zX trs σ H Q →
  wpAny (model X.prog X.w) X.A (evalPairs (pairTrees keys values X.env pos)) (fun vs s'=>∃ps H',Inv X pins σ H' s'/\VV ps vs/\Q ps H') X.xe s
theorem Nl {X:Cx} {pos:Pos}:Xk X pos [] [] []:=fun pins s σ H Q I h=>pairTrees_nil_walk ⟨[],H,I,.nil,h⟩
theorem Hu {X:Cx} {pos:Pos} {k v:Expr} {ks:List (Option Expr)} {vs:List Expr} {tk tv:TE} {trs:List (TE × TE)} (hk:PE X k tk) (hv:PE X v tv) (hr:Xk X pos ks vs trs) :
  Xk X pos (some k::ks) (v::vs) ((tk,tv)::trs):=fun pins s σ H Q I h=>
 pairTrees_cons_walk (bX (hk pins s σ H _ I h) fun u s1 ⟨x,H1,I1,rx,q1⟩=>bX (hv pins s1 σ H1 _ I1 q1) fun w2 s2 ⟨y,H2,I2,ry,q2⟩=>
  bX (hr pins s2 σ H2 _ I2 q2) fun ws s3 ⟨ps,H3,I3,rel,q3⟩=>⟨(x,y)::ps,H3,I3,.cons ⟨rx,ry⟩ rel,q3⟩)
def gU (kvs more:List (dQ × V)):List (dQ × V):=more.foldl (fun acc kv=>oZ acc kv.1 kv.2) kvs
theorem KV.merge:∀ {more:List (dQ × V)} {rs:List (dQ × Value)} {kvs:List (dQ × V)} {vs:List (dQ × Value)},KV more rs->KV kvs vs->KV (gU kvs more) (merged vs rs):=by
 intro more rs kvs vs r;unfold KV at r;induction r generalizing kvs vs with
 | nil=>intro q;exact q
 | @cons p q ps qs h t ih=>
  intro r0;have e:KV (oZ kvs p.1 p.2) (stored vs q.1 q.2):=by
   have:=r0.put p.1 h.2
   rw[<- h.1];exact this
  exact ih e
theorem mH:∀(more kvs:List (dQ × V)),(gU kvs more).length<=kvs.length+more.length
 | [],kvs=>by show kvs.length<=kvs.length+0;omega
 | p::r,kvs=>by
  have h1:=mH r (oZ kvs p.1 p.2)
  have h2:=xQ kvs p.1 p.2
  show(gU (oZ kvs p.1 p.2) r).length<=_
  rw[fI];omega
theorem qS {P:Program} {w:World}:∀ {kvs:List (dQ × V)} {ws:List (Value × Value)},VV (kvs.map fun kv=>(kV kv.1,kv.2)) ws->∃rs,Carries (bM P w) ws rs/\KV kvs rs
 | [],_,r=>by rw[List.map_nil]at r;cases r;exact⟨[],True.intro,.nil⟩
 | p::kvs,_,r=>by
  rw[List.map_cons]at r;cases r with
  | @cons a b as bs h t=>
   obtain⟨rs,c,q⟩:=qS (P:=P) (w:=w) t
   obtain⟨b1,b2⟩:=b
   exact⟨(p.1,b2)::rs,⟨sY h.1,rfl,c⟩,.cons ⟨rfl,h.2⟩ q⟩
def Ql (trs:List (TE × TE)):TE:=fun σ H Q=>∀p,H p=none->zX trs σ (aJ H p (.dK [])) fun ps H2=>H2 p=some (.dK [])/\∃kvs:List (dQ × V),ps=kvs.map (fun kv=>(kV kv.1,kv.2))/\kvs.length<=15/\Q (.ref p) (aJ H2 p (.dK (gU [] kvs)))
theorem Nm {X:Cx} {pos:Pos} {keys:List (Option Expr)} {values:List Expr} {trs:List (TE × TE)} (h:Xk X pos keys values trs) (hall:keys.all (·.isSome)=true) (hl:keys.length=values.length) (h0:keys≠[])
  (h15:keys.length<=15):PE X (.Dict keys values pos) (Ql trs):=by
 intro pins s σ H Q I q;have hn:=I.hok.fresh (cL s.heap.objs.size)
 have I1:=I.laid (a:=s.heap.objs.size) (o:=.dK []) (h':=s.heap.push {cls:=.type "dict",data:=.dict #[] }) (t':=s.toks) (fun _ _ q=>iV _ q) (cL _) (xS s.heap I.big)
 refine wpAny_Dict_walk (knd:=bM X.prog X.w) hall hl h0 h15 (bX (h pins _ σ _ _ I1 (q _ hn)) fun ws s2 ⟨ps,H2,I2,rel,e,kvs,ep,lk,q2⟩=>?_)
 subst ep;obtain⟨rs,c,rk⟩:=qS (P:=X.prog) (w:=X.w) rel
 obtain⟨z,hd,vs0,r0,dd⟩:=Hr I2.hok e
 cases r0
 refine⟨rs,c,dd,fun h' dd' hs=>⟨.ref s.heap.objs.size,_,?_,rfl,q2⟩⟩
 have hz:(gU [] kvs).length<=sizeLine:=by
  have h1:=mH kvs []
  rw[List.length_nil]at h1;rw[sizeLine_eq];omega
 have he:∃q,h'.get? s.heap.objs.size=some q:=let ⟨q,_,_,hq,_⟩:=dd';⟨q,hq⟩
 exact Ni I2 (by rw[e];exact True.intro) hs he (Te hz hd (rk.merge .nil) dd')
structure M2 (X:Cx) (o:Expr) (m:Str) (apos:Pos) (e f:Expr) (cpos:Pos):Prop where
 base:attributeBase o m X.env (eval o X.env)=eval o X.env
 few:((backTo cpos (starEach [e,f] X.env)).all (fun x=>!x.1)&&(backToKw cpos (keywordEach [] X.env)).all (fun x=>x.1.isSome)
  && decide (([e,f]:List Expr).length+([]:List Keyword).length+(if ([]:List Keyword).isEmpty then 0 else 1)<30))=true
 line:(apos.endLine == cpos.line)=true
 trees:backTo cpos (starEach [e,f] X.env)=[(false,eval e X.env),(false,eval f X.env)]
def Zw (H:Hp) (a:Addr):Prop:=(∃kvs,Rd H a (.dK kvs))∨∃kvs,Rd H a (.dT kvs)
theorem Ti {X:Cx} {pins:List (Addr × Obj)} {σ:St} {H:Hp} {s:Shared} {a:Addr} (I:Inv X pins σ H s) (d:Zw H a) :
  s.TypeIs (.ref a) "dict"/\(∀b,Value.ref a=.ref b->∃ob,s.heap.get? b=some ob/\ob.dict=none)/\(a == sysModules)=false:=by
 rcases d with⟨kvs,e⟩ | ⟨kvs,e⟩
 ·obtain⟨_,hd,vs,_,dd⟩:=qQ I.hok e
  refine⟨dd.typeIs,fun b q=>?_,hd⟩
  cases q
  obtain⟨ob,_,_,h1,h2,_⟩:=dd
  exact⟨ob,h1,h2.2.1⟩
 ·obtain⟨_,hd,xs,_,dd⟩:=tE I.hok e
  refine⟨dd.typeIs,fun b q=>?_,hd⟩
  cases q
  obtain⟨ob,_,_,h1,h2,_⟩:=dd
  exact⟨ob,h1,h2.2.1⟩
section
variable {X:Cx} {pins:List (Addr × Obj)} {σ:St} {H:Hp} {s:Shared} {a:Addr} {y d:V} {u r:Value} {o:Option V} {A:Around} {E:Value->Shared->Prop}
theorem Tj {Q:Value->Shared->Prop} (hu:A.units+1<cLine) (I:Inv X pins σ H s) (g:DGet H a y o) (ry:RelV y u) (rd:RelV d r) (h:∀w' s',Inv X pins σ H s'->RelV (o.getD d) w'->Q w' s') :
  wpAny (model X.prog X.w) A (call (.builtin "dict.get") [.ref a,u,r]) Q E s:=by
 rcases g with⟨kvs,k,e,ey,l⟩ | ⟨kvs,k,b,e,ey,eb,l⟩
 ·subst ey;obtain⟨z,hd,vs,rel,dd⟩:=qQ I.hok e
  refine call_meetsIn PySem.F.slot_dict_get dd.typeIs PySem.F.entry_dict_get (PySem.F.args_dict_get_3 _ _ _) (meets_dict_get_default (bM X.prog X.w) a (sY ry) hd r) ⟨_,dd.mapOf,h _ _ (I.tok _) ?_⟩
  rw[l];exact(rel.val k).getD rd
 ·subst ey;cases (show u=Value.ref b from ry)
  obtain⟨z,hd,xs,rel,dd⟩:=tE I.hok e
  refine call_meetsIn PySem.F.slot_dict_get dd.typeIs PySem.F.entry_dict_get (PySem.F.args_dict_get_3 _ _ _) (meetsH_dict_get_default (tupleKind (bM X.prog X.w)) a b hd r) ⟨tupleKind_room_in1 hu,k,xs,qR I.hok eb,dd,h _ _ (I.tok _) ?_⟩
  rw[l];exact(rel.val k).getD rd
end
def Hv (td ty tx:TE):TE:=fun σ H Q=>td σ H fun x H1=>∃a,x=.ref a/\Zw H1 a/\ty σ H1 fun y H2=>tx σ H2 fun z H3=>∃o,DGet H3 a y o/\Q (o.getD z) H3
section
variable {X:Cx} {o e f:Expr} {apos cpos:Pos} {td ty tx:TE}
theorem Hw (hu:X.A.units+1<cLine) (ho:PE X o td) (he:PE X e ty) (hf:PE X f tx) (m:M2 X o "get" apos e f cpos):PE X (.Call (.Attribute o "get" apos) [e,f] [] cpos) (Hv td ty tx):=by
 intro pins s σ H Q I h;refine wpAny_Call_method m.base m.few m.line PySem.F.plainAttrs_dict PySem.F.slot_dict_get PySem.F.type_dict_get (bX (ho pins s σ H _ I h) fun u s1 ⟨x,H1,I1,rx,a,ex,d,q1⟩=>?_)
 subst ex;obtain rfl:u=Value.ref a:=rx
 obtain⟨t1,t2,_⟩:=Ti I1 d
 refine⟨t1,t2,?_⟩
 rw[m.trees];refine Calls.callWith_builtin rfl (Calls.evalArgs_plain (Calls.spliced_cons (bX (he pins s1 σ H1 _ I1 q1) fun iv s2 ⟨y,H2,I2,ry,q2⟩=>
  Calls.spliced_cons (bX (hf pins s2 σ H2 _ I2 q2) fun fv s3 ⟨z,H3,I3,rz,ov,g,q3⟩=>Calls.spliced_nil ?_))))
 exact Tj hu I3 g ry rz fun w' s4 I4 rw'=>⟨_,H3,I4,rw',q3⟩
end
end L2
namespace Att
open PySem PySem.W PySem.Calls PyProof.Rows
theorem pW {P:Params} {h:Heap}:∀(ns:List Int) (vs:List Value),WellAll P h vs (ns.map WData.int)->IntsAre vs ns:=by
 intro ns;induction ns with
 | nil=>
  intro vs w;rw[List.map_nil]at w;cases w
  exact .nil
 | cons n ns ih=>
  intro vs w;rw[List.map_cons]at w;cases w with
  | cons a b=>
   cases a
   exact .cons _ _ (ih _ b)
theorem En {l:OpenLaw} {n:Nat} (hn:l.most=some n) {P:Params} {h:Heap} {args:List WData} {vals:List Value}
  (hpre:l.row.toRowW.claim.pre args=true) (hwl:WellAll P h vals args) :
  ∃a vs ns,vals=[Value.ref a]/\args=[WData.list (ns.map WData.int)]/\h.get? a=some {cls:=.type "list",data:=.seq vs.toArray }/\IntsAre vs ns/\ns.length<=n:=by
 have hsh:WShape.hasAll [] args [.list .int]=true:=(pre_splitW hpre).1
 have hc:l.pre.holds [] {args:=args }=true:=(pre_splitW hpre).2
 obtain⟨d,r,rfl,h1,h2⟩:=hasAllW_cons hsh
 obtain rfl:=hasAllW_nil h2
 obtain⟨xs,rfl,h3⟩:=hasW_list h1
 obtain⟨ns,rfl⟩:=items_int h3
 have hlen:ns.length<=n:=by
  unfold OpenLaw.pre at hc;have h4:(WTm.not (.lt (.lit (.int (n:Int))) (.len (.arg 0)))).holds [] {args:=[.list (ns.map .int)] }=true:=by
   have h4:=(holds_andW hc).1
   rw[hn]at h4;exact h4
  have h5:=condW_of h4 (w_not (w_lt w_lit (w_len_list (w_arg rfl))))
  rw[aZ]at h5;refine Nat.le_of_not_lt fun q=>?_
  have q':(n:Int)<((ns.length:Nat):Int):=by omega
  first
   | (rw[decide_eq_true q']at h5;exact absurd h5 Zd)
   | (simp at h5;omega)
 cases hwl with
 | cons w1 w2=>
  cases w2
  cases w1 with
  | list ho hall=>exact⟨_,_,ns,rfl,rfl,ho,pW ns _ hall,hlen⟩
theorem Eo (l:OpenLaw) (args:List WData):l.row.toRowW.claim.post args (.bool true) args=true:=
 postW_of (r:=l.row.toRowW) (X:=(true == true))
  (show WShape.has [] (.bool true) .bool=true by first | rfl | decide | simp [WShape.has,WShape.arms,WShape.armsAll])
  (show(WTm.eq .res (.lit (.bool true))).value [] {args:=args,res:=some (.bool true),after:=args }=some (.bool (true == true)) from w_eq_bool (w_res rfl) w_lit) rfl
theorem attach_call {l:OpenLaw} {n:Nat} {q:Program} {loose:List Str} {XP:(Str->Option Value)->Heap->Prop} {YP:World->Heap->Prop} {d:DefRec}
  (hn:l.most=some n) (hdf:d.params.defaults=[])
  (call:∀(w:World) (s₀ s₁:Shared) (mg mb:Str->Option Value) (fa:Addr) (o:Obj) (pm cd doc:Value) (a:Addr) (vs:List Value) (ns:List Int),
   Ground q loose [] XP w s₀ mg mb s₁.heap->YP w s₁.heap →
   s₁.heap.get? fa=some o->o.data=.func (docDef d.name d.params d.body d.scope pm cd doc)->s₁.heap.CodeRec cd d.name->mg d.name=some (.ref fa) →
   s₁.heap.get? a=some {cls:=.type "list",data:=.seq vs.toArray }->IntsAre vs ns->ns.length<=n->s₁.gens=#[] →
   codeAny (model l.prog w) callerA (.call (.ref fa) ⟨[.ref a],[]⟩) (fun r s'=>r=.ok (.ret (.bool true))/\OldK s₁.heap s'.heap/\s'.os=s₁.os/\AllBare s'.gens) s₁) :
  WalkO q loose XP YP l.row.toRowW d [] (fun f vs=>PySem.call f vs):=by
 intro w s₀ s₁ mg mb G Y fa o pm cd doc dV kV ho hd hcd hD hmg hg args vals as hpre hlay hrd hwl hlo;obtain rfl:dV=.none:=Dflts.none hD hdf
 obtain rfl:kV=.none:=Dflts.noKw hD
 obtain⟨a,vs,ns,rfl,rfl,hobj,hints,hlen⟩:=En hn hpre hwl
 refine enter_call (codeAny_mono (call w s₀ s₁ mg mb fa o pm cd doc a vs ns G Y ho (fd_plain hd) hcd hmg hobj hints hlen hg) fun r s' hq=>?_)
 obtain⟨rfl,h2,h3,h4⟩:=hq
 exact⟨.inl ⟨.bool true,.bool true,[],rfl,fun _=>rfl,.bool true,Eo l _,fun _=>⟨List.Pairwise.nil,fun _ hm=>(nomatch hm)⟩⟩,h2,h3,h4⟩
end Att
namespace L2
open PySem PySem.Spec PyProof.Rows
theorem tF:∀ {vs:List Value} {ns:List Int},IntsAre vs ns->Vals (ns.map V.int) vs
 | _,_,.nil=>.nil
 | _,_,.cons n t h=>.cons ⟨t,rfl⟩ (tF h)
def Tk (H:Hp):Prop:=∀b,H b=none∨∃o xs,H b=some (.frz o (.lst xs))
theorem Hx {P:Program} {w:World} {K:W.Frag} {mg mb:Str->Option Value} {CX:Hi} {k:Nat} {fa a:Addr} {fd:FuncData} {x:Str} {sp:Sp} {s₁:Shared} {vs:List Value} {ns:List Int}
  (KX:K.In s₁.heap) (hns:s₁.heap.Ns mainGlobals mg) (hb:s₁.heap.Ns builtinsNs mb) (hbb:∀x:Str,x≠"__name__"->mb x=bootBuiltins x) (hlim:s₁.heap.NoLimit) (hg:s₁.gens=#[])
  (ha:s₁.heap.get? a=some {cls:=.type "list",data:=.seq vs.toArray }) (hi:IntsAre vs ns) (hl:ns.length<=sizeLine) (hr:Room k callerA)
  (F:∀base:Heap,K.In base->base.Ns mainGlobals mg->pV P w K mg base CX k fa fd [x] sp) (hbind:∀(s:Shared) (u:Value),BindsTo s fd ⟨[u],[]⟩ [(x,u)])
  (hsp:∀H:Hp,Tk H->SqL K H a (ns.map V.int)->sp [.ref a] H (fun v _=>v=.bl true) fun _ _ _=>False)
  (hCX:∀H e s',CX [] H s₁ (fun _ _ _=>False) e s'->False) :
  codeAny (model P w) callerA (.call (.ref fa) ⟨[.ref a],[]⟩) (fun r s'=>r=.ok (.ret (.bool true))/\OldK s₁.heap s'.heap/\s'.os=s₁.os/\AllBare s'.gens) s₁:=by
 have rv:=tF hi
 have lenV:=hi.length
 have core:∀H:Hp,Tk H->SqL K H a (ns.map V.int)->HOk P w H s₁.heap->(∀b,H b≠none->b=a)->(H a≠none->K.lookup a=none) →
   codeAny (model P w) callerA (.call (.ref fa) ⟨[.ref a],[]⟩) (fun r s'=>r=.ok (.ret (.bool true))/\OldK s₁.heap s'.heap/\s'.os=s₁.os/\AllBare s'.gens) s₁:=by
  intro H hO hS hok hA hK;have base_of:∀ {b:Addr} {o:Obj},s₁.heap.get? b=some o->H b=none->(uG s₁.heap H).get? b=some o:=fun e n=>Gs e n
  have noA:∀ {b:Addr} {o:Obj} {es:Array DictEntry} {ep:Nat},s₁.heap.get? b=some o->o.data=.dict es ep->H b=none:=fun {b o es ep} e d=>by
   cases q:H b with
   | none=>rfl
   | some u=>
    have e':b=a:=hA b (by rw[q];simp)
    subst e';rw[ha]at e;cases e
    have d':Data.seq vs.toArray _=Data.dict es ep:=d
    cases d'
  have nsK:∀ {b:Addr} {m:Str->Option Value},s₁.heap.Ns b m->(uG s₁.heap H).Ns b m:=fun {b m} ⟨o,es,ep,e,d,r⟩=>⟨o,es,ep,base_of e (noA e d),d,r⟩
  have hKb:K.In (uG s₁.heap H):=fun b o e=>base_of (KX b o e) (by
   cases q:H b with
   | none=>rfl
   | some u=>
    have e':b=a:=hA b (by rw[q];simp)
    subst e';rw[hK (by rw[q];simp)]at e;cases e)
  have hM:Mod K mg (uG s₁.heap H):=⟨hKb,nsK hns,⟨mb,nsK hb,hbb⟩,let ⟨mc,h1,h2⟩:=hlim;⟨mc,nsK h1,h2⟩⟩
  have e0:Eg P w K mg (uG s₁.heap H) callerA [] s₁ H:=⟨rfl,hM,fun b o e=>Mk e,Nat.le_of_eq (Du _ _),trivial,fun b hb=>absurd (show b∈([]:List Addr) from hb) Zs,hok,.of_eq hg⟩
  refine codeAny_mono ((F _ hKb (nsK hns)).run callerA [] s₁ H ⟨[.ref a],[]⟩ [.ref a] [.ref a] _ _ hr e0 (hbind s₁ (.ref a)) (.cons rfl .nil) (hsp H hO hS)) fun r s' h=>?_
  cases r with
  | error e=>exact(hCX H e s' h).elim
  | ok fl=>
   cases fl with
   | next=>exact False.elim h
   | brk=>exact False.elim h
   | cont=>exact False.elim h
   | ret u=>
    obtain⟨v,H',os,bare,un,hok',r',q⟩:=h
    have q':v=.bl true:=q
    subst q';obtain rfl:u=Value.bool true:=r'
    refine⟨rfl,OldK.of_keep fun b o e=>?_,os,bare⟩
    cases q:H b with
    | none=>exact un.keep b o e q (by intro z;exact absurd (show b∈([]:List Addr) from z) Zs) Zs
    | some u=>
     rcases hO b with z | ⟨ob,xs,z⟩
     ·rw[q]at z;cases z
     ·have z2:=un.frzs b ob _ z
      obtain⟨e1,_⟩:=hok b _ z
      obtain⟨e2,_⟩:=hok' b _ z2
      rw[e]at e1;cases e1
      exact e2
 cases hk:K.lookup a with
 | some o=>
  have e:=KX a o hk
  rw[ha]at e;cases e
  refine core (fun _=>none) (fun _=>.inl rfl) (.inr ⟨_,vs.toArray,_,hk,rfl,rfl,rfl,by rw[fY,lenV];exact hl,by simpa using rv⟩) (fun b u z=>by have z':(none:Option HO)=some u:=z;cases z') (fun b z=>absurd rfl z) fun z=>absurd rfl z
 | none=>
  refine core (fun b=>if b=a then some (.frz {cls:=.type "list",data:=.seq vs.toArray } (.lst (ns.map V.int))) else none) (fun b=>?_) (.inl (.inr ⟨{cls:=.type "list",data:=.seq vs.toArray },if_pos rfl⟩)) (fun b u z=>?_) (fun b z=>?_) fun _=>hk
  ·by_cases hb:b=a
   ·exact .inr ⟨_,_,if_pos hb⟩
   ·exact .inl (if_neg hb)
  ·by_cases hb:b=a
   ·have z':=(if_pos hb).symm.trans z
    cases z'
    subst hb;exact⟨ha,by rw[aZ];exact hl,vs,_,rv,ha⟩
   ·have z':=(if_neg hb).symm.trans z
    cases z'
  ·by_cases hb:b=a
   ·exact hb
   ·exact absurd (if_neg hb) z
end L2
namespace L2
open PySem PySem.Spec PyProof.Rows
theorem Cd {l:W.OpenLaw} {n k:Nat} {q:Program} {loose:List Str} {XP:(Str->Option Value)->Heap->Prop} {YP:World->Heap->Prop} {d:DefRec} {K:Params->W.Frag} {CX:World->Hi} {sp:World->Sp} {x:Str}
  (hn:l.most=some n) (hn2:n<=sizeLine) (hdf:d.params.defaults=[]) (hr:Room k callerA)
  (hY:∀(w:World) (h:Heap),YP w h->(K w.params).In h)
  (F:∀(w:World) (mg:Str->Option Value) (fa:Addr) (h:Heap),(K w.params).In h->h.Ns mainGlobals mg->mg d.name=some (.ref fa) →
   ∃fd:FuncData,(∀(s:Shared) (u:Value),BindsTo s fd ⟨[u],[]⟩ [(x,u)]) ∧
    ∀base:Heap,(K w.params).In base->base.Ns mainGlobals mg->pV l.prog w (K w.params) mg base (CX w) k fa fd [x] (sp w))
  (hsp:∀(w:World) (H:Hp) (a:Addr) (ns:List Int),ns.length<=n->Tk H->SqL (K w.params) H a (ns.map V.int)->sp w [.ref a] H (fun v _=>v=.bl true) fun _ _ _=>False)
  (hCX:∀(w:World) (H:Hp) (s:Shared) (e:Value) (s':Shared),CX w [] H s (fun _ _ _=>False) e s'->False) :
  W.WalkO q loose XP YP l.row.toRowW d [] (fun f vs=>PySem.call f vs):=by
 refine Att.attach_call hn hdf fun w s₀ s₁ mg mb fa o pm cd doc a vs ns G Y ho hd hcd hmg hobj hints hlen hg=>?_
 have KX:=hY w _ Y
 obtain⟨fd,hb,hF⟩:=F w mg fa _ KX G.T.g hmg
 exact Hx KX G.T.g G.T.b G.T.builtins G.T.nolimit hg hobj hints (kB hlen hn2) hr hF hb (fun H hO hS=>hsp w H a ns hlen hO hS) fun H e s'=>hCX w H s₁ e s'
end L2
/- THE LAST THEOREM (shape;LID,My.* are yours):
   My.Adr: a structure of the addresses that your layer names (classes,functions);My.Txt K t: a structure (Prop) of the equations over K;
   My.txt_mk:{K} {implicit addresses ..} (e1:nsIn K mainGlobals "law"=some (some (.ref f))) (e2:K.lookup f=some ⟨oc,od,.func (fnOf "law" "law" params body scope dV kV doc pm an cdv ct),sl⟩) (e3:codeIn K cdv "law"=true) ..:∃t,My.Txt K t
set_option maxRecDepth 100000 in
set_option maxHeartbeats 0 in
theorem PySem.Challenge.cw_LID_holds : PySem.Challenge.rw_LID.Holds := by
 w_on;o_law;k_head;(case hw=>w_witness2)
 k_fill
 refine L2.Cd (l:=PySem.Challenge.rw_LID) (n:=63) (k:=40) (x:="script") (CX:=fun w=>..) (sp:=fun _=>My.sp_law) rfl Zd rfl ⟨rfl,Zd,Zd⟩ (fun w h Y=>W.kIn_of Y) ?F ?S ?C
 case F=>
  intro w mg fa h KX G hmg;have T:∃t,My.Txt (L2.KOf KX) t:=by
   dsimp only [L2.KOf]                          -- K must stand as «<heap const> w.params» for k_is
   refine' My.txt_mk ?e1 ?e2 ?e3 ..
   (case e1=>W.k_is)                    -- in the order: a name->its address->its object->its parts
   (case e2=>W.k_is)
   ..
  obtain⟨t,T⟩:=T
  have e0:=hmg.symm.trans (W.mg_of KX G T.law)
  cases e0                                       -- fa is the law's own address
  exact⟨_,fun s u=>.of_eq rfl,fun base kb nb=>My.law_fn T kb nb⟩     -- if «.of_eq rfl» comes too early: refine' ⟨_,?b,fun base kb nb=>My.law_fn T kb nb⟩;exact fun s u=>.of_eq rfl
 case S=>exact fun w H a ns hl hO hS=>..
 case C=>exact ..
(the tactic k_is has no namespace: write k_is) -/
namespace L2
open PySem PySem.Spec PyProof.Rows
def eJ (s:Stmt):Arguments:=match s with
 | .FunctionDef _ a _ _ _ _ _ _ _ _=>a
 | _=>{posonlyargs:=[],args:=[],vararg:=none,kwonlyargs:=[],kw_defaults:=[],kwarg:=none,defaults:=[] }
def bZ (s:Stmt):List Stmt:=match s with
 | .FunctionDef _ _ b _ _ _ _ _ _ _=>b
 | _=>[]
def aE (s:Stmt):Scope:=match s with
 | .FunctionDef _ _ _ _ _ _ sc _ _ _=>sc
 | _=>{kind:=.function,names:=[],isGenerator:=false,isCoroutine:=false }
abbrev xT:Hi:=fun _ _ _ _ _ _=>False
abbrev E0:XK:=fun _ _ _=>False
theorem Xl {X:Cx}:zT xT X E0:=fun _ _ _ _ _ _ _ h=>h.elim
structure Fun (K:W.Frag) (x qual:Str) (st:Stmt) (f:Addr) (fd:FuncData):Prop where
 ex:∃(oc:Value) (od:Option Addr) (kV doc pm:Value) (an:Option Addr) (cdv ct:Value) (osl:Array (Option Value)),
  fd=W.fnOf x qual (eJ st) (bZ st) (aE st) .none kV doc pm an cdv ct/\K.lookup f=some ⟨oc,od,.func fd,osl⟩/\W.codeIn K cdv qual=true
 kp:W.keepIn K (.ref f)=true
section
variable {P:Program} {w:World} {K:W.Frag} {mg:Str->Option Value} {base:Heap}
theorem Fun.ok {x qual:Str} {st:Stmt} {f:Addr} {fd:FuncData} {N ps:List Str} {k:Nat} {sp:Sp} (F:Fun K x qual st f fd) (S:aL N ps (aE st)) (len:∀vs H Q E,sp vs H Q E->vs.length=ps.length)
  (hbody:∀(cdv:Value) (A:Around) (outer:List Env) (s:Shared) (H:Hp) (vs:List V) (Q:VK) (E:XK),Room k (A.deeper (envOfC qual (aE st) s.heap.objs.size f cdv))->sp vs H Q E →
   ∃t,PSs (kJ xT P w K mg base N qual (aE st) f cdv A outer s H E).nox (bZ st) t/\t {nx:=fun _ H'=>Q .non H',rt:=Q } (start N vs) H):pV P w K mg base xT (k+1) f fd ps sp:=by
 obtain⟨oc,od,kV,doc,pm,an,cdv,ct,osl,rfl,lk,hcd⟩:=F.ex
 refine Qh lk hcd S len fun A outer s H vs Q E hr hsp=>?_
 obtain⟨t,h,q⟩:=hbody cdv A outer s H vs Q E hr hsp
 exact⟨t,h.nox,q⟩
theorem Fun.binds {x qual:Str} {st:Stmt} {f:Addr} {fd:FuncData} {ps:List Str} (F:Fun K x qual st f fd)
  (h:∀(kV doc pm:Value) (an:Option Addr) (cdv ct:Value) (us:List Value),us.length=ps.length->bindArgs (W.fnOf x qual (eJ st) (bZ st) (aE st) .none kV doc pm an cdv ct) ⟨us,[]⟩=pure (ps.zip us)):Binds K fd ps []:=by
 obtain⟨oc,od,kV,doc,pm,an,cdv,ct,osl,rfl,lk,hcd⟩:=F.ex
 exact .all (h kV doc pm an cdv ct)
theorem zY {x qual:Str} {st:Stmt} {f:Addr} {oc:Value} {od an:Option Addr} {osl:Array (Option Value)} {kV doc pm cdv ct:Value} (l:K.lookup f=some ⟨oc,od,.func (W.fnOf x qual (eJ st) (bZ st) (aE st) .none kV doc pm an cdv ct),osl⟩)
  (c:W.codeIn K cdv qual=true) (k:W.keepIn K (.ref f)=true):Fun K x qual st f (W.fnOf x qual (eJ st) (bZ st) (aE st) .none kV doc pm an cdv ct):=⟨⟨oc,od,kV,doc,pm,an,cdv,ct,osl,rfl,l,c⟩,k⟩
end
theorem Xm {A:Around} {k:Nat} (hr:Room k A):A.units+1<cLine:=Wf (Nat.add_le_add_left (by decide:1<=64) _) hr.units
def Same (H H':Hp):Prop:=∀b o,H b=some o->H' b=some o
theorem Same.refl (H:Hp):Same H H:=fun _ _ h=>h
theorem Same.trans {H H1 H2:Hp} (a:Same H H1) (b:Same H1 H2):Same H H2:=fun c o h=>b c o (a c o h)
theorem Same.free {H H':Hp} (e:Same H H') {l:Addr} (h:H' l=Option.none):H l=Option.none:=by
 cases q:H l with
 | none=>rfl
 | some o=>
  rw[e l o q]at h;cases h
end L2
namespace L2
open PySem PySem.Spec PyProof.Rows
def kO (env:Env):List (Str × NameKind)->List (Str × Addr)->List (Str × Addr)
 | [],cs=>cs
 | (n,k)::r,cs=>kO env r (if k=.free then (match env.cells.lookup n with | some c=>(n,c)::cs | none=>cs) else cs)
theorem mP {env:Env}:∀(names:List (Str × NameKind)) (cs:List (Str × Addr)),(∀x∈names,x.2=.free->∃c,env.cells.lookup x.1=some c) →
  (forIn names cs fun(x:Str × NameKind) (r:List (Str × Addr))=>(do
   if x.2 == .free then do
    let c ← cellOf env x.1
    pure (ForInStep.yield ((x.1,c)::r))
   else pure (ForInStep.yield r):Sem _))=pure (kO env names cs)
 | [],cs,_=>rfl
 | (n,k)::r,cs,h=>by
  rw[List.forIn_cons];by_cases hk:k=.free
  ·subst hk;obtain⟨c,hc⟩:=h (n,.free) iW rfl
   have hc':env.cells.lookup n=some c:=hc
   have e1:cellOf env n=pure c:=by unfold cellOf;rw[hc']
   simp only [beq_self_eq_true,if_true,e1,pure_bind]
   rw[mP r ((n,c)::cs) fun x hx=>h x (gT _ hx)]
   simp [kO,hc']
  ·have hb:(k == NameKind.free)=false:=by simpa using hk
   simp only [hb,Bool.false_eq_true,if_false,pure_bind]
   rw[mP r cs fun x hx=>h x (gT _ hx)]
   simp [kO,hk]
theorem qT {scope:Scope} {env:Env} (h:∀x∈scope.names,x.2=.free->∃c,env.cells.lookup x.1=some c):closureFor scope env=pure (kO env scope.names []):=by
 have e:=mP scope.names [] h
 unfold closureFor;exact(congrArg (fun z=>z >>= fun(r:List (Str × Addr))=>(pure r:Sem _)) e).trans (pure_bind _ _)
theorem xU {env:Env}:∀(names:List (Str × NameKind)) (cs:List (Str × Addr)),(∀y d,(y,d)∈cs->env.cells.lookup y=some d)->∀y d,(y,d)∈kO env names cs->env.cells.lookup y=some d
 | [],_,h=>h
 | (n,k)::r,cs,h=>by
  unfold kO;refine xU r _ fun y d hm=>?_
  split at hm
  ·split at hm
   ·rename_i c hc
    rcases List.mem_cons.mp hm with e | e
    ·cases e;exact hc
    ·exact h y d e
   ·exact h y d hm
  ·exact h y d hm
theorem Ce {env:Env}:∀(names:List (Str × NameKind)) (cs:List (Str × Addr)) (y:Str) (d:Addr),(y,d)∈kO env names cs->(y,.free)∈names∨(y,d)∈cs
 | [],_,_,_,h=>.inr h
 | (n,k)::r,cs,y,d,h=>by
  unfold kO at h;rcases Ce r _ y d h with e | hm
  ·exact .inl (gT _ e)
  ·split at hm
   ·rename_i hk
    split at hm
    ·rcases List.mem_cons.mp hm with e | e
     ·cases e;subst hk;exact .inl iW
     ·exact .inr e
    ·exact .inr hm
   ·exact .inr hm
theorem Hy {env:Env}:∀(names:List (Str × NameKind)) (cs:List (Str × Addr)) (y:Str),((∃d,(y,d)∈cs)∨(y,.free)∈names)->(∀x∈names,x.2=.free->∃c,env.cells.lookup x.1=some c)->∃d,(y,d)∈kO env names cs
 | [],_,_,h,_=>by
  rcases h with h | h
  ·exact h
  ·cases h
 | (n,k)::r,cs,y,h,hf=>by
  unfold kO;refine Hy r _ y ?_ fun x hx=>hf x (gT _ hx)
  rcases h with⟨d,hd⟩ | h
  ·refine .inl ⟨d,?_⟩
   split
   ·split
    ·exact gT _ hd
    ·exact hd
   ·exact hd
  ·rcases List.mem_cons.mp h with e | e
   ·have e1:y=n:=congrArg Prod.fst e
    have e2:NameKind.free=k:=congrArg Prod.snd e
    subst e1 e2;obtain⟨c,hc⟩:=hf (y,.free) iW rfl
    have hc':env.cells.lookup y=some c:=hc
    refine .inl ⟨c,?_⟩
    rw[if_pos rfl,hc'];exact iW
   ·exact .inr e
theorem qU {α:Type}:∀ {l:List (Str × α)} {y:Str} {d:α},(y,d)∈l->∃d',l.lookup y=some d'/\(y,d')∈l
 | (n,c)::r,y,d,h=>by
  by_cases e:y=n
  ·subst e;exact⟨c,by simp [List.lookup_cons],iW⟩
  ·rcases List.mem_cons.mp h with q | q
   ·cases q;exact absurd rfl e
   ·obtain⟨d',h1,h2⟩:=qU q
    have hb:(y == n)=false:=by simpa using e
    exact⟨d',by rw[List.lookup_cons,hb];exact h1,gT _ h2⟩
theorem dR {env:Env} {names:List (Str × NameKind)} {y:Str} {c:Addr} (h:(kO env names []).lookup y=some c):env.cells.lookup y=some c/\(y,.free)∈names:=by
 have hm:=PySem.mem_of_lookup h
 refine⟨xU names [] (fun _ _ z=>nomatch z) y c hm,?_⟩
 rcases Ce names [] y c hm with e | e
 ·exact e
 ·cases e
theorem Cf {env:Env} {names:List (Str × NameKind)} {y:Str} (h:(y,.free)∈names) (hf:∀x∈names,x.2=.free->∃c,env.cells.lookup x.1=some c):∃c,(kO env names []).lookup y=some c/\env.cells.lookup y=some c:=by
 obtain⟨d,hd⟩:=Hy names [] y (.inr h) hf
 obtain⟨c,hc,_⟩:=qU hd
 exact⟨c,hc,(dR hc).1⟩
theorem uY {scope:Scope} {env:Env} (hcell:∀y∈scope.names,y.2≠.cell) {x:Str} (h:(relabel scope env).names.lookup x=some .cell∨(relabel scope env).names.lookup x=some .free):(x,.free)∈scope.names:=by
 have go:∀ {k:NameKind},k=.cell∨k=.free->(relabel scope env).names.lookup x=some k->(x,.free)∈scope.names:=fun {k} hk h=>by
  have hm:=PySem.mem_of_lookup h
  unfold relabel at hm;obtain⟨⟨n,j⟩,hp,e⟩:=Zmm.mp hm
  dsimp only at e
  split at e
  ·rename_i hc
   cases e
   have:j=.free:=by
    have:=(Bool.and_eq_true_iff.mp (Bool.and_eq_true_iff.mp hc).1).1
    simpa using this
   subst this;exact hp
  ·cases e
   rcases hk with q | q
   ·exact absurd q (hcell _ hp)
   ·subst q;exact hp
 rcases h with h | h
 ·exact go (.inl rfl) h
 ·exact go (.inr rfl) h
theorem nQ {env:Env}:∀ {names:List (Str × NameKind)} {x:Str},names.lookup x=some .free →
  (names.map fun(n,k)=>if (k == NameKind.free&&env.scope.kind == .function&&env.kindOf n == some .cell) then (n,NameKind.cell) else (n,k)).lookup x=some .cell∨
  (names.map fun(n,k)=>if (k == NameKind.free&&env.scope.kind == .function&&env.kindOf n == some .cell) then (n,NameKind.cell) else (n,k)).lookup x=some .free
 | [],_,h=>by simp at h
 | (n,k)::r,x,h=>by
  have ih:=@nQ env r x
  rw[List.map_cons];dsimp only;cases hx:x == n with
  | true=>
   simp only [List.lookup_cons,hx]at h
   cases h
   split
   ·left;simp [List.lookup_cons,hx]
   ·right;simp [List.lookup_cons,hx]
  | false=>
   simp only [List.lookup_cons,hx]at h
   split
   ·simp only [List.lookup_cons,hx];exact ih h
   ·simp only [List.lookup_cons,hx];exact ih h
def oS (X:Cx) (scope:Scope) (C:Addr) (N:List Str) (s₂:Shared) (H₂:Hp) (fp:List Addr):Cx where
 prog:=X.prog
 w:=X.w
 K:=X.K
 mg:=X.mg
 base:=X.base
 A:=X.A
 N:=N
 s₀:=s₂
 H₀:=H₂
 env:=compEnvC scope (kO X.env scope.names []) C X.env
 outer:=X.stack
 stack:=X.stack
 ex:=fp
 fn:=fun _=>false
 calm:=X.calm
 pn:=[]
 xe:=fun _ _=>False
def xF (js:List (Option Nat)) (σ:St):St:=js.map fun o=>match o with | some j=>(σ[j]?).getD none | none=>none
structure CompScope (X:Cx) (scope:Scope) (N:List Str) (js:List (Option Nat)):Prop where
 kind:scope.kind=.function
 nocell:∀y∈scope.names,y.2≠.cell
 loc:∀y∈scope.names,y.2=.local->scope.names.lookup y.1=some .local
 len:js.length=N.length
 cap:∀(i j:Nat),js[i]?=some (some j)->∃x,N[i]?=some x/\X.N[j]?=some x/\scope.names.lookup x=some .free
 out:∀y∈scope.names,y.2=.free->X.env.kindOf y.1=some .cell∨X.env.kindOf y.1=some .free
def zZ (js:List (Option Nat)) (g:TG):Prop:=∀x σ H Q,g x σ H Q->g x σ H fun σ2 H2=>Q σ2 H2/\σ2.length=σ.length/\∀(i j:Nat),js[i]?=some (some j)->σ2[i]?=σ[i]?
def Cg (js:List (Option Nat)) (g:Bt):Prop:=∀xs σ H Q,g xs σ H Q->g xs σ H fun σ2 H2=>Q σ2 H2/\σ2.length=σ.length/\∀(i j:Nat),js[i]?=some (some j)->σ2[i]?=σ[i]?
theorem bF {js:List (Option Nat)} {k:Nat} (h:js[k]?=some none):zZ js (aI k):=fun x σ H Q q=>by
 refine⟨q,Zs,fun i j e=>?_⟩
 have:k≠i:=fun z=>by subst z;rw[h]at e;cases e
 rw[List.getElem?_set_ne this]
theorem iX {js:List (Option Nat)}:Cg js Rz:=fun xs σ H Q q=>⟨q.1,q.2,rfl,fun _ _ _=>rfl⟩
theorem cG {js:List (Option Nat)} {k:Nat} {u:Bt} (h:js[k]?=some none) (hu:Cg js u):Cg js (Hb (aI k) u):=fun xs σ H Q q=>by
 obtain⟨v,r,e,q⟩:=q
 refine⟨v,r,e,?_⟩
 obtain⟨_,h2⟩:=bF h v σ H (fun _ _=>True) trivial
 have q2:=hu r _ _ _ q
 have e2:(fun σ2 H2=>Q σ2 H2/\σ2.length=(σ.set k (some v)).length/\∀(i j:Nat),js[i]?=some (some j)->σ2[i]?=(σ.set k (some v))[i]?)=(fun σ2 (H2:Hp)=>Q σ2 H2/\σ2.length=σ.length/\∀(i j:Nat),js[i]?=some (some j)->σ2[i]?=σ[i]?):=by
  funext σ2 H2
  have e3:∀(i j:Nat),js[i]?=some (some j)->(σ.set k (some v))[i]?=σ[i]?:=h2.2
  apply propext
  constructor
  ·rintro⟨a,b,c⟩
   exact⟨a,by simpa using b,fun i j e=>(c i j e).trans (e3 i j e)⟩
  ·rintro⟨a,b,c⟩
   exact⟨a,by simpa using b,fun i j e=>(c i j e).trans (e3 i j e).symm⟩
 show u r (σ.set k (some v)) H _
 rw[<- e2];exact q2
theorem kP {K:W.Frag} {n:Nat} {js:List (Option Nat)} {t:Bt} (h:Cg js t):zZ js (Mr K n t):=fun x σ H Q q=>by
 obtain⟨a,xs,e,hq,hl,q⟩:=q
 exact⟨a,xs,e,hq,hl,h xs σ H Q q⟩
section
variable {X:Cx} {pins:List (Addr × Obj)} {σ:St} {H H':Hp} {s:Shared}
theorem Un.more {fs ex:List Addr} {H H':Hp} {h h':Heap} {D:Addr} {o:HO} (u:Un fs ex H H' h h') (hD:h.get? D=none) (hH:H D=none):Un fs ex H (aJ H' D o) h h' where
 keep:=u.keep
 slot:=u.slot
 free:=fun b ob q n hx=>by
  have:b≠D:=fun z=>by rw[z,hD]at q;cases q
  rw[aM this];exact u.free b ob q n hx
 there:=u.there
 tups:=fun b xs q=>by rw[aM (aH q hH)];exact u.tups b xs q
 frzs:=fun b ob xs q=>by rw[aM (aH q hH)];exact u.frzs b ob xs q
 tbls:=fun b ps q=>by rw[aM (aH q hH)];exact u.tbls b ps q
theorem HOk.more {P:Program} {w:World} {h:Heap} {D:Addr} {o:HO} (k:HOk P w H h) (hH:H D=none) (new:ObjOk P w (aJ H D o) h D o):HOk P w (aJ H D o) h:=fun b u e=>by
 by_cases hb:b=D
 ·subst hb;rw[aD]at e;cases e;exact new
 ·rw[aM hb]at e;exact(k b u e).stay (fun _ _ _ q=>q) (fun c q=>by rw[aM (aH q hH)];exact q) fun c xs q=>by rw[aM (aH q hH)];exact q
theorem CompScope.ok {scope:Scope} {N:List Str} {js:List (Option Nat)} {C:Addr} {fp:List Addr} (S:CompScope X scope N js) (I:Inv X pins σ H s) (hC:s.heap.objs.size<=C) (hf:∀b∈fp,oW X pins H b) (hl:∀b∈fp,b<s.heap.objs.size) :
  (oS X scope C N s H fp).Ok where
 mod:=I.ok.mod
 kind:=S.kind
 glob:=I.ok.glob
 blt:=I.ok.blt
 above:=hC
 inj:=fun x y c h1 h2=>I.ok.inj x y c (dR h1).1 (dR h2).1
 has:=fun x hx=>by
  have hm:(x,.free)∈scope.names:=uY S.nocell hx
  obtain⟨c,h1,_⟩:=Cf (env:=X.env) hm fun y hy hk=>I.ok.has y.1 (S.out y hy hk)
  exact⟨c,h1⟩
 cab:=fun x c z=>nomatch z
 hd:=I.ok.hd
 frames:=I.ok.frames
 stk:=.inl rfl
 exf:=fun b hb=>⟨Nat.ne_of_lt (Nat.lt_of_lt_of_le (hl b hb) hC),fun x c e=>(hf b hb).2.2.2.2.1 x c (dR e).1⟩
 bs:=I.bs
 bsz:=kB I.ok.bsz I.sz
 noex:=fun b o e hb=>by
  rcases(hf b hb).2.2.2.1 with z | z
  ·exact I.ok.noex b o e z
  ·exact absurd (Nat.lt_of_lt_of_le (Heap.lt_size e) (kB I.ok.bsz z)) (Nat.lt_irrefl _)
 exfs:=fun b hb hm=>by
  rcases List.mem_cons.mp (I.stkSub b hm) with z | z
  ·exact(hf b hb).2.1 z
  ·exact(hf b hb).2.2.1 z
 funs:=I.stack
 frf:=I.stkFree
theorem CompScope.start {scope:Scope} {N:List Str} {js:List (Option Nat)} {C D:Addr} {fp:List Addr} {ob:Obj} {h₁:Heap} {m:Str->Option Value} {tk:Nat} (S:CompScope X scope N js) (I:Inv X pins σ H s) (hC:s.heap.objs.size<=C) (hD:s.heap.objs.size<=D) (hDC:D≠C)
  (hf:∀b∈fp,oW X pins H b) (hl:∀b∈fp,b<s.heap.objs.size) (k:∀b o,s.heap.get? b=some o->h₁.get? b=some o) (hns:h₁.Ns C m) (eD:h₁.get? D=some ob) (nc:∀v,ob.data≠.cell v) :
  Inv (oS X scope C N s H fp) [(D,ob)] (xF js σ) H {s with heap:=h₁,toks:=tk } where
 ok:=S.ok I hC hf hl
 os:=rfl
 bare:=I.bare
 base:=Un.kept k
 loc:=by
  refine⟨m,hns,fun i x v h1 h2 h3=>?_⟩
  have h1:N[i]?=some x:=h1
  unfold xF at h2;rw[kH]at h2;cases e:js[i]? with
  | none=>rw[e]at h2;cases h2
  | some o=>
   rw[e]at h2;cases o with
   | none=>cases h2
   | some j=>
    have h2':(σ[j]?).getD none=some v:=Option.some.inj h2
    have hσ:σ[j]?=some (some v):=by
     cases q:σ[j]? with
     | none=>rw[q]at h2';cases h2'
     | some z=>rw[q]at h2';exact congrArg some h2'
    obtain⟨y,e1,e2,e3⟩:=S.cap i j e
    rw[h1]at e1;cases e1
    have hfree:(x,.free)∈scope.names:=PySem.mem_of_lookup e3
    have ho:=S.out (x,.free) hfree rfl
    obtain⟨mX,_,hlX⟩:=I.loc
    have hvX:Wp X.env.scope x:=by
     rcases ho with z | z
     ·exact .inr (.inl z)
     ·exact .inr (.inr z)
    obtain⟨u,r,l⟩:=hlX j x v e2 hσ hvX
    refine⟨u,r,.inr ?_⟩
    rcases l with⟨hk,_⟩ | ⟨hk,c,hc,hcell⟩
    ·rcases ho with z | z
     ·have z':X.env.kindOf x=some .cell:=z
      rw[hk]at z';cases z'
     ·have z':X.env.kindOf x=some .free:=z
      rw[hk]at z';cases z'
    ·obtain⟨c',h1',h2''⟩:=Cf (env:=X.env) hfree fun y hy hk=>I.ok.has y.1 (S.out y hy hk)
     rw[hc]at h2'';cases h2''
     refine⟨nQ e3,c,h1',?_⟩
     obtain⟨oc,q1,q2⟩:=hcell
     exact⟨oc,k c oc q1,q2⟩
 cell:=fun x c e=>by
  obtain⟨v,oc,q1,q2⟩:=I.cell x c (dR e).1
  exact⟨v,oc,k c oc q1,q2⟩
 free:=I.hok.fresh hC
 freeC:=fun x c e=>I.freeC x c (dR e).1
 pin:=fun p hp=>by
  have e:p=(D,ob):=by
   rcases Zma.mp hp with z | z
   ·exact absurd (show p∈([]:List (Addr × Obj)) from z) Zs
   ·simpa using z
  subst e;refine⟨eD,I.hok.fresh hD,hDC,fun hm=>?_,nc⟩
  rcases List.mem_cons.mp (I.stkSub D hm) with z | z
  ·have z:D=X.env.locals:=z
   have:=I.lt
   rw[<- z]at this;exact absurd (Nat.lt_of_lt_of_le this hD) (Nat.lt_irrefl _)
  ·exact I.nofs hD z
 hok:=I.hok.kept k
 len:=by
  unfold xF;rw[aZ];exact S.len
end
def Wi (X:Cx) (cs:List Expr) (t:TT):Prop:=
 ∀(pins:List (Addr × Obj)) (s:Shared) (σ:St) (H:Hp) (Q:Bool->Hp->Prop) (E:Value->Shared->Prop),Inv X pins σ H s->t σ H Q →
  wpAny (model X.prog X.w) X.A (forIn cs true fun c r=>if r=true then do let ok ← isTrue c X.env (eval c X.env);pure (ForInStep.yield ok) else pure (ForInStep.yield r)) (TP X pins σ Q) E s
def Hz:TT:=fun _ H Q=>Q true H
theorem Nn {X:Cx}:Wi X [] Hz:=fun pins s σ H Q E I h=>wpAny_tests_nil ⟨H,I,h⟩
theorem No {X:Cx} {c:Expr} {t:TT} (h:PT X c t) (hx:X.xe=fun _ _=>False:=by rfl):Wi X [c] t:=fun pins s σ H Q E I q=>
 wpAny_tests_one (wpAny_mono (h pins s σ H Q I q) (fun _ _ z=>z) fun e s' z=>by rw[hx]at z;exact z.elim)
def qV (js:List (Option Nat)) (g:TG) (tt:TT) (te:TE) (σ:St) (J:It) (H1:Hp) (Q:List V->Hp->Prop):Prop:=
 ∃W:Nat->Nat->List V->Hp->Prop,(∃m,W 0 m [] H1)/\∀i m ys H,W i m ys H →
  (J.stop i H/\Q ys H)∨
  (J.go i H/\ys.length<sizeLine/\∃N:List V->Hp->Prop,(∀ys' H',N ys' H'->∃m',m'<m/\W (i+1) m' ys' H') ∧
   ∀x H',J.yld i H x H'->g x (xF js σ) H' fun σ2 H2=>tt σ2 H2 fun b H3=>if b=true then te σ2 H3 fun y H4=>N (ys++[y]) H4 else N ys H3)
def Ia (wi:TI) (js:List (Option Nat)) (g:TG) (tt:TT) (te:TE):TE:=fun σ H Q=>wi σ H fun J H1=>
 qV js g tt te σ J H1 fun ys H2=>∀p,H2 p=none->Q (.ref p) (aJ H2 p (.lst ys))
def Qm (i:Nat) (wi:TI) (js:List (Option Nat)) (g:TG) (tt:TT) (te:TE):TS:=fun D σ H=>wi σ H fun J H1=>
 qV js g tt te σ J H1 fun ys H2=>∀p,H2 p=none->D.nx (σ.set i (some (.ref p))) (aJ H2 p (.lst ys))
section
variable {X:Cx} {tg iter elt:Expr} {ifs:List Expr} {scope:Scope} {N:List Str} {js:List (Option Nat)} {wi:TI} {g:TG} {tt:TT} {te:TE} {pos:Pos}
theorem qW {pins:List (Addr × Obj)} {σ:St} {H2:Hp} {s2:Shared} {it:Addr} {fp:List Addr} {tn:Nat->Heap->Prop} {J:It} {Qf:List V->Hp->Prop} {RR:Value->Addr->Result->Shared->Prop} {E:Value->Shared->Prop} (hc:X.calm=true) (S:CompScope X scope N js) (go:zZ js g)
  (hb:∀(C:Addr) (s₂:Shared) (H₂:Hp) (fp:List Addr),PG (oS X scope C N s₂ H₂ fp) tg g/\Wi (oS X scope C N s₂ H₂ fp) ifs tt/\PE (oS X scope C N s₂ H₂ fp) elt te)
  (I2:Inv X pins σ H2 s2) (T:uI X.prog X.w X.K tg J fp it tn) (st2:tn 0 s2.heap) (f2:∀b∈fp,oW X pins H2 b) (hw:qV js g tt te σ J H2 Qf)
  (hRR:∀(C D:Addr) (ys:List V) (H3:Hp) (s3:Shared) (m:Str->Option Value),s2.heap.objs.size<=C->s2.heap.objs.size<=D->D≠C->Inv X pins σ (aJ H3 D (.lst ys)) s3->H3 C=none->H3 D=none->s3.heap.Ns C m->Qf ys H3->RR (.ref D) C (.ok .next) s3) :
  wpAny (model X.prog X.w) X.A (newList []) (fun acc s₃=>wpAny (model X.prog X.w) X.A (newFunctionEnv scope X.env.globals (kO X.env scope.names []) [] X.env.qual none .none (some X.env)) (fun cenv s₄=>
   codeAny (model X.prog X.w) X.A (.compStart (.ListComp elt [⟨tg,iter,ifs,0⟩] scope pos) 0 (.ref it) acc {cenv with scope:=relabel scope X.env }) (RR acc cenv.locals) s₄) E s₃) E s2:=by
 obtain⟨W,⟨m0,w0⟩,turn⟩:=hw
 refine wpAny_newObj_type (wpAny_newFunctionEnv S.nocell (by intro y hy;simp at hy) (fun h₁ hns₁ hsb₁=>?_) S.kind)
 dsimp only at hns₁ hsb₁ ⊢
 generalize hH2:s2.heap.push {cls:=.type "list",dict:=none,data:=.seq ([]:List Value).toArray }=HP at hns₁ hsb₁ ⊢;have hC:HP.objs.size=s2.heap.objs.size+1:=by rw[<- hH2,Heap.size_push]
 have hDC:s2.heap.objs.size≠HP.objs.size:=by rw[hC];exact Nat.ne_of_lt (Nat.lt_succ_self _)
 have hCle:s2.heap.objs.size<=HP.objs.size:=by rw[hC];exact Nat.le_succ _
 have old:∀b o,s2.heap.get? b=some o->h₁.get? b=some o:=fun b o e=>hsb₁.extBut b o (by rw[hC];exact Nat.ne_of_lt (Nat.lt_succ_of_lt (Heap.lt_size e))) (iV _ (hH2 ▸ iV _ e))
 have hacc:h₁.get? s2.heap.objs.size=some {cls:=.type "list",data:=.seq ([]:List Value).toArray 0 }:=hsb₁.extBut _ _ hDC (iV _ (hH2 ▸ Heap.get?_push_size _ rfl))
 have hfl:∀b∈fp,b<s2.heap.objs.size:=fun b hb=>by
  obtain⟨o,e,_⟩:=T.obj _ _ st2 b hb
  exact Heap.lt_size e
 generalize hDn:s2.heap.objs.size=D at hDC hCle hacc ⊢;generalize hCn:HP.objs.size=C at hDC hCle hns₁ ⊢;have hCs:s2.heap.objs.size<=C:=by rw[hDn];exact hCle
 have hDs:s2.heap.objs.size<=D:=Nat.le_of_eq hDn
 obtain⟨pg,pt,pe⟩:=hb C s2 H2 fp
 have I0:=S.start (D:=D) (fp:=fp) (tk:=s2.toks+([]:List (Str × Value)).length) I2 hCs hDs hDC f2 hfl old hns₁ hacc (fun v z=>nomatch z)
 have fpY:∀ {H':Hp} {pl:List (Addr × Obj)},(∀b∈fp,H' b=none)->(∀p∈pl,p.1∉fp)->∀b∈fp,oW (oS X scope C N s2 H2 fp) pl H' b:=fun hn hp b hb=>
  ⟨hn b hb,Nat.ne_of_lt (Nat.lt_of_lt_of_le (hfl b hb) hCs),(S.ok I2 hCs f2 hfl).exfs b hb,.inl hb,fun x c e=>(f2 b hb).2.2.2.2.1 x c (dR e).1,fun p hm z=>by
   rcases Zma.mp hm with q | q
   ·exact absurd (show p∈([]:List (Addr × Obj)) from q) Zs
   ·exact hp p q (z ▸ hb)⟩
 have dfp:D∉fp:=fun z=>absurd (Nat.lt_of_lt_of_le (hfl D z) hDs) (Nat.lt_irrefl _)
 have one:∀ {ob:Obj},∀p∈[(D,ob)],p.1∉fp:=fun p hp=>by
  have e:=Zms.mp hp
  subst e;exact dfp
 have loop:∀s₃:Shared,s₃={s2 with heap:=h₁,toks:=s2.toks+([]:List (Str × Value)).length } →
   codeAny (model X.prog X.w) X.A (.compLoop (.ListComp elt [⟨tg,iter,ifs,0⟩] scope pos) 0 (.ref it) (.ref D) (compEnvC scope (kO X.env scope.names []) C X.env)) (RR (.ref D) C) s₃:=by
  rintro s₃ rfl
  refine codeAny_loop rfl (fun n s'=>∃(i:Nat) (ys:List V) (H':Hp) (its:List Value) (k:Nat),Inv (oS X scope C N s2 H2 fp) [(D,{cls:=.type "list",data:=.seq its.toArray k })] (xF js σ) H' s'/\Vals ys its/\ys.length<=sizeLine/\tn i s'.heap/\(∀b∈fp,H' b=none)/\W i n ys H') ?_ m0 ?_
  ·rintro n s3 ⟨i,ys,H3,its,k,I3,rv,hz,st3,fr3,w3⟩
   show wpAny _ X.A ((compTurn (.ListComp elt [⟨tg,iter,ifs,0⟩] scope pos) 0 (.ref it) (.ref D) (compEnvC scope (kO X.env scope.names []) C X.env)).onRaise (fun x=>do noteFrame x _;theTreesLotGoes x)) _ _ s3
   refine wpAny_noted (wpAny_noRaise ?_)
   rw[compTurn_list];rcases turn i n ys H3 w3 with⟨stop,qn⟩ | ⟨goes,hlt,Nx,hN,step⟩
   ·refine wpAny_bind (wpAny_standAt (wpAny_bind (bX (T.done (oS X scope C N s2 H2 fp) rfl rfl rfl hc i _ s3 (xF js σ) H3 (fun _ _=>False) I3 (fpY fr3 one) st3 stop) fun r s4 ⟨hr,I4⟩=>?_)))
    subst hr;refine wpAny_pure ?_
    have pD:=I4.pin (D,{cls:=.type "list",data:=.seq its.toArray k }) (by simp [oS])
    obtain⟨mC,hnC,_⟩:=id I4.loc
    have IX:Inv X pins σ (aJ H3 D (.lst ys)) s4:=by
     refine I2.call' (ch:=fp) I4.os (Un.more I4.base (Heap.get?_none_of_le hDs) (I2.hok.fresh hDs)) (HOk.more I4.hok pD.2.1 ⟨hz,its,k,rv,pD.1⟩) I4.bare fun b hb=>?_
     obtain⟨_,f1,_,f3,f4,f5⟩:=f2 b hb
     exact⟨f3,f1,f4,f5⟩
    exact hRR C D ys H3 s4 mC hCs hDs hDC IX I4.free pD.2.1 hnC qn
   ·refine wpAny_bind (wpAny_standAt (wpAny_bind (bX (T.item (oS X scope C N s2 H2 fp) rfl rfl rfl hc i _ s3 (xF js σ) H3 (fun _ _=>False) I3 (fpY fr3 one) st3 goes) fun r s4 ⟨u,hr,h4⟩=>?_)))
    subst hr;refine wpAny_bind (bX h4 fun _ s5 ⟨x,H5,I5,r5,y5,st5,fr5⟩=>?_)
    have I5':=I5.pinned (fpY fr5 one) (T.obj _ _ st5)
    refine wpAny_bind (bX (pg _ s5 (xF js σ) H5 x u _ I5' r5 (go _ _ _ _ (step x H5 y5))) fun _ s6 ⟨σ6,H6,I6,⟨q6,l6,e6⟩⟩=>?_)
    have weak:∀ {pl:List (Addr × Obj)} {H7:Hp} {s7:Shared},Inv (oS X scope C N s2 H2 fp) pl σ6 H7 s7->Inv (oS X scope C N s2 H2 fp) pl (xF js σ) H7 s7:=fun {pl H7 s7} I7=>by
     refine I7.weak l6.symm fun j v hj=>?_
     cases e:js[j]? with
     | none=>unfold xF at hj;rw[kH,e]at hj;cases hj
     | some o=>
      cases o with
      | none=>unfold xF at hj;rw[kH,e]at hj;cases hj
      | some j'=>rw[e6 j j' e];exact hj
    have keepN:∀ {H7:Hp} {s7:Shared} {pl:List (Addr × Obj)},Inv (oS X scope C N s2 H2 fp) (pl++qN fp s5.heap) (xF js σ) H7 s7->tn (i+1) s7.heap/\∀b∈fp,H7 b=none:=fun {H7 s7 pl} I7=>by
     refine⟨T.keep _ _ _ st5 fun b hb o e=>(I7.pin (b,o) (List.mem_append_right _ (List.mem_append_right _ (jK hb e)))).1,fun b hb=>?_⟩
     obtain⟨o,e,d⟩:=T.obj _ _ st5 b hb
     exact(I7.pin (b,o) (List.mem_append_right _ (List.mem_append_right _ (jK hb e)))).2.1
    refine wpAny_bind (bX (pt _ s6 σ6 H6 _ _ I6 q6) fun ok s7 ⟨H7,I7,q7⟩=>?_)
    cases ok with
    | false=>
     rw[if_neg Bool.false_ne_true]at q7;refine wpAny_pure ⟨rfl,?_⟩
     obtain⟨m',hm,w7⟩:=hN ys H7 q7
     have I7':=weak I7
     obtain⟨k1,k2⟩:=keepN I7'
     exact⟨m',hm,i+1,ys,H7,its,k,I7'.unpinned,rv,hz,k1,k2,w7⟩
    | true=>
     rw[if_pos rfl]at q7;show wpAny _ _ ((eval elt _ >>= fun x=>call (.builtin "list.append") [.ref D,x] >>= fun _=>pure ()) >>= fun _=>again _) _ _ _
     refine wpAny_bind (wpAny_bind (bX (pe _ s7 σ6 H7 _ I7 q7) fun y s8 ⟨yv,H8,I8,r8,q8⟩=>?_))
     obtain⟨m',hm,w8⟩:=hN (ys++[yv]) H8 q8
     have I8':=weak I8
     obtain⟨k1,k2⟩:=keepN I8'
     have pD:=I8'.pin (D,{cls:=.type "list",data:=.seq its.toArray k }) (by simp [oS])
     have hln:=rv.length
     refine wpAny_bind (call_meets F.slot_list_append ⟨_,pD.1,rfl⟩ F.entry_list_append (F.args_list_append_2 _ _) (PySem.list_append D its.toArray k y (by rw[fY];omega)) ⟨pD.1,?_⟩)
     refine wpAny_pure (wpAny_pure ⟨rfl,m',hm,i+1,ys++[yv],H8,its++[y],?_⟩)
     have q:=PySem.IsL.update pD.1 (fun z=>z.push y)
     have eA:its.toArray.push y=(its++[y]).toArray:=by simp
     rw[eA]at q;have I9:Inv (oS X scope C N s2 H2 fp) [] (xF js σ) H8 s8:=I8'.pins_of fun p hp=>absurd hp Zs
     have hob:∀b o,b≠D->s8.heap.get? b=some o->(s8.heap.update D (Obj.mapSeq fun z=>z.push y)).get? b=some o:=fun b o hb hu=>(Heap.get?_update_other s8.heap _ (Ne.symm hb)).trans hu
     have I10:Inv (oS X scope C N s2 H2 fp) [] (xF js σ) H8 {s8 with heap:=s8.heap.update D (Obj.mapSeq fun z=>z.push y),toks:=s8.toks }:=I9.turned hob pD.2.1 pD.2.2.1 (.inr hDs)
      (fun x c e z=>by
       obtain⟨v,oc,q1,q2⟩:=I2.cell x c (dR e).1
       rw[z]at q1;exact absurd (Nat.lt_of_lt_of_le (Heap.lt_size q1) hDs) (Nat.lt_irrefl _))
      (fun p hp=>by
       rcases Zma.mp hp with q | q
       ·exact absurd (show p∈([]:List (Addr × Obj)) from q) Zs
       ·exact absurd q Zs)
     refine⟨(if ((its++[y]).toArray).size == its.toArray.size then k else k+1),I10.pins_of fun p hp=>?_,rv.append (.cons r8 .nil),?_,?_,k2,w8⟩
     ·have e:=Zms.mp hp
      subst e;exact⟨q,pD.2.1,pD.2.2.1,pD.2.2.2.1,fun v z=>nomatch z⟩
     ·rw[eG,List.length_singleton];omega
     ·exact T.keep _ _ _ k1 fun b hb o e=>hob b o (fun z=>dfp (z ▸ hb)) e
  ·exact⟨0,[],H2,[],0,I0,.nil,Nat.zero_le _,T.keep _ _ _ st2 fun b _ o e=>old b o e,fun b hb=>(f2 b hb).1,w0⟩
 exact codeAny_compStart_list (loop _ rfl) (T.self _ 0 _ _ _ (T.keep _ _ _ st2 fun b _ o e=>old b o e) (loop _ rfl))
theorem Np (hc:X.calm=true) (S:CompScope X scope N js) (go:zZ js g) (hi:PI X tg iter wi)
  (hb:∀(C:Addr) (s₂:Shared) (H₂:Hp) (fp:List Addr),PG (oS X scope C N s₂ H₂ fp) tg g/\Wi (oS X scope C N s₂ H₂ fp) ifs tt/\PE (oS X scope C N s₂ H₂ fp) elt te)
  (hs:∀x,foldedSetIterable iter X.env x=pure x:=by intro _;rfl):PE X (.ListComp elt [⟨tg,iter,ifs,0⟩] scope pos) (Ia wi js g tt te):=by
 intro pins s σ H Q I h;rw[eval_ListComp];refine wpAny_comprehension_free (use:=none) rfl hs (qT fun y hy hk=>I.ok.has y.1 (S.out y hy hk)) S.kind S.loc (bX (hi pins s σ H _ I h) fun v s1 h1=>bX h1 fun itv s2 h2=>?_)
 obtain⟨it,fp,tn,J,H2,e,I2,T,st2,f2,hw⟩:=h2
 subst e;refine qW (RR:=fun acc C=>compPost (model X.prog X.w) X.A X.xe none (EP X pins σ Q) acc C) hc S go hb I2 T st2 f2 hw ?_
 intro C D ys H3 s3 m hC hD hDC I3 fC fD hn q;refine⟨m,hn,fun h' hs'=>?_⟩
 refine⟨.ref D,aJ H3 D (.lst ys),I3.turned (it:=C) (t':=s3.toks) (fun b o hb e=>(hs'.2 b hb).trans e) (by rw[aM (Ne.symm hDC)];exact fC) ?_ (.inr (kB I2.sz hC)) ?_ ?_,rfl,q D fD⟩
 ·exact Nat.ne_of_gt (Nat.lt_of_lt_of_le I2.lt hC)
 ·intro x c e z;obtain⟨v,oc,q1,q2⟩:=I2.cell x c e
  rw[z]at q1;exact absurd (Nat.lt_of_lt_of_le (Heap.lt_size q1) hC) (Nat.lt_irrefl _)
 ·intro p hp z;have:=Heap.lt_size (I2.pin p hp).1
  rw[z]at this;exact absurd (Nat.lt_of_lt_of_le this hC) (Nat.lt_irrefl _)
theorem Nq {i:Nat} {y:Str} {py spos:Pos} (hN:X.N.Nodup) (hy:X.N[i]?=some y) (hx:Gq X.env.scope y) (hc:X.calm=true) (S:CompScope X scope N js) (go:zZ js g) (hi:PI X tg iter wi)
  (hb:∀(C:Addr) (s₂:Shared) (H₂:Hp) (fp:List Addr),PG (oS X scope C N s₂ H₂ fp) tg g/\Wi (oS X scope C N s₂ H₂ fp) ifs tt/\PE (oS X scope C N s₂ H₂ fp) elt te)
  (hsw:swapsWith (.ListComp elt [⟨tg,iter,ifs,0⟩] scope pos) (some (.Name y py)) spos.line X.env=pure true)
  (hs:∀x,foldedSetIterable iter X.env x=pure x:=by intro _;rfl) (hf:X.fn y=true∨X.env.scope.names.lookup y=some .local:=by first | exact .inl rfl | exact .inr rfl | assumption) :
  PS X (.Assign [.Name y py] (.ListComp elt [⟨tg,iter,ifs,0⟩] scope pos) spos) (Qm i wi js g tt te):=by
 intro pins s σ H D I h;rw[exec_Assign_Name_used _ _ _ _ hsw];refine wpAny_bind (wpAny_standAt (wpAny_bind ?_))
 show wpAny _ X.A (do let _ ← comprehension (.ListComp elt [⟨tg,iter,ifs,0⟩] scope pos) scope X.env _ (newList []) false (eval iter X.env) (some (assign (.Name y py) X.env))) _ _ s
 refine wpAny_bind (bX (wpAny_comprehension_free (use:=some (assign (.Name y py) X.env)) (Q:=fun _ s'=>SP X pins D .next s') rfl hs (qT fun y hy hk=>I.ok.has y.1 (S.out y hy hk)) S.kind S.loc
  (bX (hi pins s σ H _ I h) fun v s1 h1=>bX h1 fun itv s2 h2=>?_)) fun _ s' hq=>wpAny_pure (wpAny_pure hq))
 obtain⟨it,fp,tn,J,H2,e,I2,T,st2,f2,hw⟩:=h2
 subst e;refine qW (RR:=fun acc C=>compPost (model X.prog X.w) X.A X.xe (some (assign (.Name y py) X.env)) (fun _ s'=>SP X pins D .next s') acc C) hc S go hb I2 T st2 f2 hw ?_
 intro C Da ys H3 s3 m hC hD hDC I3 fC fD hn q;have cne:∀x c,X.env.cells.lookup x=some c->c≠C:=fun x c e z=>by
  obtain⟨v,oc,q1,q2⟩:=I2.cell x c e
  rw[z]at q1;exact absurd (Nat.lt_of_lt_of_le (Heap.lt_size q1) hC) (Nat.lt_irrefl _)
 have lne:C≠X.env.locals:=Nat.ne_of_gt (Nat.lt_of_lt_of_le I2.lt hC)
 show wpAny _ X.A (assign (.Name y py) X.env (.ref Da)) _ _ _
 refine wpAny_assign_Name (sO (v:=.ref Da) I3 hN hy hx rfl (fun s4 I4 hs4=>?_) hf)
 obtain⟨a,hsb,ha⟩:=hs4
 have aC:C≠a:=by
  rcases ha with z | z
  ·rw[z];exact lne
  ·exact Ne.symm (cne y a z)
 refine⟨m,hn.sameBut hsb aC,fun h' hs'=>?_⟩
 refine⟨_,_,I4.turned (it:=C) (t':=s4.toks) (fun b o hb e=>(hs'.2 b hb).trans e) (by rw[aM (Ne.symm hDC)];exact fC) lne (.inr (kB I2.sz hC)) cne ?_,q Da fD⟩
 intro p hp z;have:=Heap.lt_size (I2.pin p hp).1
 rw[z]at this;exact absurd (Nat.lt_of_lt_of_le this hC) (Nat.lt_irrefl _)
end
end L2
namespace L2
open PySem PySem.Spec PyProof.Rows
def Xn (x:Str):It:=⟨fun i _=>i<x.cps.size,fun i H v H'=>H'=H/\∃c,x.cps[i]?=some c/\v=.str ⟨#[c]⟩,fun i _=>x.cps.size<=i⟩
theorem Aa {P:Program} {w:World} {K:W.Frag} {tg:Expr} (it:Addr) (x:Str) (t:Tok):uI P w K tg (Xn x) [it] it (fun i h=>h.IsStrIter it "str_ascii_iterator" x t i) where
 mem:=by simp
 obj:=fun i h st b hb=>by
  have e:b=it:=by simpa using hb
  subst e;obtain⟨o,e,c,d⟩:=st
  exact⟨o,e,fun v z=>by rw[d]at z;cases z⟩
 keep:=fun i h h' st k=>let ⟨o,ho,r⟩:=st;⟨o,k it Zs o ho,r⟩
 item:=by
  intro X hP hw hK hc i pins s σ H E I hf st hg;subst hP hw hK;obtain⟨f0,f1,f2,f3,f4,f5⟩:=hf it Zs
  have hi:i<x.cps.size:=hg
  refine wpAny_pyNext_ascii_item st (c:=x.cps[i]) (by simp [hi]) fun h' st' sb=>?_
  have I1:Inv X pins σ H {s with heap:=h',toks:=s.toks+1 }:=I.turned (fun b o hb e=>(sb.2 b hb).trans e) f0 f1 f3 f4 f5
  obtain⟨o,e,c,d⟩:=id st'
  exact⟨_,rfl,xJ (s:={s with heap:=h',toks:=s.toks+1 }) e c d Zd ⟨.str ⟨#[x.cps[i]]⟩,H,I1,⟨_,rfl⟩,⟨rfl,_,by simp [hi],rfl⟩,st',fun b hb=>(hf b hb).1⟩⟩
 done:=by
  intro X hP hw hK hc i pins s σ H E I hf st hg;subst hP hw hK;obtain⟨f0,f1,f2,f3,f4,f5⟩:=hf it Zs
  have hi:x.cps.size<=i:=hg
  exact wpAny_pyNext_ascii_end (I.ok.hd hc) st (by simp [hi]) fun h' eb=>⟨rfl,I.turned (t':=s.toks) (fun b o hb e=>eb b o hb e) f0 f1 f3 f4 f5⟩
 self:=fun _ _ _ _ _ st h=>wpAny_pyIter_striter_ascii st h
theorem Ep {P:Program} {w:World} {K:W.Frag} {tg:Expr} (it:Addr) (x:Str) (t:Tok):uI P w K tg (Xn x) [it] it (fun i h=>h.IsStrIter it "str_iterator" x t i) where
 mem:=by simp
 obj:=fun i h st b hb=>by
  have e:b=it:=by simpa using hb
  subst e;obtain⟨o,e,c,d⟩:=st
  exact⟨o,e,fun v z=>by rw[d]at z;cases z⟩
 keep:=fun i h h' st k=>let ⟨o,ho,r⟩:=st;⟨o,k it Zs o ho,r⟩
 item:=by
  intro X hP hw hK hc i pins s σ H E I hf st hg;subst hP hw hK;obtain⟨f0,f1,f2,f3,f4,f5⟩:=hf it Zs
  have hi:i<x.cps.size:=hg
  refine wpAny_pyNext_wide_item st (c:=x.cps[i]) (by simp [hi]) fun h' st' sb=>?_
  have I1:Inv X pins σ H {s with heap:=h',toks:=s.toks+1 }:=I.turned (fun b o hb e=>(sb.2 b hb).trans e) f0 f1 f3 f4 f5
  obtain⟨o,e,c,d⟩:=id st'
  exact⟨_,rfl,xJ (s:={s with heap:=h',toks:=s.toks+1 }) e c d Zd ⟨.str ⟨#[x.cps[i]]⟩,H,I1,⟨_,rfl⟩,⟨rfl,_,by simp [hi],rfl⟩,st',fun b hb=>(hf b hb).1⟩⟩
 done:=by
  intro X hP hw hK hc i pins s σ H E I hf st hg;subst hP hw hK;obtain⟨f0,f1,f2,f3,f4,f5⟩:=hf it Zs
  have hi:x.cps.size<=i:=hg
  exact wpAny_pyNext_wide_end (I.ok.hd hc) st (by simp [hi]) fun h' eb=>⟨rfl,I.turned (t':=s.toks) (fun b o hb e=>eb b o hb e) f0 f1 f3 f4 f5⟩
 self:=fun _ _ _ _ _ st h=>wpAny_pyIter_striter_wide st h
section
variable {X:Cx} {tg:Expr}
def Xo (tl:TE):TI:=fun σ H R=>tl σ H fun x H1=>∃z,x=.str z/\R (Xn z) H1
theorem Tl {l:Expr} {tl:TE} (hl:PE X l tl):PI X tg l (Xo tl):=by
 intro pins s σ H R I h;refine bX (hl pins s σ H _ I h) fun v s1 ⟨x,H1,I1,r1,q1⟩=>?_
 obtain⟨z,rfl,q⟩:=q1
 obtain⟨t,rfl⟩:=r1
 have fp:∀b∈[s1.heap.objs.size],oW X pins H1 b:=fun b hb=>by
  have e:b=s1.heap.objs.size:=by simpa using hb
  subst e;exact I1.fpOk (cL _) (I1.hok.fresh (cL _))
 cases ha:z.cps.all (·<128)
 ·refine wpAny_pyIter_wide ha ?_
  exact⟨s1.heap.objs.size,[s1.heap.objs.size],_,_,H1,rfl,I1.kept (t':=s1.toks) fun b o e=>iV _ e,Ep _ z t,⟨_,Heap.get?_push_size _ rfl,rfl,rfl⟩,fp,q⟩
 ·refine wpAny_pyIter_ascii ha ?_
  exact⟨s1.heap.objs.size,[s1.heap.objs.size],_,_,H1,rfl,I1.kept (t':=s1.toks) fun b o e=>iV _ e,Aa _ z t,⟨_,Heap.get?_push_size _ rfl,rfl,rfl⟩,fp,q⟩
end
abbrev tx (l:List Nat):Str:=⟨l.toArray⟩
theorem pA (x:Str):tx x.cps.toList=x:=by cases x;simp
theorem dM (l:List Nat):(tx l).length=l.length:=by simp [Str.length]
theorem uZ {a b:List Nat}:tx a=tx b↔a=b:=by
 constructor
 ·intro h;have:=congrArg (fun s:Str=>s.cps.toList) h
  simpa using this
 ·intro h;rw[h]
theorem pZ (x y:Str):(x++y).cps.toList=x.cps.toList++y.cps.toList:=by
 show(Str.append x y).cps.toList=_
 unfold Str.append;simp
def dS {α:Type} (xs:List α) (lo hi:Option Int):List α:=(xs.drop (HT.sIx xs.length 0 lo)).take (HT.sIx xs.length xs.length hi - HT.sIx xs.length 0 lo)
theorem qA {α:Type} (xs:List α) (lo hi:Option Int):(dS xs lo hi).length<=xs.length:=by
 unfold dS;rw[fS,List.length_drop];omega
theorem Ch (n d:Nat) (v:Option Int):(match v with | none=>(d:Int) | some i=>max 0 (min (if i<0 then i+(n:Int) else i) (n:Int)))=((HT.sIx n d v:Nat):Int):=by
 cases v with
 | none=>rfl
 | some i=>
  show max 0 (min (if i<0 then i+(n:Int) else i) (n:Int))=(((if i<0 then (i+(n:Int)).toNat else min i.toNat n):Nat):Int)
  by_cases h:i<0
  ·rw[if_pos h,if_pos h];omega
  ·rw[if_neg h,if_neg h];omega
theorem Ib (lo hi:Option Int) (n:Nat):Builtin.Str.strSliceIndices lo hi 1 n=(List.range (HT.sIx n n hi - HT.sIx n 0 lo)).map (HT.sIx n 0 lo+·):=by
 rw[<- sliceRange_one,<- Ch n 0 lo,<- Ch n n hi];unfold Builtin.Str.strSliceIndices;simp only [show(1:Int) > 0 by decide,if_true]
 cases lo <;> cases hi <;> rfl
theorem Nr (n d:Nat) (hd:d<=n) (v:Option Int):HT.sIx n d v<=n:=by
 cases v with
 | none=>exact hd
 | some i=>
  show(if i<0 then (i+(n:Int)).toNat else min i.toNat n)<=n
  split <;> omega
theorem Er (x:Str) (lo hi:Option Int):(Txt.slice x lo hi).cps.toList=dS x.cps.toList lo hi:=by
 have hl:x.cps.toList.length=x.length:=by simp [Str.length]
 unfold Txt.slice dS;rw[hl,Ib];have key:=pick_run x.cps (HT.sIx x.length 0 lo) (HT.sIx x.length x.length hi - HT.sIx x.length 0 lo)
 split
 ·rename_i h
  have h2:(HT.sIx x.length x.length hi - HT.sIx x.length 0 lo)=x.length:=by simpa using h
  have h3:=Nr x.length x.length (cL _) hi
  have h4:HT.sIx x.length 0 lo=0∨x.length=0:=by omega
  rw[h2];rcases h4 with h4 | h4
  ·rw[h4,List.drop_zero,rV (by rw[hl];exact cL _)]
  ·have e:x.cps.toList=[]:=List.eq_nil_of_length_eq_zero (by rw[hl];exact h4)
   rw[e];simp
 ·simpa using key
theorem Ic (x:Str) (lo hi:Option Int):Txt.slice x lo hi=tx (dS x.cps.toList lo hi):=by
 rw[<- Er,pA]
section
variable {X:Cx}
def aAv:V->Option Int->Option Int->Hp->VK->Prop:=fun x lo hi H Q=>∃z,x=.str z/\z.length<=sizeLine/\Q (.str (tx (dS z.cps.toList lo hi))) H
theorem Ab {h:Heap} {sl:Addr} {vl vu:Value} {lo hi:Option Int} (hs:h.IsSliceOf sl vl vu .none) (pl:IsPart vl lo) (pu:IsPart vu hi):∃l u:Option (Int × Tok),h.IsSlice sl l u none/\l.map (·.1)=lo/\u.map (·.1)=hi:=by
 cases pl with
 | none=>
  cases pu with
  | none=>exact⟨none,none,hs,rfl,rfl⟩
  | int j t=>exact⟨none,some (j,t),hs,rfl,rfl⟩
 | int i t=>
  cases pu with
  | none=>exact⟨some (i,t),none,hs,rfl,rfl⟩
  | int j u=>exact⟨some (i,t),some (j,u),hs,rfl,rfl⟩
theorem Tm:SlR X aAv:=by
 intro pins s σ H x v vl vu lo hi sl Q I rx hs pl pu h;obtain⟨z,rfl,hz,q⟩:=h
 obtain⟨t,rfl⟩:=rx
 obtain⟨l,u,hS,e1,e2⟩:=Ab hs pl pu
 refine⟨"str",_,F.slot_str_getitem.lookup,typeIs_str _ _ _,wpAny_getItem_str_slice hS rfl ?_⟩
 have fin:∀t' k,EP X pins σ Q (.str (Txt.slice z lo hi) t') {s with toks:=k }:=fun t' k=>⟨.str (tx (dS z.cps.toList lo hi)),H,I.tok _,⟨t',by rw[Ic]⟩,q⟩
 subst e1 e2;exact post_val_or_str ⟨kB (Txt.slice_le z _ _) hz,fun t' k=>fin t' k⟩
theorem Ac {ns:List Str}:∀ {us:List Value},Vals (ns.map V.str) us->StrsAre us ns:=by
 induction ns with
 | nil=>intro us r;rw[List.map_nil]at r;cases r;exact .nil
 | cons n ns ih=>
  intro us r;rw[List.map_cons]at r;cases r with
  | cons r1 r2=>
   obtain⟨t,e⟩:=r1
   subst e;exact .cons n t (ih r2)
def Id (K:W.Frag):V->List V->Hp->VK->Prop:=fun x vs H Q=>∃sep p ys,x=.str sep/\vs=[.ref p]/\SqL K H p (ys.map V.str)/\(ys.map (·.length)).sum+ys.length*sep.length<=16777216/\Q (.str (Txt.join sep ys)) H
theorem Nt:Hm X "str.join" (Id X.K):=by
 intro pins s σ H x vs v us Q I rx rv h;obtain⟨sep,p,ys,rfl,rfl,hq,hz,q⟩:=h
 obtain⟨t,rfl⟩:=rx
 obtain⟨u,rfl,ru⟩:=rv.one
 cases ru
 obtain⟨its,r,pl,_⟩:=I.list hq
 exact join_list pl.isList (by simpa using Ac r) hz fun t' k=>⟨.str _,H,I.tok _,⟨_,rfl⟩,q⟩
def aAw (K:W.Frag):List V->Hp->VK->Prop:=fun vs H Q=>∃x T t b,vs=[x,.ty T]/\nN K H x t/\W.kitOne K t (.type T)=some b/\Q (.bl b) H
theorem Ie:CallR X (.builtin "isinstance") (aAw X.K):=by
 intro pins s σ H xs us Q I r h;obtain⟨x,T,t,b,rfl,ty,e,q⟩:=h
 obtain⟨u,c,rfl,ru,rc⟩:∃u c,us=[u,c]/\RelV x u/\RelV (.ty T) c:=by
  cases r with
  | cons p q=>
   cases q with
   | cons p' q'=>
    cases q'
    exact⟨_,_,rfl,p,p'⟩
 cases (show c=Value.type T from rc)
 exact Ef I ru ty e fun tk=>⟨.bl b,H,I.tok _,rfl,q⟩
theorem pM {ns:List Bool}:∀ {us:List Value},Vals (ns.map V.bl) us->PyProof.Rows.LSm.BoolsAre us ns:=by
 induction ns with
 | nil=>intro us r;rw[List.map_nil]at r;cases r;exact .nil
 | cons n ns ih=>
  intro us r;rw[List.map_cons]at r;cases r with
  | cons r1 r2=>
   have e:=r1
   cases (show _=Value.bool n from e)
   exact .cons n (ih r2)
def Tn (K:W.Frag):List V->Hp->VK->Prop:=fun vs H Q=>∃(p:Addr) (bs:List Bool),vs=[.ref p]/\SqL K H p (bs.map V.bl)/\Q (.bl (bs.all id)) H
def To (K:W.Frag):List V->Hp->VK->Prop:=fun vs H Q=>∃(p:Addr) (bs:List Bool),vs=[.ref p]/\SqL K H p (bs.map V.bl)/\Q (.bl (bs.any id)) H
theorem Ig (hc:X.calm=true):CallR X (.builtin "all") (Tn X.K):=by
 intro pins s σ H xs us Q I r h;obtain⟨p,bs,rfl,hq,q⟩:=h
 obtain⟨u,rfl,ru⟩:=kN r
 cases ru
 obtain⟨its,rv,pl,hz⟩:=I.list hq
 have hl:=pl.isList
 have hb:=pM rv
 have hlt:p<s.heap.objs.size:=by obtain⟨_,e,_⟩:=hl;exact Heap.lt_size e
 refine call_all_walk (wpAny_pyIter_list hl ?_)
 refine⟨s.heap.objs.size,[s.heap.objs.size,p],[s.heap.objs.size],its.toArray.size,_,_,fun i=>(bs[i]?).getD true,rfl,Walks.list (A:=X.A.in1) (I.ok.hd hc) _ p (Nat.ne_of_lt hlt) its.toArray,
  ⟨⟨_,Heap.get?_push_size _ rfl,rfl,rfl⟩,hl.push _⟩,fun i v s' Q' E' hP hQ=>?_,fun h' tk hk=>?_⟩
 ·obtain⟨b,e,rfl⟩:=hb.get i v (by simpa using hP)
  simp only [e,Option.getD_some]at hQ
  exact wpAny_truthy_bool hQ
 ·have e:((List.range its.toArray.size).all fun i=>(bs[i]?).getD true)=bs.all id:=by
   rw[fY,hb.length];exact PyProof.Rows.LSm.range_all bs
  rw[e];exact⟨.bl _,H,I.kept (PyProof.Rows.LSm.kept_iter hk),rfl,q⟩
theorem Ih (hc:X.calm=true):CallR X (.builtin "any") (To X.K):=by
 intro pins s σ H xs us Q I r h;obtain⟨p,bs,rfl,hq,q⟩:=h
 obtain⟨u,rfl,ru⟩:=kN r
 cases ru
 obtain⟨its,rv,pl,hz⟩:=I.list hq
 have hl:=pl.isList
 have hb:=pM rv
 have hlt:p<s.heap.objs.size:=by obtain⟨_,e,_⟩:=hl;exact Heap.lt_size e
 refine call_any_walk (wpAny_pyIter_list hl ?_)
 refine⟨s.heap.objs.size,[s.heap.objs.size,p],[s.heap.objs.size],its.toArray.size,_,_,fun i=>(bs[i]?).getD false,rfl,Walks.list (A:=X.A.in1) (I.ok.hd hc) _ p (Nat.ne_of_lt hlt) its.toArray,
  ⟨⟨_,Heap.get?_push_size _ rfl,rfl,rfl⟩,hl.push _⟩,fun i v s' Q' E' hP hQ=>?_,fun h' tk hk=>?_⟩
 ·obtain⟨b,e,rfl⟩:=hb.get i v (by simpa using hP)
  simp only [e,Option.getD_some]at hQ
  exact wpAny_truthy_bool hQ
 ·have e:((List.range its.toArray.size).any fun i=>(bs[i]?).getD false)=bs.any id:=by
   rw[fY,hb.length];exact PyProof.Rows.LSm.range_any bs
  rw[e];exact⟨.bl _,H,I.kept (PyProof.Rows.LSm.kept_iter hk),rfl,q⟩
end
section
variable {X:Cx}
def pB (K:W.Frag) (neg:Bool):R2:=fun x y H Q=>∃(a b:Addr) (xs:List V),x=.ref a/\y=.ref b/\SqL K H a xs/\SqL K H b []/\Q (.bl (if neg then !xs.isEmpty else xs.isEmpty)) H
theorem lJ {us:List Value} (r:Vals [] us):us=[]:=by cases r;rfl
theorem Ii (hu:X.A.units<cLine):OpR X (compareOp .Eq) (pB X.K false):=by
 intro pins s σ H x y v u Q I rx ry h;obtain⟨a,b,xs,rfl,rfl,h1,h2,q⟩:=h
 cases rx
 cases ry
 obtain⟨its,r1,p1,_⟩:=I.list h1
 obtain⟨its2,r2,p2,_⟩:=I.list h2
 have e2:=lJ r2
 subst e2;have hl:=r1.length
 cases xs with
 | nil=>
  have e1:=lJ r1
  subst e1;exact SeqAt.eq_listAt (e:=fun _=>true) p1.isList p2.isList rfl hu (fun j h=>absurd h Zs) ⟨.bl true,H,I,rfl,q⟩
 | cons z zs=>
  exact SeqAt.eq_list_lengthsAt p1.isList p2.isList (by simp only [fY,<- hl];simp) hu ⟨.bl false,H,I,rfl,q⟩
theorem Ij (hu:X.A.units<cLine):OpR X (compareOp .NotEq) (pB X.K true):=by
 intro pins s σ H x y v u Q I rx ry h;obtain⟨a,b,xs,rfl,rfl,h1,h2,q⟩:=h
 cases rx
 cases ry
 obtain⟨its,r1,p1,_⟩:=I.list h1
 obtain⟨its2,r2,p2,_⟩:=I.list h2
 have e2:=lJ r2
 subst e2;have hl:=r1.length
 cases xs with
 | nil=>
  have e1:=lJ r1
  subst e1;exact SeqAt.RcNeAt.lists (e:=fun _=>true) p1.isList p2.isList rfl hu (fun j h=>absurd h Zs) _ _ _ _ ⟨.bl false,H,I,rfl,q⟩
 | cons z zs=>
  exact SeqAt.RcNeAt.lists_lengths p1.isList p2.isList (by simp only [fY,<- hl];simp) hu _ _ _ _ ⟨.bl true,H,I,rfl,q⟩
end
end L2
namespace L2
open PySem PySem.Spec PyProof.Rows
def mB (x:V) (k:Bool->Prop):Prop:=match x with | .bl b=>k b | _=>False
def mI (x:V) (k:Int->Prop):Prop:=match x with | .int b=>k b | _=>False
def mS (x:V) (k:Str->Prop):Prop:=match x with | .str b=>k b | _=>False
def mR (x:V) (k:Addr->Prop):Prop:=match x with | .ref b=>k b | _=>False
theorem tG (x:V) (k:Bool->Prop):mB x k=∃b,x=.bl b/\k b:=by
 cases x <;> simp [mB]
theorem kQ (x:V) (k:Int->Prop):mI x k=∃b,x=.int b/\k b:=by
 cases x <;> simp [mI]
theorem fZ (x:V) (k:Str->Prop):mS x k=∃b,x=.str b/\k b:=by
 cases x <;> simp [mS]
theorem bY (x:V) (k:Addr->Prop):mR x k=∃b,x=.ref b/\k b:=by
 cases x <;> simp [mR]
theorem dU {n:Nat} (h:Nat.ble n 1000=true):n<=sizeLine:=kB (Nat.le_of_ble_eq_true h) Zd
theorem cH {n:Nat} (h:n<=1000):n<=sizeLine:=kB h Zd
section
variable {X:Cx} {a b c e:Expr} {ta tb tc te:TE} {pos:Pos}
def vr (i:Nat):TE:=fun σ H Q=>match σ[i]? with | some (some v)=>Q v H | _=>False
theorem Xp (i:Nat):vr i=Rj i:=by
 funext σ H Q
 unfold vr Rj;apply propext
 cases σ[i]? with
 | none=>simp
 | some o=>cases o <;> simp
theorem xv (i:Nat) {x:Str} {pos:Pos} (hN:X.N[i]?=some x:=by rfl) (hv:Wp X.env.scope x:=by first | exact Or.inl rfl | exact Or.inr (Or.inl rfl) | exact Or.inr (Or.inr rfl)) (hd:(x == ("__debug__":Str))=false:=by decide)
  (hcd:(x == ("__classdict__":Str))=false:=by decide):PE X (.Name x pos) (vr i):=by
 rw[Xp];exact Rk hN hv hd hcd
theorem OpR.imp {f:Value->Value->Sem Value} {r r':R2} (h:OpR X f r) (hi:∀x y H Q,r' x y H Q->r x y H Q):OpR X f r':=fun pins s σ H x y v u Q I rx ry q=>h pins s σ H x y v u Q I rx ry (hi x y H Q q)
theorem UnR.imp {f:Value->Sem Value} {r r':V->Hp->VK->Prop} (h:UnR X f r) (hi:∀x H Q,r' x H Q->r x H Q):UnR X f r':=fun pins s σ H x v Q I rx q=>h pins s σ H x v Q I rx (hi x H Q q)
theorem CallR.imp {f:Value} {r r':List V->Hp->VK->Prop} (h:CallR X f r) (hi:∀xs H Q,r' xs H Q->r xs H Q):CallR X f r':=fun pins s σ H xs us Q I rs q=>h pins s σ H xs us Q I rs (hi xs H Q q)
theorem IxR.imp {r r':R2} (h:IxR X r) (hi:∀x y H Q,r' x y H Q->r x y H Q):IxR X r':=fun value slice pins s σ H x y v u Q I rx ry q=>h value slice pins s σ H x y v u Q I rx ry (hi x y H Q q)
theorem SlR.imp {r r':V->Option Int->Option Int->Hp->VK->Prop} (h:SlR X r) (hi:∀x l u H Q,r' x l u H Q->r x l u H Q):SlR X r':=fun pins s σ H x v vl vu lo hi' sl Q I rx hs pl pu q=>h pins s σ H x v vl vu lo hi' sl Q I rx hs pl pu (hi x lo hi' H Q q)
def m2 (C:Int->Int->Prop) (g:Int->Int->V):R2:=fun x y H Q=>mI x fun i=>mI y fun j=>C i j/\Q (g i j) H
def Gr (g:Int->Int->V):R2:=fun x y H Q=>mI x fun i=>mI y fun j=>Q (g i j) H
theorem nR {g:Int->Int->V} (x y:V) (H:Hp) (Q:VK) (h:Gr g x y H Q):Qe g x y H Q:=by
 unfold Gr at h;rw[kQ]at h;obtain⟨i,rfl,h⟩:=h
 rw[kQ]at h;obtain⟨j,rfl,h⟩:=h
 exact⟨i,j,rfl,rfl,h⟩
theorem vA {C:Int->Int->Prop} {g:Int->Int->V} (x y:V) (H:Hp) (Q:VK) (h:m2 C g x y H Q):rI C g x y H Q:=by
 unfold m2 at h;rw[kQ]at h;obtain⟨i,rfl,h⟩:=h
 rw[kQ]at h;obtain⟨j,rfl,hc,h⟩:=h
 exact⟨i,j,rfl,rfl,hc,h⟩
theorem Xq:OpR X (binaryOp .Add) (Gr fun i j=>.int (i+j)):=Sk.imp nR
theorem Xr:OpR X (binaryOp .Sub) (Gr fun i j=>.int (i - j)):=Sl.imp nR
theorem Xs:OpR X (binaryOp .Mult) (m2 CMul fun i j=>.int (i*j)):=Sm.imp vA
theorem Xt:OpR X (binaryOp .Mod) (m2 (fun _ j=>0<j) fun i j=>.int (i % j)):=Sn.imp vA
theorem Xu:OpR X (binaryOp .Pow) (m2 Mt fun i j=>.int (i ^ j.toNat)):=So.imp vA
theorem aAx:OpR X (compareOp .Lt) (Gr fun i j=>.bl (decide (i<j))):=Xc.imp nR
theorem aAy:OpR X (compareOp .LtE) (Gr fun i j=>.bl (decide (i<=j))):=Xd.imp nR
theorem aAz:OpR X (compareOp .Gt) (Gr fun i j=>.bl (decide (j<i))):=Xe.imp nR
def Ik:R2:=fun x y H Q=>mS x fun i=>mS y fun j=>i.length+j.length<=sizeLine/\Q (.str (i++j)) H
theorem Tp:OpR X (binaryOp .Add) Ik:=zS.imp fun x y H Q h=>by
 unfold Ik at h;rw[fZ]at h;obtain⟨i,rfl,h⟩:=h
 rw[fZ]at h;obtain⟨j,rfl,hc,h⟩:=h
 exact⟨i,j,rfl,rfl,hc,h⟩
def mEq:R2:=fun x y H Q=>match x,y with
 | .int i,.int j=>Q (.bl (decide (i=j))) H
 | .str i,.str j=>Q (.bl (decide (i=j))) H
 | .bl i,.bl j=>Q (.bl (decide (i=j))) H
 | .non,.non=>Q (.bl true) H
 | .int _,.non=>Q (.bl false) H | .non,.int _=>Q (.bl false) H
 | .str _,.non=>Q (.bl false) H | .non,.str _=>Q (.bl false) H
 | .bl _,.non=>Q (.bl false) H | .non,.bl _=>Q (.bl false) H
 | .int _,.str _=>Q (.bl false) H | .str _,.int _=>Q (.bl false) H
 | .bl _,.str _=>Q (.bl false) H | .str _,.bl _=>Q (.bl false) H
 | _,_=>False
def Zx:R2:=fun x y H Q=>match x,y with
 | .int i,.int j=>Q (.bl (!decide (i=j))) H
 | .str i,.str j=>Q (.bl (!decide (i=j))) H
 | .bl i,.bl j=>Q (.bl (!decide (i=j))) H
 | .non,.non=>Q (.bl false) H
 | .int _,.non=>Q (.bl true) H | .non,.int _=>Q (.bl true) H
 | .str _,.non=>Q (.bl true) H | .non,.str _=>Q (.bl true) H
 | .bl _,.non=>Q (.bl true) H | .non,.bl _=>Q (.bl true) H
 | .int _,.str _=>Q (.bl true) H | .str _,.int _=>Q (.bl true) H
 | .bl _,.str _=>Q (.bl true) H | .str _,.bl _=>Q (.bl true) H
 | _,_=>False
theorem Xv:OpR X (compareOp .Eq) mEq:=Xa.imp fun x y H Q h=>by
 unfold mEq at h;unfold rEq;split at h <;> first | exact h.elim | (refine⟨rfl,?_⟩;first | simpa using h | exact h)
theorem aAB:OpR X (compareOp .NotEq) Zx:=Xb.imp fun x y H Q h=>by
 unfold Zx at h;unfold rNe;split at h <;> first | exact h.elim | (refine⟨rfl,?_⟩;first | simpa using h | exact h)
def Es (neg:Bool):R2:=fun x y H Q=>mS x fun i=>mS y fun j=>∃c,i=tx [c]/\Q (.bl (if neg then !decide (c∈j.cps.toList) else decide (c∈j.cps.toList))) H
theorem Xw:OpR X (compareOp .In) (Es false):=Ea.imp fun x y H Q h=>by
 unfold Es at h;rw[fZ]at h;obtain⟨i,rfl,h⟩:=h
 rw[fZ]at h;obtain⟨j,rfl,c,rfl,h⟩:=h
 refine⟨_,j,rfl,rfl,?_⟩
 have e:=StrLaws.found_one j c
 have e':(!(Builtin.Str.occurrences j (tx [c]) 0 j.length 1).isEmpty)=decide (c∈j.cps.toList):=e
 rw[e'];exact h
theorem Il:OpR X (compareOp .NotIn) (Es true):=uU.imp fun x y H Q h=>by
 unfold Es at h;rw[fZ]at h;obtain⟨i,rfl,h⟩:=h
 rw[fZ]at h;obtain⟨j,rfl,c,rfl,h⟩:=h
 refine⟨_,j,rfl,rfl,?_⟩
 have e:=StrLaws.found_one j c
 have e':(!(Builtin.Str.occurrences j (tx [c]) 0 j.length 1).isEmpty)=decide (c∈j.cps.toList):=e
 rw[e'];exact h
theorem Xx:OpR X (compareOp .Is) (fun x y H Q=>match y with | .non=>Q (.bl (decide (x=.non))) H | _=>False):=Sr.imp fun x y H Q h=>by
 cases y <;> first | exact⟨rfl,h⟩ | exact h.elim
theorem Tq:OpR X (compareOp .IsNot) (fun x y H Q=>match y with | .non=>Q (.bl (!decide (x=.non))) H | _=>False):=Mu.imp fun x y H Q h=>by
 cases y <;> first | exact⟨rfl,h⟩ | exact h.elim
def mT (t:TE):TT:=fun σ H Q=>t σ H fun x H'=>mB x fun k=>Q k H'
theorem Qn (t:TE):mT t=By t:=by
 funext σ H Q
 unfold mT By;congr 1
 funext x H'
 exact tG x _
theorem Tr (t:TE):mT t=tB t:=by
 funext σ H Q
 unfold mT tB;congr 1
 funext x H'
 exact tG x _
theorem Xy {op:CmpOp} {r:R2} (ho:OpR X (compareOp op) r) (ha:PE X a ta) (hb:PE X b tb) (hm:behindInMarks op b=false:=by first | exact uJ _ | rfl):PT X (.Compare a [op] [b] pos) (mT (xE r ta tb)):=by
 rw[Qn];exact Mw ho ha hb hm
theorem Xz {op:CmpOp} {r:R2} (ho:OpR X (compareOp op) r) (ha:PE X a ta) (hb:PE X b tb) (hm:behindInMarks op b=false:=by first | exact uJ _ | rfl):PE X (.Compare a [op] [b] pos) (xE r ta tb):=Mv ho ha hb hm
def pC (r r':R2) (ta tb tc:TE):TE:=fun σ H Q=>ta σ H fun x H1=>tb σ H1 fun y H2=>r x y H2 fun z H3=>mB z fun k=>(if k=true then tc σ H3 fun w' H4=>r' y w' H4 Q else Q (.bl false) H3)
theorem tH (r r':R2) (ta tb tc:TE):pC r r' ta tb tc=uK r r' ta tb tc:=by
 funext σ H Q
 unfold pC uK;congr 1
 funext x H1
 congr 1
 funext y H2
 congr 1
 funext z H3
 exact tG z _
theorem Nu {op op':CmpOp} {r r':R2} (ho:OpR X (compareOp op) r) (ho':OpR X (compareOp op') r') (ha:PE X a ta) (hb:PE X b tb) (hc:PE X c tc)
  (hm:lastMarks [op,op'] [b,c]=false:=by with_unfolding_all rfl):PE X (.Compare a [op,op'] [b,c] pos) (pC r r' ta tb tc):=by
 rw[tH];exact Hg ho ho' ha hb hc hm
theorem Nv {op op':CmpOp} {r r':R2} (ho:OpR X (compareOp op) r) (ho':OpR X (compareOp op') r') (ha:PE X a ta) (hb:PE X b tb) (hc:PE X c tc)
  (hm:lastMarks [op,op'] [b,c]=false:=by with_unfolding_all rfl):PT X (.Compare a [op,op'] [b,c] pos) (mT (pC r r' ta tb tc)):=by
 rw[Qn,tH];exact Hh ho ho' ha hb hc hm
theorem Ya {t:TE} (h:PE X e t) (he:∀whole,isTrue e X.env whole=(do let v ← whole;standAt e.pos;holding [v] (truthy v)):=by intro _;rfl):PT X e (mT t):=by
 rw[Tr];exact Ro h he
def Ci (ta tb:TE):TE:=fun σ H Q=>ta σ H fun x H1=>mB x fun c=>if c=true then tb σ H1 Q else Q (.bl false) H1
def Nw (ta tb:TE):TE:=fun σ H Q=>ta σ H fun x H1=>mB x fun c=>if c=true then Q (.bl true) H1 else tb σ H1 Q
def Cj (ta:TE):TE:=fun σ H Q=>ta σ H fun x H1=>mB x fun c=>Q (.bl (!c)) H1
theorem Yb {rest:List Expr} (ha:PE X a ta) (hb:PE X (.BoolOp .And (b::rest) pos) tb):PE X (.BoolOp .And (a::b::rest) pos) (Ci ta tb):=by
 have:Ci ta tb=Gu ta tb:=by
  funext σ H Q;unfold Ci Gu;congr 1;funext x H1;exact tG x _
 rw[this];exact Rv ha hb
theorem aAC {rest:List Expr} (ha:PE X a ta) (hb:PE X (.BoolOp .Or (b::rest) pos) tb):PE X (.BoolOp .Or (a::b::rest) pos) (Nw ta tb):=by
 have:Nw ta tb=Rt ta tb:=by
  funext σ H Q;unfold Nw Rt;congr 1;funext x H1;exact tG x _
 rw[this];exact Ws ha hb
theorem Yc (ha:PE X a ta):PE X (.UnaryOp .Not a pos) (Cj ta):=by
 have:Cj ta=Gv ta:=by
  funext σ H Q;unfold Cj Gv;congr 1;funext x H1;exact tG x _
 rw[this];exact Rw ha
theorem Yd (ha:PE X a ta):PE X (.UnaryOp .USub a pos) (Zr (fun x H Q=>mI x fun i=>Q (.int (-i)) H) ta):=Wy (Sq.imp fun x H Q h=>by
 rw[kQ]at h;obtain⟨i,rfl,h⟩:=h
 exact⟨i,rfl,h⟩) ha
def Et (K:W.Frag):R2:=fun x y H Q=>mR x fun p=>mI y fun i=>∃xs,SqL K H p xs/\∃v,eF xs i=some v/\Q v H
def Eu (K:W.Frag):R2:=fun x y H Q=>mR x fun p=>mI y fun i=>∃xs,SqT K H p xs/\∃v,eF xs i=some v/\Q v H
def Ts:R2:=fun x y H Q=>mS x fun z=>mI y fun i=>z.length<=sizeLine/\∃c,eF z.cps.toList i=some c/\Q (.str (tx [c])) H
theorem Tt:IxR X (Et X.K):=Nd.imp fun x y H Q h=>by
 unfold Et at h;rw[bY]at h;obtain⟨p,rfl,h⟩:=h
 rw[kQ]at h;obtain⟨i,rfl,xs,hq,v,hv,h⟩:=h
 exact⟨p,xs,i,v,rfl,rfl,hq,hv,h⟩
theorem Ye:IxR X (Eu X.K):=Sy.imp fun x y H Q h=>by
 unfold Eu at h;rw[bY]at h;obtain⟨p,rfl,h⟩:=h
 rw[kQ]at h;obtain⟨i,rfl,xs,hq,v,hv,h⟩:=h
 exact⟨p,xs,i,v,rfl,rfl,hq,hv,h⟩
theorem Yf:IxR X Ts:=Sz.imp fun x y H Q h=>by
 unfold Ts at h;rw[fZ]at h;obtain⟨z,rfl,h⟩:=h
 rw[kQ]at h;obtain⟨i,rfl,hz,c,hc,h⟩:=h
 exact⟨z,i,c,rfl,rfl,hz,hc,h⟩
theorem aAD {r:R2} (hr:IxR X r) (ha:PE X a ta) (hb:PE X b tb) (hs:uP b:=by exact fun _ _=>rfl):PE X (.Subscript a b pos) (xE r ta tb):=Xi hr ha hb hs
def tI (t:TE):TO:=fun σ H Q=>t σ H fun x H1=>mI x fun i=>Q (some i) H1
theorem Tu (h:PE X e te):PO X (some e) (tI te):=by
 have:tI te=Hk te:=by
  funext σ H Q;unfold tI Hk;congr 1;funext x H1;exact kQ x _
 rw[this];exact Nb h
def Tv:V->Option Int->Option Int->Hp->VK->Prop:=fun x lo hi H Q=>mS x fun z=>z.length<=sizeLine/\Q (.str (tx (dS z.cps.toList lo hi))) H
theorem Yg:SlR X Tv:=Tm.imp fun x l u H Q h=>by
 unfold Tv at h;rw[fZ]at h;obtain⟨z,rfl,hz,h⟩:=h
 exact⟨z,rfl,hz,h⟩
def Ev (K:W.Frag):V->Option Int->Option Int->Hp->VK->Prop:=fun x lo hi H Q=>mR x fun a=>∃xs,SqL K H a xs/\∀p,H p=none->Q (.ref p) (aJ H p (.lst (dS xs lo hi)))
theorem Tw:SlR X (Ev X.K):=Nf.imp fun x l u H Q h=>by
 unfold Ev at h;rw[bY]at h;obtain⟨a,rfl,xs,hq,h⟩:=h
 exact⟨a,xs,rfl,hq,h⟩
theorem Tx:CallR X (.builtin "len") (fun vs H Q=>match vs with | [.str z]=>z.length<=sizeLine/\Q (.int z.length) H | _=>False):=uW.imp fun vs H Q h=>by
 split at h
 ·rename_i z
  exact⟨z,rfl,h.1,h.2⟩
 ·exact h.elim
theorem Ty:CallR X (.builtin "len") (fun vs H Q=>match vs with | [.ref p]=>∃ys,(SqL X.K H p ys∨SqT X.K H p ys)/\Q (.int ys.length) H | _=>False):=uV.imp fun vs H Q h=>by
 split at h
 ·rename_i p
  obtain⟨ys,hq,h⟩:=h
  exact⟨p,ys,rfl,hq,h⟩
 ·exact h.elim
theorem Yh:CallR X (.type "int") (fun vs H Q=>match vs with | [.bl k]=>Q (.int (if k then 1 else 0)) H | _=>False):=Ed.imp fun vs H Q h=>by
 split at h
 ·rename_i k
  exact .inr ⟨k,rfl,h⟩
 ·exact h.elim
end
inductive Kd where | non | bl | int | str | lst | tup | dct
def Ew:Kd->String | .non=>"NoneType" | .bl=>"bool" | .int=>"int" | .str=>"str" | .lst=>"list" | .tup=>"tuple" | .dct=>"dict"
def Kof (H:Hp):V->Kd->Prop
 | .non,.non=>True | .bl _,.bl=>True | .int _,.int=>True | .str _,.str=>True
 | .ref a,.lst=>(∃xs,H a=some (.lst xs))∨∃o xs,H a=some (.frz o (.lst xs))
 | .ref a,.tup=>∃xs,H a=some (.tup xs)
 | .ref a,.dct=>∃kvs,H a=some (.dK kvs)
 | _,_=>False
def xV:Kd->Kd->Bool | .non,.non=>true | .bl,.bl=>true | .int,.int=>true | .int,.bl=>true | .str,.str=>true | .lst,.lst=>true | .tup,.tup=>true | .dct,.dct=>true | _,_=>false
theorem Ck (K:W.Frag) (want k:Kd):W.kitOne K (.type (Ew k)) (.type (Ew want))=some (xV want k):=by
 cases want <;> cases k <;> first | rfl | kernel_rfl
theorem aAE {K:W.Frag} {H:Hp} {x:V} {k:Kd} (h:Kof H x k):nN K H x (.type (Ew k)):=by
  cases x <;> cases k <;> first
    | exact h.elim
    | exact .non
    | exact .bl _
    | exact .int _
    | exact .str _
    | (obtain⟨xs,e⟩:=h;exact .tup e)
    | (obtain⟨xs,e⟩:=h;exact .dK e)
    | (rcases h with⟨xs,e⟩ | ⟨o,xs,e⟩
       . exact .lst e
       . exact .frz e)
def Ua (want:Kd):List V->Hp->VK->Prop:=fun vs H Q=>match vs with
 | [x,y]=>y=.ty (Ew want)/\∃k,Kof H x k/\Q (.bl (xV want k)) H
 | _=>False
section
variable {X:Cx}
theorem Yi (want:Kd):CallR X (.builtin "isinstance") (Ua want):=Ie.imp fun vs H Q h=>by
 unfold Ua at h;split at h
 ·rename_i x y
  obtain⟨rfl,k,hk,h⟩:=h
  exact⟨x,_,_,_,rfl,aAE hk,Ck X.K want k,h⟩
 ·exact h.elim
variable {e:Expr} {te:TE} {p p2 pos:Pos} {T:Str}
def Ub (want:Kd) (te:TE):TE:=fun σ H Q=>te σ H fun x H1=>∃k,Kof H1 x k/\Q (.bl (xV want k)) H1
theorem Yj (want:Kd) (he:PE X e te) (hg:Gl X "isinstance") (hm:X.mg "isinstance"=none) (hgT:Gl X T) (hmT:X.mg T=none) (hT:bootBuiltins T=some (.type (Ew want)))
  (hs:starEach [e,.Name T p2] X.env=(false,eval e X.env)::starEach [.Name T p2] X.env:=by rfl) (hs2:starEach [.Name T p2] X.env=(false,eval (.Name T p2) X.env)::starEach [] X.env:=by rfl)
  (hn:T≠"__name__":=by decide) (hd:(T == ("__debug__":Str))=false:=by decide) (hpl:(backTo pos (starEach [.Name T p2] X.env)).any (·.1)=false:=by rfl) :
  PE X (.Call (.Name "isinstance" p) [e,.Name T p2] [] pos) (Ub want te):=by
 have h:=xM (X:=X) (x:="isinstance") (p:=p) (pos:=pos) (Yi want) hg hm PyProof.Rows.boot_isinstance (uN he (uN (Bs (v:=.ty (Ew want)) (pos:=p2) hgT hmT hT rfl hn hd) uM hs2) hs) Zd Zd hs hpl
 intro pins s σ H Q I q;exact h pins s σ H Q I (by
  show te σ H _
  have:(fun(x:V) (H1:Hp)=>Ua want [x,.ty (Ew want)] H1 Q)=(fun x H1=>∃k,Kof H1 x k/\Q (.bl (xV want k)) H1):=by
   funext x H1
   apply propext
   constructor
   ·rintro⟨_,z⟩;exact z
   ·intro z;exact⟨rfl,z⟩
  exact this ▸ q)
end
structure Callee (P:Program) (w:World) (K:W.Frag) (mg:Str->Option Value) (base:Heap) (n:Nat) (x:Str) (ps:List Str) (sp:Sp):Prop where
 ex:∃(f:Addr) (fd:FuncData),pV P w K mg base xT n f fd ps sp/\mg x=some (.ref f)/\W.keepIn K (.ref f)=true/\Binds K fd ps []
section
variable {X:Cx} {n:Nat} {x:Str} {ps:List Str} {sp:Sp} {p pos:Pos} {e:Expr} {es:List Expr} {t:TA}
def Qo (sp:Sp) (t:TA):TE:=fun σ H Q=>t σ H fun vs H1=>sp vs H1 Q E0
theorem aAF (c:Callee X.prog X.w X.K X.mg X.base n x ps sp) (hr:Room n X.A) (hg:Gl X x) (ha:PA X (e::es) t) (hdb:(x == ("__debug__":Str))=false:=by decide)
  (he:starEach (e::es) X.env=(false,eval e X.env)::starEach es X.env:=by rfl) (hpl:(backTo pos (starEach es X.env)).any (·.1)=false:=by rfl):PE X (.Call (.Name x p) (e::es) [] pos) (Qo sp t):=by
 obtain⟨f,fd,F,hm,hk,hb⟩:=c.ex
 have h:=Mz (X:=X) (p:=p) (pos:=pos) (E:=E0) F hr hg hm hk hb (dvs:=[]) .nil Xl ha hdb he hpl
 intro pins s σ H Q I q;exact h pins s σ H Q I (by
  show t σ H _
  have:(fun(vs:List V) (H1:Hp)=>sp (vs++[]) H1 Q E0)=(fun vs H1=>sp vs H1 Q E0):=by
   funext vs H1;rw[List.append_nil]
  rw[this];exact q)
end
structure DefAt (K:W.Frag) (mg:Str->Option Value) (x:Str) (st:Stmt) (ps:List Str):Prop where
 ex:∃(f:Addr) (fd:FuncData),Fun K x x st f fd/\mg x=some (.ref f)/\Binds K fd ps []
theorem DefAt.ok {P:Program} {w:World} {K:W.Frag} {mg:Str->Option Value} {base:Heap} {x:Str} {st:Stmt} {N ps:List Str} {k:Nat} {sp:Sp} (D:DefAt K mg x st ps) (S:aL N ps (aE st)) (len:∀vs H Q E,sp vs H Q E->vs.length=ps.length)
  (hbody:∀(f:Addr) (cdv:Value) (A:Around) (outer:List Env) (s:Shared) (H:Hp) (vs:List V) (Q:VK) (E:XK),Room k (A.deeper (envOfC x (aE st) s.heap.objs.size f cdv))->sp vs H Q E →
   ∃t,PSs (kJ xT P w K mg base N x (aE st) f cdv A outer s H E).nox (bZ st) t/\t {nx:=fun _ H'=>Q .non H',rt:=Q } (start N vs) H):Callee P w K mg base (k+1) x ps sp:=by
 obtain⟨f,fd,F,hm,hb⟩:=D.ex
 exact⟨f,fd,F.ok S len (hbody f),hm,F.kp,hb⟩
def Im (sc0:Scope) (N0:List Str) (scope:Scope) (N:List Str) (js:List (Option Nat)):Bool:=
 (scope.kind == .function)&&scope.names.all (fun y=>y.2 != .cell)&&scope.names.all (fun y=>y.2 != .local||scope.names.lookup y.1 == some .local)&&(js.length == N.length)&&
 (List.range js.length).all (fun i=>match js[i]? with | some (some j)=>(match N[i]? with | some x=>N0[j]? == some x&&scope.names.lookup x == some .free | none=>false) | _=>true)&&
 scope.names.all (fun y=>y.2 != .free||sc0.names.lookup y.1 == some .cell||sc0.names.lookup y.1 == some .free)
theorem CompScope.by {X:Cx} {scope:Scope} {N:List Str} {js:List (Option Nat)} (sc0:Scope) (N0:List Str) (h0:X.env.scope=sc0) (hN:X.N=N0) (ok:Im sc0 N0 scope N js=true):CompScope X scope N js:=by
 unfold Im at ok;simp only [Bool.and_eq_true]at ok
 obtain⟨⟨⟨⟨⟨h1,h2⟩,h3⟩,h4⟩,h5⟩,h6⟩:=ok
 refine⟨by simpa using h1,fun y hy=>?_,fun y hy hk=>?_,by simpa using h4,fun i j e=>?_,fun y hy hk=>?_⟩
 ·have:=List.all_eq_true.mp h2 y hy
  simpa using this
 ·have:=List.all_eq_true.mp h3 y hy
  rw[hk]at this;simpa using this
 ·have hi:i<js.length:=(Zgs.mp e).1
  have:=List.all_eq_true.mp h5 i (List.mem_range.mpr hi)
  rw[e]at this;cases q:N[i]? with
  | none=>simp [q]at this
  | some x=>
   simp only [q,Bool.and_eq_true,beq_iff_eq]at this
   exact⟨x,rfl,by rw[hN];exact this.1,this.2⟩
 ·have:=List.all_eq_true.mp h6 y hy
  rw[hk]at this;have z:(sc0.names.lookup y.1 == some .cell)=true∨(sc0.names.lookup y.1 == some .free)=true:=by simpa using this
  have ek:X.env.kindOf y.1=sc0.names.lookup y.1:=by rw[<- h0];rfl
  rw[ek];rcases z with z | z
  ·exact .inl (by simpa using z)
  ·exact .inr (by simpa using z)
end L2
namespace L2
open PySem PySem.Spec PyProof.Rows
def aT:Expr->Bool | .Starred _ _=>false | _=>true
theorem bG {e:Expr} {es:List Expr} {env:Env} (h:aT e=true):starEach (e::es) env=(false,eval e env)::starEach es env:=by
 cases e <;> first | rfl | cases h
theorem fJ {es:List Expr} {env:Env} {pos:Pos} (h:es.all aT=true):(backTo pos (starEach es env)).any (·.1)=false:=by
 induction es with
 | nil=>rfl
 | cons e es ih=>
  rw[List.all_cons,Bool.and_eq_true]at h;rw[bG h.1];have:=ih h.2
  show(false||(backTo pos (starEach es env)).any (·.1))=false
  rw[this];rfl
section
variable {X:Cx} {e o:Expr} {es:List Expr} {te to:TE} {t:TA} {x:Str} {p pos apos cpos:Pos} {id T:String} {r:List V->Hp->VK->Prop}
theorem vB (ha:PE X e te) (hr:PA X es t) (h:aT e=true:=by rfl):PA X (e::es) (kC te t):=uN ha hr (bG h)
theorem Ny (hc:CallR X (.builtin id) r) (hg:Gl X x) (hm:X.mg x=none) (hv:bootBuiltins x=some (.builtin id)) (ha:PA X (e::es) t) (hn:x≠"__name__":=by decide) (hdb:(x == ("__debug__":Str))=false:=by decide)
  (h1:aT e=true:=by rfl) (h2:es.all aT=true:=by rfl):PE X (.Call (.Name x p) (e::es) [] pos) (Sv r t):=xM hc hg hm hv ha hn hdb (bG h1) (fJ h2)
theorem Io (hc:CallR X (.type T) r) (hg:Gl X x) (hm:X.mg x=none) (hv:bootBuiltins x=some (.type T)) (ha:PA X (e::es) t) (hn:x≠"__name__":=by decide) (hdb:(x == ("__debug__":Str))=false:=by decide)
  (h1:aT e=true:=by rfl) (h2:es.all aT=true:=by rfl):PE X (.Call (.Name x p) (e::es) [] pos) (Sv r t):=Eh hc hg hm hv ha hn hdb (bG h1) (fJ h2)
theorem Yk {n:Nat} {ps:List Str} {sp:Sp} (c:Callee X.prog X.w X.K X.mg X.base n x ps sp) (hr:Room n X.A) (hg:Gl X x) (ha:PA X (e::es) t) (hdb:(x == ("__debug__":Str))=false:=by decide)
  (h1:aT e=true:=by rfl) (h2:es.all aT=true:=by rfl):PE X (.Call (.Name x p) (e::es) [] pos) (Qo sp t):=aAF c hr hg ha hdb (bG h1) (fJ h2)
theorem Ip {es:List Expr} {env:Env} {cpos:Pos} (h:es.all aT=true):(backTo cpos (starEach es env)).all (fun x=>!x.1)=true:=by
 induction es with
 | nil=>rfl
 | cons e es ih=>
  rw[List.all_cons,Bool.and_eq_true]at h;rw[bG h.1];show(!false&&(backTo cpos (starEach es env)).all (fun x=>!x.1))=true
  rw[ih h.2];rfl
theorem aAG {name:Str} {r:V->List V->Hp->VK->Prop} (pa:PlainAttrs T) (slot:Slot T name id) (hty:typeOf (.builtin id)=pure (.type "method_descriptor")) (hm:Hm X id r) (ho:PE X o to) (ha:PA X (e::es) t)
  (hbase:attributeBase o name X.env (eval o X.env)=eval o X.env:=by rfl) (hline:(apos.endLine == cpos.line)=true:=by rfl) (h1:aT e=true:=by rfl) (h2:es.all aT=true:=by rfl) (hn:es.length+1<30:=by decide) :
  PE X (.Call (.Attribute o name apos) (e::es) [] cpos) (Zv X.K T r to t):=by
 refine Xj pa slot hty hm ho ha hbase ?_ hline (bG h1) (fJ h2)
 rw[Ip (by rw[List.all_cons,h1,h2];rfl)]
 show(true&&true&&decide (es.length+1+0+0<30))=true
 simp
 omega
theorem Uc {p2:Pos} {T:Str} (want:Kd) (he:PE X e te) (hg:Gl X "isinstance") (hm:X.mg "isinstance"=none) (hgT:Gl X T) (hmT:X.mg T=none) (hT:bootBuiltins T=some (.type (Ew want)))
  (hn:T≠"__name__":=by decide) (hd:(T == ("__debug__":Str))=false:=by decide) (h1:aT e=true:=by rfl):PE X (.Call (.Name "isinstance" p) [e,.Name T p2] [] pos) (Ub want te):=
 Yj want he hg hm hgT hmT hT (bG h1) (bG rfl) hn hd (fJ rfl)
end
end L2
namespace L2
open PySem PySem.Spec PyProof.Rows
theorem aX:bootBuiltins "len"=some (.builtin "len"):=by decide +kernel
theorem aS:bootBuiltins "isinstance"=some (.builtin "isinstance"):=by decide +kernel
theorem qX:bootBuiltins "all"=some (.builtin "all"):=by decide +kernel
theorem Ud:bootBuiltins "any"=some (.builtin "any"):=by decide +kernel
theorem Ad:bootBuiltins "max"=some (.builtin "max"):=by decide +kernel
theorem Ue:bootBuiltins "min"=some (.builtin "min"):=by decide +kernel
theorem vC:bootBuiltins "list"=some (.type "list"):=by decide +kernel
theorem fT:bootBuiltins "str"=some (.type "str"):=by decide +kernel
theorem fU:bootBuiltins "int"=some (.type "int"):=by decide +kernel
theorem vD:bootBuiltins "bool"=some (.type "bool"):=by decide +kernel
theorem bT:bootBuiltins "tuple"=some (.type "tuple"):=by decide +kernel
end L2
namespace L2
theorem kR {c:Bool} {A B:Prop} (h:c=true) (k:A):if c=true then A else B:=by rw[if_pos h];exact k
theorem iK {c:Bool} {A B:Prop} (h:c=false) (k:B):if c=true then A else B:=by rw[if_neg (by rw[h];exact Bool.false_ne_true)];exact k
theorem aV {c:Bool} {A B:Prop} (ht:c=true->A) (hf:c=false->B):if c=true then A else B:=by
 cases h:c with
 | true=>rw[if_pos rfl];exact ht h
 | false=>rw[if_neg Bool.false_ne_true];exact hf h
end L2
namespace L2
open PySem PySem.Spec PyProof.Rows
structure Ae (J:It) (xs:List V) (A:Hp->Prop):Prop where
 go:∀i H,i<xs.length->A H->J.go i H
 yld:∀i H x H',i<xs.length->A H->J.yld i H x H'->H'=H/\xs[i]?=some x
 stop:∀H,A H->J.stop xs.length H
def nS (x:Str):List V:=x.cps.toList.map fun c=>V.str (tx [c])
theorem Cl (x:Str):Ae (Xn x) (nS x) (fun _=>True):=by
 have hl:(nS x).length=x.cps.size:=by simp [nS]
 refine⟨fun i H hi _=>by rw[hl]at hi;exact hi,fun i H v H' _ _ ⟨e,c,hc,ev⟩=>⟨e,?_⟩,fun H _=>by rw[hl];exact cL _⟩
 subst ev;unfold nS;rw[kH,Array.getElem?_toList,hc];rfl
def dE (lo:Int) (n:Nat):List V:=(List.range n).map fun(i:Nat)=>V.int (lo+(i:Int))
theorem gQ (lo:Int) (n:Nat):Ae (Se lo n) (dE lo n) (fun _=>True):=by
 have hl:(dE lo n).length=n:=by simp [dE]
 refine⟨fun i H hi _=>by rw[hl]at hi;exact hi,fun i H v H' hi _ ⟨e,ev⟩=>⟨e,?_⟩,fun H _=>by rw[hl];exact cL _⟩
 subst ev;rw[hl]at hi;unfold dE;rw[kH,List.getElem?_range hi];rfl
theorem kS (K:W.Frag) (a:Addr) (xs:List V):Ae (Itl K a) xs (fun H=>SqL K H a xs):=
 ⟨fun i H hi h=>⟨xs,xs[i],h,by simp [hi]⟩,fun i H x H' _ h ⟨e,y⟩=>⟨e,y xs h⟩,fun H h=>⟨xs,h,cL _⟩⟩
theorem hX (K:W.Frag) (a:Addr) (xs:List V):Ae (Itt K a) xs (fun H=>SqT K H a xs):=
 ⟨fun i H hi h=>⟨xs,xs[i],h,by simp [hi]⟩,fun i H x H' _ h ⟨e,y⟩=>⟨e,y xs h⟩,fun H h=>⟨xs,h,cL _⟩⟩
theorem bV {J:It} {xs:List V} {A:Hp->Prop} {js:List (Option Nat)} {g:TG} {tt:TT} {te:TE} {σ:St} {H:Hp} {Q:List V->Hp->Prop} (S:Ae J xs A) (hz:xs.length<=100000) (Pv:Nat->List V->Hp->Prop) (hA:∀i ys H,Pv i ys H->A H/\ys.length<=i) (h0:Pv 0 [] H)
  (hs:∀i x ys H,xs[i]?=some x->Pv i ys H->g x (xF js σ) H fun σ2 H2=>tt σ2 H2 fun b H3=>if b=true then te σ2 H3 fun y H4=>Pv (i+1) (ys++[y]) H4 else Pv (i+1) ys H3)
  (hd:∀ys H,Pv xs.length ys H->Q ys H):qV js g tt te σ J H Q:=by
 refine⟨fun i m ys H=>m=xs.length - i/\i<=xs.length/\Pv i ys H,⟨xs.length,Zs,Nat.zero_le _,h0⟩,?_⟩
 rintro i m ys H ⟨rfl,hi,p⟩
 obtain⟨pa,hy⟩:=hA i ys H p
 by_cases hlt:i<xs.length
 ·refine .inr ⟨S.go i H hlt pa,Wf (m:=100000) Zo Zd,Pv (i+1),fun ys' H' p'=>⟨xs.length - (i+1),Zo,rfl,hlt,p'⟩,fun x H' y=>?_⟩
  obtain⟨rfl,hx⟩:=S.yld i H x H' hlt pa y
  exact hs i x ys H' hx p
 ·have e:i=xs.length:=by omega
  subst e;exact .inl ⟨S.stop H pa,hd ys H p⟩
theorem pE {J:It} {xs:List V} {A:Hp->Prop} {js:List (Option Nat)} {g:TG} {tt:TT} {te:TE} {σ:St} {H:Hp} {Q:List V->Hp->Prop} (S:Ae J xs A) (hz:xs.length<=100000) (p:V->Bool) (f:V->V) (hA:A H)
  (hs:∀(x:V) (ys:List V) (N:List V->Hp->Prop),x∈xs->(p x=true->N (ys++[f x]) H)->(p x=false->N ys H)->g x (xF js σ) H fun σ2 H2=>tt σ2 H2 fun b H3=>if b=true then te σ2 H3 fun y H4=>N (ys++[y]) H4 else N ys H3)
  (hd:Q ((xs.filter p).map f) H):qV js g tt te σ J H Q:=by
 refine bV S hz (fun i ys H'=>ys=((xs.take i).filter p).map f/\H'=H) (fun i ys H' ⟨e,e2⟩=>⟨by rw[e2];exact hA,?_⟩) ⟨Zs,rfl⟩ (fun i x ys H' hx ⟨e,e2⟩=>?_) (fun ys H' ⟨e,e2⟩=>?_)
 ·rw[e,aZ];exact kB (List.length_filter_le _ _) (by rw[fS];exact Nat.min_le_left _ _)
 ·subst e2;have key:(xs.take (i+1)).filter p=(xs.take i).filter p++(if p x=true then [x] else []):=take_succ_filter p xs i x hx
  refine hs x ys (fun ys' H3=>ys'=((xs.take (i+1)).filter p).map f/\H3=H') (sN hx) (fun h=>⟨?_,rfl⟩) (fun h=>⟨?_,rfl⟩)
  ·rw[key,if_pos h,hW,e];rfl
  ·rw[key,if_neg (by rw[h];exact Bool.false_ne_true),List.append_nil,e]
 ·subst e2;rw[e,rV (cL _)];exact hd
theorem qB {J:It} {xs:List V} {A:Hp->Prop} {g:TG} {tb:TS} {D:pU} {σ:St} {H:Hp} (S:Ae J xs A) (Pv:Nat->St->Hp->Prop) (hA:∀i σ H,Pv i σ H->A H) (h0:Pv 0 σ H)
  (hs:∀(i:Nat) (x:V) σ H,xs[i]?=some x->Pv i σ H->g x σ H fun σ2 H2=>tb {D with nx:=Pv (i+1),ct:=Pv (i+1),bk:=D.nx } σ2 H2) (hd:∀ σ H,Pv xs.length σ H->D.nx σ H) :
  ∃W:Nat->Nat->St->Hp->Prop,(∃m,W 0 m σ H)/\∀i m σ H,W i m σ H →
   (J.stop i H/\D.nx σ H)∨(J.go i H/\∃N:St->Hp->Prop,(∀ σ' H',N σ' H'->∃m',m'<m/\W (i+1) m' σ' H')/\∀x H',J.yld i H x H'->g x σ H' fun σ2 H2=>tb {D with nx:=N,ct:=N,bk:=D.nx } σ2 H2):=by
 refine⟨fun i m σ H=>m=xs.length - i/\i<=xs.length/\Pv i σ H,⟨xs.length,Zs,Nat.zero_le _,h0⟩,?_⟩
 rintro i m σ H ⟨rfl,hi,p⟩
 have pa:=hA i σ H p
 by_cases hlt:i<xs.length
 ·refine .inr ⟨S.go i H hlt pa,Pv (i+1),fun σ' H' p'=>⟨xs.length - (i+1),Zo,rfl,hlt,p'⟩,fun x H' y=>?_⟩
  obtain⟨rfl,hx⟩:=S.yld i H x H' hlt pa y
  exact hs i x σ H' hx p
 ·have e:i=xs.length:=by omega
  subst e;exact .inl ⟨S.stop H pa,hd σ H p⟩
end L2
namespace L2
open PySem
theorem aA {H:Hp} {p:Addr} {o:HO} (h:H p=none):Same H (aJ H p o):=fun b u q=>by rw[aM (aH q h)];exact q
theorem gV {α:Type} (xs:List α) (k:Nat):dS xs none (some (k:Int))=xs.take k:=by
 unfold dS;rw[HT.sIx_none,HT.sIx_nat,List.drop_zero,Nat.sub_zero,<- List.take_take,rV (cL _)]
theorem eK {α:Type} (xs:List α) (k:Nat):dS xs (some (k:Int)) none=xs.drop k:=by
 unfold dS;rw[HT.sIx_none,HT.sIx_nat];by_cases h:k<=xs.length
 ·rw[Nat.min_eq_left h,rV (by rw[List.length_drop];exact cL _)]
 ·rw[Nat.min_eq_right Zo,List.drop_of_length_le (cL _),List.drop_of_length_le Zo,List.take_nil]
end L2
namespace L2
open PySem PySem.Spec PyProof.Rows
theorem cI {H:Hp} {p q:Addr} {o u:HO} (h:H p=some o) (hq:H q=none):aJ H q u p=some o:=by rw[aM (aH h hq)];exact h
theorem kT {α:Type} {xs:List α} {i:Int} (h0:0<=i) (h1:i<xs.length):∃v,eF xs i=some v/\v∈xs:=by
 obtain⟨j,rfl⟩:=oR h0
 have hj:j<xs.length:=by omega
 exact⟨xs[j],aF (by simp [hj]),List.getElem_mem hj⟩
theorem Cm (g:Array Nat):∀(ps:List Str) (acc:Array Nat),(ps.foldl (fun acc p=>acc++g++p.cps) acc).toList=acc.toList++(ps.map fun p=>g.toList++p.cps.toList).flatten
 | [],acc=>by simp
 | p::ps,acc=>by
  rw[List.foldl_cons,Cm g ps];simp
theorem Iq (ps:List Str):(Txt.join (tx []) ps).cps.toList=(ps.map fun p=>p.cps.toList).flatten:=by
 unfold Txt.join Builtin.Str.glued;rw[Cm];cases ps with
 | nil=>simp [Str.empty]
 | cons p ps=>simp
theorem Nz (ps:List Str):Txt.join (tx []) ps=tx (ps.map fun p=>p.cps.toList).flatten:=by rw[<- Iq,pA]
theorem qY (ts:List Nat):Txt.join (tx []) (ts.map fun c=>tx [c])=tx ts:=by
 rw[Nz,List.map_map];congr 1
 congr 1
 induction ts with
 | nil=>rfl
 | cons c r ih=>rw[List.map_cons,List.flatten_cons,ih];rfl
theorem vE:("":Str)=tx []:=by decide +kernel
end L2
namespace L2
open PySem PySem.Spec PyProof.Rows
theorem xW {js:List (Option Nat)} {g:TG} {tt:TT} {te:TE} {σ:St} {z:Str} {H:Hp} {Q:List V->Hp->Prop} (hz:z.length<=100000) (p:Nat->Bool) (f:Nat->V)
  (hs:∀(c:Nat) (ys:List V) (N:List V->Hp->Prop),c∈z.cps.toList->(p c=true->N (ys++[f c]) H)->(p c=false->N ys H)->g (.str (tx [c])) (xF js σ) H fun σ2 H2=>tt σ2 H2 fun b H3=>if b=true then te σ2 H3 fun y H4=>N (ys++[y]) H4 else N ys H3)
  (hd:Q ((z.cps.toList.filter p).map f) H):qV js g tt te σ (Xn z) H Q:=by
 have hl:(nS z).length=z.cps.toList.length:=by simp [nS]
 refine bV (Cl z) (by rw[hl];simpa [Str.length]using hz) (fun i ys H'=>ys=((z.cps.toList.take i).filter p).map f/\H'=H) (fun i ys H' ⟨e,e2⟩=>⟨trivial,?_⟩) ⟨Zs,rfl⟩ (fun i x ys H' hx ⟨e,e2⟩=>?_) (fun ys H' ⟨e,e2⟩=>?_)
 ·rw[e,aZ];exact kB (List.length_filter_le _ _) (by rw[fS];exact Nat.min_le_left _ _)
 ·subst e2;unfold nS at hx;rw[kH]at hx;cases hc:z.cps.toList[i]? with
  | none=>rw[hc]at hx;cases hx
  | some c=>
   rw[hc]at hx;cases hx
   have key:(z.cps.toList.take (i+1)).filter p=(z.cps.toList.take i).filter p++(if p c=true then [c] else []):=take_succ_filter p _ i c hc
   refine hs c ys (fun ys' H3=>ys'=((z.cps.toList.take (i+1)).filter p).map f/\H3=H') (sN hc) (fun h=>⟨?_,rfl⟩) (fun h=>⟨?_,rfl⟩)
   ·rw[key,if_pos h,hW,e];rfl
   ·rw[key,if_neg (by rw[h];exact Bool.false_ne_true),List.append_nil,e]
 ·subst e2;rw[e,hl,rV (cL _)];exact hd
theorem jL {α:Type} (p:α->Bool):∀l:List α,(l.filter fun c=>!p c).isEmpty=l.all p
 | []=>rfl
 | c::l=>by
  rw[List.filter_cons,List.all_cons];cases h:p c with
  | true=>simp [jL p l]
  | false=>simp
end L2
namespace L2
open PySem
theorem qZ:∀ts:List Nat,((ts.map fun c=>tx [c]).map (·.length)).sum=ts.length
 | []=>rfl
 | c::ts=>by
  rw[List.map_cons,List.map_cons,List.sum_cons,qZ ts,fI];show 1+ts.length=_
  omega
end L2
namespace L2
open PySem
theorem iY {t:TT} {σ:St} {H:Hp} {Q:Bool->Hp->Prop} (R:Bool->Hp->Prop) (h:∀k:Bool->Hp->Prop,(∀v H',R v H'->k v H')->t σ H k) (h2:∀v H',R v H'->Q v H'):t σ H Q:=h Q h2
theorem Uf {t:TS} {D:pU} {σ:St} {H:Hp} (R:St->Hp->Prop) (h:∀nx:St->Hp->Prop,(∀ σ' H',R σ' H'->nx σ' H')->t {D with nx:=nx } σ H) (h2:∀ σ' H',R σ' H'->D.nx σ' H'):t D σ H:=h D.nx h2
theorem Kof.same {H H':Hp} {x:V} {k:Kd} (s:Same H H') (h:Kof H x k):Kof H' x k:=by
  cases x <;> cases k <;> first
    | exact h
    | (obtain⟨xs,e⟩:=h;exact⟨xs,s _ _ e⟩)
    | (rcases h with⟨xs,e⟩ | ⟨o,xs,e⟩
       . exact .inl ⟨xs,s _ _ e⟩
       . exact .inr ⟨o,xs,s _ _ e⟩)
end L2
namespace L2
open PySem PySem.Spec PyProof.Rows
structure XE (X:Cx) (e:Expr) (t:TE):Prop where
 h:PE X e t
structure XT (X:Cx) (e:Expr) (t:TT):Prop where
 h:PT X e t
structure XW (X:Cx) (e:Expr) (t:TT):Prop where
 h:PW X e t
structure XA (X:Cx) (es:List Expr) (t:TA):Prop where
 h:PA X es t
structure XS (X:Cx) (st:Stmt) (t:TS):Prop where
 h:PS X st t
structure XB (X:Cx) (st:List Stmt) (t:TS):Prop where
 h:PSs X st t
structure XI (X:Cx) (tg iter:Expr) (t:TI):Prop where
 h:PI X tg iter t
structure XG (X:Cx) (e:Expr) (t:TG):Prop where
 h:PG X e t
structure Yl (X:Cx) (es:List Expr) (t:Bt):Prop where
 h:Wu X es t
structure XO (X:Cx) (e:Option Expr) (t:TO):Prop where
 h:PO X e t
structure Zy (X:Cx) (cs:List Expr) (t:TT):Prop where
 h:Wi X cs t
structure Ym (X:Cx) (t:Gz):Prop where
 h:Ry X t
structure hZ (X:Cx) (f:Value->Value->Sem Value) (r:R2):Prop where
 h:OpR X f r
structure Qp (X:Cx) (r:R2):Prop where
 h:IxR X r
structure Yn (X:Cx) (r:V->Option Int->Option Int->Hp->VK->Prop):Prop where
 h:SlR X r
structure XC (X:Cx) (f:Value) (r:List V->Hp->VK->Prop):Prop where
 h:CallR X f r
structure XM (X:Cx) (id:String) (r:V->List V->Hp->VK->Prop):Prop where
 h:Hm X id r
namespace R
section
variable {X:Cx} {a b c e o i:Expr} {es rest:List Expr} {ta tb tc te to ti:TE} {tA tB':TT} {t u:TA} {pos p p2 apos cpos pos':Pos} {x:Str} {n:Nat} {r r':R2}
theorem v (i:Nat) {x:Str} {pos:Pos} (hN:X.N[i]?=some x:=by rfl) (hv:Wp X.env.scope x:=by first | exact Or.inl rfl | exact Or.inr (Or.inl rfl) | exact Or.inr (Or.inr rfl)) (hd:(x == ("__debug__":Str))=false:=by decide)
  (hcd:(x == ("__classdict__":Str))=false:=by decide):XE X (.Name x pos) (vr i):=⟨xv i hN hv hd hcd⟩
theorem ac {i j pos}:XE X (.Constant (.int i) j pos) (tC (.int i)):=⟨Rl⟩
theorem bl {b j pos}:XE X (.Constant (.bool b) j pos) (tC (.bl b)):=⟨Wq⟩
theorem bw {j pos}:XE X (.Constant .none j pos) (tC .non):=⟨Rm⟩
theorem ad {x j pos}:XE X (.Constant (.str x) j pos) (tC (.str x)):=⟨Rn⟩
theorem gS {z:Str} (hg:Gl X x) (hm:∃t,X.mg x=some (.str z t)) (hd:(x == ("__debug__":Str))=false:=by decide):XE X (.Name x pos) (tC (.str z)):=by
 obtain⟨t,hm⟩:=hm;exact⟨uH hg hm ⟨t,rfl⟩ hd⟩
theorem gI {z:Int} (hg:Gl X x) (hm:∃t,X.mg x=some (.int z t)) (hd:(x == ("__debug__":Str))=false:=by decide):XE X (.Name x pos) (tC (.int z)):=by
 obtain⟨t,hm⟩:=hm;exact⟨uH hg hm ⟨t,rfl⟩ hd⟩
theorem gR {a:Addr} (hg:Gl X x) (hm:X.mg x=some (.ref a)) (hd:(x == ("__debug__":Str))=false:=by decide):XE X (.Name x pos) (tC (.ref a)):=⟨uH hg hm rfl hd⟩
theorem op {op:Operator} (ho:hZ X (binaryOp op) r) (ha:XE X a ta) (hb:XE X b tb):XE X (.BinOp a op b pos) (xE r ta tb):=⟨Wx ho.h ha.h hb.h⟩
theorem ar:hZ X (binaryOp .Add) (Gr fun i j=>.int (i+j)):=⟨Xq⟩
theorem bd:hZ X (binaryOp .Sub) (Gr fun i j=>.int (i - j)):=⟨Xr⟩
theorem cg:hZ X (binaryOp .Mult) (m2 CMul fun i j=>.int (i*j)):=⟨Xs⟩
theorem cf:hZ X (binaryOp .Mod) (m2 (fun _ j=>0<j) fun i j=>.int (i % j)):=⟨Xt⟩
theorem bq:hZ X (binaryOp .Pow) (m2 Mt fun i j=>.int (i ^ j.toNat)):=⟨Xu⟩
theorem db:hZ X (binaryOp .Add) Ik:=⟨Tp⟩
theorem lt:hZ X (compareOp .Lt) (Gr fun i j=>.bl (decide (i<j))):=⟨aAx⟩
theorem le:hZ X (compareOp .LtE) (Gr fun i j=>.bl (decide (i<=j))):=⟨aAy⟩
theorem gt:hZ X (compareOp .Gt) (Gr fun i j=>.bl (decide (j<i))):=⟨aAz⟩
theorem eq:hZ X (compareOp .Eq) mEq:=⟨Xv⟩
theorem ne:hZ X (compareOp .NotEq) Zx:=⟨aAB⟩
theorem ie:hZ X (compareOp .In) (Es false):=⟨Xw⟩
theorem gy:hZ X (compareOp .NotIn) (Es true):=⟨Il⟩
theorem inQ:hZ X (compareOp .In) (Ta X.K false):=⟨Ek⟩
theorem notInQ:hZ X (compareOp .NotIn) (Ta X.K true):=⟨uT⟩
theorem dz:hZ X (compareOp .Is) (fun x y H Q=>match y with | .non=>Q (.bl (decide (x=.non))) H | _=>False):=⟨Xx⟩
theorem ja:hZ X (compareOp .IsNot) (fun x y H Q=>match y with | .non=>Q (.bl (!decide (x=.non))) H | _=>False):=⟨Tq⟩
theorem eqNil (hu:X.A.units<cLine):hZ X (compareOp .Eq) (pB X.K false):=⟨Ii hu⟩
theorem neNil (hu:X.A.units<cLine):hZ X (compareOp .NotEq) (pB X.K true):=⟨Ij hu⟩
theorem az {op:CmpOp} (ho:hZ X (compareOp op) r) (ha:XE X a ta) (hb:XE X b tb) (hm:behindInMarks op b=false:=by first | exact uJ _ | rfl):XE X (.Compare a [op] [b] pos) (xE r ta tb):=⟨Xz ho.h ha.h hb.h hm⟩
theorem ah {op:CmpOp} (ho:hZ X (compareOp op) r) (ha:XE X a ta) (hb:XE X b tb) (hm:behindInMarks op b=false:=by first | exact uJ _ | rfl):XT X (.Compare a [op] [b] pos) (mT (xE r ta tb)):=⟨Xy ho.h ha.h hb.h hm⟩
theorem gm {op op':CmpOp} (ho:hZ X (compareOp op) r) (ho':hZ X (compareOp op') r') (ha:XE X a ta) (hb:XE X b tb) (hc:XE X c tc) (hm:lastMarks [op,op'] [b,c]=false:=by with_unfolding_all rfl):XE X (.Compare a [op,op'] [b,c] pos) (pC r r' ta tb tc):=⟨Nu ho.h ho'.h ha.h hb.h hc.h hm⟩
theorem fg {op op':CmpOp} (ho:hZ X (compareOp op) r) (ho':hZ X (compareOp op') r') (ha:XE X a ta) (hb:XE X b tb) (hc:XE X c tc) (hm:lastMarks [op,op'] [b,c]=false:=by with_unfolding_all rfl):XT X (.Compare a [op,op'] [b,c] pos) (mT (pC r r' ta tb tc)):=⟨Nv ho.h ho'.h ha.h hb.h hc.h hm⟩
theorem bt (ha:XE X a ta):XE X (.UnaryOp .USub a pos) (Zr (fun x H Q=>mI x fun i=>Q (.int (-i)) H) ta):=⟨Yd ha.h⟩
theorem av {t:TE} (h:XE X e t) (he:∀whole,isTrue e X.env whole=(do let v ← whole;standAt e.pos;holding [v] (truthy v)):=by intro _;rfl):XT X e (mT t):=⟨Ya h.h he⟩
theorem aw (ha:XT X a tA):XT X (.UnaryOp .Not a pos) (Rp tA):=⟨Rs ha.h⟩
theorem bx (ha:XT X a tA):XW X (.BoolOp .And [a] pos) tA:=⟨Ml ha.h⟩
theorem bh (ha:XT X a tA):XW X (.BoolOp .Or [a] pos) tA:=⟨Rq ha.h⟩
theorem bu (ha:XT X a tA) (hb:XW X (.BoolOp .And (b::rest) pos) tB'):XW X (.BoolOp .And (a::b::rest) pos) (jJ tA tB'):=⟨Rr ha.h hb.h⟩
theorem bc (ha:XT X a tA) (hb:XW X (.BoolOp .Or (b::rest) pos) tB'):XW X (.BoolOp .Or (a::b::rest) pos) (Wg tA tB'):=⟨Wr ha.h hb.h⟩
theorem tw (h:XW X e tA):XT X e tA:=⟨h.h.pt⟩
theorem bp {op} (h:XE X a ta):XE X (.BoolOp op [a] pos) ta:=⟨Ru h.h⟩
theorem bj (ha:XE X a ta) (hb:XE X (.BoolOp .And (b::rest) pos) tb):XE X (.BoolOp .And (a::b::rest) pos) (Ci ta tb):=⟨Yb ha.h hb.h⟩
theorem or (ha:XE X a ta) (hb:XE X (.BoolOp .Or (b::rest) pos) tb):XE X (.BoolOp .Or (a::b::rest) pos) (Nw ta tb):=⟨aAC ha.h hb.h⟩
theorem gv (ha:XE X a ta):XE X (.UnaryOp .Not a pos) (Cj ta):=⟨Yc ha.h⟩
theorem ir (hc:XT X c tA) (ha:XE X a ta) (hb:XE X b tb):XE X (.IfExp c a b pos) (tIf tA ta tb):=⟨Gw hc.h ha.h hb.h⟩
theorem ix (hr:Qp X r) (ha:XE X a ta) (hb:XE X b tb) (hs:uP b:=by exact fun _ _=>rfl):XE X (.Subscript a b pos) (xE r ta tb):=⟨aAD hr.h ha.h hb.h hs⟩
theorem iL:Qp X (Et X.K):=⟨Tt⟩
theorem iT:Qp X (Eu X.K):=⟨Ye⟩
theorem iS:Qp X Ts:=⟨Yf⟩
theorem pn:XO X none pY:=⟨Na⟩
theorem ps (h:XE X e te):XO X (some e) (tI te):=⟨Tu h.h⟩
theorem sl {r:V->Option Int->Option Int->Hp->VK->Prop} {lo hi:Option Expr} {tl th:TO} (hr:Yn X r) (he:XE X e te) (hl:XO X lo tl) (hu:XO X hi th):XE X (.Subscript e (.Slice lo hi none p2) pos) (Zu r te tl th):=⟨Hl hr.h he.h hl.h hu.h⟩
theorem sS:Yn X Tv:=⟨Yg⟩
theorem sL:Yn X (Ev X.K):=⟨Tw⟩
theorem aa:XA X [] xK:=⟨uM⟩
theorem Z (ha:XE X e te) (hr:XA X es t) (h:aT e=true:=by rfl):XA X (e::es) (kC te t):=⟨vB ha.h hr.h h⟩
theorem ap (h:XA X es t):XE X (.List es pos) (Xf t):=⟨Ss h.h⟩
theorem ao {id:String} {r:List V->Hp->VK->Prop} (hc:XC X (.builtin id) r) (hg:Gl X x) (hm:X.mg x=none) (hv:bootBuiltins x=some (.builtin id)) (ha:XA X (e::es) t) (hn:x≠"__name__":=by decide) (hdb:(x == ("__debug__":Str))=false:=by decide)
  (h1:aT e=true:=by rfl) (h2:es.all aT=true:=by rfl):XE X (.Call (.Name x p) (e::es) [] pos) (Sv r t):=⟨Ny hc.h hg hm hv ha.h hn hdb h1 h2⟩
theorem bn {T:String} {r:List V->Hp->VK->Prop} (hc:XC X (.type T) r) (hg:Gl X x) (hm:X.mg x=none) (hv:bootBuiltins x=some (.type T)) (ha:XA X (e::es) t) (hn:x≠"__name__":=by decide) (hdb:(x == ("__debug__":Str))=false:=by decide)
  (h1:aT e=true:=by rfl) (h2:es.all aT=true:=by rfl):XE X (.Call (.Name x p) (e::es) [] pos) (Sv r t):=⟨Io hc.h hg hm hv ha.h hn hdb h1 h2⟩
theorem dy:XC X (.builtin "len") (fun vs H Q=>match vs with | [.str z]=>z.length<=sizeLine/\Q (.int z.length) H | _=>False):=⟨Tx⟩
theorem lenL:XC X (.builtin "len") (fun vs H Q=>match vs with | [.ref p]=>∃ys,(SqL X.K H p ys∨SqT X.K H p ys)/\Q (.int ys.length) H | _=>False):=⟨Ty⟩
theorem cr:XC X (.type "int") (fun vs H Q=>match vs with | [.bl k]=>Q (.int (if k then 1 else 0)) H | _=>False):=⟨Yh⟩
theorem all (hc:X.calm=true):XC X (.builtin "all") (Tn X.K):=⟨Ig hc⟩
theorem any (hc:X.calm=true):XC X (.builtin "any") (To X.K):=⟨Ih hc⟩
theorem fn {n:Nat} {ps:List Str} {sp:Sp} (c:Callee X.prog X.w X.K X.mg X.base n x ps sp) (hr:Room n X.A) (hg:Gl X x) (ha:XA X (e::es) t) (hdb:(x == ("__debug__":Str))=false:=by decide)
  (h1:aT e=true:=by rfl) (h2:es.all aT=true:=by rfl):XE X (.Call (.Name x p) (e::es) [] pos) (Qo sp t):=⟨Yk c hr hg ha.h hdb h1 h2⟩
theorem bm {T id:String} {name:Str} {r:V->List V->Hp->VK->Prop} (pa:PlainAttrs T) (slot:Slot T name id) (hty:typeOf (.builtin id)=pure (.type "method_descriptor")) (hm:XM X id r) (ho:XE X o to) (ha:XA X (e::es) t)
  (hbase:attributeBase o name X.env (eval o X.env)=eval o X.env:=by rfl) (hline:(apos.endLine == cpos.line)=true:=by rfl) (h1:aT e=true:=by rfl) (h2:es.all aT=true:=by rfl) (hn:es.length+1<30:=by decide) :
  XE X (.Call (.Attribute o name apos) (e::es) [] cpos) (Zv X.K T r to t):=⟨aAG pa slot hty hm.h ho.h ha.h hbase hline h1 h2 hn⟩
theorem eg:XM X "list.append" Cb:=⟨El⟩
theorem join:XM X "str.join" (Id X.K):=⟨Nt⟩
theorem ba {T:Str} (want:Kd) (he:XE X e te) (hg:Gl X "isinstance") (hm:X.mg "isinstance"=none) (hgT:Gl X T) (hmT:X.mg T=none) (hT:bootBuiltins T=some (.type (Ew want)))
  (hn:T≠"__name__":=by decide) (hd:(T == ("__debug__":Str))=false:=by decide) (h1:aT e=true:=by rfl):XE X (.Call (.Name "isinstance" p) [e,.Name T p2] [] pos) (Ub want te):=⟨Uc want he.h hg hm hgT hmT hT hn hd h1⟩
theorem ij:XE X (.Dict [] [] pos) (Hs):=⟨Ht⟩
variable {tg:Expr}
theorem wL (hl:XE X e te):XI X tg e (Bu X.K te):=⟨Ms hl.h⟩
theorem wT (hl:XE X e te):XI X tg e (Sf X.K te):=⟨Sg hl.h⟩
theorem wS (hl:XE X e te):XI X tg e (Xo te):=⟨Tl hl.h⟩
theorem cq (hg:Gl X "range") (hm:X.mg "range"=none) (ha:XA X [a] t) (h1:aT a=true:=by rfl):XI X tg (.Call (.Name "range" p) [a] [] pos) (Qd t):=⟨Dx hg hm ha.h (bG h1)⟩
theorem gn {i:Nat} (hN:X.N.Nodup) (hi:X.N[i]?=some x:=by rfl) (hx:Gq X.env.scope x:=by first | exact Or.inl rfl | exact Or.inr rfl) (hf:X.fn x=true∨X.env.scope.names.lookup x=some .local:=by first | exact .inl rfl | exact .inr rfl | assumption):XG X (.Name x pos) (aI i):=⟨Mp hN hi hx hf⟩
theorem cy:Yl X [] Rz:=⟨Mq⟩
theorem bv {tg1:TG} {tgs:Bt} (h1:XG X e tg1) (h2:Yl X es tgs) (hs:(assignEach (e::es) X.env).map (·.2)=assign e X.env::(assignEach es X.env).map (·.2):=by rfl):Yl X (e::es) (Hb tg1 tgs):=⟨Hc h1.h h2.h hs⟩
theorem gt' {k:Nat} {tgs:Bt} (hc:X.calm=true) (h:Yl X es tgs) (hn:(assignEach es X.env).length=n:=by rfl) (hst:(assignEach es X.env).findIdx? (·.1)=none:=by rfl):XG X (.Tuple es k pos) (Mr X.K n tgs):=⟨Sa hc h.h hn hst⟩
theorem dw:Ym X Qi:=⟨Hn⟩
theorem dv {ts:Gz} (ho:XE X o to) (hi:XE X i ti) (hs:Ym X ts) (ha:∀v,assign (.Subscript o i pos) X.env v=(do
   let ov ← holding [v] (eval o X.env)
   let iv ← holding [v,ov] (eval i X.env)
   standAt pos
   holding [v,ov,iv] (setItem ov iv v)
   release [v,ov,iv] []):=by intro _;rfl):XG X (.Subscript o i pos) (Wv to ti ts):=⟨Sb ho.h hi.h hs.h ha⟩
end
section
variable {X:Cx} {c e tg iter elt:Expr} {ifs:List Expr} {te:TE} {tc tt:TT} {g:TG} {wi:TI} {st:Stmt} {ss sa sb:List Stmt} {t u:TS} {pos pos' spos py:Pos} {x y:Str} {scope:Scope} {N:List Str} {js:List (Option Nat)}
theorem br:Zy X [] Hz:=⟨Nn⟩
theorem dj (h:XT X c tt) (hx:X.xe=fun _ _=>False:=by rfl):Zy X [c] tt:=⟨No h.h hx⟩
theorem bo (hc:X.calm=true) (S:CompScope X scope N js) (go:zZ js g) (hi:XI X tg iter wi)
  (hb:∀(C:Addr) (s₂:Shared) (H₂:Hp) (fp:List Addr),XG (oS X scope C N s₂ H₂ fp) tg g/\Zy (oS X scope C N s₂ H₂ fp) ifs tt/\XE (oS X scope C N s₂ H₂ fp) elt te)
  (hs:∀x,foldedSetIterable iter X.env x=pure x:=by intro _;rfl):XE X (.ListComp elt [⟨tg,iter,ifs,0⟩] scope pos) (Ia wi js g tt te):=
 ⟨Np hc S go hi.h (fun C s₂ H₂ fp=>let ⟨a,b,c⟩:=hb C s₂ H₂ fp;⟨a.h,b.h,c.h⟩) hs⟩
theorem en {i:Nat} (hN:X.N.Nodup) (hy:X.N[i]?=some y) (hx:Gq X.env.scope y) (hc:X.calm=true) (S:CompScope X scope N js) (go:zZ js g) (hi:XI X tg iter wi)
  (hb:∀(C:Addr) (s₂:Shared) (H₂:Hp) (fp:List Addr),XG (oS X scope C N s₂ H₂ fp) tg g/\Zy (oS X scope C N s₂ H₂ fp) ifs tt/\XE (oS X scope C N s₂ H₂ fp) elt te)
  (hsw:swapsWith (.ListComp elt [⟨tg,iter,ifs,0⟩] scope pos) (some (.Name y py)) spos.line X.env=pure true)
  (hs:∀x,foldedSetIterable iter X.env x=pure x:=by intro _;rfl) (hf:X.fn y=true∨X.env.scope.names.lookup y=some .local:=by first | exact .inl rfl | exact .inr rfl | assumption) :
  XS X (.Assign [.Name y py] (.ListComp elt [⟨tg,iter,ifs,0⟩] scope pos) spos) (Qm i wi js g tt te):=
 ⟨Nq hN hy hx hc S go hi.h (fun C s₂ H₂ fp=>let ⟨a,b,c⟩:=hb C s₂ H₂ fp;⟨a.h,b.h,c.h⟩) hsw hs hf⟩
theorem ak:XB X [] aR:=⟨Mm⟩
theorem af (h1:XS X st t):XB X [st] t:=⟨Mn h1.h⟩
theorem ae (h1:XS X st t) (h2:XB X ss u):XB X (st::ss) (nK t u):=⟨Gx h1.h h2.h⟩
theorem ag (he:XE X e te):XS X (.Return (some e) pos) (Dv te):=⟨Rx he.h⟩
theorem ee (he:XE X e te) (hs:swapsWith e none pos.line X.env=pure false:=by rfl):XS X (.Expr e pos) (Qc te):=⟨Mo he.h hs⟩
theorem aj (hc:XT X c tc) (ha:XB X sa t) (hb:XB X sb u):XS X (.If c sa sb pos) (Gy tc t u):=⟨Wt hc.h ha.h hb.h⟩
theorem ai {i:Nat} (hN:X.N.Nodup) (he:XE X e te) (hi:X.N[i]?=some x:=by rfl) (hx:Gq X.env.scope x:=by first | exact Or.inl rfl | exact Or.inr rfl) (hs:swapsWith e (some (.Name x pos')) pos.line X.env=pure false:=by rfl)
  (hf:X.fn x=true∨X.env.scope.names.lookup x=some .local:=by first | exact .inl rfl | exact .inr rfl | assumption):XS X (.Assign [.Name x pos'] e pos) (Hd te (aI i)):=⟨Sd hN hi hx he.h hs hf⟩
theorem du (he:XE X e te) (hg:XG X tg g) (hs:swapsWithSole [tg] e pos.line X.env=pure false:=by rfl) (hw:swappedStores [tg] e X.env=pure none:=by rfl) (h1:(assignEach [tg] X.env).map (·.2)=[assign tg X.env]:=by rfl) :
  XS X (.Assign [tg] e pos) (Hd te g):=⟨Sc he.h hg.h hs hw h1⟩
theorem cm (hp:PassesOwn (model X.prog X.w) X.A X.env X.xe) (hc:X.calm=true) (hi:XI X tg iter wi) (hg:XG X tg g) (hb:XB X ss t) (hs:∀x,foldedSetIterable iter X.env x=pure x:=by intro _;rfl):XS X (.For tg iter ss [] pos) (Ww wi g t):=⟨Sh hp hc hi.h hg.h hb.h hs⟩
end
end R
theorem DefAt.go {P:Program} {w:World} {K:W.Frag} {mg:Str->Option Value} {base:Heap} {x:Str} {st:Stmt} {N ps:List Str} {k:Nat} {sp:Sp} (D:DefAt K mg x st ps) (S:aL N ps (aE st)) (len:∀vs H Q E,sp vs H Q E->vs.length=ps.length)
  (hbody:∀(f:Addr) (cdv:Value) (A:Around) (outer:List Env) (s:Shared) (H:Hp) (vs:List V) (Q:VK) (E:XK),Room k (A.deeper (envOfC x (aE st) s.heap.objs.size f cdv))->sp vs H Q E →
   ∃t,XB (kJ xT P w K mg base N x (aE st) f cdv A outer s H E).nox (bZ st) t/\t {nx:=fun _ H'=>Q .non H',rt:=Q } (start N vs) H):Callee P w K mg base (k+1) x ps sp:=
 D.ok S len fun f cdv A outer s H vs Q E hr h=>let ⟨t,h1,h2⟩:=hbody f cdv A outer s H vs Q E hr h;⟨t,h1.h,h2⟩
theorem Fun.go {P:Program} {w:World} {K:W.Frag} {mg:Str->Option Value} {base:Heap} {x qual:Str} {st:Stmt} {f:Addr} {fd:FuncData} {N ps:List Str} {k:Nat} {sp:Sp} (F:Fun K x qual st f fd) (S:aL N ps (aE st)) (len:∀vs H Q E,sp vs H Q E->vs.length=ps.length)
  (hbody:∀(cdv:Value) (A:Around) (outer:List Env) (s:Shared) (H:Hp) (vs:List V) (Q:VK) (E:XK),Room k (A.deeper (envOfC qual (aE st) s.heap.objs.size f cdv))->sp vs H Q E →
   ∃t,XB (kJ xT P w K mg base N qual (aE st) f cdv A outer s H E).nox (bZ st) t/\t {nx:=fun _ H'=>Q .non H',rt:=Q } (start N vs) H):pV P w K mg base xT (k+1) f fd ps sp:=
 F.ok S len fun cdv A outer s H vs Q E hr h=>let ⟨t,h1,h2⟩:=hbody cdv A outer s H vs Q E hr h;⟨t,h1.h,h2⟩
theorem Ug {K:W.Frag} {h:Heap} {mg:Str->Option Value} {x:Str} {st:Stmt} {ps:List Str} {f:Addr} {od an:Option Addr} {sl:Array (Option Value)} {oc kV dc pm cd ct:Value} (X:K.In h) (G:h.Ns mainGlobals mg)
  (a:W.nsIn K mainGlobals x=some (some (.ref f))) (l:K.lookup f=some ⟨oc,od,.func (W.fnOf x x (eJ st) (bZ st) (aE st) .none kV dc pm an cd ct),sl⟩) (c:W.codeIn K cd x=true) (k:W.keepIn K (.ref f)=true)
  (hb:∀(kV doc pm:Value) (an:Option Addr) (cdv ct:Value) (us:List Value),us.length=ps.length->bindArgs (W.fnOf x x (eJ st) (bZ st) (aE st) .none kV doc pm an cdv ct) ⟨us,[]⟩=pure (ps.zip us)):DefAt K mg x st ps:=
 ⟨f,_,zY l c k,W.mg_of X G a,(zY (st:=st) l c k).binds hb⟩
namespace R
section
variable {X:Cx} {K:W.Frag} {a b c e o i tg:Expr} {es rest:List Expr} {te to:TE} {t:TA} {pos p p2 apos cpos:Pos} {x:Str} {n:Nat}
theorem aq (hK:X.K=K:=by rfl):Qp X (Et K):=hK ▸ iL
theorem al (hK:X.K=K:=by rfl):Qp X (Eu K):=hK ▸ iT
theorem ax (hK:X.K=K:=by rfl):Yn X (Ev K):=hK ▸ sL
theorem bz (hK:X.K=K:=by rfl):hZ X (compareOp .In) (Ta K false):=hK ▸ inQ
theorem gr (hK:X.K=K:=by rfl):hZ X (compareOp .NotIn) (Ta K true):=hK ▸ notInQ
theorem im (hu:X.A.units<cLine) (hK:X.K=K:=by rfl):hZ X (compareOp .Eq) (pB K false):=hK ▸ eqNil hu
theorem ib (hu:X.A.units<cLine) (hK:X.K=K:=by rfl):hZ X (compareOp .NotEq) (pB K true):=hK ▸ neNil hu
theorem au (hK:X.K=K:=by rfl):XC X (.builtin "len") (fun vs H Q=>match vs with | [.ref p]=>∃ys,(SqL K H p ys∨SqT K H p ys)/\Q (.int ys.length) H | _=>False):=hK ▸ lenL
theorem dg (hc:X.calm=true) (hK:X.K=K:=by rfl):XC X (.builtin "all") (Tn K):=hK ▸ all hc
theorem il (hc:X.calm=true) (hK:X.K=K:=by rfl):XC X (.builtin "any") (To K):=hK ▸ any hc
theorem cj (hK:X.K=K:=by rfl):XM X "str.join" (Id K):=hK ▸ join
theorem bb {T id:String} {name:Str} {r:V->List V->Hp->VK->Prop} (pa:PlainAttrs T) (slot:Slot T name id) (hty:typeOf (.builtin id)=pure (.type "method_descriptor")) (hm:XM X id r) (ho:XE X o to) (ha:XA X (e::es) t) (hK:X.K=K:=by rfl)
  (hbase:attributeBase o name X.env (eval o X.env)=eval o X.env:=by rfl) (hline:(apos.endLine == cpos.line)=true:=by rfl) (h1:aT e=true:=by rfl) (h2:es.all aT=true:=by rfl) (hn:es.length+1<30:=by decide) :
  XE X (.Call (.Attribute o name apos) (e::es) [] cpos) (Zv K T r to t):=hK ▸ bm pa slot hty hm ho ha hbase hline h1 h2 hn
theorem dm (hl:XE X e te) (hK:X.K=K:=by rfl):XI X tg e (Bu K te):=hK ▸ wL hl
theorem cu (hl:XE X e te) (hK:X.K=K:=by rfl):XI X tg e (Sf K te):=hK ▸ wT hl
theorem cv {k:Nat} {tgs:Bt} (hc:X.calm=true) (h:Yl X es tgs) (hK:X.K=K:=by rfl) (hn:(assignEach es X.env).length=n:=by rfl) (hst:(assignEach es X.env).findIdx? (·.1)=none:=by rfl):XG X (.Tuple es k pos) (Mr K n tgs):=hK ▸ gt' hc h hn hst
end
end R
end L2
namespace L2
open PySem PySem.Spec PyProof.Rows
section
variable {X:Cx}
def Af:List V->Hp->VK->Prop:=fun vs H Q=>match vs with
 | [.int i]=>(0<=i/\i<10 ^ 40)/\Q (.str (Str.ofString (toString i))) H
 | [.str z]=>Q (.str z) H
 | _=>False
theorem Yo:CallR X (.type "str") Af:=by
 intro pins s σ H xs us Q I r h;unfold Af at h;split at h
 ·rename_i i
  refine uL pins s σ H [.int i] us Q I r ⟨i,rfl,?_,h.2⟩
  have h1:i.natAbs<2 ^ 1920:=by
   have e:(10:Nat) ^ 40<=2 ^ 1920:=by decide +kernel
   have e2:i.natAbs<10 ^ 40:=by
    have:=h.1
    omega
   omega
  rcases Nat.eq_zero_or_pos i.natAbs with z | z
  ·rw[z];decide
  ·exact(Nat.log2_lt Zo).mpr h1
 ·rename_i z
  obtain⟨u,rfl,t,rfl⟩:=kN r
  exact PySem.P.str_of_str ⟨.str z,H,I,⟨t,rfl⟩,h⟩
 ·exact h.elim
def Ir:List V->Hp->VK->Prop:=fun vs H Q=>match vs with
 | [.str z]=>NumText.AllDigits z.cps.toList/\z.cps.toList≠[]/\z.length<=640/\Q (.int (NumText.digitsVal z.cps.toList:Nat)) H
 | _=>False
theorem Uh:CallR X (.type "int") Ir:=by
 intro pins s σ H xs us Q I r h;unfold Ir at h;split at h
 ·rename_i z
  obtain⟨h1,h2,h3,h⟩:=h
  obtain⟨u,rfl,t,rfl⟩:=kN r
  exact W.KIN.call_text (PySem.intText_digits h1 h2 (kB h3 Zd)) h3 ⟨.int _,H,I.tok _,⟨_,rfl⟩,h⟩
 ·exact h.elim
end
namespace R
variable {X:Cx}
theorem fi:XC X (.type "str") Af:=⟨Yo⟩
theorem gu:XC X (.type "int") Ir:=⟨Uh⟩
end R
def LET:List Nat:=[97,98,99,100,101,102,103,104,105,106,107,108,109,110,111,112,113,114,115,116,117,118,119,120,121,122]
def nH:List Nat:=[48,49,50,51,52,53,54,55,56,57]
theorem vF:(("abcdefghijklmnopqrstuvwxyz":Str)).cps.toList=LET:=by decide +kernel
theorem Ah:(("0123456789":Str)).cps.toList=nH:=by decide +kernel
def bI (x:V) (cs:List Nat) (n:Int):Bool:=match x with | .str z=>decide (1<=(z.length:Int))&&decide ((z.length:Int)<=n)&&z.cps.toList.all (fun c=>decide (c∈cs)) | _=>false
theorem bW (z:Str) (cs:List Nat) (n:Int):bI (.str z) cs n=(decide (1<=(z.length:Int))&&decide ((z.length:Int)<=n)&&z.cps.toList.all (fun c=>decide (c∈cs))):=rfl
def mQ:Sp:=fun vs H Q _=>∃x sg n k,vs=[x,.str sg,.int n]/\Kof H x k/\(∀z,x=.str z->z.length<=1000)/\∀H',Same H H'->Q (.bl (bI x sg.cps.toList n)) H'
def iM (cs:List Nat) (n:Int):Sp:=fun vs H Q _=>∃x k,vs=[x]/\Kof H x k/\(∀z,x=.str z->z.length<=1000)/\∀H',Same H H'->Q (.bl (bI x cs n)) H'
theorem Cn (c:Nat):c∈nH↔48<=c/\c<=57:=by
 unfold nH;simp only [List.mem_cons,List.not_mem_nil,or_false]
 omega
theorem rA {z:Str} (h:z.cps.toList.all (fun c=>decide (c∈nH))=true):NumText.AllDigits z.cps.toList:=fun c hc=>(Cn c).mp (of_decide_eq_true (List.all_eq_true.mp h c hc))
def aK (z:Str):Option Nat:=
 if bI (.str z) nH 13=true then (if z.cps.toList.head?=some 48/\z≠tx [48] then none else some (NumText.digitsVal z.cps.toList)) else none
def bA:Option Nat->V | none=>.non | some n=>.int (n:Int)
def pN:Sp:=fun vs H Q _=>∃z:Str,vs=[.str z]/\z.length<=1000/\∀H',Same H H'->Q (bA (aK z)) H'
theorem Ui:∀(cs:List Nat),NumText.AllDigits cs->NumText.digitsVal cs<10 ^ cs.length:=by
 intro cs;have key:∀(cs:List Nat) (a k:Nat),NumText.AllDigits cs->a<10 ^ k->cs.foldl (fun acc c=>acc*10+(c - 48)) a<10 ^ (k+cs.length):=by
  intro cs;induction cs with
  | nil=>intro a k _ h;simpa using h
  | cons c cs ih=>
   intro a k hd h;rw[List.foldl_cons];have:=ih (a*10+(c - 48)) (k+1) hd.tail (by have:=hd.head;rw[Nat.pow_succ];omega)
   rw[fI];have e:k+(cs.length+1)=k+1+cs.length:=by omega
   rw[e];exact this
 intro h;have:=key cs 0 0 h Zd
 simpa [NumText.digitsVal]using this
theorem Co:∀(k m:Nat),m<10 ^ (k+1)->(Nat.toDigits 10 m).length<=k+1
 | 0,m,h=>by rw[Nat.toDigits_of_lt_base (by simpa using h)];exact cL _
 | k+1,m,h=>by
  by_cases hm:m<10
  ·rw[Nat.toDigits_of_lt_base hm];simp
  ·have h10:m % 10<10:=Nat.mod_lt m Zd
   have t:Nat.toDigits 10 (m / 10)++Nat.toDigits 10 (m % 10)=Nat.toDigits 10 (10*(m / 10)+m % 10):=Nat.toDigits_append_toDigits Zd Zo h10
   rw[Nat.div_add_mod]at t;rw[<- t,eG,Nat.toDigits_of_lt_base h10];have:=Co k (m / 10) (by rw[Nat.pow_succ]at h;omega)
   simp
   omega
def pF (m:Nat):Str:=Str.ofString (toString ((m:Nat):Int))
theorem xX (m:Nat):(pF m).cps.toList=(Nat.toDigits 10 m).map Char.toNat:=W.KIN.signs_num m
theorem kU (m:Nat):NumText.AllDigits (pF m).cps.toList:=by
 intro c hc;rw[xX]at hc;obtain⟨ch,hch,e⟩:=Zmm.mp hc
 have r:=PyProof.Rows.digit_range (Nat.isDigit_of_mem_toDigits Zd Zd hch)
 rw[<- e];exact r
theorem Iu (m:Nat):(pF m).length=(Nat.toDigits 10 m).length:=by
 have:(pF m).cps.toList.length=(pF m).length:=by simp [Str.length]
 rw[<- this,xX,aZ]
theorem Cp {m k:Nat} (h:m<10 ^ (k+1)):(pF m).length<=k+1:=by rw[Iu];exact Co k m h
end L2
namespace L2
open PySem PySem.Spec PyProof.Rows
def isNm (z:Str):Prop:=1<=z.length/\z.length<=8/\∀c∈z.cps.toList,c∈LET
theorem Cq (z:Str) (ns:List Str):cQ (.str z) (ns.map V.str)=decide (z∈ns):=by
 unfold cQ;rw[List.any_map,Bool.eq_iff_iff,List.any_eq_true,decide_eq_true_iff];constructor
 ·rintro⟨y,hy,e⟩
  have:y=z:=by simpa [uR]using e
  rw[<- this];exact hy
 ·intro h;exact⟨z,h,by simp [uR]⟩
theorem Ey (ns:List Str):(ns.map V.str).all bS=true:=by
 rw[List.all_map];exact List.all_eq_true.mpr fun _ _=>rfl
theorem Zz {r:Int} (h0:0<=r) (h1:r<6):r=0∨r=1∨r=2∨r=3∨r=4∨r=5:=by omega
namespace R
variable {X:Cx}
theorem fe (hc:X.calm=true):XC X (.builtin "max") (fun vs H Q=>match vs with | [.int i,.int j]=>Q (.int (if j > i then j else i)) H | _=>False):=⟨(Eb hc).imp fun vs H Q h=>by
 split at h
 ·rename_i i j
  exact⟨i,j,rfl,h⟩
 ·exact h.elim⟩
end R
end L2
namespace L2
open PySem PySem.Spec PyProof.Rows
section
variable {prog:Program} {w:World} {A:Around} {E:Value->Shared->Prop} {s:Shared}
theorem Ez {t:Addr} {items:Array Value} {Q:Bool->Shared->Prop} (ht:IsTup s.heap t items) (h:Q true s):wpAny (model prog w) A (Builtin.Tuple.tupleIsExact (.ref t)) Q E s:=by
 unfold Builtin.Tuple.tupleIsExact;refine wpAny_bind (wpAny_typeOf ht.typeIs ?_)
 exact wpAny_pure h
theorem mE {t sl:Addr} {items:Array Value} {vl vu:Value} {lo hi:Option Int} {Q:Value->Shared->Prop} (ht:IsTup s.heap t items) (hs:s.heap.IsSliceOf sl vl vu .none) (pl:IsPart vl lo) (pu:IsPart vu hi)
  (hw:HT.sIx items.size 0 lo=0/\HT.sIx items.size items.size hi=items.size) (h:Q (.ref t) s):wpAny (model prog w) A (getItem (.ref t) (.ref sl)) Q E s:=by
 obtain⟨os,hos,hcs,hds⟩:=id hs
 have hTs:s.TypeIs (.ref sl) "slice":=⟨os,hos,hcs⟩
 unfold getItem;try with_reducible refine wpAny_holding ?_
 first | refine wpAny_bind (wpAny_pure ?_) | skip
 refine wpAny_bind (wpAny_sequenceKey ht.typeIs Zd ?_)
 refine wpAny_bind (wpAny_callSpecial?_slot (name:=Str.ofString "__getitem__") ht.typeIs PyProof.Rows.slot_tuple_getitem
  (wpAny_call_entry PyProof.Rows.slot_tuple_getitem ht.typeIs entry_tuple_getitem ?_ (args_tuple_getitem _ _)))
 show wpAny _ _ (Builtin.Tuple.tupleItemsOf (.ref t) >>= _) _ _ s
 refine wpAny_bind (tupleItemsOf_ ht ?_)
 refine wpAny_bind (wpAny_typeOf hTs ?_)
 rw[if_pos Zd]
 refine wpAny_bind (HT.sliceApplied_gen hs pl pu ?_)
 have hyes:(((HT.sIx items.size 0 lo:Nat):Int) == 0&&(1:Int) == 1&&(HT.sIx items.size items.size hi - HT.sIx items.size 0 lo) == items.size)=true:=by
  rw[hw.1,hw.2];simp
 show wpAny _ _ (if (((HT.sIx items.size 0 lo:Nat):Int) == 0&&(1:Int) == 1&&(HT.sIx items.size items.size hi - HT.sIx items.size 0 lo) == items.size)=true then _ else _) _ _ s
 rw[if_pos hyes];refine wpAny_bind (Ez ht ?_)
 rw[if_pos rfl];exact wpAny_bind (wpAny_rule (wpAny_pure ⟨_,rfl,wpAny_pure h⟩))
theorem Iv {t b:Addr} {ws:List Value} {Q:Value->Shared->Prop} (ht:IsTup s.heap t ([]:List Value).toArray) (hb:IsTup s.heap b ws.toArray) (h1:Q (.ref b) s):wpAny (model prog w) A (binaryOp .Add (.ref t) (.ref b)) Q E s:=by
 obtain⟨⟨cls,dd,data,sl⟩,ho,hc,n,hd⟩:=id ht
 obtain⟨⟨cls2,dd2,data2,sl2⟩,ho2,hc2,n2,hd2⟩:=id hb
 simp only at hc hd hc2 hd2
 subst hc hd hc2 hd2;exact concat_meets ⟨_,ho,rfl⟩ ⟨_,ho2,rfl⟩ noFill_tuple_add seq_tuple_add PySem.F.slot_tuple_add PySem.F.entry_tuple_add (PySem.F.args_tuple_add_2 _ _)
   (tuple_addW0 t b _ ws.toArray n n2 dd dd2 sl sl2 Zs) ⟨ho,ho2,h1⟩
end
section
variable {X:Cx} {e o e1 e2:Expr} {te:TE} {pos p2 p3:Pos}
def Uj:V->Option Int->Option Int->Hp->VK->Prop:=fun x lo hi H Q=>mR x fun a=>∃xs,H a=some (.tup xs)/\∀p H',Same H H'->H' p=some (.tup (dS xs lo hi))->Q (.ref p) H'
theorem Yp:SlR X Uj:=by
 intro pins s σ H x v vl vu lo hi sl Q I rx hs pl pu h;unfold Uj at h;rw[bY]at h;obtain⟨a,rfl,xs,hx,q⟩:=h
 by_cases hw:HT.sIx xs.length 0 lo=0/\HT.sIx xs.length xs.length hi=xs.length
 ·cases rx
  obtain⟨its,r,ht,hz⟩:=I.tuple (SqT.of hx)
  have hlen:its.toArray.size=xs.length:=by rw[fY];exact r.length.symm
  refine⟨"tuple",_,PyProof.Rows.slot_tuple_getitem.lookup,ht.typeIs,?_⟩
  refine mE ht hs pl pu (by rw[hlen];exact hw) ⟨.ref a,H,I,rfl,q a H (Same.refl H) ?_⟩
  rw[hx];unfold dS;rw[hw.1,hw.2,List.drop_zero,Nat.sub_zero,rV (cL _)]
 ·exact Sx pins s σ H (.ref a) v vl vu lo hi sl Q I rx hs pl pu ⟨a,xs,rfl,SqT.of hx,hw,fun p hp=>q p _ (aA hp) aD⟩
def Iw:R2:=fun x y H Q=>mR x fun a=>mR y fun b=>∃xs ys,H a=some (.tup xs)/\H b=some (.tup ys)/\xs.length+ys.length<=1000/\∀p H',Same H H'->H' p=some (.tup (xs++ys))->Q (.ref p) H'
theorem Uk:OpR X (binaryOp .Add) Iw:=by
 intro pins s σ H x y v u Q I rx ry h;unfold Iw at h;rw[bY]at h;obtain⟨a,rfl,h⟩:=h
 rw[bY]at h;obtain⟨b,rfl,xs,ys,ha,hb,hz,q⟩:=h
 by_cases h0:xs=[]
 ·subst h0;cases rx
  cases ry
  obtain⟨its,r1,p1,_⟩:=I.tuple (SqT.of ha)
  obtain⟨its2,r2,p2,_⟩:=I.tuple (SqT.of hb)
  cases r1
  exact Iv p1 p2 ⟨.ref b,H,I,rfl,q b H (Same.refl H) (by rw[hb];rfl)⟩
 ·exact Nc pins s σ H _ _ v u Q I rx ry ⟨a,b,xs,ys,rfl,rfl,SqT.of ha,SqT.of hb,h0,kB hz Zd,(fun h1=>q a H (Same.refl H) (by rw[ha,h1,List.append_nil])),fun _ p hp=>q p _ (aA hp) aD⟩
end
def Tab (P:Params):List DictEntry->List (Str × Int)->Prop
 | [],[]=>True
 | e::r,(x,i)::q=>(∃t,e.key=.str x t)/\e.hash=PyData.keyHash P x/\(∃t,e.val=.int i t)/\Tab P r q
 | _,_=>False
theorem Tab.keys {P:Params}:∀ {es:List DictEntry} {ws:List (Str × Int)},Tab P es ws->W.KeysLit P es
 | [],[],_=>trivial
 | e::r,(x,i)::q,h=>⟨let ⟨t,ht⟩:=h.1;⟨x,t,ht,h.2.1⟩,Tab.keys h.2.2.2⟩
 | [],_::_,h=>h.elim
 | _::_,[],h=>h.elim
theorem Tab.find {P:Params} (z:Str):∀ {es:List DictEntry} {ws:List (Str × Int)},Tab P es ws->(match ws.lookup z with | some i=>∃t,(es.find? fun e=>Value.isStrOf z e.key).map (·.val)=some (.int i t) | none=>(es.find? fun e=>Value.isStrOf z e.key).map (·.val)=none)
 | [],[],_=>rfl
 | [],_::_,h=>h.elim
 | _::_,[],h=>h.elim
 | e::r,(x,i)::q,h=>by
  obtain⟨⟨t,ht⟩,h2,⟨t',hv⟩,h4⟩:=h
  have ih:=Tab.find z h4
  rw[List.lookup_cons,List.find?_cons];have e1:Value.isStrOf z e.key=(z == x):=by
   rw[ht];show(x == z)=(z == x)
   exact Bool.beq_comm
  rw[e1];cases hz:z == x with
  | true=>exact⟨t',by rw[<- hv];rfl⟩
  | false=>exact ih
structure KTab (K:W.Frag) (P:Params) (a:Addr) (ws:List (Str × Int)):Prop where
 ex:∃es n,K.lookup a=some ⟨.type "dict",none,.dict (List.toArray es) n,#[]⟩/\Tab P es ws/\(a == sysModules)=false
theorem KTab.map {K:W.Frag} {prog:Program} {w:World} {a:Addr} {ws:List (Str × Int)} {h:Heap} (T:KTab K w.params a ws) (X:K.In h) :
  ∃f:Str->Option Value,h.MapOf (strKind prog w) a f/\(a == sysModules)=false/\∀z,(match ws.lookup z with | some i=>∃t,f z=some (.int i t) | none=>f z=none):=by
 obtain⟨es,n,hl,ht,lo⟩:=T.ex
 refine⟨_,W.mapOf_K (prog:=prog) X hl ht.keys,lo,fun z=>?_⟩
 have:=ht.find z
 unfold findBy;rw[List.find?_toArray];exact this
section
variable {X:Cx}
def Ul (K:W.Frag) (P:Params) (neg:Bool):R2:=fun x y H Q=>mS x fun z=>mR y fun a=>∃ws,KTab K P a ws/\Q (.bl (if neg then !(ws.lookup z).isSome else (ws.lookup z).isSome)) H
theorem Fa {f:Option Value} {o:Option Int} (h:match o with | some i=>∃t,f=some (.int i t) | none=>f=none):f.isSome=o.isSome:=by
 cases o with
 | none=>rw[h];rfl
 | some i=>obtain⟨t,h⟩:=h;rw[h];rfl
theorem Ix:OpR X (compareOp .NotIn) (Ul X.K X.w.params true):=by
 intro pins s σ H x y v u Q I rx ry h;unfold Ul at h;rw[fZ]at h;obtain⟨z,rfl,h⟩:=h
 rw[bY]at h;obtain⟨a,rfl,ws,T,h⟩:=h
 obtain⟨t,rfl⟩:=rx
 cases ry
 obtain⟨f,hm,lo,hf⟩:=T.map (prog:=X.prog) I.kIn
 exact wpAny_notIn_of (strKind_is X.prog X.w z t) lo hm ⟨.bl (!(ws.lookup z).isSome),H,I.tok _,by rw[Fa (hf z)];rfl,h⟩
def Um (K:W.Frag) (P:Params):R2:=fun x y H Q=>mR x fun a=>mS y fun z=>∃ws i,KTab K P a ws/\ws.lookup z=some i/\Q (.int i) H
theorem i_K:IxR X (Um X.K X.w.params):=by
 intro value slice pins s σ H x y v u Q I rx ry h hs;unfold Um at h;rw[bY]at h;obtain⟨a,rfl,h⟩:=h
 rw[fZ]at h;obtain⟨z,rfl,ws,i,T,hi,h⟩:=h
 obtain⟨t,rfl⟩:=ry
 cases rx
 obtain⟨f,hm,lo,hf⟩:=T.map (prog:=X.prog) I.kIn
 have hz:=hf z
 rw[hi]at hz;obtain⟨t',hz⟩:=hz
 exact tail_any hm.typeIs slot_dict_getitem.lookup (wpAny_getItem_of (strKind_is X.prog X.w z t) hm hz ⟨.int i,H,I.tok _,⟨t',rfl⟩,h⟩) hs
end
structure XPs (X:Cx) (pos:Pos) (keys:List (Option Expr)) (values:List Expr) (trs:List (TE × TE)):Prop where
 h:Xk X pos keys values trs
namespace R
section
variable {X:Cx} {K:W.Frag} {P:Params} {e e1 k v o f:Expr} {te t1 tk tv td ty tx':TE} {pos p2 apos cpos:Pos} {ks:List (Option Expr)} {vs:List Expr} {trs:List (TE × TE)}
theorem sT:Yn X Uj:=⟨Yp⟩
theorem eh:hZ X (binaryOp .Add) Iw:=⟨Uk⟩
theorem ig (hK:X.K=K:=by rfl) (hP:X.w.params=P:=by rfl):hZ X (compareOp .NotIn) (Ul K P true):=hK ▸ hP ▸ ⟨Ix⟩
theorem ii (hK:X.K=K:=by rfl) (hP:X.w.params=P:=by rfl):Qp X (Um K P):=hK ▸ hP ▸ ⟨i_K⟩
theorem ktoList (hK:X.K=K:=by rfl):XC X (.type "list") (fun vs H Q=>match vs with | [.ref p]=>∃ys,(SqL K H p ys∨SqT K H p ys)/\∀l,H l=none->Q (.ref l) (aJ H l (.lst ys)) | _=>False):=hK ▸ ⟨uX.imp fun vs H Q h=>by
 split at h
 ·rename_i p
  obtain⟨ys,hq,h⟩:=h
  exact⟨p,ys,rfl,hq,h⟩
 ·exact h.elim⟩
theorem dk (hK:X.K=K:=by rfl):XC X (.type "tuple") (fun vs H Q=>match vs with | [.ref p]=>∃ys,SqL K H p ys/\∀l,H l=none->Q (.ref l) (aJ H l (.tup ys)) | _=>False):=hK ▸ ⟨rX.imp fun vs H Q h=>by
 split at h
 ·rename_i p
  obtain⟨ys,hq,h⟩:=h
  exact⟨p,ys,rfl,.inl ⟨hq,h⟩⟩
 ·exact h.elim⟩
theorem di:XPs X pos [] [] []:=⟨Nl⟩
theorem be (hk:XE X k tk) (hv:XE X v tv) (hr:XPs X pos ks vs trs):XPs X pos (some k::ks) (v::vs) ((tk,tv)::trs):=⟨Hu hk.h hv.h hr.h⟩
theorem dh (h:XPs X pos ks vs trs) (hall:ks.all (·.isSome)=true:=by rfl) (hl:ks.length=vs.length:=by rfl) (h0:ks≠[]:=by simp) (h15:ks.length<=15:=by decide):XE X (.Dict ks vs pos) (Ql trs):=⟨Nm h.h hall hl h0 h15⟩
theorem ia (hu:X.A.units+1<cLine) (ho:XE X o td) (he:XE X e ty) (hf:XE X f tx') (h1:attributeBase o "get" X.env (eval o X.env)=eval o X.env:=by rfl) (h3:(apos.endLine == cpos.line)=true:=by rfl)
  (h2:((backTo cpos (starEach [e,f] X.env)).all (fun x=>!x.1)&&(backToKw cpos (keywordEach [] X.env)).all (fun x=>x.1.isSome)
  && decide (([e,f]:List Expr).length+([]:List Keyword).length+(if ([]:List Keyword).isEmpty then 0 else 1)<30))=true:=by rfl)
  (h4:backTo cpos (starEach [e,f] X.env)=[(false,eval e X.env),(false,eval f X.env)]:=by rfl):XE X (.Call (.Attribute o "get" apos) [e,f] [] cpos) (Hv td ty tx'):=⟨Hw hu ho.h he.h hf.h ⟨h1,h2,h3,h4⟩⟩
end
end R
end L2
namespace L2
open PySem PySem.Spec PyProof.Rows
def WS:List (Str × Int):=[("add",1),("take",1),("move",2),("send",2),("fetch",2),("pass",3)]
def UW:List V:=[.str "move",.str "pass"]
def dF (x:V):Bool:=bI x LET 8
def aO (lo hi:Int) (x:V):Bool:=match x with | .int n=>decide (lo<=n)&&decide (n<=hi) | _=>false
def bJ (x:V) (ns:List V):Bool:=match x with
 | .str z=>(match WS.lookup z with
  | some i=>decide ((ns.length:Int)=i)&&ns.all dF&&(!cQ (.str z) UW||!decide (eF ns 0=eF ns 1))
  | none=>false)
 | _=>false
def fV (xs:List V):List V:=dS xs (some 1) (some (-1))
def bE (xs:List V):Bool:=decide (3<=xs.length)&&bJ ((eF xs 0).getD .non) (fV xs)&&aO 1 1000000000000 ((eF xs (-1)).getD .non)
def Pt (H:Hp) (x:V):Prop:=∃k,Kof H x k/\∀z,x=.str z->z.length<=1000
theorem Pt.same {H H':Hp} {x:V} (s:Same H H') (h:Pt H x):Pt H' x:=let ⟨k,h1,h2⟩:=h;⟨k,h1.same s,h2⟩
def cC (H:Hp) (x:V):Bool:=match x with | .ref a=>(match H a with | some (.tup xs)=>bE xs | _=>false) | _=>false
def Th (H:Hp) (x:V):Prop:=Pt H x/\∀a xs,x=.ref a->H a=some (.tup xs)->∀y∈xs,Pt H y
def eZ:Sp:=fun vs H Q _=>∃x lo hi,vs=[x,.int lo,.int hi]/\Pt H x/\∀H',Same H H'->Q (.bl (aO lo hi x)) H'
def Iy:Sp:=fun vs H Q _=>∃x a ns,vs=[x,.ref a]/\Pt H x/\H a=some (.tup ns)/\ns.length<=1000/\(∀y∈ns,Pt H y)/\∀H',Same H H'->Q (.bl (bJ x ns)) H'
def kW:Sp:=fun vs H Q _=>∃x,vs=[x]/\Th H x/\(∀a xs,x=.ref a->H a=some (.tup xs)->xs.length<=1000)/\∀H',Same H H'->Q (.bl (cC H x)) H'
theorem vG {z:Str} {i:Int} (h:WS.lookup z=some i):1<=i/\i<=3:=by
 have key:∀(l:List (Str × Int)),l.lookup z=some i->(z,i)∈l:=by
  intro l;induction l with
  | nil=>intro h;cases h
  | cons p l ih=>
   obtain⟨x,j⟩:=p
   intro h;rw[List.lookup_cons]at h;cases e:z == x with
   | true=>rw[e]at h;injection h with h;rw[<- h,eq_of_beq e];exact iW
   | false=>rw[e]at h;exact gT _ (ih h)
 have m:=key _ h
 have all:∀p∈WS,1<=p.2/\p.2<=3:=by decide +kernel
 exact all _ m
theorem Qq {z:Str} {i:Int} (h:WS.lookup z=some i) (u:cQ (.str z) UW=true):2<=i:=by
 have e:z="move"∨z="pass":=by
  unfold cQ UW at u;simp only [List.any_cons,List.any_nil,Bool.or_false,Bool.or_eq_true,uR,beq_iff_eq,decide_eq_true_iff]at u
  rcases u with u | u
  ·exact .inl u.symm
  ·exact .inr u.symm
 rcases e with rfl | rfl
 ·have:WS.lookup ("move":Str)=some 2:=by decide +kernel
  rw[this]at h;injection h with h;omega
 ·have:WS.lookup ("pass":Str)=some 3:=by decide +kernel
  rw[this]at h;injection h with h;omega
theorem vH {xs:List V} (h:3<=xs.length):fV xs=(xs.drop 1).take (xs.length - 2):=by
 unfold fV dS HT.sIx;simp only [Int.reduceNeg,Int.reduceLT,if_true,if_false]
 have e1:min (Int.toNat 1) xs.length=1:=by
  show min 1 xs.length=1
  omega
 have e2:((-1:Int)+(xs.length:Int)).toNat=xs.length - 1:=by omega
 rw[e2];show((xs.drop (min (Int.toNat 1) xs.length)).take (xs.length - 1 - min (Int.toNat 1) xs.length))=_
 rw[e1];congr 1
theorem lK {xs:List V} (h:3<=xs.length):(fV xs).length=xs.length - 2:=by
 rw[vH h,fS,List.length_drop];omega
theorem Cr {xs:List V} {y:V} (h:3<=xs.length) (m:y∈fV xs):y∈xs:=by
 rw[vH h]at m;exact List.mem_of_mem_drop (List.mem_of_mem_take m)
end L2
namespace L2
open PySem PySem.Spec PyProof.Rows
def Uo:R2:=fun x y H Q=>mR x fun l=>mR y fun b=>∃xs zs,H l=some (.lst xs)/\H b=some (.lst zs)/\xs.length+zs.length<=sizeLine/\∀p,H p=none->Q (.ref p) (aJ H p (.lst (xs++zs)))
theorem R.ay {X:Cx}:hZ X (binaryOp .Add) Uo:=⟨Tc.imp fun x y H Q h=>by
 unfold Uo at h;rw[bY]at h;obtain⟨a,rfl,h⟩:=h
 rw[bY]at h;obtain⟨b,rfl,xs,zs,h⟩:=h
 exact⟨a,b,xs,zs,rfl,rfl,h⟩⟩
end L2
namespace L2
open PySem PySem.Spec PyProof.Rows
inductive DeedIs:List V->Prop
 | one (z a:Str) (n:Int):(z="add"∨z="take")->isNm a->1<=n->n<=1000000000000->DeedIs [.str z,.str a,.int n]
 | two (z a b:Str) (n:Int):(z="move"∨z="send"∨z="fetch")->isNm a->isNm b->a≠b->1<=n->n<=1000000000000->DeedIs [.str z,.str a,.str b,.int n]
 | three (a b c:Str) (n:Int):isNm a->isNm b->isNm c->a≠b->1<=n->n<=1000000000000->DeedIs [.str "pass",.str a,.str b,.str c,.int n]
theorem fW {z:Str} (h:isNm z):dF (.str z)=true:=by
 unfold dF;rw[bW,decide_eq_true (by have:=h.1;omega),decide_eq_true (by have:=h.2.1;omega),List.all_eq_true.mpr fun c hc=>decide_eq_true (h.2.2 c hc)]
 rfl
theorem DeedIs.ok {xs:List V} (h:DeedIs xs):bE xs=true:=by
 cases h with
 | one z a n hz ha h1 h2=>
  show(bJ (.str z) [.str a]&&aO 1 1000000000000 (.int n))=true
  have e:bJ (.str z) [.str a]=true:=by
   rcases hz with rfl | rfl
   ·show(true&&(dF (.str a)&&true)&&_)=true
    rw[fW ha];rfl
   ·show(true&&(dF (.str a)&&true)&&_)=true
    rw[fW ha];rfl
  rw[e];show(decide (1<=n)&&decide (n<=1000000000000))=true
  rw[decide_eq_true h1,decide_eq_true h2];rfl
 | two z a b n hz ha hb hn h1 h2=>
  show(bJ (.str z) [.str a,.str b]&&aO 1 1000000000000 (.int n))=true
  have ne:decide (some (V.str a)=some (V.str b))=false:=decide_eq_false fun e=>hn (by injection e with e;injection e)
  have e:bJ (.str z) [.str a,.str b]=true:=by
   rcases hz with rfl | rfl | rfl
   all_goals
    show(true&&(dF (.str a)&&(dF (.str b)&&true))&&(_||!decide (some (V.str a)=some (V.str b))))=true
    rw[fW ha,fW hb,ne,Bool.not_false,Bool.or_true];rfl
  rw[e];show(decide (1<=n)&&decide (n<=1000000000000))=true
  rw[decide_eq_true h1,decide_eq_true h2];rfl
 | three a b c n ha hb hc hn h1 h2=>
  show(bJ (.str "pass") [.str a,.str b,.str c]&&aO 1 1000000000000 (.int n))=true
  have ne:decide (some (V.str a)=some (V.str b))=false:=decide_eq_false fun e=>hn (by injection e with e;injection e)
  have e:bJ (.str "pass") [.str a,.str b,.str c]=true:=by
   show(true&&(dF (.str a)&&(dF (.str b)&&(dF (.str c)&&true)))&&(_||!decide (some (V.str a)=some (V.str b))))=true
   rw[fW ha,fW hb,fW hc,ne,Bool.not_false,Bool.or_true];rfl
  rw[e];show(decide (1<=n)&&decide (n<=1000000000000))=true
  rw[decide_eq_true h1,decide_eq_true h2];rfl
def nU:List (dQ × V):=gU [] [(.inr "add",.int 3),(.inr "take",.int 3),(.inr "move",.int 4),(.inr "send",.int 4),(.inr "fetch",.int 4),(.inr "pass",.int 5)]
theorem Iz:nU=[(.inr "add",.int 3),(.inr "take",.int 3),(.inr "move",.int 4),(.inr "send",.int 4),(.inr "fetch",.int 4),(.inr "pass",.int 5)]:=by decide +kernel
theorem Fb (z:Str):dB nU (.inr z)=(WS.lookup z).map fun i=>V.int (i+2):=by
 rw[Iz];unfold dB WS;have e:∀x:Str,(decide ((Sum.inr x:dQ)=.inr z))=(z == x):=fun x=>by
  rw[Bool.eq_iff_iff,decide_eq_true_iff,beq_iff_eq];constructor
  ·intro h;injection h with h;exact h.symm
  ·intro h;rw[h]
 simp only [List.find?_cons,List.lookup_cons,List.find?_nil,List.lookup_nil,e]
 repeat' split
 all_goals first | rfl | simp_all
end L2
namespace L2
open PySem PySem.Spec PyProof.Rows
inductive TV where
 | sc (v:V)
 | tp (xs:List TV)
 | ls (xs:List TV)
def Fc:V->Bool | .non=>true | .bl _=>true | .int _=>true | .str _=>true | _=>false
def Rep (H:Hp):Nat->TV->V->Prop
 | 0,.sc v,x=>x=v/\Fc v=true
 | _+1,.sc v,x=>x=v/\Fc v=true
 | n+1,.tp ts,x=>∃a xs,x=.ref a/\H a=some (.tup xs)/\Paired (Rep H n) ts xs
 | n+1,.ls ts,x=>∃a xs,x=.ref a/\H a=some (.lst xs)/\Paired (Rep H n) ts xs
 | 0,_,_=>False
theorem Paired.map' {α β:Type} {R S:α->β->Prop} (f:∀a b,R a b->S a b) {xs:List α} {ys:List β} (h:Paired R xs ys):Paired S xs ys:=by
 induction h with
 | nil=>exact .nil
 | cons h t ih=>exact .cons (f _ _ h) ih
theorem Rep.same {H H':Hp} (s:Same H H'):∀ {n:Nat} {t:TV} {x:V},Rep H n t x->Rep H' n t x
 | 0,.sc v,x,h=>h
 | n+1,.sc v,x,h=>h
 | n+1,.tp ts,x,⟨a,xs,e,g,p⟩=>⟨a,xs,e,s _ _ g,Paired.map' (fun _ _=>Rep.same s) p⟩
 | n+1,.ls ts,x,⟨a,xs,e,g,p⟩=>⟨a,xs,e,s _ _ g,Paired.map' (fun _ _=>Rep.same s) p⟩
theorem Rep.scal {H:Hp} {n:Nat} {v:V} (h:Fc v=true):Rep H n (.sc v) v:=by
 cases n <;> exact⟨rfl,h⟩
theorem Paired.get' {α β:Type} {R:α->β->Prop}:∀ {xs:List α} {ys:List β} {j:Nat},Paired R xs ys->∀(h:j<ys.length),∃h':j<xs.length,R xs[j] ys[j]
 | _,_,0,.cons h t,_=>⟨Nat.succ_pos _,h⟩
 | _,_,j+1,.cons h t,hj=>let ⟨h',r⟩:=Paired.get' (j:=j) t (by simpa using hj);⟨by simpa using h',by simpa using r⟩
end L2
namespace L2
open PySem PySem.Spec PyProof.Rows PySem.Builtin PySem.Builtin.Str
theorem Cs:∀l:List (Str × Tok),Vals ((l.map (·.1)).map V.str) (strValues l)
 | []=>.nil
 | p::l=>.cons ⟨p.2,rfl⟩ (Cs l)
def jn (c:Nat):List (List Nat)->List Nat
 | []=>[]
 | [p]=>p
 | p::q::r=>p++c::jn c (q::r)
theorem Ct {c:Nat}:∀(p q A B:List Nat),c∉p->c∉q->p++c::A=q++c::B->p=q/\A=B
 | [],[],A,B,_,_,h=>⟨rfl,by simpa using h⟩
 | [],b::q,A,B,_,hq,h=>by
  simp at h
  exact absurd (List.mem_cons.mpr (.inl h.1)) hq
 | a::p,[],A,B,hp,_,h=>by
  simp at h
  exact absurd (List.mem_cons.mpr (.inl h.1.symm)) hp
 | a::p,b::q,A,B,hp,hq,h=>by
  simp at h
  obtain⟨e1,e2⟩:=h
  obtain⟨e3,e4⟩:=Ct p q A B (fun m=>hp (gT _ m)) (fun m=>hq (gT _ m)) e2
  exact⟨by rw[e1,e3],e4⟩
theorem Ja {c:Nat}:∀(ps qs:List (List Nat)),ps≠[]->qs≠[]->(∀p∈ps,c∉p)->(∀q∈qs,c∉q)->jn c ps=jn c qs->ps=qs
 | [],_,h,_,_,_,_=>absurd rfl h
 | _,[],_,h,_,_,_=>absurd rfl h
 | [p],[q],_,_,_,_,h=>by simp [jn]at h;rw[h]
 | [p],q::q2::r,_,_,hp,_,h=>by
  have:c∈p:=by
   have e:p=q++c::jn c (q2::r):=h
   rw[e];simp
  exact absurd this (hp p iW)
 | p::p2::r,[q],_,_,_,hq,h=>by
  have:c∈q:=by
   have e:p++c::jn c (p2::r)=q:=h
   rw[<- e];simp
  exact absurd this (hq q iW)
 | p::p2::r,q::q2::r',_,_,hp,hq,h=>by
  obtain⟨e1,e2⟩:=Ct p q _ _ (hp p iW) (hq q iW) h
  have:=Ja (p2::r) (q2::r') Zs Zs (fun x m=>hp x (gT _ m)) (fun x m=>hq x (gT _ m)) e2
  rw[e1,this]
theorem qC (c:Nat):∀ps:List Str,(Txt.join (tx [c]) ps).cps.toList=jn c (ps.map fun p=>p.cps.toList):=by
 intro ps;have e:Txt.join (tx [c]) ps=PySem.Str.join (tx [c]) ps:=StrLaws.glued_eq_join _ ps
 rw[e];induction ps with
 | nil=>rfl
 | cons p r ih=>
  cases r with
  | nil=>rfl
  | cons q r=>
   show((p++tx [c])++PySem.Str.join (tx [c]) (q::r)).cps.toList=_
   rw[pZ,pZ,ih (by exact StrLaws.glued_eq_join _ _)]
   simp [jn]
theorem xY {c:Nat} {ps:List Str} (h0:ps≠[]) (hp:∀p∈ps,c∉p.cps.toList):Txt.split (Txt.join (tx [c]) ps) (tx [c])=ps:=by
 have h1:=StrLaws.join_split (Txt.join (tx [c]) ps) (tx [c])
 have h2:Txt.join (tx [c]) (Txt.split (Txt.join (tx [c]) ps) (tx [c]))=Txt.join (tx [c]) ps:=(StrLaws.glued_eq_join _ _).trans h1
 have h3:=StrLaws.split_free (Txt.join (tx [c]) ps) c
 have h4:=split_pos (Txt.join (tx [c]) ps) (tx [c])
 generalize Txt.split (Txt.join (tx [c]) ps) (tx [c])=qs at h2 h4 h3;have h5:jn c (qs.map fun p=>p.cps.toList)=jn c (ps.map fun p=>p.cps.toList):=by rw[<- qC,<- qC,h2]
 have h6:=Ja _ _ (by intro e;simp at e;rw[e]at h4;exact absurd h4 Zd) (by simpa using h0) (fun x m=>by
  obtain⟨p,mp,rfl⟩:=Zmm.mp m
  exact h3 p mp) (fun x m=>by
  obtain⟨p,mp,rfl⟩:=Zmm.mp m
  exact hp p mp) h5
 have key:∀l:List Str,(l.map fun p=>p.cps.toList).map tx=l:=fun l=>by
  rw[List.map_map];conv=>rhs;rw[<- List.map_id l]
  apply List.map_congr_left
  intro p _;exact pA p
 rw[<- key qs,h6,key]
theorem iZ:(" ":Str)=tx [32]:=by decide +kernel
end L2
namespace L2
open PySem PySem.Spec PyProof.Rows
def dH:V->Str | .str z=>z | .int n=>Str.ofString (toString n) | _=>tx []
structure Qr (xs:List V) (ns:List Str) (m:Nat):Prop where
 eq:xs=ns.map V.str++[.int (m:Int)]
 two:2<=ns.length
 four:ns.length<=4
 len:∀z∈ns,z.length<=8
 free:∀z∈ns,32∉z.cps.toList
 pos:1<=m
 most:m<=1000000000000
theorem xZ (m:Nat):dH (.int (m:Int))=pF m:=rfl
theorem Jb (m:Nat):32∉(pF m).cps.toList:=fun h=>absurd (kU m 32 h) Zo
def jA (z:Str):List V:=dS ((Txt.split z (tx [32])).map V.str) none (some (-1))++[bA (aK (dH ((eF ((Txt.split z (tx [32])).map V.str) (-1)).getD .non)))]
theorem yA {α:Type} (xs:List α) (y:α):dS (xs++[y]) none (some (-1))=xs:=by
 unfold dS HT.sIx;simp
 have:(-1+((xs.length:Int)+1)).toNat=xs.length:=by omega
 rw[this];simp
end L2
namespace L2
open PySem PySem.Spec PyProof.Rows
section
variable {X:Cx} {es:List Expr} {t:TA} {pos:Pos}
def Jc (t:TA):TE:=fun σ H Q=>t σ H fun xs H1=>xs.length<=1000/\∀p H',Same H1 H'->H' p=some (.tup xs)->Q (.ref p) H'
theorem Oa {x1} (h:PA X es t):PE X (.Tuple es x1 pos) (Jc t):=by
 intro pins s σ H Q I hq;refine wpAny_Tuple_spliced (bX (h pos pins s σ H _ I hq) fun us s1 ⟨xs,H1,I1,r,z,q⟩=>⟨by rw[<- r.length];exact cH z,?_⟩)
 have hf:H1 s1.heap.objs.size=none:=I1.hok.fresh (cL _)
 refine⟨.ref s1.heap.objs.size,aJ H1 s1.heap.objs.size (.tup xs),I1.laid (t':=s1.toks) (fun b u e=>iV _ e) (cL _) ?_,rfl,q _ _ (aA hf) aD⟩
 exact⟨cH z,us,r,⟨_,Heap.get?_push_size _ rfl,rfl,_,rfl⟩⟩
theorem R.am {x1} (h:XA X es t):XE X (.Tuple es x1 pos) (Jc t):=⟨Oa h.h⟩
end
end L2
namespace L2
open PySem PySem.Spec PyProof.Rows
section
variable {X:Cx} {pins:List (Addr × Obj)} {σ:St} {H:Hp} {s:Shared}
theorem tJ:∀ {xs:List V} {vs:List Value} (i:Nat),Vals xs vs->i<xs.length->∀x,xs[i]?=some x->RelV x (vs.getD i Value.none)
 | x::xs,v::vs,0,.cons r rs,_,y,hy=>by
  cases hy
  exact r
 | x::xs,v::vs,i+1,.cons r rs,hi,y,hy=>by
  have:=tJ i rs (by simpa using hi) y (by simpa using hy)
  simpa using this
end
end L2
namespace L2
open PySem PySem.Spec PyProof.Rows
namespace R
section
variable {X:Cx} {e o i value:Expr} {es:List Expr} {m x f:Str} {p pos pos' apos:Pos} {te ta tv td ty:TE} {t:TA} {C:Addr} {n:Nat} {ps:List Str} {sp:Sp} {dvs:List V} {K:W.Frag} {tg:Expr}
theorem ik (hu:X.A.units+1<cLine) (ho:XE X o td) (hi:XE X i ty) (hs:Tf i:=by exact fun _ _=>rfl):XE X (.Subscript o i pos) (Qk td ty):=⟨Nk hu ho.h hi.h hs⟩
end
end R
end L2
namespace L2
open PySem PySem.Spec PyProof.Rows
theorem pG:∀(more kvs:List (dQ × V)),(more.map (·.1)).Nodup->(∀k∈more.map (·.1),dB kvs k=none)->gU kvs more=kvs++more
 | [],kvs,_,_=>(List.append_nil _).symm
 | p::r,kvs,hn,h=>by
  obtain⟨h1,h2⟩:=List.nodup_cons.mp hn
  show gU (oZ kvs p.1 p.2) r=_
  have e0:dB kvs p.1=none:=h p.1 Zs
  rw[pG r _ h2 fun k hk=>?_,Hq _ e0]
  ·simp
  ·rw[Ho,if_neg (fun(z:k=p.1)=>h1 (by dsimp only;rw[<- z];exact hk))]
   exact h k (gT _ hk)
end L2
namespace L2
open PySem PySem.Spec PyProof.Rows
section
variable {M:Model} {A:Around} {E:Value->Shared->Prop} {s:Shared}
def Qs (e:Addr) (oe:Obj) (h':Heap):Prop:=∃oe',h'.get? e=some oe'/\oe'.dict=oe.dict
theorem Up {base:Heap} {env:Env} {outer:List Env} {L e:Addr} {oe:Obj} {vs:Array Value} {head a0:Value} {hadNext:Bool} {Q:Unit->Shared->Prop}
  (hfr:A.frames=some (env::outer)) (hl:s.heap.FunFrames base (env::outer)) (hf:env.frame=some L) (he:s.heap.get? e=some oe) (hkb:base.StaysIn s.heap) (hen:base.get? e=none) (hd:oe.data=.fields vs) (hsz:1<vs.size) (h0:vs[0]?=some a0)
  (h:∀h',Heap.NotedW base (env::outer) e oe.cls a0 (rawInt L) s.heap h'->Qs e oe h'->Q () {s with heap:=h' }) :
  wpAny M A (do let a ← frameOf env;let pl ← entryPlaceOf L hadNext;let b ← EntryCells.newEntry head a .none (rawInt L) .none pl;setField (.ref e) 1 b) Q E s:=by
 have hene:e∉(env::outer).filterMap (·.frame):=fun hm=>by
  obtain⟨_,o,ho,hnf⟩:=hl.mem hm
  rw[he]at ho;cases ho;exact hnf vs hd
 refine wpAny_bind (wpAny_frameOf_fun hfr hl hf fun k1 s1=>wpAny_bind (wpAny_entryPlaceOf fun pl hpl=>?_))
 unfold EntryCells.newEntry newFields;refine wpAny_bind (wpAny_newObj_type ?_ (hpl.sizeOk5 _ _ _ _ _))
 have e1:k1.get? e=some oe:=(s1.2.1 e hene).trans he
 have b1:base.StaysIn k1:=fun b o hbo=>(s1.2.1 b fun hm=>by rw[(hl.mem hm).1]at hbo;cases hbo).trans (hkb b o hbo)
 have e2:=iV (h:=k1) {cls:=.type "traceback",dict:=none,data:=.fields ([head,.ref L,.none,rawInt L,.none]++(if pl.isEmpty then List.replicate 6 Value.none else pl)).toArray } e1
 have nTe:k1.objs.size≠e:=Nat.ne_of_gt (Heap.lt_size e1);have d3:=Obj.data_mapFields hd (·.setIfInBounds 1 (Value.ref k1.objs.size))
 have e3:=Heap.get?_update_self (Obj.mapFields (·.setIfInBounds 1 (Value.ref k1.objs.size))) e2 (Obj.isFreed_of_fields d3)
 have t3:=(Heap.get?_update_other (k1.push {cls:=.type "traceback",dict:=none,data:=.fields ([head,.ref L,.none,rawInt L,.none]++(if pl.isEmpty then List.replicate 6 Value.none else pl)).toArray }) (Obj.mapFields (·.setIfInBounds 1 (Value.ref k1.objs.size))) (Ne.symm nTe)).trans (Heap.get?_push_size k1 rfl)
 have kp:∀b o,b≠e->k1.get? b=some o->((k1.push {cls:=.type "traceback",dict:=none,data:=.fields ([head,.ref L,.none,rawInt L,.none]++(if pl.isEmpty then List.replicate 6 Value.none else pl)).toArray }).update e (Obj.mapFields (·.setIfInBounds 1 (Value.ref k1.objs.size)))).get? b=some o:=fun b o hbe hb=>by rw[Heap.get?_update_other _ _ (Ne.symm hbe)];exact iV _ hb
 have nr:∀b o,s.heap.get? b=some o->(∀vs,o.data≠.fields vs)->b≠e:=fun b o hb hnf q=>by rw[q,he]at hb;cases hb;exact hnf vs hd
 refine wpAny_setField e2 hd hsz (h _ ⟨fun b o hbo=>kp b o (fun q=>by rw[q,hen]at hbo;cases hbo) (b1 b o hbo),hl.of_keeps fun b o hb hnf=>?_,?_,fun b o hb hnf=>?_⟩ ⟨_,e3,?_⟩)
 ·obtain⟨sl,hs⟩:=s1.2.2 b o hb;exact⟨_,kp b _ (nr b o hb hnf) hs,rfl⟩
 ·exact⟨_,_,k1.objs.size,_,_,e3,⟨Obj.cls_mapFields _ _,by rw[Array.getElem?_setIfInBounds_ne Zd];exact h0⟩,d3,by simp [hsz],b1.fresh,nTe,t3,rfl,by first | (simp;done) | (rcases hpl with rfl | ⟨_,_,_,_,_,_,_,rfl⟩ <;> simp)⟩
 ·obtain⟨sl,hs⟩:=s1.2.2 b o hb;exact⟨sl,kp b _ (nr b o hb hnf) hs⟩
 ·obtain⟨oc,od,odt,osl⟩:=oe;cases hd;rfl
theorem Yq {base:Heap} {env:Env} {outer:List Env} {L e:Addr} {oe:Obj} {cls a0:Value} {Q:Unit->Shared->Prop} (hfr:A.frames=some (env::outer)) (hl:s.heap.FunFrames base (env::outer)) (hf:env.frame=some L) (he:s.heap.get? e=some oe) (ht:s.heap.TracedW base e cls a0) (hkb:base.StaysIn s.heap) (hen:base.get? e=none)
  (h:∀h',Heap.NotedW base (env::outer) e cls a0 (rawInt L) s.heap h'->Qs e oe h'->Q () {s with heap:=h' }):wpAny M A (noteFrame (.ref e) env) Q E s:=by
 obtain⟨oe',vs,T,oT,ts,he',⟨hcls,h0⟩,hd,h1,hnT,hTe,hT,hdT,h3⟩:=ht
 rw[he]at he';cases he';subst hcls
 unfold noteFrame;simp only [hf];refine wpAny_bind (wpAny_field he hd h1 ?_);rw[if_pos (show(Value.ref T != Value.none)=true from by simp)]
 refine wpAny_bind (wpAny_field hT hdT h3 ?_);rw[if_neg (show ¬ ((Value.none == rawInt L)=true) from by simp [rawInt])];refine wpAny_bind (wpAny_setField hT hdT (Array.getElem?_eq_some_iff.mp h3).1 ?_)
 have ot:∀b,b≠T->(s.heap.update T (Obj.mapFields (·.setIfInBounds 3 Value.none))).get? b=s.heap.get? b:=fun b hb=>Heap.get?_update_other _ _ (Ne.symm hb)
 have nr:∀b o,s.heap.get? b=some o->(∀vs,o.data≠.fields vs)->b≠T:=fun b o hb hnf q=>by rw[q,hT]at hb;cases hb;exact hnf ts hdT
 refine Up hfr (hl.of_keeps fun b o hb hnf=>⟨o,(ot b (nr b o hb hnf)).trans hb,rfl⟩) hf ((ot e (Ne.symm hTe)).trans he) (fun b o hbo=>(ot b fun q=>by rw[q,hnT]at hbo;cases hbo).trans (hkb b o hbo)) hen hd (Array.getElem?_eq_some_iff.mp h1).1 h0
  fun h' ⟨x1,x2,x3,x4⟩ hD=>h h' ⟨x1,x2,x3,fun b o hb hnf=>x4 b o ((ot b (nr b o hb hnf)).trans hb) hnf⟩ hD
theorem Yr {base:Heap} {l:List Env} {e:Addr} {oe:Obj} {cls a0 fl:Value} {Q:Unit->Shared->Prop} (hkb:base.StaysIn s.heap) (hl:s.heap.FunFrames base l) (he:s.heap.get? e=some oe) (ht:s.heap.TracedAtW base e cls a0 fl)
  (h:∀h',base.StaysIn h'->h'.FunFrames base l->h'.TracedW base e cls a0->(∀b o,s.heap.get? b=some o->(∀vs,o.data≠.fields vs)->h'.get? b=some o)->h'.get? e=some oe->Q () {s with heap:=h' }):wpAny M A (setFlight (.ref e) none) Q E s:=by
 obtain⟨oe',vs,T,oT,ts,he',hcls,hd,h1,hnT,hTe,hT,hdT,h3⟩:=ht
 rw[he]at he';cases he'
 have z3:3<ts.size:=(Array.getElem?_eq_some_iff.mp h3).1
 have ot:∀b,b≠T->(s.heap.update T (Obj.mapFields (·.setIfInBounds 3 ((none:Option Addr).elim Value.none fun f=>rawInt f)))).get? b=s.heap.get? b:=fun b hb=>Heap.get?_update_other _ _ (Ne.symm hb)
 have nr:∀b o,s.heap.get? b=some o->(∀vs,o.data≠.fields vs)->b≠T:=fun b o hb hnf q=>by rw[q,hT]at hb;cases hb;exact hnf ts hdT
 unfold setFlight;refine wpAny_bind (wpAny_field he hd h1 ?_);rw[if_pos (show(Value.ref T != Value.none)=true from by simp)]
 refine wpAny_setField hT hdT z3 (h _ (fun b o hbo=>(ot b fun q=>by rw[q,hnT]at hbo;cases hbo).trans (hkb b o hbo)) (hl.of_keeps fun b o hb hnf=>⟨o,(ot b (nr b o hb hnf)).trans hb,rfl⟩) ?_ (fun b o hb hnf=>(ot b (nr b o hb hnf)).trans hb) ((ot e (Ne.symm hTe)).trans he))
 exact⟨oe,vs,T,_,_,(ot e (Ne.symm hTe)).trans he,hcls,hd,h1,hnT,hTe,Heap.get?_update_self _ hT (Obj.isFreed_of_fields (Obj.data_mapFields hdT _)),Obj.data_mapFields hdT _,by simp [z3]⟩
end
section
variable {P:Program} {w:World} {H H0:Hp} {h h1 h2:Heap} {a:Addr} {o:HO}
theorem ObjOk.has (x:ObjOk P w H h a o):∃ob,h.get? a=some ob:=by
 cases o with
 | lst xs=>obtain⟨_,_,_,_,e⟩:=x;exact⟨_,e⟩
 | tup xs=>obtain⟨_,_,_,ob,e,_⟩:=x;exact⟨_,e⟩
 | dK kvs=>obtain⟨_,_,_,_,ob,_,_,e,_⟩:=x;exact⟨_,e⟩
 | dT kvs=>obtain⟨_,_,_,_,ob,_,_,e,_⟩:=x;exact⟨_,e⟩
 | set S n=>obtain⟨ob,_,_,_,e,_⟩:=x;exact⟨_,e⟩
 | ins C dx fs=>obtain⟨_,_,_,e,_⟩:=x;exact⟨_,e⟩
 | own y=>exact x
 | xd fs=>obtain⟨_,⟨ob,_,_,e,_⟩,_⟩:=x;exact⟨_,e⟩
 | rng lo hi=>obtain⟨_,_,_,e⟩:=x;exact⟨_,e⟩
 | frz ob u=>exact⟨_,x.1⟩
 | tbl ps=>exact⟨_,x⟩
 | met f y=>exact⟨_,x⟩
 | ext φ=>exact x.2.1
theorem HOk.none_of (x:HOk P w H h) (e:h.get? a=none):H a=none:=by
 cases q:H a with
 | none=>rfl
 | some u=>
  obtain⟨ob,z⟩:=(x a u q).has
  rw[e]at z;cases z
theorem Ai {fs hid:List Addr} {s0:Heap} (un:Un fs [] H0 H s0 h1) (hok:HOk P w H h1) (hh:∀b∈hid,b∈fs∨(s0.get? b=none/\H b=none)) (hsub:∀b∈fs,b∈hid) (hfr:∀b∈fs,H0 b=none/\∃o,s0.get? b=some o/\∀vs,o.data≠.fields vs)
  (hB:(W.hideAll h1 hid).StaysIn h2) (hS:∀b o,h1.get? b=some o->(∀vs,o.data≠.fields vs)->∃sl,h2.get? b=some {o with slots:=sl }):Un fs [] H0 H s0 h2/\HOk P w H h2:=by
 have kp:∀b ob,h1.get? b=some ob->b∉hid->h2.get? b=some ob:=fun b ob q n=>hB b ob (W.hideAll_get _ q n)
 have nh:∀b ob,s0.get? b=some ob->b∉fs->b∉hid:=fun b ob q n z=>by
  rcases hh b z with y | y
  ·exact n y
  ·rw[y.1]at q;cases q
 have sl:∀b ob,s0.get? b=some ob->b∈fs->∃sl,h2.get? b=some {ob with slots:=sl }:=fun b ob q hb=>by
  obtain⟨h0,o',q',nf⟩:=hfr b hb
  rw[q]at q';cases q'
  obtain⟨sl,e⟩:=un.slot b ob q h0 hb Zs
  obtain⟨sl2,e2⟩:=hS b {ob with slots:=sl } e nf
  exact⟨sl2,e2⟩
 refine⟨⟨fun b ob q n hb hx=>kp b ob (un.keep b ob q n hb hx) (nh b ob q hb),fun b ob q n hb hx=>sl b ob q hb,un.free,fun b ob q hx=>?_,un.tups,un.frzs,un.tbls⟩,fun b u e=>?_⟩
 ·by_cases hb:b∈fs
  ·obtain⟨_,z⟩:=sl b ob q hb
   exact⟨_,z⟩
  ·obtain⟨o',z⟩:=un.there b ob q hx
   exact⟨o',kp b o' z (nh b ob q hb)⟩
 ·have nt:∀c v,H c=some v->c∉hid:=fun c v hc z=>by
   rcases hh c z with y | y
   ·obtain⟨h0,o',q',_⟩:=hfr c y
    rw[un.free c o' q' h0 Zs]at hc
    cases hc
   ·rw[y.2]at hc;cases hc
  refine(hok b u e).stay (fun c v hc q=>kp c v q ?_) (fun _ q=>q) fun _ _ q=>q
  rcases hc with z | z
  ·rw[z];exact nt b u e
  ·exact nt c _ z
theorem vI {fs hid:List Addr} {s0:Heap} {T:Addr} {oT:Obj} {ts:Array Value} (un:Un fs [] H0 H s0 h1) (hok:HOk P w H h1) (hh:∀b∈hid,b∈fs∨(s0.get? b=none/\H b=none)) (hfr:∀b∈fs,H0 b=none/\∃o,s0.get? b=some o/\∀vs,o.data≠.fields vs)
  (hS:∀b o,h1.get? b=some o->(∀vs,o.data≠.fields vs)->∃sl,h2.get? b=some {o with slots:=sl }) (hn:(W.hideAll h1 hid).get? T=none) (hT:h2.get? T=some oT) (hd:oT.data=.fields ts):s0.get? T=none/\H T=none:=by
 by_cases hm:T∈hid
 ·rcases hh T hm with y | y
  ·obtain⟨h0,o',q',nf⟩:=hfr T y
   obtain⟨sl,e⟩:=un.slot T o' q' h0 y Zs
   obtain⟨sl2,e2⟩:=hS T _ e nf
   rw[hT]at e2;cases e2
   exact absurd hd (nf ts)
  ·exact y
 ·have z:h1.get? T=none:=by
   cases q:h1.get? T with
   | none=>rfl
   | some ob=>
    rw[W.hideAll_get _ q hm]at hn;cases hn
  refine⟨?_,hok.none_of z⟩
  cases q:s0.get? T with
  | none=>rfl
  | some ob=>
   obtain⟨o',e⟩:=un.there T ob q Zs
   rw[z]at e;cases e
end
def Trc (h:Heap) (a:Addr) (cls fl:Value) (T:Addr):Prop:=
 ∃oe vs a0 oT ts,h.get? a=some oe/\oe.cls=cls/\vs[0]?=some a0/\oe.data=.fields vs/\vs[1]?=some (.ref T)/\T≠a/\h.get? T=some oT/\oT.data=.fields ts/\ts[3]?=some fl
def DOf (h:Heap) (a:Addr) (od:Option Addr):Prop:=∀dx,od=some dx->∃oe,h.get? a=some oe/\oe.dict=some dx
structure Fly (P:Program) (w:World) (l:List Env) (H0:Hp) (s0:Shared) (H:Hp) (a:Addr) (cls:Value) (od:Option Addr) (fl:Value) (s:Shared):Prop where
 na:s0.heap.get? a=none
 os:s.os=s0.os
 bare:AllBare s.gens
 un:Un (kI l) [] H0 H s0.heap s.heap
 hok:HOk P w H s.heap
 ha:H a=none
 tr:∃T,Trc s.heap a cls fl T/\s0.heap.get? T=none/\H T=none
 dd:DOf s.heap a od
def Mh (P:Program) (w:World):Hi:=fun outer H s E e s'=>∃a cls od H',e=Value.ref a/\Fly P w outer H s H' a cls od .none s'/\E cls od H'
section
variable {X:Cx} {pins:List (Addr × Obj)} {σ:St} {H H0:Hp} {s s0:Shared} {a:Addr} {cls fl:Value} {od:Option Addr} {M:Model} {A:Around} {E:Value->Shared->Prop} {Q:Unit->Shared->Prop}
theorem vJ {l:List Env} {env:Env} {b:Addr} (he:env∈l) (hb:env.frame=some b):b∈kI l:=List.mem_filterMap.mpr ⟨env,he,hb⟩
theorem Inv.frms (I:Inv X pins σ H s):∀b∈kI X.stack,H b=none/\∃o,s.heap.get? b=some o/\∀vs,o.data≠.fields vs:=fun b hb=>
 ⟨I.stkFree b hb,(I.stack.mem hb).2⟩
theorem Fly.inv (F:Fly X.prog X.w X.stack H0 s0 H a cls od fl s) (I0:Inv X pins σ H0 s0):Inv X pins σ H s:=I0.call' F.os F.un F.hok F.bare (fun _ z=>nomatch z)
theorem yB (I0:Inv X pins σ H0 s0) (F:Fly X.prog X.w X.stack H0 s0 H a cls od .none s) (hA:A.frames=some X.stack) (hst:X.stack=X.env::X.outer) (hf:X.env.frame=some X.env.locals)
  (k:∀s',Fly X.prog X.w X.stack H0 s0 H a cls od (rawInt X.env.locals) s'->Q () s'):wpAny M A (noteFrame (.ref a) X.env) Q E s:=by
 have I:=F.inv I0
 obtain⟨T,⟨oe,vs,a0,oT,ts,e1,e2,e3,e4,e5,e6,e7,e8,e9⟩,nT,hT⟩:=F.tr
 have hin:∀env∈X.stack,∀b,env.frame=some b->b∈kI X.stack++[a,T]:=fun env he b hb=>List.mem_append_left _ (vJ he hb)
 have hh:∀b∈kI X.stack++[a,T],b∈kI X.stack∨(s0.heap.get? b=none/\H b=none):=fun b hb=>by
  rcases Zma.mp hb with z | z
  ·exact .inl z
  ·rcases List.mem_cons.mp z with y | y
   ·rw[y];exact .inr ⟨F.na,F.ha⟩
   ·rw[Zms.mp y];exact .inr ⟨nT,hT⟩
 have hm1:a∈kI X.stack++[a,T]:=List.mem_append_right _ iW
 have hm2:T∈kI X.stack++[a,T]:=List.mem_append_right _ (gT _ iW)
 have ff:=W.funFrames_hide I.stack hin
 have go:=Yq (M:=M) (A:=A) (E:=E) (Q:=Q) (s:=s) (base:=W.hideAll s.heap (kI X.stack++[a,T])) (env:=X.env) (outer:=X.outer) (L:=X.env.locals) (e:=a) (cls:=cls) (a0:=a0) (by rw[hA,hst]) (by rw[<- hst];exact ff) hf e1
  ⟨oe,vs,T,oT,ts,e1,⟨e2,e3⟩,e4,e5,W.hideAll_none _ hm2,e6,e7,e8,e9⟩ (fun b o q=>W.of_hideAll _ q) (W.hideAll_none _ hm1) ?_
 ·exact go
 ·rintro h' ⟨k1,k2,⟨oe',vs',T',oT',ts',q1,⟨q2,q3⟩,q4,q5,q6,q7,q8,q9,q10⟩,k4⟩ ⟨od',d1,d2⟩
  obtain⟨u2,ok2⟩:=Ai F.un F.hok hh (fun b hb=>List.mem_append_left _ hb) I0.frms k1 k4
  obtain⟨n1,n2⟩:=vI F.un F.hok hh I0.frms k4 q6 q8 q9
  refine k _ ⟨F.na,F.os,F.bare,u2,ok2,F.ha,⟨T',⟨oe',vs',a0,oT',ts',q1,q2,q3,q4,q5,q7,q8,q9,q10⟩,n1,n2⟩,fun dx hdx=>?_⟩
  obtain⟨o1,z1,z2⟩:=F.dd dx hdx
  rw[e1]at z1;cases z1
  exact⟨od',d1,d2.trans z2⟩
theorem nV (I0:Inv X pins σ H0 s0) (F:Fly X.prog X.w X.stack H0 s0 H a cls od fl s) (k:∀s',Fly X.prog X.w X.stack H0 s0 H a cls od .none s'->Q () s'):wpAny M A (setFlight (.ref a) none) Q E s:=by
 have I:=F.inv I0
 obtain⟨T,⟨oe,vs,a0,oT,ts,e1,e2,e3,e4,e5,e6,e7,e8,e9⟩,nT,hT⟩:=F.tr
 have hin:∀env∈X.stack,∀b,env.frame=some b->b∈kI X.stack++[a,T]:=fun env he b hb=>List.mem_append_left _ (vJ he hb)
 have hh:∀b∈kI X.stack++[a,T],b∈kI X.stack∨(s0.heap.get? b=none/\H b=none):=fun b hb=>by
  rcases Zma.mp hb with z | z
  ·exact .inl z
  ·rcases List.mem_cons.mp z with y | y
   ·rw[y];exact .inr ⟨F.na,F.ha⟩
   ·rw[Zms.mp y];exact .inr ⟨nT,hT⟩
 have hm2:T∈kI X.stack++[a,T]:=List.mem_append_right _ (gT _ iW)
 refine Yr (base:=W.hideAll s.heap (kI X.stack++[a,T])) (l:=X.stack) (cls:=cls) (a0:=a0) (fl:=fl) (fun b o q=>W.of_hideAll _ q) (W.funFrames_hide I.stack hin) e1 ⟨oe,vs,T,oT,ts,e1,⟨e2,e3⟩,e4,e5,W.hideAll_none _ hm2,e6,e7,e8,e9⟩ ?_
 rintro h' k1 k2 ⟨oe',vs',T',oT',ts',q1,⟨q2,q3⟩,q4,q5,q6,q7,q8,q9,q10⟩ k4 kE
 have k5:∀b o,s.heap.get? b=some o->(∀vs,o.data≠.fields vs)->∃sl,h'.get? b=some {o with slots:=sl }:=fun b o q n=>⟨o.slots,k4 b o q n⟩
 obtain⟨u2,ok2⟩:=Ai F.un F.hok hh (fun b hb=>List.mem_append_left _ hb) I0.frms k1 k5
 obtain⟨n1,n2⟩:=vI F.un F.hok hh I0.frms k5 q6 q8 q9
 refine k _ ⟨F.na,F.os,F.bare,u2,ok2,F.ha,⟨T',⟨oe',vs',a0,oT',ts',q1,q2,q3,q4,q5,q7,q8,q9,q10⟩,n1,n2⟩,fun dx hdx=>?_⟩
 obtain⟨o1,z1,z2⟩:=F.dd dx hdx
 rw[e1]at z1;cases z1
 exact⟨oe,kE,z2⟩
theorem Jd {P:Program} {w:World} {K:W.Frag} {mg:Str->Option Value} {base:Heap} {N:List Str} {qual:Str} {scope:Scope} {f:Addr} {cd:Value} {A:Around} {outer:List Env} {s s1:Shared} {H H1:Hp} {E:XK} {e:Addr} {h':Heap} {args:List Value}
  (I:Inv (kJ (Mh P w) P w K mg base N qual scope f cd A outer s H E) pins σ H1 s1) (hf:(envOfC qual scope s.heap.objs.size f cd).frame=some (envOfC qual scope s.heap.objs.size f cd).locals) (hx:Heap.MadeExcOf s1.heap h' e cls args) (q:E cls none H1) :
  (kJ (Mh P w) P w K mg base N qual scope f cd A outer s H E).xe (.ref e) {s1 with heap:=h' }:=by
 obtain⟨t,he,htn,ht⟩:=hx.there
 have und:Un (kI outer) [] H H1 s.heap s1.heap:=I.base
 have fr0:∀b∈kI outer,H b=none/\∃o,s.heap.get? b=some o/\∀vs,o.data≠.fields vs:=fun b hb=>⟨I.ok.frf b hb,(I.ok.funs.mem hb).2⟩
 have st:(kJ (Mh P w) P w K mg base N qual scope f cd A outer s H E).stack=envOfC qual scope s.heap.objs.size f cd::outer:=rfl
 have nL:s.heap.get? (envOfC qual scope s.heap.objs.size f cd).locals=none:=Heap.get?_none_of_le I.ok.above
 have ne0:s.heap.get? e=none:=by
  cases z:s.heap.get? e with
  | none=>rfl
  | some ob=>
   obtain⟨o',y⟩:=und.there e ob z Zs
   rw[hx.new]at y;cases y
 have he1:H1 e=none:=I.hok.none_of hx.new
 have un1:Un (kI outer) [] H H1 s.heap h':=⟨fun b ob q n hb hx'=>hx.keeps b _ (und.keep b ob q n hb hx'),fun b ob q n hb hx'=>let ⟨sl,y⟩:=und.slot b ob q n hb hx';⟨sl,hx.keeps b _ y⟩,und.free,fun b ob q hx'=>let ⟨o',y⟩:=und.there b ob q hx';⟨o',hx.keeps b _ y⟩,und.tups,und.frzs,und.tbls⟩
 have ok1:HOk P w H1 h':=HOk.kept (show HOk P w H1 s1.heap from I.hok) hx.keeps
 have hin:∀env∈(envOfC qual scope s.heap.objs.size f cd::outer),∀b,env.frame=some b->b∈kI (envOfC qual scope s.heap.objs.size f cd::outer)++[e]:=fun env he b hb=>List.mem_append_left _ (vJ he hb)
 have hh:∀b∈kI (envOfC qual scope s.heap.objs.size f cd::outer)++[e],b∈kI outer∨(s.heap.get? b=none/\H1 b=none):=fun b hb=>by
  rcases Zma.mp hb with z | z
  ·unfold kI at z;rw[List.filterMap_cons,hf]at z;rcases List.mem_cons.mp z with y | y
   ·rw[y];exact .inr ⟨nL,I.free⟩
   ·exact .inl y
  ·rw[Zms.mp z];exact .inr ⟨ne0,he1⟩
 have hsub:∀b∈kI outer,b∈kI (envOfC qual scope s.heap.objs.size f cd::outer)++[e]:=fun b hb=>by
  refine List.mem_append_left _ ?_
  unfold kI;rw[List.filterMap_cons,hf];exact gT _ hb
 have hm1:e∈kI (envOfC qual scope s.heap.objs.size f cd::outer)++[e]:=List.mem_append_right _ iW
 have ff0:h'.FunFrames base (envOfC qual scope s.heap.objs.size f cd::outer):=Heap.FunFrames.of_keeps (fun b o q _=>⟨o,hx.keeps b o q,rfl⟩) (show s1.heap.FunFrames base (envOfC qual scope s.heap.objs.size f cd::outer) from I.stack)
 have go:=wpAny_leaving_firstW (M:=model P w) (A:=A.deeper (envOfC qual scope s.heap.objs.size f cd)) (E:=fun e' s''=>Mh P w outer H s E e' s'') (Q:=fun _ s''=>Mh P w outer H s E (.ref e) s'') (s:={s1 with heap:=h' }) (base:=W.hideAll h' (kI (envOfC qual scope s.heap.objs.size f cd::outer)++[e])) (env:=envOfC qual scope s.heap.objs.size f cd) (outer:=outer) (e:=e) (a0:=.ref t)
  I.ok.frames (W.funFrames_hide ff0 hin) hf he (fun b o q=>W.of_hideAll _ q) (W.hideAll_none _ hm1) rfl rfl rfl ?_
 ·exact go
 ·rintro h2 ⟨k1,k2,⟨oe',vs',T',oT',ts',q1,⟨q2,q3⟩,q4,q5,q6,q7,q8,q9,q10⟩,k4⟩
  obtain⟨u2,ok2⟩:=Ai un1 ok1 hh hsub fr0 k1 k4
  obtain⟨n1,n2⟩:=vI un1 ok1 hh fr0 k4 q6 q8 q9
  exact⟨e,cls,none,H1,rfl,⟨ne0,I.os,I.bare,u2,ok2,he1,⟨T',⟨oe',vs',_,oT',ts',q1,q2,q3,q4,q5,q7,q8,q9,q10⟩,n1,n2⟩,fun dx h=>(by cases h)⟩,q⟩
end
end L2
namespace L2
open PySem PySem.Spec PyProof.Rows
abbrev Qt:List Value:=[.type "ValueError",.type "Exception",.type "BaseException",.type "object"]
structure XCls (K:W.Frag) (mg:Str->Option Value) (x:Str) (C:Addr):Prop where
 at_:mg x=some (.ref C)
 ok:W.excIn K C Qt "ValueError.__new__"=true
theorem XCls.obj {K:W.Frag} {mg:Str->Option Value} {x:Str} {C:Addr} {h:Heap} (c:XCls K mg x C) (X:K.In h) :
  ∃bm N nm q bs hdct sn sub ab col dd k0 k1 k2 k3 k5 mN,h.get? C=some (excClassObj nm q C N bs bm hdct sn sub ab col dd k0 k1 k2 k3 k5 "ValueError.__new__")/\h.Ns N mN/\mN "__init__"=none/\OwnTail h Qt bm:=by
 have q:=c.ok
 unfold W.excIn at q;split at q
 ·rename_i dd cd sl ho
  split at q
  ·rename_i C' bm k0 k1 k2 k3 n k5 hm hs
   simp only [Bool.and_eq_true,beq_iff_eq,Bool.not_eq_true']at q
   obtain⟨⟨⟨⟨⟨e1,e2⟩,hdel⟩,ht⟩,hok⟩,hni⟩:=q
   subst e1 e2;obtain⟨nm,bs,mro,ns,qn,hd,sn,sub,ab,col,del⟩:=cd
   dsimp only at hm hdel hok hni
   subst hm hdel;have hsl:sl=#[k0,k1,k2,k3,some (.builtin "ValueError.__new__"),k5]:=by
    obtain⟨l⟩:=sl
    simp only at hs
    rw[hs]
   subst hsl;exact⟨bm,ns,nm,qn,bs,hd,sn,sub,ab,col,dd,k0,k1,k2,k3,k5,_,X _ _ ho,.of_isNs (W.isNs_of_in X hok),W.nsMap_none_of_in X hok hni,W.tail_of_in X ht⟩
  ·cases q
 ·cases q
def Je (C:Addr) (E:XK) (t:TA):TS:=fun _ σ H=>t σ H fun vs H1=>vs.length<=sizeLine/\E (.ref C) none H1
def Aj (X:Cx) (E:XK):Prop:=∀(pins:List (Addr × Obj)) (σ:St) (H:Hp) (s:Shared) (h':Heap) (e:Addr) (cls:Value) (args:List Value),Inv X pins σ H s->Heap.MadeExcOf s.heap h' e cls args->E cls none H->X.xe (.ref e) {s with heap:=h' }
theorem pH {P:Program} {w:World} {K:W.Frag} {mg:Str->Option Value} {base:Heap} {N:List Str} {qual:Str} {scope:Scope} {f:Addr} {cd:Value} {A:Around} {outer:List Env} {s:Shared} {H:Hp} {E:XK}
  (hf:(envOfC qual scope s.heap.objs.size f cd).frame=some (envOfC qual scope s.heap.objs.size f cd).locals:=by rfl):Aj (kJ (Mh P w) P w K mg base N qual scope f cd A outer s H E) E:=
 fun pins σ H1 s1 h' e cls args I hx q=>Jd I hf hx q
section
variable {X:Cx} {x:Str} {C:Addr} {E:XK} {e:Expr} {es:List Expr} {t:TA} {np cpos pos:Pos}
theorem Jf (c:XCls X.K X.mg x C) (hl:Aj X E) (hc:X.calm=true) (hg:Gl X x) (ha:PA X (e::es) t) (hs:aT e=true) (h2:es.all aT=true) (hdb:(x == ("__debug__":Str))=false) :
  PS X (.Raise (some (.Call (.Name x np) (e::es) [] cpos)) none pos) (Je C E t):=by
 intro pins s σ H D I h;obtain⟨tl,N,nm,q,bs,hdct,sn,sub,ab,col,dd,k0,k1,k2,k3,k5,mN,hC,hN,hni,T⟩:=c.obj I.mod.kin
 have he:starEach (e::es) X.env=(false,eval e X.env)::starEach es X.env:=bG hs
 refine wpAny_Raise_call_subT (C:=C) (nm:=nm) (q:=q) (N:=N) (bs:=bs) (bm:=tl) (hdct:=hdct) (sn:=sn) (sub:=sub) (ab:=ab) (col:=col) (dd:=dd) (k0:=k0) (k1:=k1) (k2:=k2) (k3:=k3) (k5:=k5)
  PySem.F.excBase_ValueError (mN:=mN) (T.hasType PySem.F.excBase_ValueError.hasBase) (I.ok.hd hc) (by rw[he];show(false||(backTo cpos (starEach es X.env)).any (·.1))=false;rw[fJ h2];rfl) hni (jI I hg c.at_ ⟨rfl,?_⟩ hdb)
 have hp:=ha cpos pins s σ H _ I h
 rw[he]at hp ⊢;refine Calls.evalArgs_plain (bX hp fun us s1 ⟨vs,H1,I1,r,z,q⟩=>⟨rfl,by rw[<- r.length];exact z,I1.bk _ _ hC,hN.keeps I1.bk,T.keeps I1.bk,fun h' e' hm=>hl pins σ H1 s1 h' e' _ _ I1 hm q⟩)
end
structure jM (P:Program) (w:World) (K:W.Frag) (mg:Str->Option Value) (base:Heap) (n:Nat) (x:Str) (ps:List Str) (sp:Sp):Prop where
 ex:∃f fd,mg x=some (.ref f)/\W.keepIn K (.ref f)=true/\pV P w K mg base (Mh P w) n f fd ps sp/\Binds K fd ps []
theorem DefAt.goX {P:Program} {w:World} {K:W.Frag} {mg:Str->Option Value} {base:Heap} {x:Str} {st:Stmt} {N ps:List Str} {k:Nat} {sp:Sp} (D:DefAt K mg x st ps) (S:aL N ps (aE st)) (len:∀vs H Q E,sp vs H Q E->vs.length=ps.length)
  (hbody:∀(f:Addr) (cdv:Value) (A:Around) (outer:List Env) (s:Shared) (H:Hp) (vs:List V) (Q:VK) (E:XK),Room k (A.deeper (envOfC x (aE st) s.heap.objs.size f cdv))->sp vs H Q E →
   ∃t,XB (kJ (Mh P w) P w K mg base N x (aE st) f cdv A outer s H E) (bZ st) t/\t {nx:=fun _ H'=>Q .non H',rt:=Q } (start N vs) H):jM P w K mg base (k+1) x ps sp:=by
 obtain⟨f,fd,F,hm,hb⟩:=D.ex
 refine⟨f,fd,hm,F.kp,?_,hb⟩
 obtain⟨oc,od,kV,doc,pm,an,cdv,ct,osl,rfl,lk,hcd⟩:=F.ex
 refine Qh lk hcd S len fun A outer s H vs Q E hr hsp=>?_
 obtain⟨t,h,q⟩:=hbody f cdv A outer s H vs Q E hr hsp
 exact⟨t,h.h,q⟩
def Jg (X:Cx) (Ex:St->Value->Option Addr->Hp->Prop):Prop:=∀(pins:List (Addr × Obj)) (σ:St) (H:Hp) (s:Shared) (e:Value) (s':Shared),Inv X pins σ H s->Mh X.prog X.w X.stack H s (fun cls od H'=>Ex σ cls od H') e s'->X.xe e s'
def Ys (sp:Sp) (Ex:St->Value->Option Addr->Hp->Prop) (t:TA):TE:=fun σ H Q=>t σ H fun vs H1=>sp vs H1 Q (fun cls od H'=>Ex σ cls od H')
section
variable {X:Cx} {x:Str} {n:Nat} {ps:List Str} {sp:Sp} {Ex:St->Value->Option Addr->Hp->Prop} {e:Expr} {es:List Expr} {t:TA} {p pos:Pos}
theorem Uq (c:jM X.prog X.w X.K X.mg X.base n x ps sp) (hr:Room n X.A) (hg:Gl X x) (hx:Jg X Ex) (ha:PA X (e::es) t) (hs:aT e=true) (h2:es.all aT=true) (hdb:(x == ("__debug__":Str))=false) :
  PE X (.Call (.Name x p) (e::es) [] pos) (Ys sp Ex t):=by
 obtain⟨f,fd,hm,hk,F,hb⟩:=c.ex
 intro pins s σ H Q I h;refine wpAny_Call_Name_kw (jI I hg hm ?_ hdb)
 refine W.callWith_K (h₀:=X.base) I.ok.mod.kin hk (bX (ha pos pins s σ H _ I h) fun us s1 ⟨vs,H1,I1,r,q⟩=>⟨I1.kIn,?_⟩) (bG hs) (fJ h2)
 have hl:us.length=ps.length:=by rw[<- r.length];exact F.len _ _ _ _ q
 have hb':=hb s1 us I1.kIn (by rw[List.append_nil];exact hl)
 rw[List.append_nil]at hb';refine wpAny_call (codeAny_mono (F.run X.A X.stack s1 H1 ⟨us,[]⟩ us vs Q _ hr I1.env0 hb' r q) fun rs s' hq=>?_)
 cases rs with
 | error e'=>exact hx pins σ H1 s1 e' s' I1 hq
 | ok fl=>
  cases fl with
  | ret u=>exact I1.after hq
  | next=>exact False.elim hq
  | brk=>exact False.elim hq
  | cont=>exact False.elim hq
end
def XF (X:Cx) (Ex:St->Value->Option Addr->Hp->Prop):Value->Shared->Prop:=fun e s'=>∃ σ H s,Inv X [] σ H s/\Mh X.prog X.w X.stack H s (fun cls od H'=>Ex σ cls od H') e s'
abbrev Cx.pin (X:Cx) (pn:List (Addr × Obj)):Cx:={X with pn:=pn }
abbrev Cx.trying (X:Cx) (pn:List (Addr × Obj)) (Ex:St->Value->Option Addr->Hp->Prop):Cx:={X with pn:=pn,xe:=XF (X.pin pn) Ex }
abbrev Cx.handling (X:Cx) (a:Addr):Cx:={X with A:=X.A.mark (some (.ref a)),calm:=false,xe:=fun _ _=>False }
section
variable {X:Cx} {pins pn:List (Addr × Obj)} {σ:St} {H:Hp} {s:Shared} {Ex:St->Value->Option Addr->Hp->Prop} {a:Addr}
theorem Cx.Ok.pin (ok:X.Ok):(X.pin pn).Ok:=⟨ok.mod,ok.kind,ok.glob,ok.blt,ok.above,ok.inj,ok.has,ok.cab,ok.hd,ok.frames,ok.stk,ok.exf,ok.bs,ok.bsz,ok.noex,ok.exfs,ok.funs,ok.frf⟩
theorem Cx.Ok.handling (ok:X.Ok):(X.handling a).Ok:=⟨ok.mod,ok.kind,ok.glob,ok.blt,ok.above,ok.inj,ok.has,ok.cab,(fun z=>nomatch z),ok.frames,ok.stk,ok.exf,ok.bs,ok.bsz,ok.noex,ok.exfs,ok.funs,ok.frf⟩
theorem Inv.pnIn (I:Inv X pins σ H s):Inv (X.pin (X.pn++pins)) [] σ H s:=⟨I.ok.pin,I.os,I.bare,I.base,I.loc,I.cell,I.free,I.freeC,fun p hp=>I.pin p (by rw[List.append_nil]at hp;exact hp),I.hok,I.len⟩
theorem Inv.pnOut (I:Inv (X.pin (X.pn++pins)) [] σ H s) (ok:X.Ok):Inv X pins σ H s:=⟨ok,I.os,I.bare,I.base,I.loc,I.cell,I.free,I.freeC,fun p hp=>I.pin p (by rw[List.append_nil];exact hp),I.hok,I.len⟩
theorem Inv.handling (I:Inv X pins σ H s):Inv (X.handling a) pins σ H s:=⟨I.ok.handling,I.os,I.bare,I.base,I.loc,I.cell,I.free,I.freeC,I.pin,I.hok,I.len⟩
theorem Inv.handled (I:Inv (X.handling a) pins σ H s) (ok:X.Ok):Inv X pins σ H s:=⟨ok,I.os,I.bare,I.base,I.loc,I.cell,I.free,I.freeC,I.pin,I.hok,I.len⟩
theorem Inv.trying (I:Inv (X.pin pn) pins σ H s):Inv (X.trying pn Ex) pins σ H s:=I.wish _
theorem Inv.tried (I:Inv (X.trying pn Ex) pins σ H s):Inv (X.pin pn) pins σ H s:=Inv.unwish (X:=X.pin pn) (E:=XF (X.pin pn) Ex) I
theorem nW:Jg (X.trying pn Ex) Ex:=fun pins σ H s e s' I h=>⟨σ,H,s,I.tried.pins_of (fun p hp=>nomatch hp),h⟩
def rY (a:Addr) (cls:Value) (od:Option Addr):Heap->Prop:=fun h=>∃o vs,h.get? a=some o/\o.cls=cls/\o.data=.fields vs/\∀dx,od=some dx->o.dict=some dx
theorem Inv.exc {cls:Value} {od:Option Addr} {H0:Hp} {s0:Shared} {σ0:St} (I:Inv X pins σ H s) (I0:Inv X pins σ0 H0 s0) (hex:X.ex=[]) (na:s0.heap.get? a=none) (ha:H a=none) (hx:rY a cls od s.heap):Inv X pins σ (aJ H a (.ext (rY a cls od))) s where
 ok:=I.ok
 os:=I.os
 bare:=I.bare
 base:=by
  have n0:∀b ob,X.s₀.heap.get? b=some ob->b≠a:=fun b ob q z=>by
   obtain⟨o',y⟩:=I0.base.there b ob q (by rw[hex];simp)
   rw[z,na]at y;cases y
  refine⟨I.base.keep,I.base.slot,fun b ob q n hx=>?_,I.base.there,fun b xs q=>?_,fun b ob u q=>?_,fun b ps q=>?_⟩
  ·rw[aM (n0 b ob q)];exact I.base.free b ob q n hx
  ·have:=I.base.tups b xs q
   rw[aM (aH this ha)];exact this
  ·have:=I.base.frzs b ob u q
   rw[aM (aH this ha)];exact this
  ·obtain⟨more,z⟩:=I.base.tbls b ps q
   exact⟨more,by rw[aM (aH z ha)];exact z⟩
 loc:=I.loc
 cell:=I.cell
 free:=by
  have:X.env.locals≠a:=fun z=>by
   obtain⟨m,⟨o,_,_,ho,_⟩,_⟩:=I0.loc
   rw[z,na]at ho;cases ho
  rw[aM this];exact I.free
 freeC:=fun x c h=>by
  have:c≠a:=fun z=>by
   obtain⟨v,o,ho,_⟩:=I0.cell x c h
   rw[z,na]at ho;cases ho
  rw[aM this];exact I.freeC x c h
 pin:=fun p hp=>by
  obtain⟨p1,p2,p3⟩:=I.pin p hp
  have:p.1≠a:=fun z=>by
   have ho:=(I0.pin p hp).1
   rw[z,na]at ho;cases ho
  exact⟨p1,by rw[aM this];exact p2,p3⟩
 hok:=by
  intro b u hb;by_cases q:b=a
  ·subst q;rw[aD]at hb;cases hb
   obtain⟨o,vs,h1,h2,h3⟩:=hx
   refine⟨⟨o,vs,h1,h2,h3⟩,⟨o,h1⟩,?_⟩
   rintro ha hb2 ⟨o',vs',q1,q2,q3⟩ k
   exact⟨o',vs',k o' q1,q2,q3⟩
  ·rw[aM q]at hb;refine(I.hok b u hb).stay (fun c v _ h=>h) (fun c h=>?_) fun c xs h=>?_
   ·rw[aM (aH h ha)];exact h
   ·rw[aM (aH h ha)];exact h
 len:=I.len
theorem qD {M:Model} {A:Around} {E:Value->Shared->Prop} {i:Nat} {x:Str} {pos:Pos} {Q:Unit->Shared->Prop} (I:Inv X pins σ H s) (hN:X.N.Nodup) (hi:X.N[i]?=some x) (hx:X.env.kindOf x=some .local) (hl:Gq X.env.scope x) (hfn:X.fn x=true∨X.env.scope.names.lookup x=some .local)
  (h:∀s',Inv X pins (σ.set i none) H s'->Q () s'):wpAny M A (do bindName X.env x .none;unbindBehindTheSuite X.env x pos) Q E s:=by
 have hp:(X.env.scope.kind == .class||(X.env.scope.kind == .module&&X.env.locals != X.env.globals))=false:=by rw[I.ok.kind];rfl
 refine wpAny_bind (wpAny_bindName (nJ (v:=.non) I hN hi hl rfl (fun s1 I1=>?_) hfn))
 unfold unbindBehindTheSuite;refine wpAny_onRaise ?_
 unfold unbindName;refine wpAny_bind (wpAny_point (wpAny_bind ?_))
 unfold deleteName;simp only [hx,hp]
 rw[if_neg Zd]
 obtain⟨m,hn,hl1⟩:=id I1.loc
 have hiσ:i<σ.length:=by rw[I.len];exact(Zgs.mp hi).1
 have cne:=I1.cne
 refine wpAny_bind (wpAny_nsDel_keeps hn fun h2 v hn2 hs=>?_)
 have hm:(m x).isSome=true:=by
  obtain⟨u,ru,lk⟩:=hl1 i x .non hi (List.getElem?_set_self hiσ) (Or.inl (by
   have:=hx
   unfold Env.kindOf at this;first | exact this | simpa using this))
  rcases lk with⟨_,e⟩ | ⟨k,_⟩
  ·rw[e];rfl
  ·rcases k with k | k
   ·have:=hx;simp_all
   ·have:=hx;simp_all
 simp only [hm,if_true,Bool.not_true,Bool.false_eq_true,if_false]
 have bl:∀b o,X.s₀.heap.get? b=some o->b≠X.env.locals:=fun b o e=>Nat.ne_of_lt (Nat.lt_of_lt_of_le (Heap.lt_size e) I.ok.above)
 obtain⟨oL,_,_,hoL,_⟩:=id hn
 refine wpAny_pure (wpAny_point (h _ ⟨I1.ok,I1.os,I1.bare,⟨fun b o e n hb hx'=>(hs.2 b (bl b o e)).trans (I1.base.keep b o e n hb hx'),fun b o e n hb hx'=>?_,I1.base.free,fun b o e hx'=>?_,I1.base.tups,I1.base.frzs,I1.base.tbls⟩,⟨_,hn2,fun j y v' e1 e2 e3=>?_⟩,fun y c e=>?_,I1.free,I1.freeC,fun p hp'=>?_,fun b u e=>?_,by simpa using I.len⟩))
 ·obtain⟨sl,z⟩:=I1.base.slot b o e n hb hx'
  exact⟨sl,(hs.2 b (bl b o e)).trans z⟩
 ·obtain⟨o',z⟩:=I1.base.there b o e hx'
  exact⟨o',(hs.2 b (bl b o e)).trans z⟩
 ·by_cases hj:j=i
  ·subst hj;rw[List.getElem?_set_self hiσ]at e2;cases e2
  ·rw[List.getElem?_set_ne (Ne.symm hj)]at e2;obtain⟨u,r,q⟩:=hl1 j y v' e1 (by rw[List.getElem?_set_ne (Ne.symm hj)];exact e2) e3
   refine⟨u,r,?_⟩
   rcases q with⟨k,e⟩ | ⟨k,c,e,z⟩
   ·have hne:y≠x:=fun e=>hj (nI hN e1 (e ▸ hi))
    exact .inl ⟨k,by dsimp only;rw[if_neg hne];exact e⟩
   ·exact .inr ⟨k,c,e,z.sameBut hs (cne y c e)⟩
 ·obtain⟨w',z⟩:=I1.cell y c e
  exact⟨w',z.sameBut hs (cne y c e)⟩
 ·obtain⟨e,n,ne,nf,d⟩:=I1.pin p hp'
  exact⟨(hs.2 p.1 ne).trans e,n,ne,nf,d⟩
 ·refine(I1.hok b u e).stay (fun c w' hc q=>(hs.2 c ?_).trans q) (fun _ q=>q) fun _ _ q=>q
  rintro rfl
  rcases hc with z | z
  ·rw[<- z,I1.free]at e;cases e
  ·rw[I1.free]at z;cases z
theorem SP.goes {M:Model} {A:Around} {E:Value->Shared->Prop} {i:Nat} {x:Str} {pos:Pos} {D:pU} {f:Flow} (hq:SP X pins {nx:=fun σ' H'=>D.nx (σ'.set i none) H',rt:=D.rt,bk:=fun σ' H'=>D.bk (σ'.set i none) H',ct:=fun σ' H'=>D.ct (σ'.set i none) H' } f s) (hN:X.N.Nodup) (hi:X.N[i]?=some x) (hx:X.env.kindOf x=some .local) (hl:Gq X.env.scope x) (hfn:X.fn x=true∨X.env.scope.names.lookup x=some .local) :
  wpAny M A (do bindName X.env x .none;unbindBehindTheSuite X.env x pos) (fun _ s'=>SP X pins D f s') E s:=by
 cases f with
 | next=>obtain⟨σ',H',I,q⟩:=hq;exact qD I hN hi hx hl hfn fun s' I'=>⟨_,H',I',q⟩
 | brk=>obtain⟨σ',H',I,q⟩:=hq;exact qD I hN hi hx hl hfn fun s' I'=>⟨_,H',I',q⟩
 | cont=>obtain⟨σ',H',I,q⟩:=hq;exact qD I hN hi hx hl hfn fun s' I'=>⟨_,H',I',q⟩
 | ret u=>obtain⟨v,σ',H',I,r,q⟩:=hq;exact qD I hN hi hx hl hfn fun s' I'=>⟨v,_,H',I',r,q⟩
theorem SP.handled {D:pU} {f:Flow} (h:SP (X.handling a) pins D f s) (ok:X.Ok):SP X pins D f s:=by
 cases f with
 | next=>obtain⟨σ',H',I,q⟩:=h;exact⟨σ',H',I.handled ok,q⟩
 | brk=>obtain⟨σ',H',I,q⟩:=h;exact⟨σ',H',I.handled ok,q⟩
 | cont=>obtain⟨σ',H',I,q⟩:=h;exact⟨σ',H',I.handled ok,q⟩
 | ret u=>obtain⟨v,σ',H',I,r,q⟩:=h;exact⟨v,σ',H',I.handled ok,r,q⟩
theorem SP.tried {D:pU} {f:Flow} (h:SP (X.trying (X.pn++pins) Ex) [] D f s) (ok:X.Ok):SP X pins D f s:=by
 cases f with
 | next=>obtain⟨σ',H',I,q⟩:=h;exact⟨σ',H',I.tried.pnOut ok,q⟩
 | brk=>obtain⟨σ',H',I,q⟩:=h;exact⟨σ',H',I.tried.pnOut ok,q⟩
 | cont=>obtain⟨σ',H',I,q⟩:=h;exact⟨σ',H',I.tried.pnOut ok,q⟩
 | ret u=>obtain⟨v,σ',H',I,r,q⟩:=h;exact⟨v,σ',H',I.tried.pnOut ok,r,q⟩
def Yt (K:W.Frag) (C:Addr) (i:Nat) (tb:(St->Value->Option Addr->Hp->Prop)->TS) (th:TS):TS:=fun D σ H=>
 tb (fun σ' cls od H'=>W.exmOne K cls (.ref C)=some true/\∀a,H' a=none->th {nx:=fun σ'' H''=>D.nx (σ''.set i none) H'',rt:=D.rt,bk:=fun σ'' H''=>D.bk (σ''.set i none) H'',ct:=fun σ'' H''=>D.ct (σ''.set i none) H'' } (σ'.set i (some (.ref a))) (aJ H' a (.ext (rY a cls od)))) D σ H
theorem Ur {C:Addr} {c n:Str} {i:Nat} {body suite:List Stmt} {s0:Stmt} {p hpos pos:Pos} {tb:(St->Value->Option Addr->Hp->Prop)->TS} {th:TS} (hN:X.N.Nodup) (hi:X.N[i]?=some n) (hx:X.env.kindOf n=some .local) (hl:Gq X.env.scope n) (hfn:X.fn n=true∨X.env.scope.names.lookup n=some .local) (hst:X.stack=X.env::X.outer) (hf:X.env.frame=some X.env.locals) (hex:X.ex=[])
  (hg:Gl X c) (hm:X.mg c=some (.ref C)) (hdb:(c == ("__debug__":Str))=false) (hb:∀pn Ex,PSs (X.trying pn Ex) body (tb Ex)) (hs:∀a,PSs (X.handling a) (s0::suite) th) :
  PS X (.Try body [.ExceptHandler (some (.Name c p)) (some n) (s0::suite) hpos] [] [] pos) (Yt X.K C i tb th):=by
 intro pins s σ H D I h;refine wpAny_Try_except (wpAny_mono (hb (X.pn++pins) _ [] s σ H D I.pnIn.trying h) (fun f s1 q=>?_) fun e s1 q=>?_)
 ·have q':=q.tried I.ok
  cases f with
  | next=>exact wpAny_execs_nil q'
  | brk=>exact q'
  | cont=>exact q'
  | ret u=>exact q'
 ·obtain⟨σ',H0,sc,I0,a,cls,od,H',rfl,F,hx1,hw⟩:=q
  have I0':Inv X pins σ' H0 sc:=I0.pnOut I.ok
  have F':Fly X.prog X.w X.stack H0 sc H' a cls od .none s1:=F
  refine yB I0' F' I.ok.frames hst hf fun s2 F2=>?_
  refine nV I0' F2 fun s3 F3=>?_
  have I3:=F3.inv I0'
  refine wpAny_handleBy_cons (codeAny_handlers_test ?_) (by intro q;cases q)
  refine jI (X:=X.handling a) (I3.handling (a:=a)) hg hm ?_ hdb
  obtain⟨T,⟨oe,vs,a0,oT,ts,e1,e2,_⟩,_⟩:=F3.tr
  have LT:W.Looks (model X.prog X.w) s3.heap (typeOf (.ref a)) cls:=e2 ▸ (W.Looks.ld e1).andThen .now
  refine(W.exm_one I3.kIn LT hx1).here ?_
  show codeAny _ _ _ _ _
  refine codeAny_handlers_suite_as ?_
  refine nV I0' F3 fun s4 F4=>?_
  have I4:=F4.inv I0'
  obtain⟨T4,⟨oe4,vs4,a04,oT4,ts4,q1,q2,q3,q4,_⟩,_⟩:=F4.tr
  have I5:=I4.exc I0' hex F4.na F4.ha (od:=od) ⟨oe4,vs4,q1,q2,q4,fun dx hdx=>by obtain⟨o1,z1,z2⟩:=F4.dd dx hdx;rw[q1]at z1;cases z1;exact z2⟩
  refine nJ (v:=.ref a) I5 hN hi hl rfl (fun s5 I6=>?_) hfn
  refine wpAny_mono (hs a pins s5 _ _ _ (I6.handling (a:=a)) (hw a F4.ha)) (fun f s6 q=>?_) (fun _ _ z=>False.elim z)
  exact SP.goes (q.handled I.ok) hN hi hx hl hfn
end
end L2
namespace L2
open PySem PySem.Spec PyProof.Rows
structure tK (K:W.Frag) (D:Addr):Prop where
 ga:W.findIn K (.ref D) "__getattribute__"=some (some (.builtin "BaseException.__getattribute__"))
 gx:W.findIn K (.ref D) "__getattr__"=some none
 cl:W.findIn K (.ref D) "__class__"=some (some (.builtin "object.__class__"))
 gg:W.specialIn K (.builtin "object.__class__") "__get__"=some (some (.builtin "getset_descriptor.__get__"))
 tk:W.takesIn K (.builtin "object.__class__")=some true
 mo:W.mroIn K D (.type "object")=some true
 mb:W.mroIn K D (.type "BaseException")=some true
 ci:(W.clsIn K D).isSome=true
def OfCls (x D:Addr) (h:Heap):Prop:=∃o,h.get? x=some o/\o.cls=.ref D
section
variable {prog:Program} {w:World} {A:Around} {E:Value->Shared->Prop} {s:Shared} {K:W.Frag} {x D:Addr}
theorem OfCls.type {M:Model} {h:Heap} (c:OfCls x D h):W.Looks M h (typeOf (.ref x)) (.ref D):=by
 obtain⟨o,h1,h2⟩:=c
 exact h2 ▸ (W.Looks.ld h1).andThen .now
theorem Fd {M:Model} {nameV:Value} {Q:Unit->Shared->Prop} (LI:W.Looks M s.heap (isInstance (.ref x) (.type "BaseException")) true) (h:Q () s):wpAny M A (checkBuiltinCall "BaseException.__getattribute__" ⟨[.ref x,nameV],[]⟩) Q E s:=by
 have hkd:builtinKind "BaseException.__getattribute__"=some .slot:=by decide +kernel
 have hsp:splitId "BaseException.__getattribute__"=some ("BaseException","__getattribute__"):=by decide +kernel
 have har:=F.args_bexc_ga (.ref x) nameV
 simp only [checkBuiltinCall,hkd,hsp]
 refine wpAny_bind (LI.here ?_)
 obtain⟨hh,g,d,t,os⟩:=s
 repeat (first | wp_step)
 exact h
theorem Ak {M:Model} {h:Heap} (X:K.In h) (k:tK K D):W.Looks M h (Builtin.ObjectAttr.find (.ref x) (.ref D) "__class__") (.bind (.builtin "getset_descriptor.__get__") (.builtin "object.__class__")):=by
 have l1:=W.looks_findIn (M:=M) X k.cl
 have l2:W.Looks M h (Builtin.ObjectAttr.getOf (some (.builtin "object.__class__"))) (some (.builtin "getset_descriptor.__get__")):=W.looks_specialIn X k.gg
 have l3:=W.looks_takesIn (M:=M) X k.tk
 refine l1.andThen (l2.andThen ?_)
 exact(show W.Looks M h (Builtin.ObjectAttr.dataDescriptor? (some (.builtin "object.__class__")) (some (.builtin "getset_descriptor.__get__"))) (some (.builtin "getset_descriptor.__get__",.builtin "object.__class__")) from l3.andThen .now).andThen (W.Looks.tag .now)
open PySem.W Builtin Builtin.ObjectAttr Builtin.Getset_descriptor in
theorem Fe {R:Result->Shared->Prop} {tp:Value} (X:K.In s.heap) (c:OfCls x D s.heap) (hm:W.mroIn K D (.type "object")=some true) (h:R (.ok (.ret (.ref D))) s) :
  codeAny (model prog w) A (.call (.builtin "getset_descriptor.__get__") ⟨[.builtin "object.__class__",.ref x,tp],[]⟩) R s:=by
 obtain⟨hh,g,dr,t,os⟩:=s
 have L0:=c.type (M:=model prog w)
 have L1:=W.looks_mroIn (M:=model prog w) X hm
 refine codeAny_call_builtin KF.slot_gs.plain KF.entry_gs (KF.slot_gs.check _ _ _ _ _ _ _ _ KF.type_class (KF.args_gs _ _ _) ?_)
 unfold Builtin.«getset_descriptor.__get__» descrGet
 rw[dga_obj];apply wpAny_bind
 apply wpAny_pure
 unfold descrGetter descrCheckInstance descrNameAndClass isInstance;simp only [KF.owner_class]
 repeat lk
 refine⟨Code.quiet_builtin _ Zk,codeAny_builtin KF.entry_class ?_⟩
 unfold Builtin.«object.__class__» shownTypeOf
 repeat lk
 exact h
theorem Ff {Q:Option Value->Shared->Prop} (X:K.In s.heap) (c:OfCls x D s.heap) (k:tK K D) (h:Q (some (.ref D)) {s with toks:=s.toks+1 }):wpAny (model prog w) A (getAttr? (.ref x) "__class__") Q E s:=by
 obtain⟨hh,g,d,t,os⟩:=s
 have L0:=c.type (M:=model prog w)
 have L1:=W.looks_findIn (M:=model prog w) X k.ga
 have L2:=W.looks_findIn (M:=model prog w) X k.gx
 have L3:=Ak (M:=model prog w) (x:=x) X k
 have LI:W.Looks (model prog w) hh (isInstance (.ref x) (.type "BaseException")) true:=L0.andThen (W.looks_mroIn X k.mb)
 unfold getAttr? getAttrBy? getAttrBy
 refine wpAny_bind (wpAny_mkText (wpAny_bind (wpAny_attempt (wpAny_holding (wpAny_bind (L0.at (wpAny_bind (L1.at ?_))))))))
 dsimp only;have hx0:(Value.builtin "BaseException.__getattribute__" == Value.builtin "object.__getattribute__")=false:=by decide +kernel
 have hx1:(onTheHeap (Value.ref D)&&Value.builtin "BaseException.__getattribute__" == Value.builtin "object.__getattribute__")=false:=by rw[hx0];rfl
 rw[if_neg (by rw[hx1];exact Bool.false_ne_true)]
 unfold getAttrByItsOwn hookBefore;rw[if_pos (show onTheHeap (Value.ref D)=true from rfl)];refine wpAny_bind (L2.at ?_)
 refine wpAny_bind (wpAny_attempt (wpAny_holding ?_))
 unfold callGetattribute;rw[if_neg Zd]
 unfold boundAndCalled;refine wpAny_bind (wpAny_of_eq (F.excAttr_ValueError.ga.bind _) ?_)
 show wpAny _ _ (call (.builtin "BaseException.__getattribute__") [.ref x,.str "__class__" t]) _ _ _
 refine wpAny_call (codeAny_call_builtin F.excAttr_ValueError.ga.plain F.entry_bexc_ga (Fd LI ?_))
 unfold Builtin.«object.__getattribute__»
 refine wpAny_bind (wpAny_of_eq (a:=(Value.ref x,[Value.str "__class__" t])) rfl ?_)
 dsimp only;refine wpAny_bind (wpAny_pure (wpAny_bind (L0.at (wpAny_bind (L3.at ?_)))))
 dsimp only;show wpAny _ _ (holding [Value.builtin "object.__class__"] (call (.builtin "getset_descriptor.__get__") [.builtin "object.__class__",.ref x,.ref D]) >>= ret) _ _ _
 refine wpAny_bind (wpAny_holding (wpAny_call (Fe (s:=⟨hh,g,d,t+1,os⟩) X c k.mo ?_)))
 refine wpAny_pure ?_
 show wpAny _ _ (handedOut (.ref D)) _ _ _
 exact wpAny_pure (wpAny_pure h)
theorem rB (k:tK K D):W.KitX K (.ref x) (.ref D) (OfCls x D) where
 ty:=fun _ _ _ c=>c.type
 it:=fun _ _ X _=>by
  obtain⟨cdD,hcD⟩:=Option.isSome_iff_exists.mp k.ci
  unfold W.clsIn at hcD;split at hcD
  ·rename_i c' d' cd' sl' ho
   intro A' Q' E' s' k' q;unfold isType loadHead;exact wpAny_bind (wpAny_loadPart (k' _ _ (X _ _ ho)) (wpAny_pure q))
  ·cases hcD
 ne:=fun h tp dd its n sl X htp=>by
  obtain⟨cdD,hcD⟩:=Option.isSome_iff_exists.mp k.ci
  refine Bool.eq_false_iff.mpr fun q=>?_
  have e:D=tp:=Value.ref.inj (beq_iff_eq.mp q)
  subst e;unfold W.clsIn at hcD;split at hcD
  ·rename_i c' d' cd' sl' ho
   rw[X _ _ ho]at htp;cases htp
  ·cases hcD
 ca:=fun X c q=>Ff X c k q
end
def Yu (K:W.Frag) (H:Hp) (D:Addr) (c:V) (b:Bool):Prop:=match c with
 | .ref t=>(∃xs:List Addr,H t=some (.tup (xs.map V.ref))/\W.kitAny K (.ref D) (xs.map Value.ref)=some b)∨W.kitOne K (.ref D) (.ref t)=some b
 | .ty n=>W.kitOne K (.ref D) (.type n)=some b
 | _=>False
def Us (K:W.Frag):List V->Hp->VK->Prop:=fun vs H Q=>match vs with
 | [.ref a,c]=>∃D b od,H a=some (.ext (rY a (.ref D) od))/\tK K D/\Yu K H D c b/\Q (.bl b) H
 | _=>False
theorem tL:∀ {xs:List Addr} {us:List Value},Vals (xs.map V.ref) us->us=xs.map Value.ref
 | [],[],_=>rfl
 | x::xs,u::us,.cons r rs=>by
  cases r
  rw[tL rs];rfl
section
variable {X:Cx}
theorem Yv:CallR X (.builtin "isinstance") (Us X.K):=by
 intro pins s σ H xs us Q I r h;unfold Us at h;split at h
 ·rename_i a c
  obtain⟨D,b,od,e,k,ans,q⟩:=h
  obtain⟨⟨o,vs,h1,h2,h3⟩,_⟩:=(show ObjOk X.prog X.w H s.heap a (.ext (rY a (.ref D) od)) from I.hok a _ e)
  have oc:OfCls a D s.heap:=⟨o,h1,h2⟩
  cases r with
  | cons ra r2=>
   cases r2 with
   | cons rc r3=>
    cases r3
    cases ra
    cases c with
    | ref t=>
     cases rc
     rcases ans with⟨ys,et,ka⟩ | ko
     ·obtain⟨_,its,rv,⟨ot,ht,hc,n,hd⟩⟩:=(show ObjOk X.prog X.w H s.heap t (.tup (ys.map V.ref)) from I.hok t _ et)
      obtain rfl:=tL rv
      obtain⟨c0,dd,dat,sl⟩:=ot
      dsimp only at hc hd
      subst hc hd;exact W.kia_tup (rB k) I.kIn oc ht ka (by intro z;cases z) fun tk=>⟨.bl b,H,I.tok _,rfl,q⟩
     ·exact W.kia_one (rB k) I.kIn oc ko (by intro z;cases z) fun tk=>⟨.bl b,H,I.tok _,rfl,q⟩
    | ty n=>
     cases rc
     exact W.kia_one (rB k) I.kIn oc ans (by intro z;cases z) fun tk=>⟨.bl b,H,I.tok _,rfl,q⟩
    | _=>exact ans.elim
 ·exact h.elim
end
namespace R
section
variable {X:Cx} {x n c:Str} {C:Addr} {E:XK} {e:Expr} {es:List Expr} {t:TA} {np cpos pos p hpos:Pos} {m i:Nat} {ps:List Str} {sp:Sp} {Ex:St->Value->Option Addr->Hp->Prop} {K:W.Frag} {body suite:List Stmt} {s0:Stmt} {tb:(St->Value->Option Addr->Hp->Prop)->TS} {th:TS}
theorem bg (hK:X.K=K:=by rfl):XC X (.builtin "isinstance") (Us K):=hK ▸ ⟨Yv⟩
theorem fh (cx:XCls X.K X.mg x C) (hl:Aj X E) (hg:Gl X x) (ha:XA X (e::es) t) (hc:X.calm=true:=by rfl) (hs:aT e=true:=by rfl) (h2:es.all aT=true:=by rfl) (hdb:(x == ("__debug__":Str))=false:=by decide) :
  XS X (.Raise (some (.Call (.Name x np) (e::es) [] cpos)) none pos) (Je C E t):=⟨Jf cx hl hc hg ha.h hs h2 hdb⟩
theorem ic (c:jM X.prog X.w X.K X.mg X.base m x ps sp) (hr:Room m X.A) (hg:Gl X x) (hx:Jg X Ex) (ha:XA X (e::es) t) (hs:aT e=true:=by rfl) (h2:es.all aT=true:=by rfl) (hdb:(x == ("__debug__":Str))=false:=by decide) :
  XE X (.Call (.Name x p) (e::es) [] pos) (Ys sp Ex t):=⟨Uq c hr hg hx ha.h hs h2 hdb⟩
theorem iy (hm:X.mg c=some (.ref C)) (hg:Gl X c) (hN:X.N.Nodup) (hb:∀pn Ex,XB (X.trying pn Ex) body (tb Ex)) (hs:∀a,XB (X.handling a) (s0::suite) th) (hK:X.K=K:=by rfl) (hi:X.N[i]?=some n:=by rfl) (hx:X.env.kindOf n=some .local:=by rfl) (hl:Gq X.env.scope n:=by first | exact Or.inl rfl | exact Or.inr rfl)
  (hfn:X.fn n=true∨X.env.scope.names.lookup n=some .local:=by first | exact .inl rfl | exact .inr rfl) (hst:X.stack=X.env::X.outer:=by rfl) (hf:X.env.frame=some X.env.locals:=by rfl) (hex:X.ex=[]:=by rfl) (hdb:(c == ("__debug__":Str))=false:=by decide) :
  XS X (.Try body [.ExceptHandler (some (.Name c p)) (some n) (s0::suite) hpos] [] [] pos) (Yt K C i tb th):=hK ▸ ⟨Ur hN hi hx hl hfn hst hf hex hg hm hdb (fun pn Ex=>(hb pn Ex).h) fun a=>(hs a).h⟩
end
end R
end L2
namespace L2
open PySem PySem.Spec PyProof.Rows
theorem rZ:bootBuiltins "ValueError"=some (.type "ValueError"):=by decide +kernel
theorem R.dq {X:Cx} {x:Str} {n:String} {pos:Pos} (hg:Gl X x) (hm:X.mg x=none) (hv:bootBuiltins x=some (.type n)) (hn:x≠"__name__":=by decide) (hd:(x == ("__debug__":Str))=false:=by decide):XE X (.Name x pos) (tC (.ty n)):=⟨Bs hg hm hv rfl hn hd⟩
def Cu (C:Addr):Sp:=fun vs H Q E=>∃z,vs=[.str z]/\z.length<=900/\(bE (jA z)=true->∀p H',Same H H'->H' p=some (.tup (jA z))->Q (.ref p) H')/\(bE (jA z)=false->∀H',Same H H'->E (.ref C) none H')
theorem vK {z:Str} {ws:List Str} {lw:Str} (h:Txt.split z (tx [32])=ws++[lw]):jA z=ws.map V.str++[bA (aK lw)]:=by
 have em:(ws++[lw]).map V.str=ws.map V.str++[.str lw]:=by rw[hW];rfl
 unfold jA;rw[h,em,yA,xN];rfl
end L2
namespace L2
open PySem PySem.Spec PyProof.Rows
section
variable {X:Cx}
def Qu:R2:=fun x y H Q=>mR x fun l=>mI y fun k=>∃xs,H l=some (.lst xs)/\0<=k/\k<=1000/\xs.length*k.toNat<=1000/\∀p,H p=none->Q (.ref p) (aJ H p (.lst (List.replicate k.toNat xs).flatten))
theorem R.eo:hZ X (binaryOp .Mult) Qu:=⟨Td.imp fun x y H Q h=>by
 unfold Qu at h;rw[bY]at h;obtain⟨l,rfl,h⟩:=h
 rw[kQ]at h;obtain⟨k,rfl,xs,h1,h2,h3,h4,h5⟩:=h
 exact⟨l,k,xs,rfl,rfl,h1,Zo,Zo,cH h4,h5⟩⟩
theorem R.fj (hc:X.calm=true):XC X (.builtin "min") (fun vs H Q=>match vs with | [.int i,.int j]=>Q (.int (if j<i then j else i)) H | _=>False):=⟨(Ec hc).imp fun vs H Q h=>by
 split at h
 ·exact⟨_,_,rfl,h⟩
 ·exact h.elim⟩
end
inductive DW (one other nm:Str) (n:Int):Str->List V->List (Str × Int)->List (Str × List V)->Prop
 | add:DW one other nm n "add" [.str "add",.str nm,.int n] [(nm,n)] []
 | take:DW one other nm n "take" [.str "take",.str nm,.int n] [(nm,-n)] []
 | move:DW one other nm n "move" [.str "move",.str one,.str other,.int n] [(one,-n),(other,n)] []
 | send:DW one other nm n "send" [.str "send",.str one,.str nm,.int n] [(nm,-n)] [(one,[.str "add",.str nm,.int n])]
 | fetch:DW one other nm n "fetch" [.str "fetch",.str one,.str nm,.int n] [(nm,n)] [(one,[.str "take",.str nm,.int n])]
 | pass:DW one other nm n "pass" [.str "pass",.str one,.str other,.str nm,.int n] [] [(one,[.str "take",.str nm,.int n]),(other,[.str "add",.str nm,.int n])]
structure DWX (wd:Str) (xs:List V) (cs:List (Str × Int)) (as:List (Str × List V)):Prop where
 ex:∃one other nm n,DW one other nm n wd xs cs as
def Yw (H:Hp) (q:Str × List V) (v:V):Prop:=∃a d,v=.ref a/\H a=some (.tup [.str q.1,.ref d])/\H d=some (.tup q.2)
def Jh:Sp:=fun vs H Q _=>∃p wd xs cs as,vs=[.ref p]/\H p=some (.tup xs)/\DWX wd xs cs as/\∀t us H',Same H H'->H' t=some (.tup us)->Paired (Yw H') as us->Q (.ref t) H'
end L2
namespace L2
open PySem PySem.Spec PyProof.Rows
def Ji:Bool->String | true=>"list_iterator" | false=>"tuple_iterator"
def nX (k:Bool) (a:Addr):Obj:={cls:=.type (Ji k),data:=.fields #[.ref a,.int 0 0] }
def ItAt (k:Bool) (h:Heap) (it a:Addr) (i:Nat):Prop:=∃o,h.get? it=some o/\o.cls=.type (Ji k)/\o.data=.fields #[.ref a,.int i 0]
def SeqIn (k:Bool) (h:Heap) (a:Addr) (vs:Array Value):Prop:=match k with | true=>h.IsList a vs | false=>h.IsTuple a vs
theorem ItAt.by {k:Bool} {h h':Heap} {it a:Addr} {i:Nat} (x:ItAt k h it a i) (g:∀o,h.get? it=some o->h'.get? it=some o):ItAt k h' it a i:=let ⟨o,e,r⟩:=x;⟨o,g o e,r⟩
theorem SeqIn.by {k:Bool} {h h':Heap} {a:Addr} {vs:Array Value} (x:SeqIn k h a vs) (g:∀o,h.get? a=some o->h'.get? a=some o):SeqIn k h' a vs:=by
 cases k
 ·obtain⟨o,e,r⟩:=x;exact⟨o,g o e,r⟩
 ·obtain⟨o,e,r⟩:=x;exact⟨o,g o e,r⟩
theorem SeqIn.lt {k:Bool} {h:Heap} {a:Addr} {vs:Array Value} (x:SeqIn k h a vs):a<h.objs.size:=by
 cases k
 ·obtain⟨o,e,r⟩:=x;exact Heap.lt_size e
 ·obtain⟨o,e,r⟩:=x;exact Heap.lt_size e
section
variable {prog:Program} {w:World} {A:Around} {E:Value->Shared->Prop} {s:Shared}
theorem Jj {k:Bool} {a:Addr} {vs:Array Value} {Q:Value->Shared->Prop} (h:SeqIn k s.heap a vs) (q:Q (.ref s.heap.objs.size) {s with heap:=s.heap.push (nX k a) }):wpAny (model prog w) A (pyIter (.ref a)) Q E s:=by
 cases k
 ·exact wpAny_pyIter_tuple (show s.heap.IsTuple a vs from h) q
 ·exact wpAny_pyIter_list (show s.heap.IsList a vs from h) q
theorem vL {k:Bool} {it a:Addr} {i:Nat} {vs:Array Value} {x:Value} {Q:Value->Shared->Prop} (hit:ItAt k s.heap it a i) (hs:SeqIn k s.heap a vs) (hx:vs[i]?=some x)
  (q:∀h',ItAt k h' it a (i+1)->Heap.SameBut it s.heap h'->Q x {s with heap:=h' }):wpAny (model prog w) A (Builtin.SmallTypes.nextOf (.ref it)) Q E s:=by
 cases k with
 | true=>exact wpAny_nextOf_list_item (show s.heap.IsListIter it a i from hit) (show s.heap.IsList a vs from hs) hx q
 | false=>
  have hit':s.heap.IsTupleIter it a i:=hit
  obtain⟨o,ho,hc,hd⟩:=hit
  obtain⟨ol,hol,_,nl,hdl⟩:=hs
  unfold Builtin.SmallTypes.nextOf;refine wpAny_bind (wpAny_callSpecial?_slot (name:=Str.ofString "__next__") hit'.typeIs F.slot_tuple_iterator_next (wpAny_call_entry F.slot_tuple_iterator_next hit'.typeIs F.entry_tuple_iterator_next ?_ (F.args_tuple_iterator_next_1 _)))
  show wpAny (model prog w) _ (field (.ref it) 0 >>= _) _ _ s
  refine wpAny_bind (wpAny_field ho hd (x:=.ref a) rfl ?_)
  show wpAny (model prog w) _ (if (Value.ref a == Value.none)=true then _ else _) _ _ s
  rw[if_neg (show ¬ ((Value.ref a == Value.none)=true) from Bool.false_ne_true)];show wpAny (model prog w) _ (field (.ref it) 1 >>= _) _ _ s
  refine wpAny_bind (wpAny_field (x:=.int i 0) ho hd rfl ?_)
  show wpAny (model prog w) _ (seqItems? (.ref a) >>= _) _ _ s
  refine wpAny_bind (wpAny_seqItems (hol) hdl ?_)
  simp only [hx,Int.toNat_natCast]
  refine wpAny_bind (wpAny_setField ho hd Zs (wpAny_pure ⟨x,rfl,wpAny_pure (q _ ?_ (Heap.SameBut.update ..))⟩))
  exact⟨_,Heap.get?_update_self _ ho (Obj.isFreed_of_fields (Obj.data_mapFields hd _)),(Obj.cls_mapFields ..).trans hc,by rw[Obj.data_mapFields hd];simp [rawInt]⟩
theorem Jk {k:Bool} {it a:Addr} {i:Nat} {vs:Array Value} {Q:Value->Shared->Prop} (hh:A.handled=none) (hit:ItAt k s.heap it a i) (hs:SeqIn k s.heap a vs) (hx:vs[i]?=none)
  (hE:∀h' e,Heap.ExtBut it s.heap h'->(∃o,h'.get? e=some o/\o.cls=.type "StopIteration")->E (.ref e) {s with heap:=h' }):wpAny (model prog w) A (Builtin.SmallTypes.nextOf (.ref it)) Q E s:=by
 cases k with
 | true=>exact wpAny_nextOf_list_end hh (show s.heap.IsListIter it a i from hit) (show s.heap.IsList a vs from hs) hx hE
 | false=>
  have hit':s.heap.IsTupleIter it a i:=hit
  obtain⟨o,ho,hc,hd⟩:=hit
  obtain⟨ol,hol,_,nl,hdl⟩:=hs
  unfold Builtin.SmallTypes.nextOf;refine wpAny_bind (wpAny_callSpecial?_slot (name:=Str.ofString "__next__") hit'.typeIs F.slot_tuple_iterator_next (wpAny_call_entry F.slot_tuple_iterator_next hit'.typeIs F.entry_tuple_iterator_next ?_ (F.args_tuple_iterator_next_1 _)))
  show wpAny (model prog w) _ (field (.ref it) 0 >>= _) _ _ s
  refine wpAny_bind (wpAny_field ho hd (x:=.ref a) rfl ?_)
  show wpAny (model prog w) _ (if (Value.ref a == Value.none)=true then _ else _) _ _ s
  rw[if_neg (show ¬ ((Value.ref a == Value.none)=true) from Bool.false_ne_true)];show wpAny (model prog w) _ (field (.ref it) 1 >>= _) _ _ s
  refine wpAny_bind (wpAny_field (x:=.int i 0) ho hd rfl ?_)
  show wpAny (model prog w) _ (seqItems? (.ref a) >>= _) _ _ s
  refine wpAny_bind (wpAny_seqItems (hol) hdl ?_)
  simp only [hx,Int.toNat_natCast]
  refine wpAny_bind (wpAny_rule (wpAny_bind (wpAny_setField (ho) hd Zs ?_)))
  show wpAny (model prog w) _ (newExc (.type "StopIteration") [] >>= _) _ _ _
  refine wpAny_bind ?_
  simp only [newTuple,newExc]
  refine wpAny_bind (wpAny_newObj_type ?_ (by size_fits))
  refine wpAny_bind (m:=firstArgMember _ _) (wpAny_of_eq (a:=Value.none) (by first | rfl | (simp only [firstArgMember];rfl)) ?_)
  refine wpAny_newObj_type ?_ (by size_fits)
  simp only [raiseNew]
  refine wpAny_bind (wpAny_handled ?_)
  first | rw[show A.in1.handled=none from(hh)] | rw[hh]
  refine wpAny_bind (wpAny_pure (wpAny_throw ?_))
  exact hE _ _ (((Heap.SameBut.update ..).extBut.push _).push _) ⟨_,Heap.get?_push_size _ rfl,rfl⟩
structure Ob (z ti to j1 j2 a1 a2:Addr):Prop where
 i:ti≠z
 o:to≠z
 p:j1≠z
 q:j2≠z
 io:ti≠to
 ip:ti≠j1
 iq:ti≠j2
 op:to≠j1
 oq:to≠j2
 pq:j1≠j2
 a:∀b,b=a1∨b=a2->b≠z/\b≠to/\b≠j1/\b≠j2
structure Yx (k1 k2:Bool) (h:Heap) (z ti to j1 j2 a1 a2:Addr) (f0:Value) (n1 n2:Nat):Prop where
 z:IsZip h z ti to f0
 i:IsPair h ti (.ref j1) (.ref j2)
 o:∃a b,IsPair h to a b
 x:ItAt k1 h j1 a1 n1
 y:ItAt k2 h j2 a2 n2
theorem Oc {k1 k2:Bool} {z ti to j1 j2 a1 a2:Addr} {n:Nat} {xs ys:Array Value} {x y:Value} {Q:Value->Shared->Prop} (D:Ob z ti to j1 j2 a1 a2) (S:Yx k1 k2 s.heap z ti to j1 j2 a1 a2 .none n n)
  (hl1:SeqIn k1 s.heap a1 xs) (hl2:SeqIn k2 s.heap a2 ys) (hx:xs[n]?=some x) (hy:ys[n]?=some y)
  (hQ:∀h',Yx k1 k2 h' z ti to j1 j2 a1 a2 (rawInt s.heap.objs.size) (n+1) (n+1)->IsPair h' s.heap.objs.size x y->h'.objs.size=s.heap.objs.size+1 →
   (∀c o,c≠z->c≠to->c≠j1->c≠j2->s.heap.get? c=some o->h'.get? c=some o)->Q (.ref s.heap.objs.size) {s with heap:=h' }) :
  wpAny (model prog w) A (Builtin.«zip.__next__» ⟨[.ref z],[]⟩) (fun fin s'=>∃v,fin=.done (.ret v)/\Q v s') E s:=by
 obtain⟨hz,hI,⟨u1,u2,hO⟩,h1,h2⟩:=S
 obtain⟨c1z,c1o,c1p,c1q⟩:=D.a a1 (.inl rfl)
 obtain⟨c2z,c2o,c2p,c2q⟩:=D.a a2 (.inr rfl)
 show wpAny (model prog w) _ (field (.ref z) 2 >>= _) _ _ _
 refine wpAny_bind (wpAny_field (x:=.bool false) hz rfl rfl ?_)
 show wpAny (model prog w) _ (field (.ref z) 3 >>= _) _ _ _
 refine wpAny_bind (wpAny_field (x:=.ref ti) hz rfl rfl ?_)
 refine wpAny_bind (wpAny_seqItems hI rfl ?_)
 show wpAny (model prog w) _ (Builtin.SmallTypes.ownedTupleIsFree (.ref z) >>= _) _ _ _
 refine wpAny_bind ?_
 unfold Builtin.SmallTypes.ownedTupleIsFree;refine wpAny_bind (wpAny_field (x:=.none) hz rfl rfl (wpAny_pure ?_))
 simp only [if_true]
 refine wpAny_bind (wpAny_rule ?_)
 refine wpAny_bind (wpAny_field (x:=.ref to) hz rfl rfl ?_)
 refine wpAny_bind (wpAny_setField_rec hz Zs fun g1 z1 b1=>?_)
 have z1:IsZip g1 z ti to .ellipsis:=z1
 refine wpAny_bind ?_
 simp only [List.zipIdx_nil,List.zipIdx_cons,List.forIn_nil,List.forIn_cons]
 refine wpAny_bind (wpAny_bind (wpAny_onRaise ?_))
 show wpAny (model prog w) _ (Builtin.SmallTypes.nextOf (.ref j1) >>= _) _ _ _
 refine wpAny_bind (vL (h1.by fun o e=>b1.extBut _ _ D.p e) (hl1.by fun o e=>b1.extBut _ _ c1z e) hx fun g2 i2 b2=>wpAny_pure ?_)
 have o2:IsPair g2 to u1 u2:=b2.extBut _ _ D.op (b1.extBut _ _ D.o hO)
 refine wpAny_bind (wpAny_seqItems o2 rfl ?_)
 refine wpAny_bind (wpAny_updateSeq_pair o2 fun g3 o3 b3=>?_)
 have o3:IsPair g3 to x u2:=o3
 refine wpAny_bind (wpAny_letGo (wpAny_pure ?_))
 refine wpAny_bind (wpAny_bind (wpAny_onRaise ?_))
 show wpAny (model prog w) _ (Builtin.SmallTypes.nextOf (.ref j2) >>= _) _ _ _
 refine wpAny_bind (vL (h2.by fun o e=>b3.extBut _ _ D.oq.symm (b2.extBut _ _ D.pq.symm (b1.extBut _ _ D.q e))) (hl2.by fun o e=>b3.extBut _ _ c2o (b2.extBut _ _ c2p (b1.extBut _ _ c2z e))) hy fun g4 i4 b4=>wpAny_pure ?_)
 have o4:IsPair g4 to x u2:=b4.extBut _ _ D.oq o3
 refine wpAny_bind (wpAny_seqItems o4 rfl ?_)
 refine wpAny_bind (wpAny_updateSeq_pair o4 fun g5 o5 b5=>?_)
 have o5:IsPair g5 to x y:=o5
 refine wpAny_bind (wpAny_letGo (wpAny_pure (wpAny_pure ?_)))
 refine wpAny_bind (wpAny_seqItems o5 rfl ?_)
 refine wpAny_bind (wpAny_newTuple ?_)
 have hsz:g5.objs.size=s.heap.objs.size:=by rw[b5.1,b4.1,b3.1,b2.1,b1.1]
 have z5:IsZip g5 z ti to .ellipsis:=b5.extBut _ _ D.o.symm (b4.extBut _ _ D.q.symm (b3.extBut _ _ D.o.symm (b2.extBut _ _ D.p.symm z1)))
 have hk5:∀c o,c≠z->c≠to->c≠j1->c≠j2->s.heap.get? c=some o->g5.get? c=some o:=fun c o n1 n2 n3 n4 e=>b5.extBut _ _ n2 (b4.extBut _ _ n4 (b3.extBut _ _ n2 (b2.extBut _ _ n3 (b1.extBut _ _ n1 e))))
 have i5:ItAt k1 g5 j1 a1 (n+1):=i2.by fun o e=>b5.extBut _ _ D.op.symm (b4.extBut _ _ D.pq (b3.extBut _ _ D.op.symm e))
 have j5:ItAt k2 g5 j2 a2 (n+1):=i4.by fun o e=>b5.extBut _ _ D.oq.symm e
 have zlt:z<g5.objs.size:=Heap.lt_size z5
 show wpAny (model prog w) _ (Builtin.SmallTypes.ownedTupleHandOut (.ref z) (.ref g5.objs.size) >>= _) _ _ _
 refine wpAny_bind ?_
 unfold Builtin.SmallTypes.ownedTupleHandOut;have z6:IsZip (g5.push {cls:=.type "tuple",data:=.seq #[x,y] }) z ti to .ellipsis:=iV _ z5
 refine wpAny_bind (wpAny_setField_rec z6 Zs fun g7 z7 b7=>?_)
 have z7:IsZip g7 z ti to (rawInt g5.objs.size):=z7
 refine wpAny_setField_rec z7 Zs fun g8 z8 b8=>?_
 have z8:IsZip g8 z ti to (rawInt g5.objs.size):=z8
 have up:∀c o,c≠z->g5.get? c=some o->g8.get? c=some o:=fun c o n1 e=>b8.extBut _ _ n1 (b7.extBut _ _ n1 (iV _ e))
 have t8:IsPair g8 g5.objs.size x y:=b8.extBut _ _ (Nat.ne_of_gt zlt) (b7.extBut _ _ (Nat.ne_of_gt zlt) (Heap.get?_push_size _ rfl))
 have s8:g8.objs.size=g5.objs.size+1:=by rw[b8.1,b7.1,Heap.size_push]
 rw[hsz]at z8 t8 s8;refine wpAny_pure ⟨_,rfl,?_⟩
 show Q (.ref g5.objs.size) _
 rw[hsz];exact hQ g8 ⟨z8,up _ _ D.i (hk5 _ _ D.i D.io D.ip D.iq hI),⟨_,_,up _ _ D.o o5⟩,i5.by fun o e=>up _ o D.p e,j5.by fun o e=>up _ o D.q e⟩ t8 s8 fun c o n1 n2 n3 n4 e=>up c o n1 (hk5 c o n1 n2 n3 n4 e)
theorem Ut {k1 k2:Bool} {z ti to j1 j2 a1 a2:Addr} {n:Nat} {xs ys:Array Value} {Q:Fin->Shared->Prop} (hh:A.handled=none) (D:Ob z ti to j1 j2 a1 a2) (S:Yx k1 k2 s.heap z ti to j1 j2 a1 a2 .none n n)
  (hl1:SeqIn k1 s.heap a1 xs) (hl2:SeqIn k2 s.heap a2 ys) (hend:xs[n]?=none∨ys[n]?=none)
  (hE:∀h' e,(∀c o,c≠z->c≠to->c≠j1->c≠j2->s.heap.get? c=some o->h'.get? c=some o)->(∃o,h'.get? e=some o/\o.cls=.type "StopIteration")->E (.ref e) {s with heap:=h' }) :
  wpAny (model prog w) A (Builtin.«zip.__next__» ⟨[.ref z],[]⟩) Q E s:=by
 obtain⟨hz,hI,⟨u1,u2,hO⟩,h1,h2⟩:=S
 obtain⟨c1z,c1o,c1p,c1q⟩:=D.a a1 (.inl rfl)
 obtain⟨c2z,c2o,c2p,c2q⟩:=D.a a2 (.inr rfl)
 show wpAny (model prog w) _ (field (.ref z) 2 >>= _) _ _ _
 refine wpAny_bind (wpAny_field (x:=.bool false) hz rfl rfl ?_)
 show wpAny (model prog w) _ (field (.ref z) 3 >>= _) _ _ _
 refine wpAny_bind (wpAny_field (x:=.ref ti) hz rfl rfl ?_)
 refine wpAny_bind (wpAny_seqItems hI rfl ?_)
 show wpAny (model prog w) _ (Builtin.SmallTypes.ownedTupleIsFree (.ref z) >>= _) _ _ _
 refine wpAny_bind ?_
 unfold Builtin.SmallTypes.ownedTupleIsFree;refine wpAny_bind (wpAny_field (x:=.none) hz rfl rfl (wpAny_pure ?_))
 simp only [if_true]
 refine wpAny_bind (wpAny_rule ?_)
 refine wpAny_bind (wpAny_field (x:=.ref to) hz rfl rfl ?_)
 refine wpAny_bind (wpAny_setField_rec hz Zs fun g1 z1 b1=>?_)
 have z1:IsZip g1 z ti to .ellipsis:=z1
 refine wpAny_bind ?_
 simp only [List.zipIdx_nil,List.zipIdx_cons,List.forIn_nil,List.forIn_cons]
 refine wpAny_bind (wpAny_bind (wpAny_onRaise ?_))
 show wpAny (model prog w) _ (Builtin.SmallTypes.nextOf (.ref j1) >>= _) _ _ _
 cases hx:xs[n]? with
 | none=>
  refine wpAny_bind (Jk hh (h1.by fun o e=>b1.extBut _ _ D.p e) (hl1.by fun o e=>b1.extBut _ _ c1z e) hx fun g2 e b2 he=>?_)
  obtain⟨oe,hoe,hce⟩:=he
  have z2:IsZip g2 z ti to .ellipsis:=b2 _ _ D.p.symm z1
  have ne:e≠z:=fun(q:e=z)=>by subst q;rw[z2]at hoe;cases hoe;simp at hce
  exact wpAny_setField_rec z2 Zs fun g3 _ b3=>hE g3 e (fun c o n1 _ n3 _ q=>b3.extBut _ _ n1 (b2 _ _ n3 (b1.extBut _ _ n1 q))) ⟨oe,b3.extBut _ _ ne hoe,hce⟩
 | some x=>
  have hy:ys[n]?=none:=hend.resolve_left (by rw[hx];exact fun q=>nomatch q)
  refine wpAny_bind (vL (h1.by fun o e=>b1.extBut _ _ D.p e) (hl1.by fun o e=>b1.extBut _ _ c1z e) hx fun g2 i2 b2=>wpAny_pure ?_)
  have o2:IsPair g2 to u1 u2:=b2.extBut _ _ D.op (b1.extBut _ _ D.o hO)
  refine wpAny_bind (wpAny_seqItems o2 rfl ?_)
  refine wpAny_bind (wpAny_updateSeq_pair o2 fun g3 o3 b3=>?_)
  refine wpAny_bind (wpAny_letGo (wpAny_pure ?_))
  refine wpAny_bind (wpAny_bind (wpAny_onRaise ?_))
  show wpAny (model prog w) _ (Builtin.SmallTypes.nextOf (.ref j2) >>= _) _ _ _
  refine wpAny_bind (Jk hh (h2.by fun o e=>b3.extBut _ _ D.oq.symm (b2.extBut _ _ D.pq.symm (b1.extBut _ _ D.q e))) (hl2.by fun o e=>b3.extBut _ _ c2o (b2.extBut _ _ c2p (b1.extBut _ _ c2z e))) hy fun g4 e b4 he=>?_)
  obtain⟨oe,hoe,hce⟩:=he
  have z4:IsZip g4 z ti to .ellipsis:=b4 _ _ D.q.symm (b3.extBut _ _ D.o.symm (b2.extBut _ _ D.p.symm z1))
  have ne:e≠z:=fun(q:e=z)=>by subst q;rw[z4]at hoe;cases hoe;simp at hce
  exact wpAny_setField_rec z4 Zs fun g5 _ b5=>hE g5 e (fun c o n1 n2 n3 n4 q=>b5.extBut _ _ n1 (b4 _ _ n4 (b3.extBut _ _ n2 (b2.extBut _ _ n3 (b1.extBut _ _ n1 q))))) ⟨oe,b5.extBut _ _ ne hoe,hce⟩
end
section
variable {X:Cx} {pins:List (Addr × Obj)} {σ:List (Option V)} {H:Hp} {s:Shared} {h':Heap}
theorem Inv.turnLaid {t':Nat} {ch:List Addr} {a:Addr} {o:HO} (I:Inv X pins σ H s) (hf:∀b∈ch,oW X pins H b) (k:∀b u,b∉ch->s.heap.get? b=some u->h'.get? b=some u) (hp:s.heap.objs.size<=a) (new:ObjOk X.prog X.w (aJ H a o) h' a o) :
  Inv X pins σ (aJ H a o) {s with heap:=h',toks:=t' }:=by
 have hn:=I.hok.fresh hp
 have nch:∀b u,H b=some u->b∉ch:=fun b u e z=>by rw[(hf b z).1]at e;cases e
 refine I.step (g':=s.gens) (d':=s.drawn) (ch:=ch) (fun b hb=>⟨(hf b hb).2.2.2.1,(hf b hb).2.1,(hf b hb).2.2.2.2.1,(hf b hb).2.2.2.2.2⟩) (fun b u _ _ hc e _=>k b u hc e) (fun b u _ _ hc e _=>⟨u.slots,k b u hc e⟩)
  (fun b u _ e n=>by rw[aM (Nat.ne_of_lt (Nat.lt_of_lt_of_le (Heap.lt_size e) hp))];exact n) (fun b u hc e=>⟨u,k b u hc e⟩) (fun b xs e=>by rw[aM (aH e hn)];exact e) (fun b v u e=>by rw[aM (aH e hn)];exact e)
  (fun b ps e=>⟨#[],by rw[aM (aH e hn),e];simp⟩) (fun m hm=>?_) (fun b u e=>?_) I.bare
 ·obtain⟨u,es,ep,ho,r⟩:=hm
  exact⟨u,es,ep,k _ u (fun z=>(hf _ z).2.1 rfl) ho,r⟩
 ·by_cases hb:b=a
  ·subst hb;rw[aD]at e;cases e;exact new
  ·rw[aM hb]at e;refine(I.hok b u e).stay (fun c v hc q=>k c v ?_ q) (fun c q=>by rw[aM (aH q hn)];exact q) fun c xs q=>by rw[aM (aH q hn)];exact q
   rcases hc with z | z
   ·rw[z];exact nch b u e
   ·exact nch c _ z
theorem Inv.turnL {t':Nat} {ch:List Addr} (I:Inv X pins σ H s) (hf:∀b∈ch,oW X pins H b) (k:∀b u,b∉ch->s.heap.get? b=some u->h'.get? b=some u):Inv X pins σ H {s with heap:=h',toks:=t' }:=by
 have nch:∀b u,H b=some u->b∉ch:=fun b u e z=>by rw[(hf b z).1]at e;cases e
 refine I.step (g':=s.gens) (d':=s.drawn) (ch:=ch) (fun b hb=>⟨(hf b hb).2.2.2.1,(hf b hb).2.1,(hf b hb).2.2.2.2.1,(hf b hb).2.2.2.2.2⟩) (fun b u _ _ hc e _=>k b u hc e) (fun b u _ _ hc e _=>⟨u.slots,k b u hc e⟩)
  (fun _ _ _ _ n=>n) (fun b u hc e=>⟨u,k b u hc e⟩) (fun _ _ e=>e) (fun _ _ _ e=>e) (fun b ps e=>⟨#[],by rw[e];simp⟩) (fun m hm=>?_) (fun b u e=>?_) I.bare
 ·obtain⟨u,es,ep,ho,r⟩:=hm
  exact⟨u,es,ep,k _ u (fun z=>(hf _ z).2.1 rfl) ho,r⟩
 ·refine(I.hok b u e).stay (fun c v hc q=>k c v ?_ q) (fun _ q=>q) fun _ _ q=>q
  rcases hc with z | z
  ·rw[z];exact nch b u e
  ·exact nch c _ z
end
def Al (K:W.Frag) (k:Bool) (H:Hp) (a:Addr) (xs:List V):Prop:=match k with | true=>SqL K H a xs | false=>SqT K H a xs
def Itz (K:W.Frag) (k1 k2:Bool) (a1 a2:Addr):It:=
  ⟨fun i H=>∃xs ys x y,Al K k1 H a1 xs/\Al K k2 H a2 ys/\xs[i]?=some x/\ys[i]?=some y,
   fun i H v H'=>∃t x y,H t=none/\v=.ref t/\H'=aJ H t (.tup [x,y])/\(∀xs,Al K k1 H a1 xs->xs[i]?=some x)/\∀ys,Al K k2 H a2 ys->ys[i]?=some y,
   fun i H=>∃xs ys,Al K k1 H a1 xs/\Al K k2 H a2 ys/\(xs.length<=i∨ys.length<=i)⟩
theorem Inv.sqk {X:Cx} {pins:List (Addr × Obj)} {σ:St} {H:Hp} {s:Shared} (I:Inv X pins σ H s) {k:Bool} {a:Addr} {xs:List V} (h:Al X.K k H a xs):∃its,Vals xs its/\SeqIn k s.heap a its.toArray:=by
 cases k
 ·obtain⟨its,r,p,_⟩:=I.tuple h
  exact⟨its,r,p⟩
 ·obtain⟨its,r,p,_⟩:=I.list h
  exact⟨its,r,p.isList⟩
theorem Inv.sqk_inj {X:Cx} {pins:List (Addr × Obj)} {σ:St} {H:Hp} {s:Shared} (I:Inv X pins σ H s) {k:Bool} {a:Addr} {xs ys:List V} (h:Al X.K k H a xs) (h2:Al X.K k H a ys):xs=ys:=by
 cases k
 ·exact I.tuple_inj h h2
 ·exact I.list_inj h h2
theorem Jl {P:Program} {w:World} {K:W.Frag} {es:List Expr} {n:Nat} {pos:Pos} {k1 k2:Bool} {z ti to j1 j2 a1 a2:Addr} (D:Ob z ti to j1 j2 a1 a2) :
  uI P w K (.Tuple es n pos) (Itz K k1 k2 a1 a2) [z,ti,to,j1,j2] z (fun i h=>Yx k1 k2 h z ti to j1 j2 a1 a2 .none i i) where
 mem:=by simp
 obj:=fun i h st b hb=>by
  obtain⟨u1,u2,hO⟩:=st.o
  obtain⟨o1,e1,_,d1⟩:=st.x
  obtain⟨o2,e2,_,d2⟩:=st.y
  simp only [List.mem_cons,List.not_mem_nil,or_false]at hb
  rcases hb with rfl | rfl | rfl | rfl | rfl
  ·exact⟨_,st.z,fun v q=>by have q':Data.fields _=Data.cell v:=q;cases q'⟩
  ·exact⟨_,st.i,fun v q=>by have q':Data.seq _ _=Data.cell v:=q;cases q'⟩
  ·exact⟨_,hO,fun v q=>by have q':Data.seq _ _=Data.cell v:=q;cases q'⟩
  ·exact⟨_,e1,fun v q=>by rw[d1]at q;cases q⟩
  ·exact⟨_,e2,fun v q=>by rw[d2]at q;cases q⟩
 keep:=fun i h h' st g=>by
  obtain⟨u1,u2,hO⟩:=st.o
  exact⟨g z Zs _ st.z,g ti Zs _ st.i,⟨u1,u2,g to Zs _ hO⟩,st.x.by fun o e=>g j1 Zs o e,st.y.by fun o e=>g j2 Zs o e⟩
 item:=by
  intro X hP hw hK hc i pins s σ H E I hf st hg;subst hP hw hK;obtain⟨xs,ys,x,y,hx,hy,ex,ey⟩:=hg
  obtain⟨its,rv,p⟩:=I.sqk hx
  obtain⟨jts,rw',p'⟩:=I.sqk hy
  obtain⟨u,hu,ru⟩:=rv.get ex
  obtain⟨v,hv,rv'⟩:=rw'.get ey
  have hT:s.TypeIs (.ref z) "zip":=⟨_,st.z,rfl⟩
  unfold pyNext;refine wpAny_bind (wpAny_attempt (wpAny_callSpecial?_slot (name:=Str.ofString "__next__") hT F.slot_zip_next (wpAny_call_entry F.slot_zip_next hT F.entry_zip_next (Oc D st p p' (by simpa using hu) (by simpa using hv) fun h1 st1 t1 z1 k1'=>wpAny_pure ?_) (F.args_zip_next_1 _))))
  refine⟨_,rfl,?_⟩
  refine wpAny_letOwnedTupleGo_zip st1.z fun h2 z2 b2=>?_
  obtain⟨w1,w2,hO⟩:=st1.o
  have zlt:z<s.heap.objs.size:=Heap.lt_size st.z
  have t2:IsPair h2 s.heap.objs.size u v:=b2.extBut _ _ (Nat.ne_of_gt zlt) t1
  refine⟨.ref s.heap.objs.size,aJ H s.heap.objs.size (.tup [x,y]),I.turnLaid (t':=s.toks) hf (fun b o hb e=>?_) (cL _) ⟨by show 2<=sizeLine;decide,[u,v],.cons ru (.cons rv' .nil),⟨_,t2,rfl,_,rfl⟩⟩,rfl,?_,?_,fun b hb=>?_⟩
  ·have hb':b≠z/\b≠ti/\b≠to/\b≠j1/\b≠j2:=by simpa using hb
   exact b2.extBut _ _ hb'.1 (k1' b o hb'.1 hb'.2.2.1 hb'.2.2.2.1 hb'.2.2.2.2 e)
  ·exact⟨s.heap.objs.size,x,y,I.hok.fresh (cL _),rfl,rfl,fun zs hz=>by rw[I.sqk_inj hz hx];exact ex,fun zs hz=>by rw[I.sqk_inj hz hy];exact ey⟩
  ·exact⟨z2,b2.extBut _ _ D.i st1.i,⟨_,_,b2.extBut _ _ D.o hO⟩,st1.x.by fun o e=>b2.extBut _ _ D.p e,st1.y.by fun o e=>b2.extBut _ _ D.q e⟩
  ·have hlt:b<s.heap.objs.size:=by
    obtain⟨u1,u2,hO'⟩:=st.o
    obtain⟨o1,e1,_⟩:=st.x
    obtain⟨o2,e2,_⟩:=st.y
    simp only [List.mem_cons,List.not_mem_nil,or_false]at hb
    rcases hb with rfl | rfl | rfl | rfl | rfl
    ·exact zlt
    ·exact Heap.lt_size st.i
    ·exact Heap.lt_size hO'
    ·exact Heap.lt_size e1
    ·exact Heap.lt_size e2
   rw[aM (Nat.ne_of_lt hlt)];exact(hf b hb).1
 done:=by
  intro X hP hw hK hc i pins s σ H E I hf st hg;subst hP hw hK;obtain⟨xs,ys,hx,hy,he⟩:=hg
  obtain⟨its,rv,p⟩:=I.sqk hx
  obtain⟨jts,rw',p'⟩:=I.sqk hy
  have hT:s.TypeIs (.ref z) "zip":=⟨_,st.z,rfl⟩
  have l1:=rv.length
  have l2:=rw'.length
  unfold pyNext;refine wpAny_bind (wpAny_attempt (wpAny_callSpecial?_slot (name:=Str.ofString "__next__") hT F.slot_zip_next (wpAny_call_entry F.slot_zip_next hT F.entry_zip_next (Ut (I.ok.hd hc) D st p p' (he.imp (fun h=>by simp;omega) (fun h=>by simp;omega)) fun h1 e k1' hx'=>?_) (F.args_zip_next_1 _))))
  obtain⟨o,ho,hcl⟩:=hx'
  refine wpAny_bind (wpAny_isInstance (T:="StopIteration") (b:=true) ⟨o,ho,hcl⟩ isSubtype_stop ?_)
  refine wpAny_pure ⟨rfl,I.turnL (t':=s.toks) hf fun b u hb e'=>?_⟩
  have hb':b≠z/\b≠ti/\b≠to/\b≠j1/\b≠j2:=by simpa using hb
  exact k1' b u hb'.1 hb'.2.2.1 hb'.2.2.2.1 hb'.2.2.2.2 e'
 self:=fun _ _ _ _ _ st h=>wpAny_pyIter_zip st.z h
def Wj (k1 k2:Bool) (h:Heap) (a1 a2:Addr):Heap:=
 ((((h.push (nX k1 a1)).push (nX k2 a2)).push {cls:=.type "tuple",data:=.seq #[.ref h.objs.size,.ref (h.objs.size+1)] }).push {cls:=.type "tuple",data:=.seq #[.none,.none] }).push {cls:=.type "zip",data:=.fields #[.none,.bool false,.bool false,.ref (h.objs.size+2),.ref (h.objs.size+3)] }
theorem Uu (k1 k2:Bool) (a1 a2:Addr) (xs ys:Array Value) :
  Meets (Builtin.«zip.__new__» ⟨[.type "zip",.ref a1,.ref a2],[]⟩) (fun _ R s=>SeqIn k1 s.heap a1 xs/\SeqIn k2 s.heap a2 ys/\R (.ok (.ret (.ref (s.heap.objs.size+4)))) {s with heap:=Wj k1 k2 s.heap a1 a2 }):=
 .of_wp fun prog w A R s h=>by
  obtain⟨hp,g,d,tk,os⟩:=s;obtain⟨hl1,hl2,h⟩:=h
  have hsub:=sub_zip
  have L1:SeqIn k1 (Shared.heap ⟨hp,g,d,tk,os⟩) a1 xs:=hl1
  have L2:SeqIn k2 (Shared.heap ⟨hp.push (nX k1 a1),g,d,tk,os⟩) a2 ys:=SeqIn.by hl2 fun o e=>iV _ e
  wp_walk using Jj L1,Jj L2
  refine⟨_,rfl,?_⟩
  simp only [Heap.size_push]
  exact h
theorem Uv {n a1 a2:Addr} (h1:a1<n) (h2:a2<n):Ob (n+4) (n+2) (n+3) n (n+1) a1 a2 where
 i:=Nat.ne_of_lt (Nat.add_lt_add_left Zd n)
 o:=Nat.ne_of_lt (Nat.add_lt_add_left Zd n)
 p:=Nat.ne_of_lt (Nat.lt_add_of_pos_right Zd)
 q:=Nat.ne_of_lt (Nat.add_lt_add_left Zd n)
 io:=Nat.ne_of_lt (Nat.add_lt_add_left Zd n)
 ip:=Nat.ne_of_gt (Nat.lt_add_of_pos_right Zd)
 iq:=Nat.ne_of_gt (Nat.add_lt_add_left Zd n)
 op:=Nat.ne_of_gt (Nat.lt_add_of_pos_right Zd)
 oq:=Nat.ne_of_gt (Nat.add_lt_add_left Zd n)
 pq:=Nat.ne_of_lt (Nat.lt_add_of_pos_right Zd)
 a:=fun b hb=>by
  have hlt:b<n:=by rcases hb with rfl | rfl <;> assumption
  exact⟨Nat.ne_of_lt (Nat.lt_of_lt_of_le hlt (Nat.le_add_right n 4)),Nat.ne_of_lt (Nat.lt_of_lt_of_le hlt (Nat.le_add_right n 3)),Nat.ne_of_lt hlt,Nat.ne_of_lt (Nat.lt_of_lt_of_le hlt (Nat.le_add_right n 1))⟩
section
variable {prog:Program} {w:World} {A:Around} {E:Value->Shared->Prop} {s:Shared}
theorem Od {k1 k2:Bool} {a1 a2:Addr} {xs ys:Array Value} {Q:Value->Shared->Prop} (hl1:SeqIn k1 s.heap a1 xs) (hl2:SeqIn k2 s.heap a2 ys)
  (h:∀h',Yx k1 k2 h' (s.heap.objs.size+4) (s.heap.objs.size+2) (s.heap.objs.size+3) s.heap.objs.size (s.heap.objs.size+1) a1 a2 .none 0 0->(∀c o,s.heap.get? c=some o->h'.get? c=some o)->Q (.ref (s.heap.objs.size+4)) {s with heap:=h' }) :
  wpAny (model prog w) A (call (.type "zip") [.ref a1,.ref a2]) Q E s:=by
 refine callType_new F.called_zip Zd (F.typeCall_zip_2 _ _) (F.newCall_zip_2 _ _) (fun obj=>F.args_object_init_3 obj _ _) F.entry_zip_new (Uu k1 k2 a1 a2 xs ys) ⟨hl1,hl2,?_⟩
 have n1:(s.heap.push (nX k1 a1)).objs.size=s.heap.objs.size+1:=Heap.size_push ..
 have n2:((s.heap.push (nX k1 a1)).push (nX k2 a2)).objs.size=s.heap.objs.size+2:=by rw[Heap.size_push,n1]
 have up:∀ {o1 o2 o3 o4 o5:Obj} {b:Addr} {o:Obj},s.heap.get? b=some o->(((((s.heap.push o1).push o2).push o3).push o4).push o5).get? b=some o:=fun e=>iV _ (iV _ (iV _ (iV _ (iV _ e))))
 have at5:∀ {h0:Heap} {o:Obj} {n:Nat},h0.objs.size=n->o.isFreed=false->(h0.push o).get? n=some o:=fun e f=>by subst e;exact Heap.get?_push_size _ f
 have g1:(Wj k1 k2 s.heap a1 a2).get? s.heap.objs.size=some (nX k1 a1):=iV _ (iV _ (iV _ (iV _ (Heap.get?_push_size _ rfl))))
 have g2:(Wj k1 k2 s.heap a1 a2).get? (s.heap.objs.size+1)=some (nX k2 a2):=iV _ (iV _ (iV _ (at5 n1 rfl)))
 have g3:IsPair (Wj k1 k2 s.heap a1 a2) (s.heap.objs.size+2) (.ref s.heap.objs.size) (.ref (s.heap.objs.size+1)):=iV _ (iV _ (at5 n2 rfl))
 have g4:IsPair (Wj k1 k2 s.heap a1 a2) (s.heap.objs.size+3) .none .none:=iV _ (at5 (by rw[Heap.size_push,n2]) rfl)
 have g5:IsZip (Wj k1 k2 s.heap a1 a2) (s.heap.objs.size+4) (s.heap.objs.size+2) (s.heap.objs.size+3) .none:=at5 (by rw[Heap.size_push,Heap.size_push,n2]) rfl
 exact⟨⟨_,g5,rfl⟩,h _ ⟨g5,g3,⟨_,_,g4⟩,⟨_,g1,rfl,rfl⟩,⟨_,g2,rfl,rfl⟩⟩ fun c o e=>up e⟩
end
section
variable {X:Cx} {a b:Expr} {ta tb:TE} {p pos tpos:Pos} {es:List Expr} {n:Nat}
def Yy (K:W.Frag) (ta tb:TE):TI:=fun σ H R=>ta σ H fun x H1=>tb σ H1 fun y H2=>mR x fun a1=>mR y fun a2=>∃k1 k2 xs ys,Al K k1 H2 a1 xs/\Al K k2 H2 a2 ys/\R (Itz K k1 k2 a1 a2) H2
theorem Jm:bootBuiltins "zip"=some (.type "zip"):=by decide +kernel
theorem Uw (hg:Gl X "zip") (hm:X.mg "zip"=none) (ha:PE X a ta) (hb:PE X b tb) (h1:aT a=true) (h2:aT b=true):PI X (.Tuple es n tpos) (.Call (.Name "zip" p) [a,b] [] pos) (Yy X.K ta tb):=by
 intro pins s σ H R I h;have hs:starEach [a,b] X.env=[(false,eval a X.env),(false,eval b X.env)]:=by rw[bG h1,bG h2];rfl
 have hs2:starEach [b] X.env=[(false,eval b X.env)]:=by rw[bG h2];rfl
 have hA:PA X [a,b] (kC ta (kC tb xK)):=vB ha (vB hb uM h2) h1
 refine Call_ (oV I hg hm Jm (PyProof.Rows.callWith_type1 (bX (hA pos pins s σ H (fun vs H2=>match vs with | [x,y]=>(mR x fun a1=>mR y fun a2=>∃k1 k2 xs ys,Al X.K k1 H2 a1 xs/\Al X.K k2 H2 a2 ys/\R (Itz X.K k1 k2 a1 a2) H2) | _=>False) I ?_) fun us s1 ⟨vs,H1,I1,r1,q1⟩=>?_) (by rw[hs,hs2]) (by rw[hs2];rfl)))
 ·exact h
 ·dsimp only at q1
  split at q1
  rotate_left
  ·exact q1.elim
  rename_i x y
  rw[bY]at q1;obtain⟨a1,rfl,q1⟩:=q1
  rw[bY]at q1;obtain⟨a2,rfl,k1,k2,xs,ys,q2,q3,q⟩:=q1
  cases r1 with
  | cons r rr=>
   cases rr with
   | cons r' rr=>
    cases rr
    cases r
    cases r'
    obtain⟨its,rv,p1⟩:=I1.sqk q2
    obtain⟨jts,rw',p2⟩:=I1.sqk q3
    refine Od p1 p2 fun h' S k=>?_
    have I2:Inv X pins σ H1 {s1 with heap:=h' }:=I1.kept (t':=s1.toks) k
    refine wpAny_pyIter_zip (s:={s1 with heap:=h' }) S.z ?_
    refine⟨s1.heap.objs.size+4,_,_,_,H1,rfl,I2,Jl (Uv p1.lt p2.lt),S,fun b hb=>?_,q⟩
    have hb':s1.heap.objs.size<=b:=by
     simp only [List.mem_cons,List.not_mem_nil,or_false]at hb
     rcases hb with rfl | rfl | rfl | rfl | rfl
     ·exact Nat.le_add_right _ 4
     ·exact Nat.le_add_right _ 2
     ·exact Nat.le_add_right _ 3
     ·exact cL _
     ·exact Nat.le_add_right _ 1
    exact I1.fpOk hb' (I1.hok.fresh hb')
theorem R.de {K:W.Frag} (hg:Gl X "zip") (hm:X.mg "zip"=none) (ha:XE X a ta) (hb:XE X b tb) (hK:X.K=K:=by rfl) (h1:aT a=true:=by rfl) (h2:aT b=true:=by rfl):XI X (.Tuple es n tpos) (.Call (.Name "zip" p) [a,b] [] pos) (Yy K ta tb):=
 hK ▸ ⟨Uw hg hm ha.h hb.h h1 h2⟩
end
theorem kX {K:W.Frag} {k1 k2:Bool} {a1 a2:Addr} {xs ys:List V} {js:List (Option Nat)} {g:TG} {tt:TT} {te:TE} {σ:St} {H:Hp} {Q:List V->Hp->Prop} (hz:xs.length<=100000) (Pv:Nat->List V->Hp->Prop) (hA:∀i zs H,Pv i zs H->Al K k1 H a1 xs/\Al K k2 H a2 ys/\zs.length<=i) (h0:Pv 0 [] H)
  (hs:∀i x y zs H t,xs[i]?=some x->ys[i]?=some y->Pv i zs H->H t=none->g (.ref t) (xF js σ) (aJ H t (.tup [x,y])) fun σ2 H2=>tt σ2 H2 fun b H3=>if b=true then te σ2 H3 fun v H4=>Pv (i+1) (zs++[v]) H4 else Pv (i+1) zs H3)
  (hd:∀zs H,Pv (min xs.length ys.length) zs H->Q zs H):qV js g tt te σ (Itz K k1 k2 a1 a2) H Q:=by
 refine⟨fun i m zs H=>m=min xs.length ys.length - i/\i<=min xs.length ys.length/\Pv i zs H,⟨_,rfl,Nat.zero_le _,h0⟩,?_⟩
 rintro i m zs H ⟨rfl,hi,p⟩
 obtain⟨q1,q2,q3⟩:=hA i zs H p
 by_cases hlt:i<min xs.length ys.length
 ·have l1:i<xs.length:=Nat.lt_of_lt_of_le hlt (Nat.min_le_left _ _)
  have l2:i<ys.length:=Nat.lt_of_lt_of_le hlt (Nat.min_le_right _ _)
  refine .inr ⟨⟨xs,ys,xs[i],ys[i],q1,q2,by simp [l1],by simp [l2]⟩,Wf (m:=100000) Zo Zd,Pv (i+1),fun zs' H' p'=>⟨_,Zo,rfl,hlt,p'⟩,fun v H' y=>?_⟩
  obtain⟨t,x,y,ht,rfl,rfl,e1,e2⟩:=y
  exact hs i x y zs H t (e1 xs q1) (e2 ys q2) p ht
 ·have e:i=min xs.length ys.length:=by omega
  subst e;exact .inl ⟨⟨xs,ys,q1,q2,Zo⟩,hd zs H p⟩
end L2
namespace L2
open PySem PySem.Spec PyProof.Rows
def mU (x:V) (zs:List Str):Bool:=match x with | .str z=>decide (z∈zs) | _=>false
section
variable {X:Cx}
theorem pI (A:Around):A.in1.units=A.units+1:=rfl
def gW (xs ys:List V):Bool:=(List.range (min xs.length ys.length)).all (fun j=>uR (xs.getD j .non) (ys.getD j .non))&&xs.length == ys.length
def Ux (neg:Bool):R2:=fun x y H Q=>mR x fun a=>mR y fun b=>∃xs ys,H a=some (.tup xs)/\H b=some (.tup ys)/\(∀(j:Nat) (u v:V),xs[j]?=some u->ys[j]?=some v->bS u=true/\bS v=true)/\Q (.bl (if neg then !gW xs ys else gW xs ys)) H
theorem Uy (neg:Bool) (hu:X.A.units+64<cLine):OpR X (compareOp (if neg then .NotEq else .Eq)) (Ux neg):=by
 intro pins s σ H x y v u Q I rx ry h;unfold Ux at h;rw[bY]at h;obtain⟨a,rfl,h⟩:=h
 rw[bY]at h;obtain⟨b,rfl,xs,ys,g1,g2,fl,q⟩:=h
 cases rx
 cases ry
 obtain⟨its,ri,ti,_⟩:=I.tuple (SqT.of g1)
 obtain⟨its2,ri2,ti2,_⟩:=I.tuple (SqT.of g2)
 have el1:its.length=xs.length:=ri.length.symm
 have el2:its2.length=ys.length:=ri2.length.symm
 have each:∀j (h1:j<its.toArray.size) (h2:j<its2.toArray.size),SeqAt.EqAt X.A.in1 s its.toArray[j] its2.toArray[j] (uR (xs.getD j .non) (ys.getD j .non)):=fun j h1 h2=>by
  rw[fY]at h1 h2;obtain⟨h1',q1⟩:=Paired.get' (j:=j) ri h1
  obtain⟨h2',q2⟩:=Paired.get' (j:=j) ri2 h2
  obtain⟨f1,f2⟩:=fl j xs[j] ys[j] (jH h1') (jH h2')
  have e1:xs.getD j .non=xs[j]:=by simp [List.getD,h1']
  have e2:ys.getD j .non=ys[j]:=by simp [List.getD,h2']
  rw[e1,e2];simpa using qP q1 q2 f1 f2
 have e:((List.range (min its.toArray.size its2.toArray.size)).all (fun j=>uR (xs.getD j .non) (ys.getD j .non))&&its.toArray.size == its2.toArray.size)=gW xs ys:=by
  rw[fY,fY,el1,el2];rfl
 cases neg with
 | true=>
  have key:=SeqAt.RcNeAt.tuples (A:=X.A) (s:=s) ti ti2 Zo each
  rw[e]at key;exact key _ _ _ _ ⟨.bl _,H,I,rfl,q⟩
 | false=>
  have key:=SeqAt.RcAt.tuples (A:=X.A) (s:=s) ti ti2 Zo each
  rw[e]at key;exact key _ _ _ _ ⟨.bl _,H,I,rfl,q⟩
theorem R.dt (hu:X.A.units+64<cLine):hZ X (compareOp .Eq) (Ux false):=⟨Uy false hu⟩
end
def Wk:Option dQ->Value->Bool
 | none,.none=>true
 | none,_=>false
 | some k,v=>kM k v
theorem cM:∀ {k:Option dQ} {v:Value},Wk k v=true->(k=none/\v=.none)∨∃j,k=some j/\kM j v=true
 | none,v,h=>by cases v <;> first | exact .inl ⟨rfl,rfl⟩ | exact absurd (show false=true from h) Bool.false_ne_true
 | some j,v,h=>.inr ⟨j,rfl,h⟩
theorem nY {j:dQ}:kM j .none=false:=by cases j <;> rfl
def yC:Int:=4238894112
section
variable {prog:Program} {w:World} {A:Around} {E:Value->Shared->Prop} {s:Shared}
theorem Fg {Q:Int->Shared->Prop} (h:Q yC {s with toks:=s.toks+1 }):wpAny (model prog w) A (PySem.pyHash .none) Q E s:=by
 have hT:s.TypeIs Value.none "NoneType":=rfl
 unfold PySem.pyHash;refine wpAny_bind ?_
 rw[cRoomFor,if_neg (show ¬ ([Value.none].any Value.onHeap=true) from Bool.false_ne_true)];refine wpAny_pure ?_
 refine wpAny_bind (wpAny_specialOf hT PySem.F.slot_NoneType_hash.lookup ?_)
 show wpAny (model prog w) A (if (some (Value.builtin "NoneType.__hash__") == some Value.none)=true then _ else _) Q E s
 rw[if_neg (show ¬ ((some (Value.builtin "NoneType.__hash__") == some Value.none)=true) from Bool.false_ne_true)];refine wpAny_bind (wpAny_specialOf hT PySem.F.slot_NoneType_hash.lookup ?_)
 show wpAny (model prog w) A (callSpecialIfBoundUnlessNone? Value.none "__hash__" _ >>= _) Q E s
 refine wpAny_bind (wpAny_callSpecialIfBoundUnlessNone?_slot hT PySem.F.slot_NoneType_hash (wpAny_call_entry PySem.F.slot_NoneType_hash hT PySem.F.entry_NoneType_hash (show wpAny (model prog w) _ (do ret (← mkInt yC)) _ _ s from wpAny_ret_mkInt ?_) (PySem.F.args_NoneType_hash_1 _)))
 show wpAny (model prog w) A (if (decide (-(2:Int) ^ 63<=yC)&&decide (yC<2 ^ 63))=true then _ else _) Q E _
 rw[if_pos Zd]
 exact wpAny_pure h
end
def tM (prog:Program) (w:World):PySem.KeyKind prog w (Option dQ) where
 is:=Wk
 hash:=fun k=>match k with | none=>yC | some j=>Wm w j
 inj:=fun v a b ha hb=>by
  rcases cM ha with⟨rfl,rfl⟩ | ⟨i,rfl,h1⟩
  ·rcases cM hb with⟨rfl,_⟩ | ⟨j,rfl,h2⟩
   ·rfl
   ·rw[nY]at h2;cases h2
  ·rcases cM hb with⟨rfl,rfl⟩ | ⟨j,rfl,h2⟩
   ·rw[nY]at h1;cases h1
   ·rw[(bM prog w).inj v i j h1 h2]
 byValue:=fun k v h=>by
  rcases cM h with⟨rfl,rfl⟩ | ⟨i,rfl,h1⟩
  ·rfl
  ·exact(bM prog w).byValue i v h1
 pyHash:=fun {A E s k v Q} hv h=>by
  rcases cM hv with⟨rfl,rfl⟩ | ⟨i,rfl,h1⟩
  ·exact Fg h
  ·exact(bM prog w).pyHash h1 h
 eqBool:=fun {A E s a b u v Q} hu hv h=>by
  rcases cM hu with⟨rfl,rfl⟩ | ⟨i,rfl,h1⟩
  ·rcases cM hv with⟨rfl,rfl⟩ | ⟨j,rfl,h2⟩
   ·exact SeqAt.EqAt.same _ _ _ _ _ (by simpa using h)
   ·have h':Q false s:=by simpa using h
    rcases bQ h2 with⟨n,t,rfl,rfl⟩ | ⟨x,t,rfl,rfl⟩
    ·exact SeqAt.EqAt.none_int n t _ _ _ _ h'
    ·exact SeqAt.EqAt.none_str x t _ _ _ _ h'
  ·rcases cM hv with⟨rfl,rfl⟩ | ⟨j,rfl,h2⟩
   ·have h':Q false s:=by simpa using h
    rcases bQ h1 with⟨n,t,rfl,rfl⟩ | ⟨x,t,rfl,rfl⟩
    ·exact SeqAt.EqAt.int_none n t _ _ _ _ h'
    ·exact SeqAt.EqAt.str_none x t _ _ _ _ h'
   ·refine(bM prog w).eqBool h1 h2 ?_
    have e:decide (some i=some j)=decide (i=j):=by simp
    rw[<- e];exact h
 «strs»:=fun k x t v h=>by
  rcases cM h with⟨rfl,e⟩ | ⟨i,rfl,h1⟩
  ·cases e
  ·exact(bM prog w).strs i x t v h1
theorem Jn {prog:Program} {w:World} {h:Heap} {a:Addr} {f:dQ->Option Value} (m:h.MapOf (bM prog w) a f):∃g:Option dQ->Option Value,h.MapOf (tM prog w) a g/\g none=none:=by
 obtain⟨o,es,ep,ho,hx,hd,hk,hf⟩:=m
 refine⟨_,⟨o,es,ep,ho,hx,hd,fun e he=>?_,fun k=>rfl⟩,?_⟩
 ·obtain⟨k,h1,h2⟩:=hk e he
  exact⟨some k,h1,h2⟩
 ·show findBy Wk es none=none
  unfold findBy;have:es.find? (fun e=>Wk none e.key)=none:=by
   rw[Array.find?_eq_none];intro e he z;obtain⟨k,h1,h2⟩:=hk e he
   rcases cM z with⟨_,e1⟩ | ⟨_,e1,_⟩
   ·rw[e1]at h1;have h1':kM k .none=true:=h1
    rw[nY]at h1';cases h1'
   ·cases e1
  rw[this];rfl
section
variable {X:Cx}
def Uz (neg:Bool):R2:=fun x y H Q=>mR y fun a=>match x with
 | .non=>(∃kvs,H a=some (.dK kvs))/\Q (.bl neg) H
 | .str z=>∃kvs,H a=some (.dK kvs)/\Q (.bl (if neg then !(dB kvs (Sum.inr z)).isSome else (dB kvs (Sum.inr z)).isSome)) H
 | _=>False
theorem Va (neg:Bool) (hu:X.A.units+1<cLine):OpR X (compareOp (if neg then .NotIn else .In)) (Uz neg):=by
 intro pins s σ H x y v u Q I rx ry h;unfold Uz at h;rw[bY]at h;obtain⟨a,rfl,h⟩:=h
 cases ry
 cases x with
 | non=>
  obtain⟨⟨kvs,e⟩,q⟩:=h
  cases rx
  obtain⟨z,hd,vs,rel,dd⟩:=Hr I.hok e
  obtain⟨g,hm,hg⟩:=Jn dd.mapOf
  cases neg
  ·refine wpAny_in_of (knd:=tM X.prog X.w) (k:=none) rfl hd hm ⟨.bl _,H,I.tok _,rfl,?_⟩
   rw[hg];exact q
  ·refine wpAny_notIn_of (knd:=tM X.prog X.w) (k:=none) rfl hd hm ⟨.bl _,H,I.tok _,rfl,?_⟩
   rw[hg];exact q
 | str z=>
  obtain⟨kvs,e,q⟩:=h
  cases neg
  ·exact aAu hu I (DGet.k (k:=Sum.inr z) e) rx fun s' I'=>⟨.bl _,H,I',rfl,q⟩
  ·exact Nh hu I (DGet.k (k:=Sum.inr z) e) rx fun s' I'=>⟨.bl _,H,I',rfl,q⟩
 | _=>exact h.elim
theorem R.fk (hu:X.A.units+1<cLine):hZ X (compareOp .In) (Uz false):=⟨Va false hu⟩
end
end L2
namespace L2
open PySem PySem.Spec PyProof.Rows
def Pc (H:Hp) (y:V):Prop:=(bS y=true/\∀z,y=.str z->z.length<=1000)∨(∃a ys,y=.ref a/\(H a=some (.lst ys)∨H a=some (.tup ys)))∨∃a kvs,y=.ref a/\H a=some (.dK kvs)
def Tg (H:Hp) (x:V):Prop:=Pc H x/\∀a xs,x=.ref a->H a=some (.tup xs)->xs.length<=1000/\∀y∈xs,Pc H y
theorem Pc.same {H H':Hp} {y:V} (s:Same H H') (h:Pc H y):Pc H' y:=by
 rcases h with h | ⟨a,ys,e,h⟩ | ⟨a,kvs,e,h⟩
 ·exact .inl h
 ·exact .inr (.inl ⟨a,ys,e,h.imp (s _ _) (s _ _)⟩)
 ·exact .inr (.inr ⟨a,kvs,e,s _ _ h⟩)
theorem Tg.same {H H':Hp} {x:V} (s:Same H H') (h:Tg H x):Tg H' x:=by
 refine⟨h.1.same s,fun a xs e g=>?_⟩
 subst e;rcases h.1 with⟨hf,_⟩ | ⟨a',ys,e,hh⟩ | ⟨a',kvs,e,hh⟩
 ·cases hf
 ·cases e
  rcases hh with hh | hh
  ·have:=s _ _ hh;rw[g]at this;cases this
  ·have:=s _ _ hh
   rw[g]at this;cases this
   obtain⟨h1,h2⟩:=h.2 a _ rfl hh
   exact⟨h1,fun y hy=>(h2 y hy).same s⟩
 ·cases e
  have:=s _ _ hh;rw[g]at this;cases this
theorem Pc.kd {H:Hp} {y:V} (h:Pc H y):∃k,Kof H y k:=by
 rcases h with⟨h,_⟩ | ⟨a,ys,rfl,h | h⟩ | ⟨a,kvs,rfl,h⟩
 ·cases y with
  | non=>exact⟨.non,trivial⟩
  | bl _=>exact⟨.bl,trivial⟩
  | int _=>exact⟨.int,trivial⟩
  | str _=>exact⟨.str,trivial⟩
  | _=>exact absurd (show false=true from h) Bool.false_ne_true
 ·exact⟨.lst,.inl ⟨ys,h⟩⟩
 ·exact⟨.tup,⟨ys,h⟩⟩
 ·exact⟨.dct,⟨kvs,h⟩⟩
theorem Pc.pt {H:Hp} {y:V} (h:Pc H y):Pt H y:=by
 obtain⟨k,hk⟩:=h.kd
 refine⟨k,hk,fun z e=>?_⟩
 subst e;rcases h with⟨_,h⟩ | ⟨_,_,e,_⟩ | ⟨_,_,e,_⟩
 ·exact h z rfl
 ·cases e
 ·cases e
theorem Pc.tup {H:Hp} {a:Addr} {ys:List V} (h:H a=some (.tup ys)):Pc H (.ref a):=.inr (.inl ⟨a,ys,rfl,.inr h⟩)
theorem Tg.flat {H:Hp} {x:V} (h:Pc H x) (no:∀a xs,x=.ref a->H a=some (.tup xs)->False):Tg H x:=⟨h,fun a xs e g=>(no a xs e g).elim⟩
theorem Tg.tup {H:Hp} {a:Addr} {xs:List V} (h:H a=some (.tup xs)) (hl:xs.length<=1000) (hx:∀y∈xs,Pc H y):Tg H (.ref a):=
 ⟨.tup h,fun b ys e g=>by cases e;rw[h]at g;cases g;exact⟨hl,hx⟩⟩
def aY (H:Hp) (x:V):Option (List V):=match x with | .ref a=>(match H a with | some (.tup xs)=>some xs | _=>none) | _=>none
def kD (xs:List V):V:=match xs with | .str u::_=>.str u | _=>.non
def cT (H:Hp) (x:V):V:=match aY H x with | some xs=>kD xs | none=>.non
theorem cJ {H:Hp} {a:Addr} {xs:List V} (h:H a=some (.tup xs)):aY H (.ref a)=some xs:=by unfold aY;dsimp only;rw[h]
def jB (wd:Str) (n:Int):List (Str × List (Int × Int)):=
 if wd="pass" then [] else if wd="move" then [("is",[(0,1000000000000 - n),(n,1000000000000)]),("short",[(0,n - 1)]),("full",[(1000000000000 - n+1,1000000000000)])]
 else if wd="take"∨wd="send" then [("is",[(0,1000000000000 - n)]),("short",[(0,n - 1)])] else [("is",[(n,1000000000000)]),("full",[(1000000000000 - n+1,1000000000000)])]
def bN (xs:List V) (bs:List (Int × Int)):Bool:=decide (xs.length=bs.length)&&(xs.zip bs).all fun q=>aO q.2.1 q.2.2 q.1
def cK (wd:Str) (hs:List Str) (n:Int) (xs:List V):Bool:=match xs with
 | .str u::r=>
  if u="no" then (match r with | [y]=>mU y hs | _=>false)
  else if u="ok" then decide (wd="pass")&&r.isEmpty
  else match (jB wd n).lookup u with | some bs=>bN r bs | none=>false
 | _=>false
def fX (H:Hp) (wd:Str) (hs:List Str) (n:Int) (x:V):Bool:=match aY H x with | some xs=>cK wd hs n xs | none=>false
abbrev B2:=Addr × Int × Int
def BAt (H:Hp) (bs:List B2):Prop:=∀z∈bs,H z.1=some (.tup [.int z.2.1,.int z.2.2])
def vM (bs:List B2):List V:=bs.map fun z=>V.ref z.1
def yD (H:Hp) (o:Option (List (Int × Int))) (v:Option V):Prop:=match o with
 | some bs=>∃t zs,v=some (.ref t)/\H t=some (.tup (vM zs))/\BAt H zs/\zs.map (·.2)=bs
 | none=>v=none
theorem BAt.same {H H':Hp} {bs:List B2} (s:Same H H') (h:BAt H bs):BAt H' bs:=fun z hz=>s _ _ (h z hz)
structure DWN (wd:Str) (n:Int) (xs:List V) (as:List (Str × List V)):Prop where
 ex:∃one other nm cs,DW one other nm n wd xs cs as
 nm:∀q∈as,isNm q.1
theorem DWN.dwx {wd:Str} {n:Int} {xs:List V} {as:List (Str × List V)} (h:DWN wd n xs as):∃cs,DWX wd xs cs as:=by
 obtain⟨one,other,nm,cs,hd⟩:=h.ex
 exact⟨cs,one,other,nm,n,hd⟩
def nZ:Sp:=fun vs H Q _=>∃x,vs=[x]/\Tg H x/\Q (cT H x) H
def oA (xs:List V):Bool:=match xs with | [_,y]=>dF y | _=>false
def Am:Sp:=fun vs H Q _=>∃a xs,vs=[.ref a]/\H a=some (.tup xs)/\(∀y∈xs,Pc H y)/\∀H',Same H H'->Q (.bl (oA xs)) H'
def yE:Sp:=fun vs H Q _=>∃p wd n xs as,vs=[.ref p]/\H p=some (.tup xs)/\DWN wd n xs as/\∀d kvs H',Same H H'->H' d=some (.dK kvs)->(∀u:Str,yD H' ((jB wd n).lookup u) (dB kvs (Sum.inr u)))->Q (.ref d) H'
def yF:Sp:=fun vs H Q _=>∃a t xs bs,vs=[.ref a,.ref t]/\H a=some (.tup xs)/\xs.length<=1000/\(∀y∈xs,Pc H y)/\H t=some (.tup (vM bs))/\BAt H bs/\∀H',Same H H'->Q (.bl (bN xs (bs.map (·.2)))) H'
def oB:Sp:=fun vs H Q _=>∃p wd n xs as x,vs=[.ref p,x]/\H p=some (.tup xs)/\DWN wd n xs as/\Tg H x/\∀H',Same H H'->Q (.bl (fX H wd (as.map (·.1)) n x)) H'
end L2
namespace L2
open PySem PySem.Spec PyProof.Rows
section
variable {X:Cx} {o:Expr} {to:TE} {p pos apos cpos:Pos}
def aAI:List V->Hp->VK->Prop:=fun vs H Q=>match vs with
 | [.ref a]=>∃kvs,H a=some (.dK kvs)/\∀p,H p=none->Q (.ref p) (aJ H p (.dK kvs))
 | _=>False
def vN:V->List V->Hp->VK->Prop:=fun x vs H Q=>match x,vs with
 | .ref l,[.str z]=>∃ss:List Str,H l=some (.lst (ss.map V.str))/\z∈ss/\∀j:Nat,ss[j]?=some z->Q (.int j) H
 | _,_=>False
theorem yG {z:Str}:∀ {ss:List Str},z∈ss->∃j:Nat,ss[j]?=some z/\∀m,m<j->ss[m]?≠some z
 | [],h=>nomatch h
 | y::r,h=>by
  by_cases e:y=z
  ·subst e;exact⟨0,rfl,fun m hm=>absurd hm (Nat.not_lt_zero _)⟩
  ·rcases List.mem_cons.mp h with z' | h
   ·exact absurd z'.symm e
   ·obtain⟨j,hj,hm⟩:=yG h
    refine⟨j+1,by simpa using hj,fun m hm'=>?_⟩
    cases m with
    | zero=>simp;exact e
    | succ m=>simpa using hm m Zo
theorem Fh:Hm X "list.index" vN:=by
 intro pins s σ H x vs v us Q I rx rv h;unfold vN at h;split at h
 ·rename_i l z
  obtain⟨ss,hl,hz,q⟩:=h
  cases rx
  obtain⟨u,rfl,t',rfl⟩:=rv.one
  obtain⟨its,n,r,ho,hsz⟩:=I.lst hl
  obtain⟨j,hj,hno⟩:=yG hz
  have hl':=r.length
  rw[aZ]at hl';have hjl:j<ss.length:=(Zgs.mp hj).1
  have fl:(ss.map V.str).all bS=true:=by simp [bS]
  have ats:∀(m:Nat) (hm:m<its.length),oY (.str z) its[m]=decide (ss[m]?=some z):=fun m hm=>by
   have hm':m<ss.length:=by omega
   have rv:RelV (V.str ss[m]) (its.getD m Value.none):=tJ m r (by rw[aZ];exact hm') _ (by rw[kH,jH hm'];rfl)
   have e1:its.getD m Value.none=its[m]:=by rw[List.getD_eq_getElem?_getD,jH hm];rfl
   rw[e1]at rv;rw[uS rv rfl,jH hm'];show decide (ss[m]=z)=_
   simp
  refine call_meets PySem.F.slot_list_index ⟨_,ho,rfl⟩ PySem.F.entry_list_index (PySem.F.args_list_index_2 _ _)
   (SeqAt.list_indexAt l its.toArray n none #[] (.str z t') (oY (.str z)) j (by simp;omega) (by rw[sizeLine_eq,aZ]at hsz;omega) ?_ ?_) ⟨ho,fun y hy=>eI (x:=.str z) (show RelV (V.str z) (Value.str z t') from⟨t',rfl⟩) rfl r fl y (by simpa using hy),⟨.int j,H,I.tok _,⟨_,rfl⟩,q j hj⟩⟩
  ·have:=ats j Zo
   simp only [List.getElem_toArray]
   rw[this];exact decide_eq_true hj
  ·intro m hm hlt;have hm':m<its.length:=by simpa using hm
   have:=ats m hm'
   simp only [List.getElem_toArray]
   rw[this];exact decide_eq_false (hno m hlt)
 ·exact h.elim
theorem R.fm:XM X "list.index" vN:=⟨Fh⟩
end
end L2
namespace L2
open PySem PySem.Spec PyProof.Rows
section
variable {X:Cx}
def Jo (i j:Int):Prop:=0<j/\j<2 ^ 64
theorem Oe:OpR X (binaryOp .FloorDiv) (m2 Jo fun i j=>.int (i / j)):=(Zt (C:=Jo) (g:=fun i j=>i / j) fun i j _ _ s Q E hc q=>by
 have h1:i.fdiv j=i / j:=Int.fdiv_eq_ediv_of_nonneg _ (by have:=hc.1;omega)
 refine floordiv_int (by have:=hc.1;omega) (by rw[h1];exact q) (.inl (PyProof.noPylong_of_log2 ?_))
 have h2:j.natAbs<2 ^ 64:=by have:=hc.1;have:=hc.2;omega
 exact Nat.lt_of_lt_of_le (Nat.log2_lt (by have:=hc.1;omega) |>.mpr h2) Zd).imp vA
theorem R.eu:hZ X (binaryOp .FloorDiv) (m2 Jo fun i j=>.int (i / j)):=⟨Oe⟩
end
def PenAt (H:Hp) (p:Addr):Prop:=∃i j:Int,H p=some (.lst [.int i,.int j])/\0<=i/\0<=j/\j<2147483629
def K1 (p:Addr) (H H':Hp):Prop:=∀c o,H c=some o->c≠p->H' c=some o
theorem K1.trans {p:Addr} {H H1 H2:Hp} (a:K1 p H H1) (b:K1 p H1 H2):K1 p H H2:=fun c o e n=>b c o (a c o e n) n
theorem K1.of {p:Addr} {H H1:Hp} (a:Same H H1):K1 p H H1:=fun c o e _=>a c o e
theorem PenAt.same {H H':Hp} {p:Addr} (s:Same H H') (h:PenAt H p):PenAt H' p:=by
 obtain⟨i,j,g,r⟩:=h
 exact⟨i,j,s _ _ g,r⟩
theorem PenAt.ne {H:Hp} {p l:Addr} (h:PenAt H p) (hl:H l=none):l≠p:=fun z=>by
 obtain⟨i,j,g,r⟩:=h
 rw[z,g]at hl;cases hl
def Qv:Sp:=fun vs H Q _=>∃c k:Int,vs=[.int c,.int k]/\∀p H',H p=none->Same H H'->PenAt H' p->Q (.ref p) H'
def gX:Sp:=fun vs H Q _=>∃(p:Addr) (m:Int),vs=[.ref p,.int m]/\PenAt H p/\0<m/\m<=10000000000000/\∀r H',0<=r->r<m->PenAt H' p->K1 p H H'->Q (.int r) H'
def Jp (K:W.Frag):Sp:=fun vs H Q _=>∃(a:Addr) (ns:List Int) (k:Nat),vs=[.ref a,.int k]/\SqL K H a (ns.map V.int)/\∀c:Int,Q (.int c) H
def jN:Sp:=fun vs H Q _=>∃(p:Addr) (lo hi:Int),vs=[.ref p,.int lo,.int hi]/\PenAt H p/\lo<=hi/\hi - lo<10000000000000/\∀n H',lo<=n->n<=hi->PenAt H' p->K1 p H H'->Q (.int n) H'
theorem K1.free {p l:Addr} {H H':Hp} (k:K1 p H H') (pn:PenAt H' p) (h:H' l=none):H l=none:=by
 cases e:H l with
 | none=>rfl
 | some o=>rw[k _ _ e (pn.ne h)]at h;cases h
def oC (cs:List Nat) (i:Int):Nat:=cs.getD i.toNat 0
theorem vO {cs:List Nat} {i:Int} (h0:0<=i) (h1:i<cs.length):eF cs i=some (oC cs i)/\oC cs i∈cs:=by
 obtain⟨j,rfl⟩:=oR h0
 have hj:j<cs.length:=by omega
 have e:oC cs (j:Int)=cs[j]:=by unfold oC;simp [hj]
 rw[e];exact⟨aF (jH hj),List.getElem_mem hj⟩
theorem Qw {zs:List Str} (a:Nat) (c:Nat->Nat) (h:∀j z,zs[j]?=some z->z.cps.toList[a]?=some (c j)) (inj:∀j j',j<j'->j'<zs.length->c j≠c j'):zs.Nodup:=by
 refine List.pairwise_iff_getElem.mpr fun i j hi hj hij e=>?_
 have e1:=h i _ (jH hi)
 have e2:=h j _ (jH hj)
 rw[e,e2]at e1;exact inj i j hij hj (Option.some.inj e1).symm
theorem vP (l:List Nat):(tx l).cps.toList=l:=by simp
def tO:Sp:=fun vs H Q _=>∃(p:Addr) (m:Nat),vs=[.ref p,.int m]/\PenAt H p/\m<=6/\∀(l:Addr) (zs:List Str) (H':Hp),zs.length=m->(∀z∈zs,isNm z)->zs.Nodup->H l=none->H' l=some (.lst (zs.map V.str))->PenAt H' p->K1 p H H'->Q (.ref l) H'
theorem Jq:∀i,i<26->LET.getD i 0=97+i:=by decide +kernel
def Jr (s:Int):Prop:=s=1∨s=3∨s=5∨s=7∨s=9∨s=11
theorem Of {b s:Int} (hs:Jr s) {j j':Nat} (h:j<j') (h':j'<10):oC LET ((b+s*(j:Int)) % 26)≠oC LET ((b+s*(j':Int)) % 26):=fun e=>by
 unfold oC at e;have a1:=Int.emod_nonneg (b+s*(j:Int)) (show(26:Int)≠0 by decide)
 have a2:=Int.emod_lt_of_pos (b+s*(j:Int)) (show(0:Int)<26 by decide)
 have b1:=Int.emod_nonneg (b+s*(j':Int)) (show(26:Int)≠0 by decide)
 have b2:=Int.emod_lt_of_pos (b+s*(j':Int)) (show(0:Int)<26 by decide)
 rw[Jq _ Zo,Jq _ Zo]at e
 rcases hs with rfl | rfl | rfl | rfl | rfl | rfl <;> omega
def KLET:List Nat:=LET++nH
theorem vQ:(("abcdefghijklmnopqrstuvwxyz0123456789":Str)).cps.toList=KLET:=by decide +kernel
def yH (z:Str):Prop:=1<=z.length/\z.length<=12/\∀c∈z.cps.toList,c∈KLET
def yI:Sp:=fun vs H Q _=>∃(p:Addr) (m:Nat),vs=[.ref p,.int m]/\PenAt H p/\m<=10/\∀(l:Addr) (zs:List Str) (H':Hp),zs.length=m->(∀z∈zs,yH z)->zs.Nodup->H l=none->H' l=some (.lst (zs.map V.str))->PenAt H' p->K1 p H H'->Q (.ref l) H'
theorem Og:∀i,i<36->∀j,j<36->KLET.getD i 0=KLET.getD j 0->i=j:=by decide +kernel
def Cv (s:Int):Prop:=s=1∨s=5∨s=7∨s=11∨s=13∨s=17
theorem Js {b s:Int} (hs:Cv s) {j j':Nat} (h:j<j') (h':j'<12):oC KLET ((b+s*(j:Int)) % 36)≠oC KLET ((b+s*(j':Int)) % 36):=fun e=>by
 unfold oC at e;have a1:=Int.emod_nonneg (b+s*(j:Int)) (show(36:Int)≠0 by decide)
 have a2:=Int.emod_lt_of_pos (b+s*(j:Int)) (show(0:Int)<36 by decide)
 have b1:=Int.emod_nonneg (b+s*(j':Int)) (show(36:Int)≠0 by decide)
 have b2:=Int.emod_lt_of_pos (b+s*(j':Int)) (show(0:Int)<36 by decide)
 have:=Og _ Zo _ Zo e
 rcases hs with rfl | rfl | rfl | rfl | rfl | rfl <;> omega
def RowsOk (H:Hp) (rs:List (Addr × List Int)):Prop:=∀q∈rs,H q.1=some (.lst (q.2.map V.int))/\1<=q.2.length/\q.2.length<=12/\∀x∈q.2,0<=x/\x<36
def pO (q:Addr × List Int):Str:=tx (q.2.map (oC KLET))
theorem RowsOk.same {H H':Hp} {rs:List (Addr × List Int)} (h:RowsOk H rs) (s:Same H H'):RowsOk H' rs:=fun q hq=>⟨s _ _ (h q hq).1,(h q hq).2⟩
theorem RowsOk.k1 {H H':Hp} {p:Addr} {rs:List (Addr × List Int)} (h:RowsOk H rs) (k:K1 p H H') (hp:∀q∈rs,q.1≠p):RowsOk H' rs:=fun q hq=>⟨k _ _ (h q hq).1 (hp q hq),(h q hq).2⟩
theorem RowsOk.ky {H:Hp} {rs:List (Addr × List Int)} (h:RowsOk H rs):∀q∈rs,yH (pO q):=fun q hq=>by
 obtain⟨_,h1,h2,h3⟩:=h q hq
 unfold pO;refine⟨by rw[dM,aZ];exact h1,by rw[dM,aZ];exact h2,fun c hc=>?_⟩
 rw[vP]at hc;obtain⟨i,hi,rfl⟩:=Zmm.mp hc
 exact(vO (cs:=KLET) (h3 i hi).1 (show i<36 from(h3 i hi).2)).2
end L2
namespace L2
open PySem PySem.Spec PyProof.Rows
def Wl (K:W.Frag) (a:Addr):It:=
  ⟨fun i H=>∃xs x,SqL K H a xs/\xs[i]?=some x,
   fun i H v H'=>∃t x,H t=none/\v=.ref t/\H'=aJ H t (.tup [.int i,x])/\∀xs,SqL K H a xs->xs[i]?=some x,
   fun i H=>∃xs,SqL K H a xs/\xs.length<=i⟩
structure ESt (h:Heap) (e it a:Addr) (i:Nat):Prop where
 e:∃old,IsEnum h e it i old
 i:h.IsListIter it a i
theorem Fi {P:Program} {w:World} {K:W.Frag} {es:List Expr} {n:Nat} {pos:Pos} {e it a:Addr} (hne:e≠it) (hea:a≠e) (hia:a≠it) :
  uI P w K (.Tuple es n pos) (Wl K a) [e,it] e (fun i h=>ESt h e it a i) where
 mem:=by simp
 obj:=fun i h st b hb=>by
  obtain⟨old,he⟩:=st.e
  obtain⟨o1,e1,_,d1⟩:=st.i
  simp only [List.mem_cons,List.not_mem_nil,or_false]at hb
  rcases hb with rfl | rfl
  ·exact⟨_,he,fun v q=>by have q':Data.fields _=Data.cell v:=q;cases q'⟩
  ·exact⟨_,e1,fun v q=>by rw[d1]at q;cases q⟩
 keep:=fun i h h' st g=>by
  obtain⟨old,he⟩:=st.e
  obtain⟨o1,e1,r⟩:=st.i
  exact⟨⟨old,g e Zs _ he⟩,⟨o1,g it Zs _ e1,r⟩⟩
 item:=by
  intro X hP hw hK hc i pins s σ H E I hf st hg;subst hP hw hK;obtain⟨xs,x,hx,ex⟩:=hg
  obtain⟨its,rv,p,_⟩:=I.list hx
  obtain⟨u,hu,ru⟩:=rv.get ex
  obtain⟨old,he⟩:=st.e
  refine wpAny_pyNext_enum_item he st.i p.isList (by simpa using hu) hne fun h1 e1 i1 t1 z1 k1=>?_
  refine⟨_,rfl,?_⟩
  refine wpAny_letOwnedTupleGo_enum e1 fun h2 e2 b2=>?_
  have elt:e<s.heap.objs.size:=Heap.lt_size he
  have t2:h2.get? s.heap.objs.size=some {cls:=.type "tuple",data:=.seq #[.int i s.toks,u] }:=b2.extBut _ _ (Nat.ne_of_gt elt) t1
  refine⟨.ref s.heap.objs.size,aJ H s.heap.objs.size (.tup [.int i,x]),I.turnLaid (t':=s.toks+1) hf (fun b o hb e'=>?_) (cL _) ⟨by show 2<=sizeLine;decide,[.int i s.toks,u],.cons ⟨_,rfl⟩ (.cons ru .nil),⟨_,t2,rfl,_,rfl⟩⟩,rfl,?_,?_,fun b hb=>?_⟩
  ·have hb':b≠e/\b≠it:=by simpa using hb
   exact b2.extBut _ _ hb'.1 (k1 b o hb'.1 hb'.2 e')
  ·exact⟨s.heap.objs.size,x,I.hok.fresh (cL _),rfl,rfl,fun zs hz=>by rw[I.list_inj hz hx];exact ex⟩
  ·obtain⟨o1,q1,r1⟩:=i1
   exact⟨⟨_,by simpa using e2⟩,⟨o1,b2.extBut _ _ hne.symm q1,r1⟩⟩
  ·have hlt:b<s.heap.objs.size:=by
    obtain⟨o1,q1,r1⟩:=st.i
    simp only [List.mem_cons,List.not_mem_nil,or_false]at hb
    rcases hb with rfl | rfl
    ·exact elt
    ·exact Heap.lt_size q1
   rw[aM (Nat.ne_of_lt hlt)];exact(hf b hb).1
 done:=by
  intro X hP hw hK hc i pins s σ H E I hf st hg;subst hP hw hK;obtain⟨xs,hx,hl⟩:=hg
  obtain⟨its,rv,p,_⟩:=I.list hx
  obtain⟨old,he⟩:=st.e
  have l1:=rv.length
  refine wpAny_pyNext_enum_end (I.ok.hd hc) he st.i p.isList (by simp;omega) fun h1 k1=>?_
  refine⟨rfl,I.turnL (t':=s.toks) hf fun b u hb e'=>?_⟩
  have hb':b≠e/\b≠it:=by simpa using hb
  exact k1 b u hb'.2 e'
 self:=fun _ _ _ _ _ st h=>by
  obtain⟨old,he⟩:=st.e
  exact wpAny_pyIter_enum he h
section
variable {X:Cx} {a b:Expr} {ta tb:TE} {p pos tpos:Pos} {es:List Expr} {n:Nat}
def Qx (K:W.Frag) (ta:TE):TI:=fun σ H R=>ta σ H fun x H1=>mR x fun a=>∃xs,SqL K H1 a xs/\R (Wl K a) H1
theorem Oh (hg:Gl X "enumerate") (hm:X.mg "enumerate"=none) (ha:PE X a ta) (h1:aT a=true):PI X (.Tuple es n tpos) (.Call (.Name "enumerate" p) [a] [] pos) (Qx X.K ta):=by
 intro pins s σ H R I h;have hs:starEach [a] X.env=[(false,eval a X.env)]:=by rw[bG h1];rfl
 have hA:PA X [a] (kC ta xK):=vB ha uM h1
 refine Call_ (oV I hg hm boot_enumerate (PyProof.Rows.callWith_type1 (bX (hA pos pins s σ H (fun vs H2=>match vs with | [x]=>(mR x fun a1=>∃xs,SqL X.K H2 a1 xs/\R (Wl X.K a1) H2) | _=>False) I ?_) fun us s1 ⟨vs,H1,I1,r1,q1⟩=>?_) (by rw[hs];rfl) rfl))
 ·exact h
 ·dsimp only at q1
  split at q1
  rotate_left
  ·exact q1.elim
  rename_i x
  rw[bY]at q1;obtain⟨a1,rfl,xs,q2,q⟩:=q1
  cases r1 with
  | cons r rr=>
   cases rr
   cases r
   obtain⟨its,rv,p1,_⟩:=I1.list q2
   refine call_enumerate_list p1.isList fun h' he hi hz k=>?_
   have I2:Inv X pins σ H1 {s1 with heap:=h' }:=I1.kept (t':=s1.toks) k
   have la:a1<s1.heap.objs.size:=by
    obtain⟨o,e',_⟩:=p1.isList
    exact Heap.lt_size e'
   refine wpAny_pyIter_enum (s:={s1 with heap:=h' }) he ?_
   refine⟨s1.heap.objs.size+1,_,_,_,H1,rfl,I2,Fi (Nat.ne_of_gt (Nat.lt_succ_self _)) (Nat.ne_of_lt (Nat.lt_succ_of_lt la)) (Nat.ne_of_lt la),⟨⟨_,he⟩,hi⟩,fun b hb=>?_,q⟩
   have hb':s1.heap.objs.size<=b:=by
    simp only [List.mem_cons,List.not_mem_nil,or_false]at hb
    rcases hb with rfl | rfl
    ·exact Nat.le_add_right _ 1
    ·exact cL _
   exact I1.fpOk hb' (I1.hok.fresh hb')
theorem R.fb {K:W.Frag} (hg:Gl X "enumerate") (hm:X.mg "enumerate"=none) (ha:XE X a ta) (hK:X.K=K:=by rfl) (h1:aT a=true:=by rfl):XI X (.Tuple es n tpos) (.Call (.Name "enumerate" p) [a] [] pos) (Qx K ta):=
 hK ▸ ⟨Oh hg hm ha.h h1⟩
end
theorem yJ {K:W.Frag} {a:Addr} {xs:List V} {g:TG} {tb:TS} {D:pU} {σ:St} {H:Hp} (Pv:Nat->St->Hp->Prop) (hA:∀i σ H,Pv i σ H->SqL K H a xs) (h0:Pv 0 σ H)
  (hs:∀(i:Nat) (x:V) σ H t,xs[i]?=some x->Pv i σ H->H t=none->g (.ref t) σ (aJ H t (.tup [.int i,x])) fun σ2 H2=>tb {D with nx:=Pv (i+1),ct:=Pv (i+1),bk:=D.nx } σ2 H2) (hd:∀ σ H,Pv xs.length σ H->D.nx σ H) :
  ∃W:Nat->Nat->St->Hp->Prop,(∃m,W 0 m σ H)/\∀i m σ H,W i m σ H →
   ((Wl K a).stop i H/\D.nx σ H)∨((Wl K a).go i H/\∃N:St->Hp->Prop,(∀ σ' H',N σ' H'->∃m',m'<m/\W (i+1) m' σ' H')/\∀x H',(Wl K a).yld i H x H'->g x σ H' fun σ2 H2=>tb {D with nx:=N,ct:=N,bk:=D.nx } σ2 H2):=by
 refine⟨fun i m σ H=>m=xs.length - i/\i<=xs.length/\Pv i σ H,⟨_,rfl,Nat.zero_le _,h0⟩,?_⟩
 rintro i m σ H ⟨rfl,hi,p⟩
 have q1:=hA i σ H p
 by_cases hlt:i<xs.length
 ·refine .inr ⟨⟨xs,xs[i],q1,jH hlt⟩,Pv (i+1),fun σ' H' n=>⟨xs.length - (i+1),Zo,rfl,hlt,n⟩,?_⟩
  rintro v H' ⟨t,x,ht,rfl,rfl,e1⟩
  exact hs i x σ H t (e1 xs q1) p ht
 ·have:i=xs.length:=by omega
  subst this;exact .inl ⟨⟨xs,q1,cL _⟩,hd σ H p⟩
end L2
namespace L2
open PySem PySem.Spec PyProof.Rows
section
variable {X:Cx} {pins:List (Addr × Obj)} {σ:St} {H:Hp} {s:Shared} {A:Around} {E:Value->Shared->Prop}
theorem An {x:V} {u:Value} {k:Kd} {b:Bool} {t:Addr} {dd:Option Addr} {its:List Value} {n:Nat} {sl:Array (Option Value)} {Q:Value->Shared->Prop} (I:Inv X pins σ H s) (rx:RelV x u) (hk:Kof H x k)
  (ht:s.heap.get? t=some ⟨.type "tuple",dd,.seq its.toArray n,sl⟩) (e:W.kitAny X.K (.type (Ew k)) its=some b) (h:∀tk,Q (.bool b) {s with toks:=tk }) :
  wpAny (model X.prog X.w) A (call (.builtin "isinstance") [u,.ref t]) Q E s:=by
 cases x with
 | non=>cases k <;> first | exact hk.elim | (cases (show u=Value.none from rx);exact W.kia_tup W.kitx_none I.kIn True.intro ht e (fun z=>nomatch z) h)
 | bl y=>cases k <;> first | exact hk.elim | (cases (show u=Value.bool y from rx);exact W.kia_tup W.kitx_bool I.kIn True.intro ht e (fun z=>nomatch z) h)
 | int i=>cases k <;> first | exact hk.elim | (obtain⟨t,q⟩:=(show ∃t,u=Value.int i t from rx);cases q;exact W.kia_tup W.kitx_int I.kIn True.intro ht e (fun z=>nomatch z) h)
 | str y=>cases k <;> first | exact hk.elim | (obtain⟨t,q⟩:=(show ∃t,u=Value.str y t from rx);cases q;exact W.kia_tup W.kitx_str I.kIn True.intro ht e (fun z=>nomatch z) h)
 | ref a=>
  cases (show u=Value.ref a from rx)
  cases k with
  | lst=>
   rcases hk with⟨xs,ea⟩ | ⟨ob,xs,ea⟩
   ·obtain⟨_,_,n,_,h1⟩:=(show ObjOk X.prog X.w H s.heap a (.lst xs) from I.hok a _ ea)
    exact W.kia_tup W.kitx_list I.kIn ⟨_,h1,rfl⟩ ht e (fun z=>nomatch z) h
   ·obtain⟨_,_,_,n,_,h1⟩:=(show ObjOk X.prog X.w H s.heap a (.frz ob (.lst xs)) from I.hok a _ ea)
    exact W.kia_tup W.kitx_list I.kIn ⟨_,h1,rfl⟩ ht e (fun z=>nomatch z) h
  | tup=>
   obtain⟨xs,ea⟩:=hk
   obtain⟨_,_,_,p⟩:=(show ObjOk X.prog X.w H s.heap a (.tup xs) from I.hok a _ ea)
   obtain⟨o,h1,h2,_⟩:=p
   exact W.kia_tup W.kitx_tuple I.kIn ⟨o,h1,h2⟩ ht e (fun z=>nomatch z) h
  | dct=>
   obtain⟨kvs,ea⟩:=hk
   obtain⟨_,_,vs,_,p⟩:=(show ObjOk X.prog X.w H s.heap a (.dK kvs) from I.hok a _ ea)
   obtain⟨o,es,ep,h1,h2,_⟩:=p
   exact W.kia_tup W.kitx_dict I.kIn ⟨o,h1,h2.1⟩ ht e (fun z=>nomatch z) h
  | _=>exact hk.elim
 | _=>cases k <;> exact hk.elim
def Jt:List V->Hp->VK->Prop:=fun vs H Q=>match vs with
 | [x,.ref t]=>H t=some (.tup [.ty "list",.ty "tuple"])/\∃k,Kof H x k/\Q (.bl (xV .lst k||xV .tup k)) H
 | _=>False
theorem Vb (K:W.Frag) (k:Kd):W.kitAny K (.type (Ew k)) [.type "list",.type "tuple"]=some (xV .lst k||xV .tup k):=by
  unfold W.kitAny;rw[show W.kitOne K (.type (Ew k)) (.type "list")=some (xV .lst k) from Ck K .lst k];cases k <;> first
    | rfl
    | (show W.kitAny K _ [.type "tuple"]=_
       unfold W.kitAny;first
         | rw[show W.kitOne K (.type (Ew .tup)) (.type "tuple")=some true from Ck K .tup .tup];rfl
         | (rw[show W.kitOne K _ (.type "tuple")=some false from Ck K .tup _];rfl))
theorem Vc:CallR X (.builtin "isinstance") Jt:=by
 intro pins s σ H xs us Q I r h;unfold Jt at h;split at h
 ·rename_i x t
  obtain⟨ht,k,hk,q⟩:=h
  cases r with
  | cons ra r2=>
   cases r2 with
   | cons rc r3=>
    cases r3
    cases rc
    obtain⟨_,its,rv,⟨ot,hto,hc,n,hd⟩⟩:=(show ObjOk X.prog X.w H s.heap t (.tup [.ty "list",.ty "tuple"]) from I.hok t _ ht)
    obtain⟨c0,dd,dat,sl⟩:=ot
    dsimp only at hc hd
    subst hc hd;cases rv with
    | cons r1 rv=>
     cases rv with
     | cons r2 rv=>
      cases rv
      cases (show _=Value.type "list" from r1)
      cases (show _=Value.type "tuple" from r2)
      exact An I ra hk hto (Vb _ k) fun tk=>⟨.bl _,H,I.tok _,rfl,q⟩
 ·exact h.elim
theorem R.fo:XC X (.builtin "isinstance") Jt:=⟨Vc⟩
end
def Vd:Nat->TV->Prop
 | n+1,.tp ts=>ts.length<=1000/\∀t∈ts,Vd n t
 | n+1,.ls ts=>ts.length<=1000/\∀t∈ts,Vd n t
 | _,.sc (.bl _)=>False
 | _,_=>True
def Ao (n:Nat):Sp:=fun vs H Q _=>∃x y t,vs=[x,y]/\Rep H n t x/\Rep H n t y/\Vd n t/\∀H',Same H H'->Q (.bl true) H'
end L2
namespace L2
open PySem PySem.Spec PyProof.Rows
def rC (k:Nat) (A:Around):Prop:=A.depth+3*k+5<recursionLimit/\A.units+16*k+200<cLine
theorem Room.toH {k:Nat} {A:Around} (r:Room k A):rC k A:=⟨r.dp,r.un⟩
abbrev Cx.uncalm (X:Cx):Cx:={X with calm:=false,xe:=fun _ _=>False }
structure Yz (P:Program) (w:World) (K:W.Frag) (mg:Str->Option Value) (base:Heap) (k:Nat) (f:Addr) (fd:FuncData) (ps:List Str) (sp:Sp):Prop where
 len:∀vs H Q E,sp vs H Q E->vs.length=ps.length
 run:∀(A:Around) (outer:List Env) (s:Shared) (H:Hp) (args:Args) (us:List Value) (vs:List V) (Q:VK),rC k A->Eg P w K mg base A outer s H->BindsTo s fd args (ps.zip us)->Vals vs us->sp vs H Q E0 →
  codeAny (model P w) A (.call (.ref f) args) (CR xT outer P w H s Q E0) s
structure oD (P:Program) (w:World) (K:W.Frag) (mg:Str->Option Value) (base:Heap) (n:Nat) (x:Str) (ps:List Str) (sp:Sp):Prop where
 ex:∃f fd,mg x=some (.ref f)/\W.keepIn K (.ref f)=true/\Yz P w K mg base n f fd ps sp/\Binds K fd ps []
section
variable {P:Program} {w:World} {K:W.Frag} {mg:Str->Option Value} {base:Heap}
theorem DefAt.goH {x:Str} {st:Stmt} {N ps:List Str} {k:Nat} {sp:Sp} (D:DefAt K mg x st ps) (S:aL N ps (aE st)) (len:∀vs H Q E,sp vs H Q E->vs.length=ps.length)
  (hbody:∀(f:Addr) (cdv:Value) (A:Around) (outer:List Env) (s:Shared) (H:Hp) (vs:List V) (Q:VK),rC k (A.deeper (envOfC x (aE st) s.heap.objs.size f cdv))->sp vs H Q E0 →
   ∃t,XB (kJ xT P w K mg base N x (aE st) f cdv A outer s H E0).uncalm (bZ st) t/\t {nx:=fun _ H'=>Q .non H',rt:=Q } (start N vs) H):oD P w K mg base (k+1) x ps sp:=by
 obtain⟨f,fd,F,hm,hb⟩:=D.ex
 refine⟨f,fd,hm,F.kp,?_,hb⟩
 obtain⟨oc,od,kV,doc,pm,an,cdv,ct,osl,rfl,lk,hcd⟩:=F.ex
 refine⟨len,fun A outer s H args us vs Q hr e0 hb r hsp=>?_⟩
 have hl:=len _ _ _ _ hsp
 have KX:K.In s.heap:=e0.mod.kin.keeps fun b o e=>(e0.bs b o e).1
 have lim:s.heap.NoLimit:=e0.mod.nolimit.keeps fun b o e=>(e0.bs b o e).1
 have hkind:∀y∈ps.zip us,(aE st).names.lookup y.1=some .local∨((aE st).names.lookup y.1=some .cell/\((cellsFrom (s.heap.objs.size+1) (aE st).names []).lookup y.1).isSome=true):=fun⟨n,v⟩ hy=>by
  rcases S.par n (List.of_mem_zip hy).1 with q | q
  ·exact .inl q
  ·exact .inr ⟨q,W.cellsFrom_some _ _ _ (.inl q)⟩
 have hdp:A.depth<recursionLimit:=by have:=hr.1;omega
 refine codeAny_call_function hdp (KX _ _ lk) rfl S.co S.gen rfl (W.codeRec_of KX hcd) (hb _ _ _ _ ?_)
 refine wpAny_newFunctionEnv_cells S.kind hkind fun env he s1 x1=>?_
 subst he;refine⟨lim.keeps x1.toInCall.keep,codeAny_func ?_⟩
 have hrd:rC k (A.deeper (envOfC x (aE st) s.heap.objs.size f cdv)):=⟨by have:=hr.1;show A.depth+1+3*k+5<_;omega,by have:=hr.2;show A.units+3+16*k+200<_;omega⟩
 obtain⟨t,ht,hq⟩:=hbody f cdv A outer s H vs Q hrd hsp
 have e1:Eg P w K mg base {A with handled:=none } outer s H:=⟨e0.frames,e0.mod,e0.bs,e0.bsz,e0.funs,e0.frf,e0.hok,e0.bare⟩
 have I0:Inv (kJ xT P w K mg base N x (aE st) f cdv {A with handled:=none } outer s H E0) [] (start N vs) H s1:=sV S rfl e1 hl r x1
 have I:Inv (kJ xT P w K mg base N x (aE st) f cdv A outer s H E0).uncalm [] (start N vs) H s1:=
  ⟨⟨I0.ok.mod,I0.ok.kind,I0.ok.glob,I0.ok.blt,I0.ok.above,I0.ok.inj,I0.ok.has,I0.ok.cab,(fun z=>nomatch z),I0.ok.frames,I0.ok.stk,I0.ok.exf,I0.ok.bs,I0.ok.bsz,I0.ok.noex,I0.ok.exfs,I0.ok.funs,I0.ok.frf⟩,I0.os,I0.bare,I0.base,I0.loc,I0.cell,I0.free,I0.freeC,I0.pin,I0.hok,I0.len⟩
 refine wpAny_mono (ht.h [] s1 (start N vs) H _ I hq) (fun fl s' hs=>?_) fun e s' hs=>hs.elim
 have fin:∀ {σ':St} {H':Hp} {v:V} {u:Value},Inv (kJ xT P w K mg base N x (aE st) f cdv A outer s H E0).uncalm [] σ' H' s'->RelV v u->Q v H'->CE outer P w H s Q u s':=
  fun {σ' H' v u} J rv q=>⟨v,H',J.os,J.bare,J.base,J.hok,rv,q⟩
 cases fl with
 | ret u=>
  obtain⟨v,σ',H',J,rv,q⟩:=hs
  exact fin J rv q
 | next=>
  obtain⟨σ',H',J,q⟩:=hs
  exact fin (v:=V.non) (u:=Value.none) J rfl q
 | brk=>
  obtain⟨_,_,_,q⟩:=hs
  exact False.elim q
 | cont=>
  obtain⟨_,_,_,q⟩:=hs
  exact False.elim q
end
section
variable {X:Cx} {x:Str} {n:Nat} {ps:List Str} {sp:Sp} {e:Expr} {es:List Expr} {t:TA} {p pos:Pos}
theorem Ve (c:oD X.prog X.w X.K X.mg X.base n x ps sp) (hr:rC n X.A) (hg:Gl X x) (ha:PA X (e::es) t) (hs:aT e=true) (h2:es.all aT=true) (hdb:(x == ("__debug__":Str))=false) :
  PE X (.Call (.Name x p) (e::es) [] pos) (Qo sp t):=by
 obtain⟨f,fd,hm,hk,F,hb⟩:=c.ex
 intro pins s σ H Q I h;refine wpAny_Call_Name_kw (jI I hg hm ?_ hdb)
 refine W.callWith_K (h₀:=X.base) I.ok.mod.kin hk (bX (ha pos pins s σ H _ I h) fun us s1 ⟨vs,H1,I1,r,q⟩=>⟨I1.kIn,?_⟩) (bG hs) (fJ h2)
 have hl:us.length=ps.length:=by rw[<- r.length];exact F.len _ _ _ _ q
 have hb':=hb s1 us I1.kIn (by rw[List.append_nil];exact hl)
 rw[List.append_nil]at hb';refine wpAny_call (codeAny_mono (F.run X.A X.stack s1 H1 ⟨us,[]⟩ us vs Q hr I1.env0 hb' r q) fun rs s' hq=>?_)
 cases rs with
 | error e'=>exact hq.elim
 | ok fl=>
  cases fl with
  | ret u=>exact I1.after hq
  | next=>exact False.elim hq
  | brk=>exact False.elim hq
  | cont=>exact False.elim hq
end
section
variable {X:Cx} {e o:Expr} {es:List Expr} {m x:Str} {p pos apos:Pos} {ta:TE} {t:TA} {C:Addr} {n:Nat} {ps:List Str} {sp:Sp} {Ex:St->Value->Option Addr->Hp->Prop}
def vR:V->List V->Hp->VK->Prop:=fun x vs H Q=>match x,vs with
 | .ref l,[.bl b]=>∃bs:List Bool,H l=some (.lst (bs.map V.bl))/\Q (.int (bs.count b:Nat)) H
 | _,_=>False
def vS:V->List V->Hp->VK->Prop:=fun x vs H Q=>match x,vs with
 | .ref l,[.bl b]=>∃(bs:List Bool) (j:Nat),H l=some (.lst (bs.map V.bl))/\bs[j]?=some b/\(∀m,m<j->bs[m]?≠some b)/\Q (.int j) H
 | _,_=>False
theorem mV:∀ {bs:List Bool} {us:List Value},Vals (bs.map V.bl) us->us=bs.map Value.bool
 | [],[],_=>rfl
 | b::bs,u::us,.cons r rs=>by
  cases r
  rw[mV rs];rfl
theorem yK (b c:Bool):oY (.bl b) (.bool c)=(c == b):=by cases b <;> cases c <;> rfl
theorem Fj:Hm X "list.count" vR:=by
 intro pins s σ H x vs v us Q I rx rv h;unfold vR at h;split at h
 ·rename_i l b
  obtain⟨bs,hl,q⟩:=h
  cases rx
  obtain⟨u,rfl,rfl⟩:=rv.one
  obtain⟨its,n,r,ho,hsz⟩:=I.lst hl
  obtain rfl:=mV r
  have fl:(bs.map V.bl).all bS=true:=by simp [bS]
  have hc:((bs.map Value.bool).toArray.toList.countP (oY (.bl b)))=bs.count b:=by
   show((bs.map Value.bool).countP (oY (.bl b)))=bs.count b
   rw[List.countP_map];unfold List.count;have:(oY (.bl b)∘Value.bool)=(· == b):=by
    funext c
    exact yK b c
   rw[this]
  refine call_meets PySem.F.slot_list_count ⟨_,ho,rfl⟩ PySem.F.entry_list_count (PySem.F.args_list_count_2 _ _)
   (SeqAt.list_countAt l (bs.map Value.bool).toArray n none #[] (.bool b) (oY (.bl b))) ⟨ho,fun y hy=>eI (x:=.bl b) (show RelV (V.bl b) (Value.bool b) from rfl) rfl r fl y (by simpa using hy),?_⟩
  rw[hc];exact⟨.int (bs.count b:Nat),H,I.tok _,⟨_,rfl⟩,q⟩
 ·exact h.elim
theorem Fk:Hm X "list.index" vS:=by
 intro pins s σ H x vs v us Q I rx rv h;unfold vS at h;split at h
 ·rename_i l b
  obtain⟨bs,j,hl,hj,hno,q⟩:=h
  cases rx
  obtain⟨u,rfl,rfl⟩:=rv.one
  obtain⟨its,n,r,ho,hsz⟩:=I.lst hl
  obtain rfl:=mV r
  have fl:(bs.map V.bl).all bS=true:=by simp [bS]
  have hjl:j<bs.length:=(Zgs.mp hj).1
  have ats:∀(m:Nat) (hm:m<(bs.map Value.bool).length),oY (.bl b) (bs.map Value.bool)[m]=decide (bs[m]?=some b):=fun m hm=>by
   have hm':m<bs.length:=by simpa using hm
   rw[List.getElem_map,yK,jH hm'];generalize bs[m]=c;cases c <;> cases b <;> rfl
  refine call_meets PySem.F.slot_list_index ⟨_,ho,rfl⟩ PySem.F.entry_list_index (PySem.F.args_list_index_2 _ _)
   (SeqAt.list_indexAt l (bs.map Value.bool).toArray n none #[] (.bool b) (oY (.bl b)) j (by simp;omega) (by rw[sizeLine_eq,aZ]at hsz;omega) ?_ ?_) ⟨ho,fun y hy=>eI (x:=.bl b) (show RelV (V.bl b) (Value.bool b) from rfl) rfl r fl y (by simpa using hy),⟨.int j,H,I.tok _,⟨_,rfl⟩,q⟩⟩
  ·have:=ats j (by simpa using hjl)
   simp only [List.getElem_toArray]
   rw[this];exact decide_eq_true hj
  ·intro m hm hlt;have hm':m<(bs.map Value.bool).length:=by simpa using hm
   have:=ats m hm'
   simp only [List.getElem_toArray]
   rw[this];exact decide_eq_false (hno m hlt)
 ·exact h.elim
namespace R
theorem iz (c:oD X.prog X.w X.K X.mg X.base n x ps sp) (hr:rC n X.A) (hg:Gl X x) (ha:XA X (e::es) t) (hs:aT e=true:=by rfl) (h2:es.all aT=true:=by rfl) (hdb:(x == ("__debug__":Str))=false:=by decide) :
  XE X (.Call (.Name x p) (e::es) [] pos) (Qo sp t):=⟨Ve c hr hg ha.h hs h2 hdb⟩
theorem iu:XM X "list.count" vR:=⟨Fj⟩
theorem iw:XM X "list.index" vS:=⟨Fk⟩
end R
end
end L2
namespace L2
open PySem PySem.Spec PyProof.Rows
theorem Cw {K:W.Frag} {H H':Hp} {a:Addr} {xs:List V} (h:SqL K H a xs) (k:∀o,H a=some o->H' a=some o):SqL K H' a xs:=by
 rcases h with h | h
 ·rcases h with h | ⟨ob,h⟩
  ·exact .inl (.inl (k _ h))
  ·exact .inl (.inr ⟨ob,k _ h⟩)
 ·exact .inr h
end L2
namespace L2
open PySem PySem.Spec PyProof.Rows
theorem pJ:fillsNumberSlot (.type "tuple") "mul"=pure false:=
 PySem.fillsNumberSlot_seq (id:="tuple.__mul__") (r:=some (.builtin "tuple.__rmul__")) PySem.F.slot_tuple_mul.lookup Zk PySem.F.slot_tuple_rmul.lookup Zk
theorem Ap:seqRepeat? (.type "tuple")=pure (some (.builtin "tuple.__mul__")):=by
 unfold seqRepeat?
 rw[PySem.seqSlot_of (T:="tuple") (name:="__mul__") (id:="tuple.__mul__") PySem.F.slot_tuple_mul.lookup Zk,PySem.seqSlot_of (T:="tuple") (name:="__rmul__") (id:="tuple.__rmul__") PySem.F.slot_tuple_rmul.lookup Zk]
 rfl
theorem Ju (a:Int) (t:Tok) (l:Addr) (items:Array Value) (n:Nat) (dd:Option Addr) (sl:Array (Option Value)) :
  Meets (Builtin.«int.__rmul__» ⟨[.int a t,.ref l],[]⟩) (fun _ R s=>s.heap.get? l=some {cls:=.type "tuple",dict:=dd,data:=.seq items n,slots:=sl }/\R (.ok (.ret Value.notImplemented)) s):=
 .of_wp fun prog w A R s h=>by obtain⟨hp,g,d,tk,os⟩:=s;obtain⟨hl,h⟩:=h;wp_walk;exact⟨_,rfl,h⟩
theorem Jv (t:Tok) (l:Addr) (items:Array Value) (n:Nat) (dd:Option Addr) (sl:Array (Option Value)) :
  Meets (Builtin.«tuple.__mul__» ⟨[.ref l,.int 1 t],[]⟩) (fun _ R s=>s.heap.get? l=some {cls:=.type "tuple",dict:=dd,data:=.seq items n,slots:=sl }/\R (.ok (.ret (Value.ref l))) s):=
 .of_wp fun prog w A R s h=>by
  obtain⟨hp,g,d,tk,os⟩:=s;obtain⟨hl,h⟩:=h
  have f1:=AutoSeq1.idx_int;have f2:=AutoSeq1.sub_tuple_tuple
  have hc0:(items.isEmpty||(1:Int) == 1)=true:=by simp
  wp_walk using wpAny_loadPart' hl
  exact⟨_,rfl,h⟩
theorem Jw (t:Tok) (l:Addr) (items:Array Value) (n:Nat) (dd:Option Addr) (sl:Array (Option Value)) (he:items.isEmpty=false) :
  Meets (Builtin.«tuple.__mul__» ⟨[.ref l,.int 0 t],[]⟩) (fun _ R s=>s.heap.get? l=some {cls:=.type "tuple",dict:=dd,data:=.seq items n,slots:=sl }/\R (.ok (.ret (Value.ref s.heap.objs.size))) {s with heap:=s.heap.push {cls:=Value.type "tuple",data:=Data.seq #[] },toks:=s.toks }):=
 .of_wp fun prog w A R s h=>by
  obtain⟨hp,g,d,tk,os⟩:=s;obtain⟨hl,h⟩:=h
  have f1:=AutoSeq1.idx_int;have f2:=AutoSeq1.sub_tuple_tuple
  have hc0:¬ (items.isEmpty||(0:Int) == 1)=true:=by simp [he]
  wp_walk using wpAny_loadPart' hl
  exact⟨_,rfl,h⟩
section
variable {X:Cx}
def Jx:R2:=fun x y H Q=>mR x fun a=>mI y fun k=>∃xs,H a=some (.tup xs)/\xs≠[]/\(k=0∨k=1)/\∀p H',Same H H'->H' p=some (.tup (if k=1 then xs else []))->Q (.ref p) H'
theorem Oi:OpR X (binaryOp .Mult) Jx:=by
 intro pins s σ H x y v u Q I rx ry h;unfold Jx at h;rw[bY]at h;obtain⟨a,rfl,h⟩:=h
 rw[kQ]at h;obtain⟨k,rfl,xs,hx,hne,hk,q⟩:=h
 cases rx
 obtain⟨t,rfl⟩:=ry
 obtain⟨its,ri,ti,_⟩:=I.tuple (SqT.of hx)
 obtain⟨⟨cls,dd,data,sl⟩,ho,hc,n,hd⟩:=id ti
 simp only at hc hd
 subst hc hd;have hem:its.toArray.isEmpty=false:=by
  cases its with
  | nil=>have:=ri.length;cases xs with | nil=>exact absurd rfl hne | cons _ _=>simp at this
  | cons b r=>simp
 refine wpAny_binaryOp_repeat_ref (T:="tuple") (U:="int") Zd ⟨_,ho,rfl⟩ (fun s'=>typeIs_int s' k t) pJ PySem.F.fills_int_mul PySem.F.slot_int_rmul Ap PySem.F.slot_int_index.lookup
  (call_meets PySem.F.slot_int_rmul (typeIs_int s k t) PySem.F.entry_int_rmul (PySem.F.args_int_rmul_2 _ _) (Ju k t a its.toArray n dd sl)
   ⟨ho,rfl,⟨_,ho,rfl⟩,?_⟩)
 rcases hk with rfl | rfl
 ·refine call_meets PySem.F.slot_tuple_mul ⟨_,ho,rfl⟩ PySem.F.entry_tuple_mul (PySem.F.args_tuple_mul_2 _ _) (Jw t a its.toArray n dd sl hem) ⟨ho,?_⟩
  exact⟨.ref _,_,I.laid (t':=s.toks) (o:=.tup []) (fun b ob q=>iV _ q) (cL _) ⟨Nat.zero_le _,[],.nil,IsTup.new _ _⟩,rfl,q _ _ (aA I.fresh) aD⟩
 ·refine call_meets PySem.F.slot_tuple_mul ⟨_,ho,rfl⟩ PySem.F.entry_tuple_mul (PySem.F.args_tuple_mul_2 _ _) (Jv t a its.toArray n dd sl) ⟨ho,?_⟩
  exact⟨.ref a,H,I,rfl,q a H (Same.refl H) hx⟩
theorem R.fq:hZ X (binaryOp .Mult) Jx:=⟨Oi⟩
def rD:V->List V->Hp->VK->Prop:=fun x vs H Q=>∃z y:Str,x=.str z/\vs=[.str y]/\(y.length == 0)=false/\z.length<=1000/\∀p,H p=none->Q (.ref p) (aJ H p (.tup [.str (Txt.partition z y).1,.str (Txt.partition z y).2.1,.str (Txt.partition z y).2.2]))
theorem vT:Hm X "str.partition" rD:=by
 intro pins s σ H x vs v us Q I rx rv h;obtain⟨z,y,rfl,rfl,hy,hz,q⟩:=h
 obtain⟨t,rfl⟩:=rx
 obtain⟨uu,rfl,u,rfl⟩:=rv.one
 refine call_meets PySem.F.slot_str_partition (typeIs_str _ _ _) PySem.F.entry_str_partition (PySem.F.args_str_partition_2 _ _) (meets_str_partition z y t u hy (cH hz)) ?_
 have fin:∀(a b c:Str) (ta tb tc:Tok) (k:Nat),Txt.partition z y=(a,b,c)->EP X pins σ Q (.ref s.heap.objs.size) {s with heap:=s.heap.push {cls:=.type "tuple",data:=.seq [.str a ta,.str b tb,.str c tc].toArray },toks:=k }:=fun a b c ta tb tc k e=>by
  refine⟨.ref _,_,I.laid (t':=k) (o:=.tup [.str a,.str b,.str c]) (fun b ob q=>iV _ q) (cL _) ⟨by show 3<=sizeLine;decide,_,.cons ⟨_,rfl⟩ (.cons ⟨_,rfl⟩ (.cons ⟨_,rfl⟩ .nil)),IsTup.new _ _⟩,rfl,?_⟩
  have:=q _ I.fresh
  rw[e]at this;exact this
 have e:Txt.partition z y=match PySem.Builtin.Str.occurrences z y 0 z.length 1 with
  | i::_=>(PySem.Builtin.Str.strSub z 0 i,y,PySem.Builtin.Str.strSub z (i+y.length) z.length)
  | []=>(z,Str.empty,Str.empty):=rfl
 revert e
 cases PySem.Builtin.Str.occurrences z y 0 z.length 1 with
 | nil=>intro e;exact fin _ _ _ _ _ _ _ e
 | cons i r=>intro e;exact fin _ _ _ _ _ _ _ e
theorem R.fw:XM X "str.partition" rD:=⟨vT⟩
end
def TabT (K:W.Frag) (P:Params):List DictEntry->List (Str × List V)->Prop
 | [],[]=>True
 | e::r,(x,xs)::q=>(∃t,e.key=.str x t)/\e.hash=PyData.keyHash P x/\(∃(b:Addr) (dd:Option Addr) (its:List Value) (n:Nat) (sl:Array (Option Value)),e.val=.ref b/\K.lookup b=some ⟨.type "tuple",dd,.seq (List.toArray its) n,sl⟩/\Vals xs its)/\xs.length<=1000/\TabT K P r q
 | _,_=>False
theorem TabT.keys {K:W.Frag} {P:Params}:∀ {es:List DictEntry} {ws:List (Str × List V)},TabT K P es ws->W.KeysLit P es
 | [],[],_=>trivial
 | e::r,(x,i)::q,h=>⟨let ⟨t,ht⟩:=h.1;⟨x,t,ht,h.2.1⟩,TabT.keys h.2.2.2.2⟩
 | [],_::_,h=>h.elim
 | _::_,[],h=>h.elim
def LookT (K:W.Frag) (o:Option (List V)) (f:Option Value):Prop:=match o with | some xs=>∃b,f=some (.ref b)/\∀H,SqT K H b xs | none=>f=none
theorem TabT.find {K:W.Frag} {P:Params} (z:Str):∀ {es:List DictEntry} {ws:List (Str × List V)},TabT K P es ws->LookT K (ws.lookup z) ((es.find? fun e=>Value.isStrOf z e.key).map (·.val))
 | [],[],_=>rfl
 | [],_::_,h=>h.elim
 | _::_,[],h=>h.elim
 | e::r,(x,xs)::q,h=>by
  obtain⟨⟨t,ht⟩,h2,⟨b,dd,its,n,sl,hv,hb,hx⟩,h1,h4⟩:=h
  have ih:=TabT.find z h4
  rw[List.lookup_cons,List.find?_cons];have e1:Value.isStrOf z e.key=(z == x):=by
   rw[ht];show(x == z)=(z == x)
   exact Bool.beq_comm
  rw[e1];cases hz:z == x with
  | true=>exact⟨b,by rw[<- hv];rfl,fun H=>.inr ⟨_,_,_,hb,rfl,rfl,by rw[fY,<- hx.length];exact cH h1,hx⟩⟩
  | false=>exact ih
structure KTabT (K:W.Frag) (P:Params) (a:Addr) (ws:List (Str × List V)):Prop where
 ex:∃es n,K.lookup a=some ⟨.type "dict",none,.dict (List.toArray es) n,#[]⟩/\TabT K P es ws/\(a == sysModules)=false
theorem KTabT.map {K:W.Frag} {prog:Program} {w:World} {a:Addr} {ws:List (Str × List V)} {h:Heap} (T:KTabT K w.params a ws) (X:K.In h) :
  ∃f:Str->Option Value,h.MapOf (strKind prog w) a f/\(a == sysModules)=false/\∀z,LookT K (ws.lookup z) (f z):=by
 obtain⟨es,n,hl,ht,lo⟩:=T.ex
 refine⟨_,W.mapOf_K (prog:=prog) X hl ht.keys,lo,fun z=>?_⟩
 have:=ht.find z
 unfold findBy;rw[List.find?_toArray];exact this
theorem LookT.some {K:W.Frag} {f:Option Value} {o:Option (List V)} (h:LookT K o f):f.isSome=o.isSome:=by
 cases o with
 | none=>rw[show f=none from h];rfl
 | some i=>obtain⟨t,h,_⟩:=h;rw[h];rfl
section
variable {X:Cx}
def yL (K:W.Frag) (P:Params) (neg:Bool):R2:=fun x y H Q=>mS x fun z=>mR y fun a=>∃ws,KTabT K P a ws/\Q (.bl (if neg then !(ws.lookup z).isSome else (ws.lookup z).isSome)) H
theorem Jy:OpR X (compareOp .In) (yL X.K X.w.params false):=by
 intro pins s σ H x y v u Q I rx ry h;unfold yL at h;rw[fZ]at h;obtain⟨z,rfl,h⟩:=h
 rw[bY]at h;obtain⟨a,rfl,ws,T,h⟩:=h
 obtain⟨t,rfl⟩:=rx
 cases ry
 obtain⟨f,hm,lo,hf⟩:=T.map (prog:=X.prog) I.kIn
 exact wpAny_in_of (strKind_is X.prog X.w z t) lo hm ⟨.bl (ws.lookup z).isSome,H,I.tok _,by rw[(hf z).some];rfl,h⟩
theorem Fl:OpR X (compareOp .NotIn) (yL X.K X.w.params true):=by
 intro pins s σ H x y v u Q I rx ry h;unfold yL at h;rw[fZ]at h;obtain⟨z,rfl,h⟩:=h
 rw[bY]at h;obtain⟨a,rfl,ws,T,h⟩:=h
 obtain⟨t,rfl⟩:=rx
 cases ry
 obtain⟨f,hm,lo,hf⟩:=T.map (prog:=X.prog) I.kIn
 exact wpAny_notIn_of (strKind_is X.prog X.w z t) lo hm ⟨.bl (!(ws.lookup z).isSome),H,I.tok _,by rw[(hf z).some];rfl,h⟩
def Jz (K:W.Frag) (P:Params):R2:=fun x y H Q=>mR x fun a=>mS y fun z=>∃ws xs,KTabT K P a ws/\ws.lookup z=some xs/\∀b,(∀H,SqT K H b xs)->Q (.ref b) H
theorem aAJ:IxR X (Jz X.K X.w.params):=by
 intro value slice pins s σ H x y v u Q I rx ry h hs;unfold Jz at h;rw[bY]at h;obtain⟨a,rfl,h⟩:=h
 rw[fZ]at h;obtain⟨z,rfl,ws,xs,T,hi,h⟩:=h
 obtain⟨t,rfl⟩:=ry
 cases rx
 obtain⟨f,hm,lo,hf⟩:=T.map (prog:=X.prog) I.kIn
 have hz:=hf z
 rw[hi]at hz;obtain⟨b,hz,hb⟩:=hz
 exact tail_any hm.typeIs slot_dict_getitem.lookup (wpAny_getItem_of (strKind_is X.prog X.w z t) hm hz ⟨.ref b,H,I.tok _,rfl,h b hb⟩) hs
def Ka (K:W.Frag) (P:Params) (td ty tx:TE):TE:=fun σ H Q=>td σ H fun x H1=>mR x fun a=>∃ws,KTabT K P a ws/\ty σ H1 fun y H2=>tx σ H2 fun v H3=>mS y fun z=>
 (∀xs b,ws.lookup z=some xs->(∀H,SqT K H b xs)->Q (.ref b) H3)/\(ws.lookup z=none->Q v H3)
theorem Kb {o e f:Expr} {apos cpos:Pos} {td ty tx:TE} (ho:PE X o td) (he:PE X e ty) (hf:PE X f tx) (m:M2 X o "get" apos e f cpos):PE X (.Call (.Attribute o "get" apos) [e,f] [] cpos) (Ka X.K X.w.params td ty tx):=by
 intro pins s σ H Q I h;refine wpAny_Call_method m.base m.few m.line PySem.F.plainAttrs_dict PySem.F.slot_dict_get PySem.F.type_dict_get (bX (ho pins s σ H _ I h) fun u s1 ⟨x,H1,I1,rx,q1⟩=>?_)
 replace q1:mR x fun a=>∃ws,KTabT X.K X.w.params a ws/\ty σ H1 fun y H2=>tx σ H2 fun v H3=>mS y fun z=>(∀xs b,ws.lookup z=some xs->(∀H,SqT X.K H b xs)->Q (.ref b) H3)/\(ws.lookup z=none->Q v H3):=q1
 rw[bY]at q1;obtain⟨a,rfl,ws,T,q1⟩:=q1
 cases rx
 obtain⟨g,hm,lo,hg⟩:=T.map (prog:=X.prog) I1.kIn
 refine⟨hm.typeIs,?_,?_⟩
 ·intro b q;cases q
  obtain⟨ob,_,_,g1,g2,_⟩:=hm
  exact⟨ob,g1,g2.2.1⟩
 rw[m.trees];refine Calls.callWith_builtin rfl (Calls.evalArgs_plain (Calls.spliced_cons (bX (he pins s1 σ H1 _ I1 q1) fun iv s2 ⟨y,H2,I2,ry,q2⟩=>
  Calls.spliced_cons (bX (hf pins s2 σ H2 _ I2 q2) fun fv s3 ⟨z,H3,I3,rz,q3⟩=>Calls.spliced_nil ?_))))
 dsimp only at q3
 rw[fZ]at q3;obtain⟨z',rfl,h1,h2⟩:=q3
 obtain⟨t,rfl⟩:=ry
 obtain⟨g3,hm3,_,hg3⟩:=T.map (prog:=X.prog) I3.kIn
 refine call_meetsIn PySem.F.slot_dict_get hm3.typeIs PySem.F.entry_dict_get (PySem.F.args_dict_get_3 _ _ _) (meets_dict_get_default (strKind X.prog X.w) a (strKind_is X.prog X.w z' t) lo fv) ⟨_,hm3,?_⟩
 have hz:=hg3 z'
 cases hl:ws.lookup z' with
 | none=>
  rw[hl]at hz;rw[show g3 z'=none from hz];exact⟨z,H3,I3.tok _,rz,h2 hl⟩
 | some xs=>
  rw[hl]at hz;obtain⟨b,hz,hb⟩:=hz
  rw[hz];exact⟨.ref b,H3,I3.tok _,rfl,h1 xs b hl hb⟩
theorem R.fz {K:W.Frag} {P:Params} {o e f:Expr} {apos cpos:Pos} {td ty tx:TE} (ho:XE X o td) (he:XE X e ty) (hf:XE X f tx) (hK:X.K=K:=by rfl) (hP:X.w.params=P:=by rfl) (h1:attributeBase o "get" X.env (eval o X.env)=eval o X.env:=by rfl) (h3:(apos.endLine == cpos.line)=true:=by rfl)
  (h2:((backTo cpos (starEach [e,f] X.env)).all (fun x=>!x.1)&&(backToKw cpos (keywordEach [] X.env)).all (fun x=>x.1.isSome)
  && decide (([e,f]:List Expr).length+([]:List Keyword).length+(if ([]:List Keyword).isEmpty then 0 else 1)<30))=true:=by rfl)
  (h4:backTo cpos (starEach [e,f] X.env)=[(false,eval e X.env),(false,eval f X.env)]:=by rfl):XE X (.Call (.Attribute o "get" apos) [e,f] [] cpos) (Ka K P td ty tx):=hK ▸ hP ▸ ⟨Kb ho.h he.h hf.h ⟨h1,h2,h3,h4⟩⟩
theorem R.fc {K:W.Frag} {P:Params} (hK:X.K=K:=by rfl) (hP:X.w.params=P:=by rfl):hZ X (compareOp .In) (yL K P false):=hK ▸ hP ▸ ⟨Jy⟩
theorem R.df {K:W.Frag} {P:Params} (hK:X.K=K:=by rfl) (hP:X.w.params=P:=by rfl):Qp X (Jz K P):=hK ▸ hP ▸ ⟨aAJ⟩
def Za (neg:Bool):R2:=fun x y H Q=>mR x fun a=>mR y fun b=>∃xs ys,H a=some (.lst xs)/\H b=some (.lst ys)/\xs.length=ys.length/\(∀(j:Nat) (u v:V),xs[j]?=some u->ys[j]?=some v->bS u=true/\bS v=true)/\Q (.bl (if neg then !gW xs ys else gW xs ys)) H
theorem Vf (neg:Bool) (hu:X.A.units+64<cLine):OpR X (compareOp (if neg then .NotEq else .Eq)) (Za neg):=by
 intro pins s σ H x y v u Q I rx ry h;unfold Za at h;rw[bY]at h;obtain⟨a,rfl,h⟩:=h
 rw[bY]at h;obtain⟨b,rfl,xs,ys,g1,g2,hl,fl,q⟩:=h
 cases rx
 cases ry
 obtain⟨its,ri,ti,_⟩:=I.list (SqL.of g1)
 obtain⟨its2,ri2,ti2,_⟩:=I.list (SqL.of g2)
 have el1:its.length=xs.length:=ri.length.symm
 have el2:its2.length=ys.length:=ri2.length.symm
 have each:∀j (h1:j<its.toArray.size) (h2:j<its2.toArray.size),SeqAt.EqAt X.A.in1 s its.toArray[j] its2.toArray[j] (uR (xs.getD j .non) (ys.getD j .non)):=fun j h1 h2=>by
  rw[fY]at h1 h2;obtain⟨h1',q1⟩:=Paired.get' (j:=j) ri h1
  obtain⟨h2',q2⟩:=Paired.get' (j:=j) ri2 h2
  obtain⟨f1,f2⟩:=fl j xs[j] ys[j] (jH h1') (jH h2')
  have e1:xs.getD j .non=xs[j]:=by simp [List.getD,h1']
  have e2:ys.getD j .non=ys[j]:=by simp [List.getD,h2']
  rw[e1,e2];simpa using qP q1 q2 f1 f2
 have es:its.toArray.size=its2.toArray.size:=by rw[fY,fY,el1,el2,hl]
 have e:((List.range its.toArray.size).all (fun j=>uR (xs.getD j .non) (ys.getD j .non)))=gW xs ys:=by
  unfold gW;rw[fY,el1,<- hl,Nat.min_self,beq_self_eq_true,Bool.and_true]
 cases neg with
 | true=>
  have key:=SeqAt.RcNeAt.lists (A:=X.A) (s:=s) ti.isList ti2.isList es Zo each
  rw[e]at key;exact key _ _ _ _ ⟨.bl _,H,I,rfl,q⟩
 | false=>
  have key:=SeqAt.RcAt.lists (A:=X.A) (s:=s) ti.isList ti2.isList es Zo each
  rw[e]at key;exact key _ _ _ _ ⟨.bl _,H,I,rfl,q⟩
def Qy (K:W.Frag) (C:Addr) (tb:(St->Value->Option Addr->Hp->Prop)->TS) (th:TS):TS:=fun D σ H=>
 tb (fun σ' cls od H'=>W.exmOne K cls (.ref C)=some true/\th D σ' H') D σ H
theorem Oj {C:Addr} {c:Str} {body suite:List Stmt} {s0:Stmt} {p hpos pos:Pos} {tb:(St->Value->Option Addr->Hp->Prop)->TS} {th:TS} (hst:X.stack=X.env::X.outer) (hf:X.env.frame=some X.env.locals)
  (hg:Gl X c) (hm:X.mg c=some (.ref C)) (hdb:(c == ("__debug__":Str))=false) (hb:∀pn Ex,PSs (X.trying pn Ex) body (tb Ex)) (hs:∀a,PSs (X.handling a) (s0::suite) th) :
  PS X (.Try body [.ExceptHandler (some (.Name c p)) none (s0::suite) hpos] [] [] pos) (Qy X.K C tb th):=by
 intro pins s σ H D I h;refine wpAny_Try_except (wpAny_mono (hb (X.pn++pins) _ [] s σ H D I.pnIn.trying h) (fun f s1 q=>?_) fun e s1 q=>?_)
 ·have q':=q.tried I.ok
  cases f with
  | next=>exact wpAny_execs_nil q'
  | brk=>exact q'
  | cont=>exact q'
  | ret u=>exact q'
 ·obtain⟨σ',H0,sc,I0,a,cls,od,H',rfl,F,hx1,hw⟩:=q
  have I0':Inv X pins σ' H0 sc:=I0.pnOut I.ok
  have F':Fly X.prog X.w X.stack H0 sc H' a cls od .none s1:=F
  refine yB I0' F' I.ok.frames hst hf fun s2 F2=>?_
  refine nV I0' F2 fun s3 F3=>?_
  have I3:=F3.inv I0'
  refine wpAny_handleBy_cons (codeAny_handlers_test ?_) (by intro q;cases q)
  refine jI (X:=X.handling a) (I3.handling (a:=a)) hg hm ?_ hdb
  obtain⟨T,⟨oe,vs,a0,oT,ts,e1,e2,_⟩,_⟩:=F3.tr
  have LT:W.Looks (model X.prog X.w) s3.heap (typeOf (.ref a)) cls:=e2 ▸ (W.Looks.ld e1).andThen .now
  refine(W.exm_one I3.kIn LT hx1).here ?_
  show codeAny _ _ _ _ _
  refine codeAny_handlers_suite ?_
  refine nV I0' F3 fun s4 F4=>?_
  have I4:=F4.inv I0'
  refine wpAny_mono (hs a pins s4 _ _ _ (I4.handling (a:=a)) hw) (fun f s6 q=>?_) (fun _ _ z=>False.elim z)
  exact q.handled I.ok
theorem R.gc {K:W.Frag} {C:Addr} {c:Str} {body suite:List Stmt} {s0:Stmt} {p hpos pos:Pos} {tb:(St->Value->Option Addr->Hp->Prop)->TS} {th:TS} (hm:X.mg c=some (.ref C)) (hg:Gl X c) (hb:∀pn Ex,XB (X.trying pn Ex) body (tb Ex)) (hs:∀a,XB (X.handling a) (s0::suite) th) (hK:X.K=K:=by rfl) (hst:X.stack=X.env::X.outer:=by rfl) (hf:X.env.frame=some X.env.locals:=by rfl) (hdb:(c == ("__debug__":Str))=false:=by decide +kernel) :
  XS X (.Try body [.ExceptHandler (some (.Name c p)) none (s0::suite) hpos] [] [] pos) (Qy K C tb th):=hK ▸ ⟨Oj hst hf hg hm hdb (fun pn Ex=>(hb pn Ex).h) fun a=>(hs a).h⟩
end
theorem tQ (l:List Nat) (i j:Nat):PySem.Builtin.Str.strSub (tx l) i j=tx ((l.drop i).take (j - i)):=by
 unfold PySem.Builtin.Str.strSub tx;congr 1
 simp [List.extract_eq_drop_take]
end L2
namespace L2
open PySem PySem.Spec PyProof.Rows
def PTS:List (Str × List V):=[("next",[.str "next",.str "turn"]),("has",[.str "name",.str "amount"]),("kept",[.str "number",.str "turn",.str "name",.str "key",.str "deed",.str "answer"]),("came",[.str "number",.str "turn",.str "name",.str "key",.str "deed"]),("asked",[.str "number"]),("done",[.str "number",.str "turn",.str "answer"])]
def BDS:List (Str × List V):=[("next",[.int 1,.int 1000000]),("number",[.int 1,.int 999999]),("turn",[.int 0,.int 1000000000000]),("amount",[.int 1,.int 1000000000000])]
inductive RP where
 | sc (v:V)
 | tp (xs:List V)
def PAt (H:Hp):RP->V->Prop
 | .sc v,x=>x=v
 | .tp xs,x=>∃b,x=.ref b/\H b=some (.tup xs)
theorem PAt.same {H H':Hp} (s:Same H H'):∀ {p:RP} {x:V},PAt H p x->PAt H' p x
 | .sc _,_,h=>h
 | .tp _,_,⟨b,e,g⟩=>⟨b,e,s _ _ g⟩
def RowAt (H:Hp) (a:Addr) (ps:List RP):Prop:=∃vs,H a=some (.tup vs)/\Paired (PAt H) ps vs
theorem RowAt.same {H H':Hp} {a:Addr} {ps:List RP} (s:Same H H') (h:RowAt H a ps):RowAt H' a ps:=let ⟨vs,e,p⟩:=h;⟨vs,s _ _ e,Paired.map' (fun _ _=>PAt.same s) p⟩
def FlatW (v:V):Prop:=(∃z,v=.str z/\z.length<=12/\32∉z.cps.toList/\61∉z.cps.toList/\10∉z.cps.toList)∨∃m:Nat,v=.int (m:Int)/\m<=1000000000000
structure DeedG (xs:List V):Prop where
 ok:bE xs=true
 shape:∃ns m,Qr xs ns m
 dwn:∃wd n as,DWN wd n xs as
 flat:∀y∈xs,FlatW y
 len:3<=xs.length/\xs.length<=5
inductive AnsIs:List V->Prop
 | no (h:Str):isNm h->AnsIs [.str "no",.str h]
 | nums (u:Str) (ms:List Nat):(u="ok"∨u="is"∨u="short"∨u="full")->ms.length<=2->(∀m∈ms,m<=1000000000000)->AnsIs (.str u::ms.map fun m:Nat=>V.int (m:Int))
def WID:List (Str × Int × List V):=[("add",1,[.str "add",.str "a",.int 1]),("take",1,[.str "take",.str "a",.int 1]),("move",1,[.str "move",.str "a",.str "b",.int 1]),("move",1000000000000,[.str "move",.str "a",.str "b",.int 1000000000000]),("pass",1,[.str "pass",.str "a",.str "b",.str "c",.int 1])]
def sC (w:Str):List Str:=if w="pass" then ["a","b"] else []
def bH (xs:List V):Bool:=if kD xs=.str "no" then oA xs else WID.any fun q=>cK q.1 (sC q.1) q.2.1 xs
def gB (H:Hp) (x:V):Bool:=match aY H x with | some xs=>bH xs | none=>false
structure Vg (xs ys:List V):Prop where
 is:AnsIs ys
 some:bH ys=true
 of:∃wd n as,DWN wd n xs as/\cK wd (as.map (·.1)) n ys=true
inductive RowIs:List RP->Prop
 | next (n t:Nat):1<=n->n<=1000000->t<=1000000000000->RowIs [.sc (.str "next"),.sc (.int n),.sc (.int t)]
 | has (a:Str) (m:Nat):isNm a->1<=m->m<=1000000000000->RowIs [.sc (.str "has"),.sc (.str a),.sc (.int m)]
 | asked (n:Nat):1<=n->n<=999999->RowIs [.sc (.str "asked"),.sc (.int n)]
 | done (n t:Nat) (xs ys:List V):1<=n->n<=999999->t<=1000000000000->Vg xs ys->RowIs [.sc (.str "done"),.sc (.int n),.sc (.int t),.tp ys]
 | came (n t:Nat) (a k:Str) (xs:List V):1<=n->n<=999999->t<=1000000000000->isNm a->yH k->DeedG xs->RowIs [.sc (.str "came"),.sc (.int n),.sc (.int t),.sc (.str a),.sc (.str k),.tp xs]
 | kept (n t:Nat) (a k:Str) (xs ys:List V):1<=n->n<=999999->t<=1000000000000->isNm a->yH k->DeedG xs->Vg xs ys->RowIs [.sc (.str "kept"),.sc (.int n),.sc (.int t),.sc (.str a),.sc (.str k),.tp xs,.tp ys]
theorem kY {H H':Hp} {x:V} (s:Same H H') (h:Pc H x):aY H' x=aY H x:=by
 rcases h with⟨h,_⟩ | ⟨a,ys,rfl,h | h⟩ | ⟨a,kvs,rfl,h⟩
 ·cases x <;> first | rfl | cases h
 ·unfold aY;dsimp only;rw[h,s _ _ h]
 ·unfold aY;dsimp only;rw[h,s _ _ h]
 ·unfold aY;dsimp only;rw[h,s _ _ h]
theorem mW {H H':Hp} {x:V} (s:Same H H') (h:Pc H x):cC H' x=cC H x:=by
 rcases h with⟨h,_⟩ | ⟨a,ys,rfl,h | h⟩ | ⟨a,kvs,rfl,h⟩
 ·cases x <;> first | rfl | cases h
 ·unfold cC;dsimp only;rw[h,s _ _ h]
 ·unfold cC;dsimp only;rw[h,s _ _ h]
 ·unfold cC;dsimp only;rw[h,s _ _ h]
theorem rE {H H':Hp} {x:V} (s:Same H H') (h:Pc H x):gB H' x=gB H x:=by unfold gB;rw[kY s h]
theorem lL {H H':Hp} {x:V} {wd:Str} {hs:List Str} {n:Int} (s:Same H H') (h:Pc H x):fX H' wd hs n x=fX H wd hs n x:=by unfold fX;rw[kY s h]
theorem Tg.th {H:Hp} {x:V} (h:Tg H x):Th H x/\∀a xs,x=.ref a->H a=some (.tup xs)->xs.length<=1000:=⟨⟨h.1.pt,fun a xs e g y hy=>((h.2 a xs e g).2 y hy).pt⟩,fun a xs e g=>(h.2 a xs e g).1⟩
def bK (H:Hp) (kd:Str) (x:V):Bool:=match BDS.lookup kd with
 | some [.int lo,.int hi]=>aO lo hi x
 | some _=>false
 | none=>if kd="name" then dF x else if kd="key" then bI x (LET++nH) 12 else if kd="deed" then cC H x else gB H x
theorem kZ {α:Type} {z:Str}:∀ {l:List (Str × α)} {i:α},l.lookup z=some i->(z,i)∈l
 | [],i,h=>by cases h
 | (x,j)::l,i,h=>by
  rw[List.lookup_cons]at h;cases e:z == x with
  | true=>rw[e]at h;injection h with h;rw[<- h,eq_of_beq e];exact iW
  | false=>rw[e]at h;exact gT _ (kZ h)
theorem vU {kd:Str} {xs:List V} (h:BDS.lookup kd=some xs):∃lo hi:Int,xs=[.int lo,.int hi]:=by
 have m:=kZ h
 unfold BDS at m;simp only [List.mem_cons,List.not_mem_nil,or_false,Prod.mk.injEq]at m
 rcases m with⟨_,rfl⟩ | ⟨_,rfl⟩ | ⟨_,rfl⟩ | ⟨_,rfl⟩ <;> exact⟨_,_,rfl⟩
def vV:Sp:=fun vs H Q _=>∃x,vs=[x]/\Tg H x/\∀H',Same H H'->Q (.bl (gB H x)) H'
def Kc:Sp:=fun vs H Q _=>∃kd x,vs=[.str kd,x]/\Tg H x/\∀H',Same H H'->Q (.bl (bK H kd x)) H'
theorem Ke:∀q∈WID,∃as,DWN q.1 q.2.1 q.2.2 as/\as.map (·.1)=sC q.1:=by
 have na:isNm "a":=⟨Zk,Zk,Zk⟩
 have nb:isNm "b":=⟨Zk,Zk,Zk⟩
 intro q hq;unfold WID at hq;simp only [List.mem_cons,List.not_mem_nil,or_false]at hq
 rcases hq with rfl | rfl | rfl | rfl | rfl
 ·exact⟨[],⟨⟨"a","a","a",_,.add⟩,fun _ h=>nomatch h⟩,Zk⟩
 ·exact⟨[],⟨⟨"a","a","a",_,.take⟩,fun _ h=>nomatch h⟩,Zk⟩
 ·exact⟨[],⟨⟨"a","b","a",_,.move⟩,fun _ h=>nomatch h⟩,Zk⟩
 ·exact⟨[],⟨⟨"a","b","a",_,.move⟩,fun _ h=>nomatch h⟩,Zk⟩
 ·exact⟨_,⟨⟨"a","b","c",_,.pass⟩,Zfm.mpr ⟨na,Zfm.mpr ⟨nb,fun _ h=>nomatch h⟩⟩⟩,Zk⟩
theorem Kf (H:Hp) (x:V):gB H x=if cT H x=.str "no" then (match aY H x with | some xs=>oA xs | none=>false) else WID.any fun q=>fX H q.1 (sC q.1) q.2.1 x:=by
 unfold gB cT fX;cases aY H x with
 | none=>
  rw[if_neg (fun e=>nomatch e)]
  symm
  rw[List.any_eq_false];intro q _;exact Bool.false_ne_true
 | some xs=>rfl
theorem Cy {z:Str} (h:isNm z):32∉z.cps.toList/\61∉z.cps.toList/\10∉z.cps.toList:=⟨fun m=>absurd (h.2.2 32 m) Zd,fun m=>absurd (h.2.2 61 m) Zd,fun m=>absurd (h.2.2 10 m) Zd⟩
theorem Ol {z:Str} (h:yH z):32∉z.cps.toList/\61∉z.cps.toList/\10∉z.cps.toList:=⟨fun m=>absurd (h.2.2 32 m) Zd,fun m=>absurd (h.2.2 61 m) Zd,fun m=>absurd (h.2.2 10 m) Zd⟩
theorem FlatW.nm {z:Str} (h:isNm z):FlatW (.str z):=.inl ⟨z,rfl,kB h.2.1 Zd,Cy h⟩
theorem FlatW.ky {z:Str} (h:yH z):FlatW (.str z):=.inl ⟨z,rfl,h.2.1,Ol h⟩
theorem FlatW.num {m:Nat} (h:m<=1000000000000):FlatW (.int (m:Int)):=.inr ⟨m,rfl,h⟩
def Vh:List Str:=["next","has","kept","came","asked","done","no","ok","is","short","full","="]
theorem Om:∀z∈Vh,z≠"="->isNm z:=by
 intro z hz hne;unfold Vh at hz;simp only [List.mem_cons,List.not_mem_nil,or_false]at hz
 rcases hz with rfl | rfl | rfl | rfl | rfl | rfl | rfl | rfl | rfl | rfl | rfl | rfl <;> first | exact⟨Zk,Zk,Zk⟩ | exact absurd rfl hne
theorem FlatW.wd {z:Str} (h:z∈Vh) (hne:z≠"="):FlatW (.str z):=.nm (Om z h hne)
theorem AnsIs.flat {ys:List V} (h:AnsIs ys):(1<=ys.length/\ys.length<=3)/\∀y∈ys,FlatW y:=by
 cases h with
 | no h hn=>exact⟨Zs,Zfm.mpr ⟨.wd Zk Zk,Zfm.mpr ⟨.nm hn,fun _ h=>nomatch h⟩⟩⟩
 | nums u ms hu h2 hm=>
  refine⟨by simp;omega,Zfm.mpr ⟨?_,fun y hy=>?_⟩⟩
  ·rcases hu with rfl | rfl | rfl | rfl <;> exact .wd Zk Zk
  ·obtain⟨m,hm',rfl⟩:=Zmm.mp hy
   exact .num (hm m hm')
end L2
namespace L2
open PySem PySem.Spec PyProof.Rows
theorem Aq {c:Nat}:∀(ps qs:List (List Nat)),ps≠[]->qs≠[]->jn c (ps++qs)=jn c ps++c::jn c qs
 | [],_,h,_=>absurd rfl h
 | [p],[],_,h=>absurd rfl h
 | [p],q::r,_,_=>rfl
 | p::p2::r,qs,_,h=>by
  have:=Aq (c:=c) (p2::r) qs Zs h
  show p++c::jn c ((p2::r)++qs)=(p++c::jn c (p2::r))++c::jn c qs
  rw[this];simp
def jw (ws:List Str):Str:=Txt.join (tx [32]) ws
theorem rF (ws:List Str):jw ws=tx (jn 32 (ws.map fun p=>p.cps.toList)):=by
 unfold jw;rw[<- qC,pA]
theorem Vi (ws:List Str):(jw ws).cps.toList=jn 32 (ws.map fun p=>p.cps.toList):=by
 unfold jw;rw[qC]
theorem jC {ws:List Str} (h0:ws≠[]) (h:∀p∈ws,32∉p.cps.toList):Txt.split (jw ws) (tx [32])=ws:=xY h0 h
theorem Kg {c k:Nat}:∀(ps:List (List Nat)),(∀p∈ps,p.length<=k)->(jn c ps).length<=(k+1)*ps.length
 | [],_=>by simp [jn]
 | [p],h=>by have:=h p Zs;simp [jn];omega
 | p::q::r,h=>by
  have ih:=Kg (c:=c) (k:=k) (q::r) fun x hx=>h x (gT _ hx)
  have h1:=h p Zs
  show(p++c::jn c (q::r)).length<=(k+1)*(p::q::r).length
  rw[eG,fI];have e:(k+1)*(p::q::r).length=(k+1)*(q::r).length+(k+1):=by rw[fI,Nat.mul_add];simp
  omega
theorem Vj {ws:List Str} {k:Nat} (h:∀p∈ws,p.length<=k):(jw ws).length<=(k+1)*ws.length:=by
 rw[rF,dM];have:=Kg (c:=32) (k:=k) (ws.map fun p=>p.cps.toList) fun p hp=>by
  obtain⟨z,hz,rfl⟩:=Zmm.mp hp
  have:=h z hz
  simpa [Str.length]using this
 simpa using this
theorem FlatW.txt {v:V} (h:FlatW v):(dH v).length<=13/\32∉(dH v).cps.toList/\61∉(dH v).cps.toList:=by
 rcases h with⟨z,rfl,h1,h2,h3,_⟩ | ⟨m,rfl,h⟩
 ·exact⟨kB h1 Zd,h2,h3⟩
 ·rw[xZ];exact⟨Cp (k:=12) (Wf h Zd),Jb m,fun h=>absurd (kU m 61 h) Zo⟩
theorem FlatW.no10 {v:V} (h:FlatW v):10∉(dH v).cps.toList:=by
 rcases h with⟨z,rfl,_,_,_,h⟩ | ⟨m,rfl,h⟩
 ·exact h
 ·rw[xZ];exact fun h=>absurd (kU m 10 h) Zo
def iN:RP->List Str
 | .sc v=>[dH v]
 | .tp xs=>xs.map dH
def Mi:List RP->List RP
 | [a,b,c,d,e,.tp xs,.tp ys]=>[a,b,c,d,e,.tp xs,.sc (.str "="),.tp ys]
 | ps=>ps
def eO (ps:List RP):List Str:=((Mi ps).map iN).flatten
def rG (ps:List RP):Str:=jw (eO ps)
def oU:Nat->List (List V)->List Str
 | _,[]=>[]
 | k,t::r=>List.replicate k ("=":Str)++t.map dH++oU (k+1) r
theorem yM (t:List V):∀(k:Nat) (ts:List (List V)),oU k (ts++[t])=oU k ts++(List.replicate (k+ts.length) ("=":Str)++t.map dH)
 | k,[]=>by simp [oU]
 | k,s::r=>by
  have:=yM t (k+1) r
  show List.replicate k ("=":Str)++s.map dH++oU (k+1) (r++[t])=_
  rw[this];have e:k+1+r.length=k+(s::r).length:=by rw[fI];omega
  rw[e];simp [oU]
structure RowS (ps:List RP) (scs:List V) (tts:List (List V)):Prop where
 eq:ps=scs.map RP.sc++tts.map RP.tp
 l2:tts.length<=2
 l5:2<=scs.length/\scs.length<=5
 fl:∀v∈scs,FlatW v
 ft:∀t∈tts,(1<=t.length/\t.length<=5)/\∀y∈t,FlatW y
 ln:eO ps=scs.map dH++oU 0 tts
theorem AnsIs.ft {ys:List V} (h:AnsIs ys):(1<=ys.length/\ys.length<=5)/\∀y∈ys,FlatW y:=⟨⟨h.flat.1.1,kB h.flat.1.2 Zd⟩,h.flat.2⟩
theorem DeedG.ft {xs:List V} (h:DeedG xs):(1<=xs.length/\xs.length<=5)/\∀y∈xs,FlatW y:=⟨⟨kB Zd h.len.1,h.len.2⟩,h.flat⟩
theorem RowIs.split {ps:List RP} (h:RowIs ps):∃scs tts,RowS ps scs tts:=by
 have fa:∀ {P:V->Prop},∀v∈([]:List V),P v:=fun _ h=>nomatch h
 cases h with
 | next n t h1 h2 h3=>
  refine⟨[.str "next",.int n,.int t],[],rfl,Zd,Zs,?_,(fun _ h=>nomatch h),rfl⟩
  exact Zfm.mpr ⟨.wd Zk Zk,Zfm.mpr ⟨.num Zo,Zfm.mpr ⟨.num Zo,fun _ h=>nomatch h⟩⟩⟩
 | has a m h1 h2 h3=>
  refine⟨[.str "has",.str a,.int m],[],rfl,Zd,Zs,?_,(fun _ h=>nomatch h),rfl⟩
  exact Zfm.mpr ⟨.wd Zk Zk,Zfm.mpr ⟨.nm h1,Zfm.mpr ⟨.num Zo,fun _ h=>nomatch h⟩⟩⟩
 | asked n h1 h2=>
  refine⟨[.str "asked",.int n],[],rfl,Zd,Zs,?_,(fun _ h=>nomatch h),rfl⟩
  exact Zfm.mpr ⟨.wd Zk Zk,Zfm.mpr ⟨.num Zo,fun _ h=>nomatch h⟩⟩
 | done n t xs ys h1 h2 h3 h4=>
  refine⟨[.str "done",.int n,.int t],[ys],rfl,Zs,Zs,?_,Zfm.mpr ⟨h4.is.ft,fun _ h=>nomatch h⟩,?_⟩
  ·exact Zfm.mpr ⟨.wd Zk Zk,Zfm.mpr ⟨.num Zo,Zfm.mpr ⟨.num Zo,fun _ h=>nomatch h⟩⟩⟩
  ·simp [eO,Mi,iN,oU]
 | came n t a k xs h1 h2 h3 h4 h5 h6=>
  refine⟨[.str "came",.int n,.int t,.str a,.str k],[xs],rfl,Zs,Zs,?_,Zfm.mpr ⟨h6.ft,fun _ h=>nomatch h⟩,?_⟩
  ·exact Zfm.mpr ⟨.wd Zk Zk,Zfm.mpr ⟨.num Zo,Zfm.mpr ⟨.num Zo,Zfm.mpr ⟨.nm h4,Zfm.mpr ⟨.ky h5,fun _ h=>nomatch h⟩⟩⟩⟩⟩
  ·simp [eO,Mi,iN,oU]
 | kept n t a k xs ys h1 h2 h3 h4 h5 h6 h7=>
  refine⟨[.str "kept",.int n,.int t,.str a,.str k],[xs,ys],rfl,Zs,Zs,?_,Zfm.mpr ⟨h6.ft,Zfm.mpr ⟨h7.is.ft,fun _ h=>nomatch h⟩⟩,?_⟩
  ·exact Zfm.mpr ⟨.wd Zk Zk,Zfm.mpr ⟨.num Zo,Zfm.mpr ⟨.num Zo,Zfm.mpr ⟨.nm h4,Zfm.mpr ⟨.ky h5,fun _ h=>nomatch h⟩⟩⟩⟩⟩
  ·simp [eO,Mi,iN,oU]
   rfl
theorem yN:∀(k:Nat) (ts:List (List V)),(∀t∈ts,∀y∈t,FlatW y)->∀p∈oU k ts,p.length<=13/\32∉p.cps.toList/\10∉p.cps.toList
 | k,[],_,p,hp=>nomatch hp
 | k,t::r,h,p,hp=>by
  have hp':p∈List.replicate k ("=":Str)++t.map dH++oU (k+1) r:=hp
  rcases Zma.mp hp' with h1 | h1
  ·rcases Zma.mp h1 with h2 | h2
   ·rw[List.eq_of_mem_replicate h2];exact⟨Zk,Zk,Zk⟩
   ·obtain⟨y,hy,rfl⟩:=Zmm.mp h2
    have:=(h t iW y hy).txt
    exact⟨this.1,this.2.1,(h t iW y hy).no10⟩
  ·exact yN (k+1) r (fun s hs=>h s (gT _ hs)) p h1
theorem RowS.fine {ps:List RP} {scs:List V} {tts:List (List V)} (S:RowS ps scs tts):(2<=(eO ps).length/\(eO ps).length<=16)/\∀p∈eO ps,p.length<=13/\32∉p.cps.toList/\10∉p.cps.toList:=by
 rw[S.ln];refine⟨?_,fun p hp=>?_⟩
 ·have h5:=S.l5
  have h2:=S.l2
  have ft:=S.ft
  rw[eG,aZ];have:(oU 0 tts).length<=11:=by
   match tts,h2,ft with
   | [],_,_=>simp [oU]
   | [t],_,ft=>have:=(ft t Zs).1.2;simp [oU];omega
   | [t,u],_,ft=>have:=(ft t Zs).1.2;have:=(ft u Zs).1.2;simp [oU];omega
  omega
 ·rcases Zma.mp hp with h | h
  ·obtain⟨y,hy,rfl⟩:=Zmm.mp h
   have:=(S.fl y hy).txt
   exact⟨this.1,this.2.1,(S.fl y hy).no10⟩
  ·exact yN 0 tts (fun t ht=>(S.ft t ht).2) p h
end L2
namespace L2
open PySem PySem.Spec PyProof.Rows PySem.Builtin PySem.Builtin.Str
section
variable {X:Cx}
def vW:V->List V->Hp->VK->Prop:=fun x vs H Q=>mS x fun z=>match vs with
 | [.str y]=>(y.length == 0)=false/\z.length<=100000/\∀l,H l=none->Q (.ref l) (aJ H l (.lst ((Txt.split z y).map V.str)))
 | _=>False
theorem Fm:Hm X "str.split" vW:=by
 intro pins s σ H x vs v us Q I rx rv h;unfold vW at h;rw[fZ]at h;obtain⟨z,rfl,h⟩:=h
 split at h
 ·rename_i y
  obtain⟨hy,hz,q⟩:=h
  obtain⟨t,rfl⟩:=rx
  obtain⟨uu,rfl,u,rfl⟩:=rv.one
  have fin:∀(l:List (Str × Tok)) (k:Nat),l.map (·.1)=Txt.split z y->EP X pins σ Q (.ref s.heap.objs.size) {s with heap:=s.heap.push {cls:=.type "list",data:=.seq (strValues l).toArray },toks:=k }:=fun l k e=>by
   refine⟨.ref s.heap.objs.size,_,I.laid (t':=k) (o:=.lst ((Txt.split z y).map V.str)) (fun b ob q=>iV _ q) (cL _) ?_,rfl,q _ (I.hok.fresh (cL _))⟩
   refine⟨?_,strValues l,0,by rw[<- e];exact Cs l,Heap.get?_push_size _ rfl⟩
   rw[aZ];have:=split_le z y
   exact kB this (kB (show z.length+2<=100002 by omega) Zd)
  have hsz:z.length<=sizeLine:=kB hz Zd
  have hsz2:(partsBetween z (occurrences z y 0 z.length (z.length+1)) y.length).length<=sizeLine:=by
   rw[length_partsBetween];have:=StrLaws.occ_length_le z y 0 z.length (z.length+1)
   exact kB (show _<=100002 by omega) Zd
  cases h1:(decide (z.length<y.length)||decide (strKind z<strKind y))
  ·cases hf:(occurrences z y 0 z.length (z.length+1)).isEmpty
   ·refine call_meets F.slot_str_split (typeIs_str _ _ _) F.entry_str_split (F.args_str_split_2 _ _) (meets_str_split_sep z y t u h1 hy hf hsz hsz2) ?_
    show wants (EP X pins σ Q) X.xe _ {s with toks:=_,heap:=s.heap.push {cls:=.type "list",data:=.seq (strsFrom s.toks (partsBetween z (occurrences z y 0 z.length (z.length+1)) y.length)).toArray } }
    rw[strsFrom_eq];exact fin (numbered s.toks _) _ ((numbered_texts _ _).trans ((if_neg (ne_true_of_eq_false h1)).trans (if_neg (ne_true_of_eq_false hf))).symm)
   ·exact call_meets F.slot_str_split (typeIs_str _ _ _) F.entry_str_split (F.args_str_split_2 _ _) (meets_str_split_not_found z y t u h1 hy hf)
     (fin [(z,t)] s.toks ((if_neg (ne_true_of_eq_false h1)).trans (if_pos hf)).symm)
  ·exact call_meets F.slot_str_split (typeIs_str _ _ _) F.entry_str_split (F.args_str_split_2 _ _) (meets_str_split_cannot_occur z y t u h1)
    (fin [(z,t)] s.toks (if_pos h1).symm)
 ·exact h.elim
theorem R.ck:XM X "str.split" vW:=⟨Fm⟩
end
end L2
namespace L2
open PySem PySem.Spec PyProof.Rows
theorem Fn {prog:Program} {w:World} {h:Heap} {a:Addr} {f:Str->Option Value} (m:h.MapOf (strKind prog w) a f):∃g:Option dQ->Option Value,h.MapOf (tM prog w) a g/\g none=none:=by
 obtain⟨o,es,ep,ho,hx,hd,hk,hf⟩:=m
 refine⟨_,⟨o,es,ep,ho,hx,hd,fun e he=>?_,fun k=>rfl⟩,?_⟩
 ·obtain⟨k,h1,h2⟩:=hk e he
  exact⟨some (Sum.inr k),h1,h2⟩
 ·show findBy Wk es none=none
  unfold findBy;have:es.find? (fun e=>Wk none e.key)=none:=by
   rw[Array.find?_eq_none];intro e he z;obtain⟨k,h1,h2⟩:=hk e he
   rcases cM z with⟨_,e1⟩ | ⟨_,e1,_⟩
   ·rw[e1]at h1;have h1':kM (Sum.inr k) .none=true:=h1
    rw[nY]at h1';cases h1'
   ·cases e1
  rw[this];rfl
section
variable {X:Cx}
def Kh (K:W.Frag) (P:Params) (neg:Bool):R2:=fun x y H Q=>mR y fun a=>∃ws,KTabT K P a ws/\match x with
 | .non=>Q (.bl neg) H
 | .str z=>Q (.bl (if neg then !(ws.lookup z).isSome else (ws.lookup z).isSome)) H
 | _=>False
theorem On (neg:Bool):OpR X (compareOp (if neg then .NotIn else .In)) (Kh X.K X.w.params neg):=by
 intro pins s σ H x y v u Q I rx ry h;unfold Kh at h;rw[bY]at h;obtain⟨a,rfl,ws,T,h⟩:=h
 cases x with
 | non=>
  cases rx
  cases ry
  obtain⟨f,hm,lo,hf⟩:=T.map (prog:=X.prog) I.kIn
  obtain⟨g,hm',hg⟩:=Fn hm
  cases neg
  ·refine wpAny_in_of (knd:=tM X.prog X.w) (k:=none) rfl lo hm' ⟨.bl _,H,I.tok _,rfl,?_⟩
   rw[hg];exact h
  ·refine wpAny_notIn_of (knd:=tM X.prog X.w) (k:=none) rfl lo hm' ⟨.bl _,H,I.tok _,rfl,?_⟩
   rw[hg];exact h
 | str z=>
  cases neg
  ·exact Jy pins s σ H (.str z) (.ref a) v u Q I rx ry ⟨ws,T,h⟩
  ·exact Fl pins s σ H (.str z) (.ref a) v u Q I rx ry ⟨ws,T,h⟩
 | _=>exact h.elim
theorem R.gf {K:W.Frag} {P:Params} (hK:X.K=K:=by rfl) (hP:X.w.params=P:=by rfl):hZ X (compareOp .NotIn) (Kh K P true):=hK ▸ hP ▸ ⟨On true⟩
end
theorem vX {z:Str} {i:Int} (h:WS.lookup z=some i):(z="add"/\i=1)∨(z="take"/\i=1)∨(z="move"/\i=2)∨(z="send"/\i=2)∨(z="fetch"/\i=2)∨(z="pass"/\i=3):=by
 have m:=kZ h
 unfold WS at m;simp only [List.mem_cons,List.not_mem_nil,or_false,Prod.mk.injEq]at m
 exact m
end L2
namespace L2
open PySem PySem.Spec PyProof.Rows
theorem jO {x:V} (h:dF x=true):∃z,x=.str z/\isNm z:=by
 unfold dF at h;cases x with
 | str z=>
  rw[bW,Bool.and_eq_true,Bool.and_eq_true]at h;obtain⟨⟨h1,h2⟩,h3⟩:=h
  have h1:=of_decide_eq_true h1
  have h2:=of_decide_eq_true h2
  exact⟨z,rfl,Zo,Zo,fun c hc=>of_decide_eq_true (List.all_eq_true.mp h3 c hc)⟩
 | _=>cases h
theorem yO {lo hi:Int} {x:V} (h:aO lo hi x=true):∃n,x=.int n/\lo<=n/\n<=hi:=by
 cases x with
 | int n=>
  have h':(decide (lo<=n)&&decide (n<=hi))=true:=h
  rw[Bool.and_eq_true]at h';exact⟨n,rfl,of_decide_eq_true h'.1,of_decide_eq_true h'.2⟩
 | _=>cases h
theorem jD {x:V} {ns:List V} (h:bJ x ns=true):∃z i,x=.str z/\WS.lookup z=some i/\(ns.length:Int)=i/\(∀y∈ns,dF y=true)/\(cQ (.str z) UW=true->eF ns 0≠eF ns 1):=by
 cases x with
 | str z=>
  unfold bJ at h;dsimp only at h
  cases hl:WS.lookup z with
  | none=>rw[hl]at h;cases h
  | some i=>
   rw[hl]at h;dsimp only at h
   rw[Bool.and_eq_true,Bool.and_eq_true]at h;refine⟨z,i,rfl,hl,of_decide_eq_true h.1.1,List.all_eq_true.mp h.1.2,fun hu e=>?_⟩
   have h2:=h.2
   rw[hu,decide_eq_true e]at h2;cases h2
 | _=>cases h
theorem Fo {xs:List V} (h:bE xs=true):∃wd n as,DWN wd n xs as:=by
 unfold bE at h;rw[Bool.and_eq_true,Bool.and_eq_true]at h;obtain⟨⟨h3,hf⟩,hn⟩:=h
 have h3:=of_decide_eq_true h3
 obtain⟨z,i,hx0,hl,hlen,hnm,_⟩:=jD hf
 obtain⟨n,hn',_,_⟩:=yO hn
 have ml:=lK h3
 match xs,h3 with
 | [x0,x1,x2],_=>
  have e0:x0=.str z:=hx0
  have e2:x2=.int n:=hn'
  obtain⟨a,e1,na⟩:=jO (hnm x1 (by show x1∈[x1];simp))
  subst e0 e1 e2;have hi:i=1:=by rw[<- hlen,ml];rfl
  rcases vX hl with⟨rfl,_⟩ | ⟨rfl,_⟩ | ⟨_,e⟩ | ⟨_,e⟩ | ⟨_,e⟩ | ⟨_,e⟩
  ·exact⟨_,_,_,⟨⟨a,a,a,_,.add⟩,fun _ h=>nomatch h⟩⟩
  ·exact⟨_,_,_,⟨⟨a,a,a,_,.take⟩,fun _ h=>nomatch h⟩⟩
  all_goals (rw[hi]at e;exact absurd e Zd)
 | [x0,x1,x2,x3],_=>
  have e0:x0=.str z:=hx0
  have e3:x3=.int n:=hn'
  obtain⟨a,e1,na⟩:=jO (hnm x1 (by show x1∈[x1,x2];simp))
  obtain⟨b,e2,nb⟩:=jO (hnm x2 (by show x2∈[x1,x2];simp))
  subst e0 e1 e2 e3;have hi:i=2:=by rw[<- hlen,ml];rfl
  rcases vX hl with⟨_,e⟩ | ⟨_,e⟩ | ⟨rfl,_⟩ | ⟨rfl,_⟩ | ⟨rfl,_⟩ | ⟨_,e⟩
  ·rw[hi]at e;exact absurd e Zd
  ·rw[hi]at e;exact absurd e Zd
  ·exact⟨_,_,_,⟨⟨a,b,a,_,.move⟩,fun _ h=>nomatch h⟩⟩
  ·exact⟨_,_,_,⟨⟨a,a,b,_,.send⟩,Zfm.mpr ⟨na,fun _ h=>nomatch h⟩⟩⟩
  ·exact⟨_,_,_,⟨⟨a,a,b,_,.fetch⟩,Zfm.mpr ⟨na,fun _ h=>nomatch h⟩⟩⟩
  ·rw[hi]at e;exact absurd e Zd
 | [x0,x1,x2,x3,x4],_=>
  have e0:x0=.str z:=hx0
  have e4:x4=.int n:=hn'
  obtain⟨a,e1,na⟩:=jO (hnm x1 (by show x1∈[x1,x2,x3];simp))
  obtain⟨b,e2,nb⟩:=jO (hnm x2 (by show x2∈[x1,x2,x3];simp))
  obtain⟨c,e3,nc⟩:=jO (hnm x3 (by show x3∈[x1,x2,x3];simp))
  subst e0 e1 e2 e3 e4;have hi:i=3:=by rw[<- hlen,ml];rfl
  rcases vX hl with⟨_,e⟩ | ⟨_,e⟩ | ⟨_,e⟩ | ⟨_,e⟩ | ⟨_,e⟩ | ⟨rfl,_⟩
  ·rw[hi]at e;exact absurd e Zd
  ·rw[hi]at e;exact absurd e Zd
  ·rw[hi]at e;exact absurd e Zd
  ·rw[hi]at e;exact absurd e Zd
  ·rw[hi]at e;exact absurd e Zd
  ·exact⟨_,_,_,⟨⟨a,b,c,_,.pass⟩,Zfm.mpr ⟨na,Zfm.mpr ⟨nb,fun _ h=>nomatch h⟩⟩⟩⟩
 | _::_::_::_::_::_::r,_=>
  have:=vG hl
  rw[ml]at hlen;simp at hlen
  omega
end L2
namespace L2
open PySem PySem.Spec PyProof.Rows
section
variable {X:Cx}
def vY:V->List V->Hp->VK->Prop:=fun x vs H Q=>match x,vs with
 | .ref l,[.str z]=>∃zs:List Str,H l=some (.lst (zs.map V.str))/\Q (.int (zs.count z:Nat)) H
 | _,_=>False
theorem tR (z:Str):∀ {zs:List Str} {us:List Value},Vals (zs.map V.str) us->us.countP (oY (.str z))=zs.count z
 | [],[],_=>rfl
 | y::zs,u::us,.cons r rs=>by
  rw[List.countP_cons,List.count_cons,tR z rs,uS r rfl];rfl
theorem Fp:Hm X "list.count" vY:=by
 intro pins s σ H x vs v us Q I rx rv h;unfold vY at h;split at h
 ·rename_i l z
  obtain⟨zs,hl,q⟩:=h
  cases rx
  obtain⟨u,rfl,ru⟩:=rv.one
  obtain⟨its,n,r,ho,hsz⟩:=I.lst hl
  have fl:(zs.map V.str).all bS=true:=by simp [bS]
  refine call_meets PySem.F.slot_list_count ⟨_,ho,rfl⟩ PySem.F.entry_list_count (PySem.F.args_list_count_2 _ _)
   (SeqAt.list_countAt l its.toArray n none #[] u (oY (.str z))) ⟨ho,fun y hy=>eI (x:=.str z) ru rfl r fl y (by simpa using hy),?_⟩
  rw[show its.toArray.toList.countP (oY (.str z))=zs.count z from tR z r];exact⟨.int (zs.count z:Nat),H,I.tok _,⟨_,rfl⟩,q⟩
 ·exact h.elim
theorem R.gh:XM X "list.count" vY:=⟨Fp⟩
end
end L2
namespace L2
open PySem PySem.Spec PyProof.Rows
section
open AutoSeq1 (wpAny_loadPart')
open MeetsSeq SeqAt
theorem iA (b:Str) (u:Tok) (l:Addr) (es:Array DictEntry) (n:Nat) (dd:Option Addr) (sl:Array (Option Value)) :
  Meets (Builtin.«str.__eq__» ⟨[.str b u,.ref l],[]⟩) (fun _ R s=>s.heap.get? l=some {cls:=.type "dict",dict:=dd,data:=.dict es n,slots:=sl }/\R (.ok (.ret .notImplemented)) s):=
 .of_wp fun prog w A R s h=>by obtain⟨hp,g,d,tk,os⟩:=s;obtain⟨hl,h⟩:=h;wp_walk using wpAny_loadPart' hl,wpAny_load hl;exact⟨_,rfl,h⟩
theorem mF (l b:Addr) (items:Array Value) (es:Array DictEntry) (n n2:Nat) (dd dd2:Option Addr) (sl sl2:Array (Option Value)) :
  Meets (Builtin.«tuple.__eq__» ⟨[.ref l,.ref b],[]⟩) (fun _ R s=>s.heap.get? l=some {cls:=.type "tuple",dict:=dd,data:=.seq items n,slots:=sl }/\s.heap.get? b=some {cls:=.type "dict",dict:=dd2,data:=.dict es n2,slots:=sl2 }/\R (.ok (.ret .notImplemented)) s):=
 .of_wp fun prog w A R s h=>by obtain⟨hp,g,d,tk,os⟩:=s;obtain⟨hl,hb,h⟩:=h;have f1:=F.sub_dict_tuple;wp_walk using wpAny_loadPart' hl,wpAny_loadPart' hb;exact⟨_,rfl,h⟩
variable {prog:Program} {w:World} {A:Around} {E:Value->Shared->Prop} {s:Shared}
theorem iO {a:Addr} {y:Value} {T:String} {r:Str} (sl:Slot "dict" r "dict.__eq__") (da:s.TypeIs (.ref a) "dict") (hy:s.TypeIs y T) (hs:isSubtype (.type T) (.type "dict")=pure false) (Q:Value->Shared->Prop) (h:Q .notImplemented s):wpAny (model prog w) A (call (.builtin "dict.__eq__") [.ref a,y]) Q E s:=by
 refine wpAny_call_entry sl da PySem.F.entry_dict_eq ?_ (PySem.F.args_dict_eq_2 _ _)
 show wpAny _ _ (Builtin.Dict.dictSlotArgs "__eq__" ⟨[.ref a,y],[]⟩ >>= _) _ _ s
 refine wpAny_bind ?_
 unfold Builtin.Dict.dictSlotArgs;refine wpAny_bind (wpAny_notOrdered_dict da ?_)
 show wpAny _ _ (pure (Value.ref a,y)) _ _ s
 refine wpAny_pure ?_
 refine wpAny_bind (wpAny_isInstance (T:=T) hy hs ?_)
 simp only [Bool.not_false,if_true]
 refine wpAny_bind (wpAny_rule ?_)
 exact wpAny_pure ⟨_,rfl,h⟩
def yP (s:Shared) (a:Addr):Prop:=∃es n dd sl,s.heap.get? a=some {cls:=.type "dict",dict:=dd,data:=.dict es n,slots:=sl }
theorem pP {a:Addr} (b:Str) (u:Tok) (h:yP s a) (hu:A.units<cLine):RcAt A s (.ref a) (.str b u) false:=fun prog w E Q hq=>by
 obtain⟨es,n,dd,sl,ho⟩:=h
 have tD:s.TypeIs (.ref a) "dict":=⟨_,ho,rfl⟩
 exact rc_eq_decline_or (k:=false) tD (typeIs_str s b u) Zd F.sub_str_dict F.slot_dict_eq F.slot_str_eq_refl
  (fun _ hq=>iO F.slot_dict_eq tD (typeIs_str s b u) F.sub_str_dict _ hq)
  (fun _ hq=>call_meets F.slot_str_eq_refl (typeIs_str s b u) F.entry_str_eq (F.args_str_eq_2 _ _) (iA b u a es n dd sl) ⟨ho,hq⟩)
  (fun _ hq=>wpAny_of_eq (rfl:isSame (.ref a) (.str b u)=pure false) hq) (.inr hu) hq
theorem yQ {a:Addr} (b:Str) (u:Tok) (h:yP s a) (hu:A.units<cLine):EqAt A s (.ref a) (.str b u) false:=fun prog w E Q hq=>by
 unfold eqBool;refine wpAny_holding ?_
 refine wpAny_ite_split (fun hab=>absurd (eq_of_beq hab) nofun) (fun _=>?_)
 exact wpAny_bind (pP b u h hu prog w E _ (wpAny_truthy_bool hq))
theorem yR {a:Addr} (b:Str) (u:Tok) (h:yP s a) (hu:A.units<cLine):RcAt A s (.str b u) (.ref a) false:=fun prog w E Q hq=>by
 obtain⟨es,n,dd,sl,ho⟩:=h
 have tD:s.TypeIs (.ref a) "dict":=⟨_,ho,rfl⟩
 exact rc_eq_decline_or (k:=false) (typeIs_str s b u) tD Zd F.sub_dict_str F.slot_str_eq F.slot_dict_eq_refl
  (fun _ hq=>call_meets F.slot_str_eq (typeIs_str s b u) F.entry_str_eq (F.args_str_eq_2 _ _) (iA b u a es n dd sl) ⟨ho,hq⟩)
  (fun _ hq=>iO F.slot_dict_eq_refl tD (typeIs_str s b u) F.sub_str_dict _ hq)
  (fun _ hq=>wpAny_of_eq (rfl:isSame (.str b u) (.ref a)=pure false) hq) (.inr hu) hq
theorem yS {a:Addr} (b:Str) (u:Tok) (h:yP s a) (hu:A.units<cLine):EqAt A s (.str b u) (.ref a) false:=fun prog w E Q hq=>by
 unfold eqBool;refine wpAny_holding ?_
 refine wpAny_ite_split (fun hab=>absurd (eq_of_beq hab) nofun) (fun _=>?_)
 exact wpAny_bind (yR b u h hu prog w E _ (wpAny_truthy_bool hq))
theorem mJ {l b:Addr} {items:Array Value} (hl:s.heap.IsTuple l items) (hb:yP s b):l≠b:=fun e=>by
 subst e;obtain⟨o,ho,hc,_⟩:=hl
 obtain⟨es,n,dd,sl,ho2⟩:=hb
 rw[ho]at ho2;cases ho2
 exact absurd hc Zs
theorem sD {l b:Addr} {items:Array Value} (hl:s.heap.IsTuple l items) (hb:yP s b) (hu:A.units<cLine):RcAt A s (.ref l) (.ref b) false:=fun prog w E Q h=>by
 have hne:l≠b:=mJ hl hb
 obtain⟨⟨cls,dd,data,sl⟩,ho,hc,n,hd⟩:=id hl
 obtain⟨es,n2,dd2,sl2,ho2⟩:=id hb
 simp only at hc hd
 subst hc hd;have tD:s.TypeIs (.ref b) "dict":=⟨_,ho2,rfl⟩
 exact(rc_eq_decline_or (k:=false) ⟨_,ho,rfl⟩ tD Zd F.sub_dict_tuple F.slot_tuple_eq F.slot_dict_eq_refl
  (fun _ hq=>call_meets F.slot_tuple_eq ⟨_,ho,rfl⟩ F.entry_tuple_eq (F.args_tuple_eq_2 _ _) (mF l b items es n n2 dd dd2 sl sl2) ⟨ho,ho2,hq⟩)
  (fun _ hq=>iO F.slot_dict_eq_refl tD (T:="tuple") (show s.TypeIs (.ref l) "tuple" from⟨_,ho,rfl⟩) F.sub_tuple_dict _ hq)
  (fun _ hq=>wpAny_isSame_ref_other' hne ho ho2 Zs hq) (.inr hu) h)
theorem sF {l b:Addr} {items:Array Value} (hl:s.heap.IsTuple l items) (hb:yP s b) (hu:A.units<cLine):EqAt A s (.ref l) (.ref b) false:=.of_refs (mJ hl hb) (sD hl hb hu)
end
def cP:V->V->Bool
 | .str u,.str z=>decide (u=z)
 | _,_=>false
def bL:List V->List V->Bool
 | [],[]=>true
 | x::xs,y::ys=>cP x y&&bL xs ys
 | _,_=>false
def oE (H:Hp) (x:V) (ys:List V):Bool:=match aY H x with | some xs=>bL xs ys | none=>false
def vZ (ys:List V):Prop:=∀y∈ys,∃z,y=V.str z
theorem Ki {x:V} {z:Str} (h:bS x=true):uR x (.str z)=cP x (.str z):=by
 cases x with
 | str u=>show(u == z)=decide (u=z);rw[Bool.eq_iff_iff];simp
 | _=>first | rfl | cases h
theorem Kj (x y:V):cP x y=cP y x:=by
 cases x with
 | str u=>cases y with
  | str z=>show decide (u=z)=decide (z=u);rw[decide_eq_decide];exact⟨Eq.symm,Eq.symm⟩
  | _=>rfl
 | _=>cases y <;> rfl
theorem mY:∀xs ys:List V,((List.range (min xs.length ys.length)).all (fun j=>cP (xs.getD j .non) (ys.getD j .non))&&xs.length == ys.length)=bL xs ys
 | [],[]=>rfl
 | [],_::_=>rfl
 | _::_,[]=>rfl
 | x::xs,y::ys=>by
  have ih:=mY xs ys
  show _=(cP x y&&bL xs ys)
  rw[<- ih,fI,fI,Nat.succ_min_succ,List.range_succ_eq_map,List.all_cons,List.all_map];have e:(xs.length+1 == ys.length+1)=(xs.length == ys.length):=by rw[Bool.eq_iff_iff];simp
  rw[e,Bool.and_assoc];rfl
theorem tS:∀xs ys:List V,bL xs ys=bL ys xs
 | [],[]=>rfl
 | [],_::_=>rfl
 | _::_,[]=>rfl
 | x::xs,y::ys=>by show(_&&_)=(_&&_);rw[Kj x y,tS xs ys]
theorem tT:∀ {ys:List V},vZ ys->bL ys ys=true
 | [],_=>rfl
 | y::ys,h=>by
  obtain⟨z,rfl⟩:=h y iW
  show(decide (z=z)&&bL ys ys)=true
  rw[tT fun y hy=>h y (gT _ hy),decide_eq_true rfl];rfl
section
variable {X:Cx}
theorem qE {pins:List (Addr × Obj)} {s:Shared} {σ:St} {H:Hp} {a:Addr} {kvs:List (dQ × V)} (I:Inv X pins σ H s) (h:H a=some (.dK kvs)):yP s a:=by
 obtain⟨z,hd,vs,rel,dd⟩:=Hr I.hok h
 obtain⟨⟨cls,d,data,sl⟩,es,ep,ho,hx,hd,_⟩:=dd.mapOf
 obtain⟨h1,h2,h3⟩:=hx
 simp only at h1 h2 h3 hd
 subst h1 h2 h3 hd;exact⟨_,_,_,_,ho⟩
theorem Vk {pins:List (Addr × Obj)} {s:Shared} {σ:St} {H:Hp} {x:V} {v:Value} {z:Str} {t:Tok} {A:Around} (I:Inv X pins σ H s) (hu:A.units<cLine) (h:Pc H x) (rx:RelV x v):SeqAt.EqAt A s v (.str z t) (cP x (.str z)):=by
 rcases h with⟨hf,_⟩ | ⟨a,ys,rfl,h | h⟩ | ⟨a,kvs,rfl,h⟩
 ·rw[<- Ki hf];exact qP rx ⟨t,rfl⟩ hf rfl
 ·cases rx
  obtain⟨its,_,pl,_⟩:=I.list (SqL.of h)
  exact SeqAt.EqAt.list_str z t pl.isList hu
 ·cases rx
  obtain⟨its,_,pl,_⟩:=I.tuple (SqT.of h)
  exact SeqAt.EqAt.tuple_str z t pl hu
 ·cases rx
  exact yQ z t (qE I h) hu
theorem Oo {pins:List (Addr × Obj)} {s:Shared} {σ:St} {H:Hp} {x:V} {v:Value} {z:Str} {t:Tok} {A:Around} (I:Inv X pins σ H s) (hu:A.units<cLine) (h:Pc H x) (rx:RelV x v):SeqAt.EqAt A s (.str z t) v (cP (.str z) x):=by
 rcases h with⟨hf,_⟩ | ⟨a,ys,rfl,h | h⟩ | ⟨a,kvs,rfl,h⟩
 ·have e:cP (.str z) x=uR (.str z) x:=by
   cases x with
   | str u=>show decide (z=u)=(z == u);rw[Bool.eq_iff_iff];simp
   | _=>first | rfl | cases hf
  rw[e];exact qP ⟨t,rfl⟩ rx rfl hf
 ·cases rx
  obtain⟨its,_,pl,_⟩:=I.list (SqL.of h)
  exact SeqAt.EqAt.str_list z t pl.isList hu
 ·cases rx
  obtain⟨its,_,pl,_⟩:=I.tuple (SqT.of h)
  exact SeqAt.EqAt.str_tuple z t pl hu
 ·cases rx
  exact yS z t (qE I h) hu
def Cz:R2:=fun x y H Q=>mS y fun z=>Pc H x/\Q (.bl (cP x (.str z))) H
theorem Op (hu:X.A.units+64<cLine):OpR X (compareOp .Eq) Cz:=by
 intro pins s σ H x y v u Q I rx ry h;unfold Cz at h;rw[fZ]at h;obtain⟨z,rfl,hp,q⟩:=h
 rcases hp with⟨hf,_⟩ | ⟨a,ys,rfl,hp | hp⟩ | ⟨a,kvs,rfl,hp⟩
 ·refine Xv pins s σ H x (.str z) v u Q I rx ry ?_
  cases x <;> first | exact q | cases hf
 ·cases rx
  obtain⟨t,rfl⟩:=ry
  obtain⟨its,_,pl,_⟩:=I.list (SqL.of hp)
  exact SeqAt.RcAt.list_str z t pl.isList Zo _ _ _ _ ⟨.bl _,H,I,rfl,q⟩
 ·cases rx
  obtain⟨t,rfl⟩:=ry
  obtain⟨its,_,pl,_⟩:=I.tuple (SqT.of hp)
  exact SeqAt.RcAt.tuple_str z t pl Zo _ _ _ _ ⟨.bl _,H,I,rfl,q⟩
 ·cases rx
  obtain⟨t,rfl⟩:=ry
  exact pP z t (qE I hp) Zo _ _ _ _ ⟨.bl _,H,I,rfl,q⟩
theorem R.cz (hu:X.A.units+64<cLine):hZ X (compareOp .Eq) Cz:=⟨Op hu⟩
def Kk:R2:=fun x y H Q=>mR x fun a=>mR y fun b=>∃xs ys,H a=some (.tup xs)/\H b=some (.tup ys)/\vZ ys/\(∀y∈xs,Pc H y)/\Q (.bl (bL xs ys)) H
theorem Oq (hu:X.A.units+64<cLine):OpR X (compareOp .Eq) Kk:=by
 intro pins s σ H x y v u Q I rx ry h;unfold Kk at h;rw[bY]at h;obtain⟨a,rfl,h⟩:=h
 rw[bY]at h;obtain⟨b,rfl,xs,ys,g1,g2,ht,hp,q⟩:=h
 cases rx
 cases ry
 obtain⟨its,ri,ti,_⟩:=I.tuple (SqT.of g1)
 obtain⟨its2,ri2,ti2,_⟩:=I.tuple (SqT.of g2)
 have el1:its.length=xs.length:=ri.length.symm
 have el2:its2.length=ys.length:=ri2.length.symm
 have each:∀j (h1:j<its.toArray.size) (h2:j<its2.toArray.size),SeqAt.EqAt X.A.in1 s its.toArray[j] its2.toArray[j] (cP (xs.getD j .non) (ys.getD j .non)):=fun j h1 h2=>by
  rw[fY]at h1 h2;obtain⟨h1',q1⟩:=Paired.get' (j:=j) ri h1
  obtain⟨h2',q2⟩:=Paired.get' (j:=j) ri2 h2
  have e1:xs.getD j .non=xs[j]:=by simp [List.getD,h1']
  have e2:ys.getD j .non=ys[j]:=by simp [List.getD,h2']
  rw[e1,e2];obtain⟨z,ez⟩:=ht ys[j] (List.getElem_mem h2')
  rw[ez]at q2 ⊢;obtain⟨t,et⟩:=q2
  rw[show its2.toArray[j]=its2[j] by simp,et]
  simpa using Vk (z:=z) (t:=t) (A:=X.A.in1) I (by rw[pI];omega) (hp _ (List.getElem_mem h1')) q1
 have e:((List.range (min its.toArray.size its2.toArray.size)).all (fun j=>cP (xs.getD j .non) (ys.getD j .non))&&its.toArray.size == its2.toArray.size)=bL xs ys:=by
  rw[fY,fY,el1,el2];exact mY xs ys
 have key:=SeqAt.RcAt.tuples (A:=X.A) (s:=s) ti ti2 Zo each
 rw[e]at key;exact key _ _ _ _ ⟨.bl _,H,I,rfl,q⟩
theorem R.gi (hu:X.A.units+64<cLine):hZ X (compareOp .Eq) Kk:=⟨Oq hu⟩
def Kl:R2:=fun x y H Q=>mR y fun p=>∃qs:List (Addr × List V),H p=some (.lst (qs.map fun q=>V.ref q.1))/\(∀q∈qs,H q.1=some (.tup q.2)/\vZ q.2)/\Tg H x/\Q (.bl (qs.any fun q=>oE H x q.2)) H
def Zb (H:Hp) (x:V):Value->Bool
 | .ref b=>(match H b with | some (.tup ys)=>oE H x ys | _=>false)
 | _=>false
theorem Vl {pins:List (Addr × Obj)} {s:Shared} {σ:St} {H:Hp} {x:V} {v:Value} {A:Around} (I:Inv X pins σ H s) (hu:A.units+8<cLine) (tg:Tg H x) (rx:RelV x v) {b:Addr} {ys:List V} (g:H b=some (.tup ys)) (ht:vZ ys):SeqAt.EqAt A s (.ref b) v (Zb H x (.ref b)):=by
 have e0:Zb H x (.ref b)=oE H x ys:=by unfold Zb;dsimp only;rw[g]
 rw[e0];obtain⟨its2,ri2,ti2,_⟩:=I.tuple (SqT.of g)
 rcases tg.1 with⟨hf,_⟩ | ⟨a,xs,rfl,h | h⟩ | ⟨a,kvs,rfl,h⟩
 ·have e:oE H x ys=false:=by cases x <;> first | rfl | cases hf
  rw[e];cases x with
  | non=>cases rx;exact SeqAt.EqAt.tuple_none ti2 Zo
  | bl n=>cases rx;exact SeqAt.EqAt.tuple_bool n ti2 Zo
  | int n=>obtain⟨t,rfl⟩:=rx;exact SeqAt.EqAt.tuple_int n t ti2 Zo
  | str n=>obtain⟨t,rfl⟩:=rx;exact SeqAt.EqAt.tuple_str n t ti2 Zo
  | _=>cases hf
 ·cases rx
  have e:oE H (.ref a) ys=false:=by unfold oE aY;dsimp only;rw[h]
  rw[e];obtain⟨its,_,pl,_⟩:=I.list (SqL.of h)
  exact SeqAt.EqAt.tuple_list ti2 pl.isList Zo
 ·cases rx
  have e:oE H (.ref a) ys=bL ys xs:=by unfold oE;rw[cJ h];exact tS xs ys
  rw[e];have hp:=(tg.2 a xs rfl h).2
  by_cases hab:b=a
  ·subst hab;rw[g]at h;cases h
   rw[tT ht];exact SeqAt.EqAt.same _
  obtain⟨its,ri,ti,_⟩:=I.tuple (SqT.of h)
  have el1:its.length=xs.length:=ri.length.symm
  have el2:its2.length=ys.length:=ri2.length.symm
  have each:∀j (h1:j<its2.toArray.size) (h2:j<its.toArray.size),SeqAt.EqAt A.in1 s its2.toArray[j] its.toArray[j] (cP (ys.getD j .non) (xs.getD j .non)):=fun j h1 h2=>by
   rw[fY]at h1 h2;obtain⟨h1',q1⟩:=Paired.get' (j:=j) ri2 h1
   obtain⟨h2',q2⟩:=Paired.get' (j:=j) ri h2
   have e1:ys.getD j .non=ys[j]:=by simp [List.getD,h1']
   have e2:xs.getD j .non=xs[j]:=by simp [List.getD,h2']
   rw[e1,e2];obtain⟨z,ez⟩:=ht ys[j] (List.getElem_mem h1')
   rw[ez]at q1 ⊢;obtain⟨t,et⟩:=q1
   rw[show its2.toArray[j]=its2[j] by simp,et]
   simpa using Oo (z:=z) (t:=t) (A:=A.in1) I (by rw[pI];omega) (hp _ (List.getElem_mem h2')) q2
  have e:((List.range (min its2.toArray.size its.toArray.size)).all (fun j=>cP (ys.getD j .non) (xs.getD j .non))&&its2.toArray.size == its.toArray.size)=bL ys xs:=by
   rw[fY,fY,el1,el2];exact mY ys xs
  have key:=SeqAt.RcAt.tuples (A:=A) (s:=s) ti2 ti Zo each
  rw[e]at key;exact SeqAt.EqAt.of_refs hab key
 ·cases rx
  have e:oE H (.ref a) ys=false:=by unfold oE aY;dsimp only;rw[h]
  rw[e];exact sF ti2 (qE I h) Zo
theorem Os (hu:X.A.units+64<cLine):OpR X (compareOp .In) Kl:=by
 intro pins s σ H x y v u Q I rx ry h;unfold Kl at h;rw[bY]at h;obtain⟨p,rfl,qs,g,gq,tg,q⟩:=h
 cases ry
 obtain⟨its,r,pl,hz⟩:=I.list (SqL.of g)
 have ei:its=qs.map fun q=>Value.ref q.1:=by
  clear q gq g pl hz;induction qs generalizing its with
  | nil=>cases r;rfl
  | cons z qs ih=>cases r with
   | cons r t=>cases r;rw[ih _ t];rfl
 refine SeqAt.in_listAt (Zb H x) pl.isList (fun w hw=>?_) ⟨.bl _,H,I,rfl,?_⟩
 ·rw[ei]at hw;have hw':w∈qs.map fun q=>Value.ref q.1:=by simpa using hw
  obtain⟨z,mz,rfl⟩:=Zmm.mp hw'
  obtain⟨gz,tz⟩:=gq z mz
  exact Vl I (by rw[pI];omega) tg rx gz tz
 ·have e:its.toArray.any (Zb H x)=qs.any fun q=>oE H x q.2:=by
   rw[ei,List.any_toArray,List.any_map];clear q ei r pl hz g;induction qs with
   | nil=>rfl
   | cons z qs ih=>
    rw[List.any_cons,List.any_cons,ih fun q hq=>gq q (gT _ hq)]
    congr 1
    show(match H z.1 with | some (.tup ys)=>oE H x ys | _=>false)=_
    rw[(gq z iW).1]
  rw[e];exact q
theorem R.gj (hu:X.A.units+64<cLine):hZ X (compareOp .In) Kl:=⟨Os hu⟩
end
end L2
namespace L2
open PySem PySem.Spec PyProof.Rows
def Tz (H:Hp) (x:V):Prop:=Pc H x/\∀a xs,x=.ref a->H a=some (.tup xs)->xs.length<=1000/\∀y∈xs,Tg H y
theorem Tz.tg {H:Hp} {x:V} (h:Tz H x):Tg H x:=⟨h.1,fun a xs e g=>⟨(h.2 a xs e g).1,fun y hy=>((h.2 a xs e g).2 y hy).1⟩⟩
def dnW (xs:List V):Str:=match xs with | .str u::_=>u | _=>""
def Zc (xs:List V):Int:=match eF xs (-1) with | some (.int n)=>n | _=>0
def dnH (xs:List V):List Str:=match xs with
 | [.str u,.str h,.str _,.int _]=>if u="move" then [] else [h]
 | [.str _,.str h,.str g,.str _,.int _]=>[h,g]
 | _=>[]
theorem DWN.dn {wd:Str} {n:Int} {xs:List V} {as:List (Str × List V)} (h:DWN wd n xs as):dnW xs=wd/\Zc xs=n/\dnH xs=as.map (·.1):=by
 obtain⟨one,other,nm,cs,hd⟩:=h.ex
 cases hd with
 | add=>exact⟨rfl,rfl,rfl⟩
 | take=>exact⟨rfl,rfl,rfl⟩
 | move=>exact⟨rfl,rfl,show(if ("move":Str)="move" then ([]:List Str) else [one])=[] from if_pos rfl⟩
 | send=>exact⟨rfl,rfl,show(if ("send":Str)="move" then ([]:List Str) else [one])=[one] from if_neg Zk⟩
 | fetch=>exact⟨rfl,rfl,show(if ("fetch":Str)="move" then ([]:List Str) else [one])=[one] from if_neg Zk⟩
 | pass=>exact⟨rfl,rfl,rfl⟩
def mG (H:Hp) (x y:V):Bool:=match aY H x with | some xs=>fX H (dnW xs) (dnH xs) (Zc xs) y | none=>false
def gC (H:Hp) (k x:V):Bool:=match k with | .str kd=>bK H kd x | _=>false
def wC (H:Hp) (xs:List V):Bool:=match xs with
 | .str wd::r=>(match PTS.lookup wd with
  | some ks=>decide (r.length=ks.length)&&(ks.zip r).all (fun q=>gC H q.1 q.2)&&(!decide (wd="kept")||mG H (r.getD 4 .non) (r.getD 5 .non))
  | none=>false)
 | _=>false
def pX (H:Hp) (x:V):Bool:=match aY H x with | some xs=>wC H xs | none=>false
def lC:Sp:=fun vs H Q _=>∃x,vs=[x]/\Tz H x/\∀H',Same H H'->Q (.bl (pX H x)) H'
theorem Ar {H H':Hp} {kd:Str} {x:V} (s:Same H H') (h:Pc H x):bK H' kd x=bK H kd x:=by unfold bK;rw[mW s h,rE s h]
theorem Km {H:Hp} {x:V} {xs:List V} (hp:aY H x=some xs):∃a,x=.ref a/\H a=some (.tup xs):=by
 unfold aY at hp;split at hp
 ·rename_i a
  refine⟨a,rfl,?_⟩
  split at hp
  ·rename_i ys e;rw[e,Option.some.inj hp]
  ·cases hp
 ·cases hp
theorem As (H:Hp) (x:V):(cT H x=.non/\pX H x=false)∨∃u r a,cT H x=.str u/\aY H x=some (.str u::r)/\x=.ref a/\H a=some (.tup (.str u::r)):=by
 cases hp:aY H x with
 | none=>left;unfold cT pX;rw[hp];exact⟨rfl,rfl⟩
 | some xs=>
  obtain⟨a,rfl,g⟩:=Km hp
  cases xs with
  | nil=>left;unfold cT pX;rw[hp];exact⟨rfl,rfl⟩
  | cons y r=>
   cases y with
   | str u=>exact .inr ⟨u,r,a,by unfold cT;rw[hp];rfl,rfl,rfl,g⟩
   | _=>left;unfold cT pX;rw[hp];exact⟨rfl,rfl⟩
theorem tV {wd:Str} {ks:List V} (h:PTS.lookup wd=some ks):vZ ks/\1<=ks.length/\ks.length<=6/\(wd="kept"->ks=[.str "number",.str "turn",.str "name",.str "key",.str "deed",.str "answer"]):=by
 have m:=kZ h
 unfold PTS at m;simp only [List.mem_cons,List.not_mem_nil,or_false,Prod.mk.injEq]at m
 have ht:∀zs:List Str,vZ (zs.map V.str):=fun zs y hy=>by obtain⟨z,_,e⟩:=Zmm.mp hy;exact⟨z,e.symm⟩
 rcases m with⟨rfl,rfl⟩ | ⟨rfl,rfl⟩ | ⟨rfl,rfl⟩ | ⟨rfl,rfl⟩ | ⟨rfl,rfl⟩ | ⟨rfl,rfl⟩
 ·exact⟨ht ["next","turn"],Zs,Zs,fun e=>absurd e Zk⟩
 ·exact⟨ht ["name","amount"],Zs,Zs,fun e=>absurd e Zk⟩
 ·exact⟨ht ["number","turn","name","key","deed","answer"],Zs,Zs,fun _=>rfl⟩
 ·exact⟨ht ["number","turn","name","key","deed"],Zs,Zs,fun e=>absurd e Zk⟩
 ·exact⟨ht ["number"],Zs,Zs,fun e=>absurd e Zk⟩
 ·exact⟨ht ["number","turn","answer"],Zs,Zs,fun e=>absurd e Zk⟩
theorem mZ (H:Hp) (x:V):bK H "deed" x=cC H x:=by
 unfold bK;rw[show BDS.lookup ("deed":Str)=none by decide +kernel]
 dsimp only;rw[if_neg Zk,if_neg Zk,if_pos rfl]
theorem oF (H:Hp) (x:V):bK H "answer" x=gB H x:=by
 unfold bK;rw[show BDS.lookup ("answer":Str)=none by decide +kernel]
 dsimp only;rw[if_neg Zk,if_neg Zk,if_neg Zk]
theorem nC (H:Hp) (x:V):bK H "name" x=dF x:=by
 unfold bK;rw[show BDS.lookup ("name":Str)=none by decide +kernel]
 dsimp only;rw[if_pos rfl]
theorem tW (H:Hp) (x:V):bK H "key" x=bI x (LET++nH) 12:=by
 unfold bK;rw[show BDS.lookup ("key":Str)=none by decide +kernel]
 dsimp only;rw[if_neg Zk,if_pos rfl]
theorem gF (H:Hp) (x:V):bK H "number" x=aO 1 999999 x:=rfl
theorem Au (H:Hp) (x:V):bK H "next" x=aO 1 1000000 x:=rfl
theorem jP (H:Hp) (x:V):bK H "turn" x=aO 0 1000000000000 x:=rfl
theorem wD (H:Hp) (x:V):bK H "amount" x=aO 1 1000000000000 x:=rfl
theorem rH {H:Hp} {x:V} (h:cC H x=true):∃a xs wd n as,x=.ref a/\H a=some (.tup xs)/\bE xs=true/\DWN wd n xs as:=by
 unfold cC at h;split at h
 ·rename_i a
  split at h
  ·rename_i xs e
   obtain⟨wd,n,as,hd⟩:=Fo h
   exact⟨a,xs,wd,n,as,rfl,e,h,hd⟩
  ·cases h
 ·cases h
theorem wE {H:Hp} {a:Addr} {xs:List V} {wd:Str} {n:Int} {as:List (Str × List V)} {y:V} (g:H a=some (.tup xs)) (h:DWN wd n xs as):mG H (.ref a) y=fX H wd (as.map (·.1)) n y:=by
 unfold mG;rw[cJ g];obtain⟨e1,e2,e3⟩:=h.dn
 show fX H (dnW xs) (dnH xs) (Zc xs) y=_
 rw[e1,e2,e3]
end L2
namespace L2
open PySem PySem.Spec PyProof.Rows
theorem Kn:∀l:List Nat,∃ps:List (List Nat),ps≠[]/\(∀p∈ps,32∉p)/\l=jn 32 ps
 | []=>⟨[[]],Zs,Zs,rfl⟩
 | c::l=>by
  obtain⟨ps,h0,hp,e⟩:=Kn l
  cases ps with
  | nil=>exact absurd rfl h0
  | cons p r=>
   by_cases hc:c=32
   ·refine⟨[]::p::r,Zs,Zfm.mpr ⟨Zs,hp⟩,?_⟩
    show c::l=[]++32::jn 32 (p::r)
    rw[<- e,hc];rfl
   ·refine⟨(c::p)::r,Zs,Zfm.mpr ⟨?_,(Zfm.mp hp).2⟩,?_⟩
    ·simp only [List.mem_cons,not_or]
     exact⟨fun e=>hc e.symm,(Zfm.mp hp).1⟩
    ·rw[e];cases r with
     | nil=>rfl
     | cons q r=>rfl
theorem yT (z:Str):∃ws:List Str,ws≠[]/\(∀p∈ws,32∉p.cps.toList)/\z=jw ws:=by
 obtain⟨ps,h0,hp,e⟩:=Kn z.cps.toList
 refine⟨ps.map tx,by simpa using h0,fun p h=>?_,?_⟩
 ·obtain⟨q,hq,rfl⟩:=Zmm.mp h
  simpa [tx]using hp q hq
 ·rw[rF,List.map_map];have:ps.map ((fun p:Str=>p.cps.toList)∘tx)=ps:=by
   have h:∀p:List Nat,((fun p:Str=>p.cps.toList)∘tx) p=p:=fun p=>by simp [tx]
   rw[show((fun p:Str=>p.cps.toList)∘tx)=id from funext h,List.map_id]
  rw[this,<- e,pA]
def Vm (l:List Nat) (i:Nat):Prop:=(l.drop i).take 3=[32,61,32]
theorem wF {l:List Nat} {i:Nat} (h:Vm l i):l[i]?=some 32:=by
 have e:=congrArg (fun l=>l[0]?) h
 simpa [List.getElem?_take,List.getElem?_drop]using e
theorem Av:∀(ps:List (List Nat)),(∀p∈ps,32∉p)->∀i,Vm (jn 32 ps) i->∃A B,A≠[]/\B≠[]/\ps=A++[61]::B/\i=(jn 32 A).length
 | [],_,i,h=>by have:=wF h;simp [jn]at this
 | [p],hp,i,h=>by
  have:=wF h
  exact absurd (sN this) (hp p Zs)
 | p::q::r,hp,i,h=>by
  have hp1:=hp p Zs
  have hq:=hp q Zs
  rcases Nat.lt_trichotomy i p.length with hi | hi | hi
  ·have:=wF h
   rw[show jn 32 (p::q::r)=p++32::jn 32 (q::r) from rfl,List.getElem?_append_left hi]at this;exact absurd (sN this) hp1
  ·subst hi;unfold Vm at h;rw[show jn 32 (p::q::r)=p++32::jn 32 (q::r) from rfl,List.drop_left' rfl]at h;have h2:(jn 32 (q::r)).take 2=[61,32]:=by
    rw[List.take_succ_cons]at h;exact(List.cons.inj h).2
   cases r with
   | nil=>
    have:32∈q:=List.mem_of_mem_take (show 32∈q.take 2 by rw[show q.take 2=[61,32] from h2];simp)
    exact absurd this hq
   | cons r0 r1=>
    rw[show jn 32 (q::r0::r1)=q++32::jn 32 (r0::r1) from rfl]at h2;match q,hq,h2 with
    | [],_,h2=>simp at h2
    | [c],_,h2=>
     have:c=61:=by simpa using h2
     subst this;exact⟨[p],r0::r1,Zs,Zs,rfl,rfl⟩
    | c::d::q',hq,h2=>
     have:d=32:=by simp at h2;exact h2.2
     subst this;exact absurd Zs hq
  ·have h':Vm (jn 32 (q::r)) (i - p.length - 1):=by
    unfold Vm at h ⊢
    rw[show jn 32 (p::q::r)=p++32::jn 32 (q::r) from rfl]at h;have:i=p.length+((i - p.length - 1)+1):=by omega
    rw[this,<- List.drop_drop,List.drop_left' rfl,List.drop_succ_cons]at h;exact h
   obtain⟨A,B,hA,hB,e,ei⟩:=Av (q::r) (fun x hx=>hp x (gT _ hx)) _ h'
   refine⟨p::A,B,Zs,hB,by rw[e];rfl,?_⟩
   cases A with
   | nil=>exact absurd rfl hA
   | cons a A=>
    show i=(p++32::jn 32 (a::A)).length
    rw[eG,fI,<- ei];omega
theorem Ot (A B:List Nat) (h2:∀i,i<A.length->¬ Vm (A++32::61::32::B) i):Txt.partition (tx (A++32::61::32::B)) (tx [32,61,32])=(tx A,tx [32,61,32],tx B):=by
 have hl:(tx (A++32::61::32::B)).length=A.length+(B.length+3):=by rw[dM];simp
 have hat:∀i,PySem.StrLaws.At (tx (A++32::61::32::B)) (tx [32,61,32]) (tx (A++32::61::32::B)).length i↔(i+3<=A.length+(B.length+3)/\((A++32::61::32::B).drop i).take 3=[32,61,32]):=fun i=>by
  unfold PySem.StrLaws.At;rw[hl,dM];have e:PySem.Builtin.Str.subAt (tx (A++32::61::32::B)) (tx [32,61,32]) i=decide (((A++32::61::32::B).drop i).take 3=[32,61,32]):=by
   unfold PySem.Builtin.Str.subAt tx;rw[Bool.eq_iff_iff,decide_eq_true_iff,beq_iff_eq];simp [Str.length,List.extract_eq_drop_take]
  rw[e,decide_eq_true_iff];exact Iff.rfl
 have h1:PySem.StrLaws.At (tx (A++32::61::32::B)) (tx [32,61,32]) (tx (A++32::61::32::B)).length A.length:=by
  rw[hat];refine⟨Zo,?_⟩
  simp
 rcases PySem.StrLaws.occ_head (tx (A++32::61::32::B)) (tx [32,61,32]) 1 (cL _) with⟨_,h⟩ | ⟨i,r,e,hi,hn⟩
 ·exact absurd h1 (h _)
 ·have:i=A.length:=by
   rcases Nat.lt_trichotomy i A.length with h | h | h
   ·exact absurd ((hat i).mp hi).2 (h2 i h)
   ·exact h
   ·exact absurd h1 (hn _ h)
  subst this;unfold Txt.partition;rw[e];dsimp only;rw[tQ,tQ,hl];simp [dM]
  exact rV Zo
theorem Ou (l:List Nat) (h:∀i,¬ Vm l i):Txt.partition (tx l) (tx [32,61,32])=(tx l,Str.empty,Str.empty):=by
 rcases PySem.StrLaws.occ_head (tx l) (tx [32,61,32]) 1 (cL _) with⟨e,_⟩ | ⟨i,r,e,hi,hn⟩
 ·unfold Txt.partition;rw[e]
 ·exfalso
  refine h i ?_
  unfold PySem.StrLaws.At at hi;have e:PySem.Builtin.Str.subAt (tx l) (tx [32,61,32]) i=decide ((l.drop i).take 3=[32,61,32]):=by
   unfold PySem.Builtin.Str.subAt tx;rw[Bool.eq_iff_iff,decide_eq_true_iff,beq_iff_eq];simp [Str.length,List.extract_eq_drop_take]
  rw[e,decide_eq_true_iff]at hi;exact hi.2
def brk:List Str->Option (List Str × List Str)
 | []=>none
 | z::r=>if z="="/\r≠[] then some ([],r) else (brk r).map fun q=>(z::q.1,q.2)
theorem lD:∀ {r A B:List Str},brk r=some (A,B)->r=A++("=":Str)::B/\B≠[]/\∀z∈A,z≠"="
 | [],A,B,h=>by cases h
 | z::r,A,B,h=>by
  unfold brk at h;by_cases hz:z="="/\r≠[]
  ·rw[if_pos hz]at h;cases h
   exact⟨by rw[hz.1];rfl,hz.2,fun _ h=>nomatch h⟩
  ·rw[if_neg hz]at h;cases e:brk r with
   | none=>rw[e]at h;cases h
   | some q=>
    rw[e]at h;obtain⟨A',B'⟩:=q
    cases h
    obtain⟨h1,h2,h3⟩:=lD e
    refine⟨by rw[h1];rfl,h2,Zfm.mpr ⟨fun hz'=>hz ⟨hz',?_⟩,h3⟩⟩
    rw[h1];simp
theorem rJ:∀ {r:List Str},brk r=none->∀A B,r=A++("=":Str)::B->B=[]
 | [],_,A,B,e=>by simp at e
 | z::r,h,A,B,e=>by
  unfold brk at h;by_cases hz:z="="/\r≠[]
  ·rw[if_pos hz]at h;cases h
  ·rw[if_neg hz]at h;have hr:brk r=none:=by
    cases e:brk r with
    | none=>rfl
    | some q=>rw[e]at h;cases h
   cases A with
   | nil=>
    obtain⟨rfl,rfl⟩:=List.cons.inj e
    exact Classical.byContradiction fun h=>hz ⟨rfl,h⟩
   | cons a A=>
    exact rJ hr A B (List.cons.inj e).2
theorem Vn:("=":Str).cps.toList=[61]:=by decide +kernel
theorem Qz {p:Str} (h:p.cps.toList=[61]):p="=":=by
 have:p=tx p.cps.toList:=(pA p).symm
 rw[this,h];decide +kernel
theorem Ov {c:Nat} (A C:List (List Nat)):(jn c A).length<=(jn c (A++C)).length:=by
 cases C with
 | nil=>simp
 | cons x C=>
  cases A with
  | nil=>simp [jn]
  | cons a A=>rw[Aq _ _ Zs Zs,eG];omega
theorem rK {z0:Str} {r A B:List Str} (hw:∀p∈z0::r,32∉p.cps.toList) (h:brk r=some (A,B)):Txt.partition (jw (z0::r)) (tx [32,61,32])=(jw (z0::A),tx [32,61,32],jw B):=by
 obtain⟨er,hB,hA⟩:=lD h
 have e:jw (z0::r)=tx (jn 32 ((z0::A).map fun p=>p.cps.toList)++32::61::32::jn 32 (B.map fun p=>p.cps.toList)):=by
  rw[rF,er,show z0::(A++("=":Str)::B)=(z0::A)++("=":Str)::B from rfl,hW,Aq _ _ Zs Zs]
  congr 2
  rw[List.map_cons,Vn];cases B with
  | nil=>exact absurd rfl hB
  | cons b r=>rfl
 rw[e,Ot,<- rF,<- rF];intro i hi ho;have e2:jn 32 ((z0::A).map fun p=>p.cps.toList)++32::61::32::jn 32 (B.map fun p=>p.cps.toList)=jn 32 ((z0::r).map fun p=>p.cps.toList):=by
  have:=congrArg (fun s:Str=>s.cps.toList) e
  rw[Vi]at this;simpa [tx]using this.symm
 rw[e2]at ho;obtain⟨A',B',hA',hB',ep,ei⟩:=Av _ (fun p hp=>by obtain⟨z,hz,rfl⟩:=Zmm.mp hp;exact hw z hz) i ho
 have:((z0::A).map fun p=>p.cps.toList).length<=A'.length:=by
  refine Classical.byContradiction fun hc=>?_
  have hlt:A'.length<(z0::A).length:=by rw[aZ]at hc;omega
  have g1:((z0::r).map fun p=>p.cps.toList)[A'.length]?=some [61]:=by rw[ep];simp
  have g2:((z0::r).map fun p=>p.cps.toList)[A'.length]?=some ((z0::A)[A'.length].cps.toList):=by
   rw[er,show z0::(A++("=":Str)::B)=(z0::A)++("=":Str)::B from rfl,hW,List.getElem?_append_left (by simpa using hlt),kH,jH hlt]
   rfl
  rw[g1]at g2;have g3:(z0::A)[A'.length]="=":=Qz (Option.some.inj g2).symm
  cases A' with
  | nil=>exact absurd rfl hA'
  | cons a A'=>
   have h4:A'.length<A.length:=by simpa using hlt
   have g4:A[A'.length]="=":=by simpa using g3
   exact hA _ (List.getElem_mem h4) g4
 have hpre:∃C,A'=((z0::A).map fun p=>p.cps.toList)++C:=by
  have e4:((z0::A).map fun p=>p.cps.toList)++((("=":Str)::B).map fun p=>p.cps.toList)=A'++[61]::B':=by
   rw[<- hW,<- ep,er];rfl
  rcases List.append_eq_append_iff.mp e4 with⟨C,h1,_⟩ | ⟨C,h1,_⟩
  ·exact⟨C,h1⟩
  ·have:C=[]:=by
    have:=congrArg List.length h1
    rw[eG]at this;exact List.length_eq_zero_iff.mp Zo
   exact⟨[],by rw[h1,this];simp⟩
 obtain⟨C,eC⟩:=hpre
 have:=Ov (c:=32) ((z0::A).map fun p=>p.cps.toList) C
 rw[<- eC,<- ei]at this;omega
theorem rL {z0:Str} {r:List Str} (hw:∀p∈z0::r,32∉p.cps.toList) (h:brk r=none):Txt.partition (jw (z0::r)) (tx [32,61,32])=(jw (z0::r),Str.empty,Str.empty):=by
 rw[rF];refine Ou _ fun i ho=>?_
 obtain⟨A',B',hA',hB',ep,ei⟩:=Av _ (fun p hp=>by obtain⟨z,hz,rfl⟩:=Zmm.mp hp;exact hw z hz) i ho
 cases A' with
 | nil=>exact hA' rfl
 | cons a A'=>
  have e1:r.map (fun p=>p.cps.toList)=A'++[61]::B':=(List.cons.inj ep).2
  obtain⟨A,R,e2,e3,e4⟩:=List.map_eq_append_iff.mp e1
  obtain⟨q,B,e5,e6,e7⟩:=List.map_eq_cons_iff.mp e4
  have:B=[]:=rJ h A B (by rw[e2,e5,Qz e6])
  rw[this]at e7;exact hB' e7.symm
end L2
namespace L2
open PySem PySem.Spec PyProof.Rows
section
variable {X:Cx}
def Ko:R2:=fun x y H Q=>mR x fun a=>mR y fun b=>∃xs ys,H a=some (.lst xs)/\H b=some (.lst ys)/\(∀(j:Nat) (u v:V),xs[j]?=some u->ys[j]?=some v->bS u=true/\bS v=true)/\Q (.bl (gW xs ys)) H
theorem Ow (hu:X.A.units+64<cLine):OpR X (compareOp .Eq) Ko:=by
 intro pins s σ H x y v u Q I rx ry h;unfold Ko at h;rw[bY]at h;obtain⟨a,rfl,h⟩:=h
 rw[bY]at h;obtain⟨b,rfl,xs,ys,g1,g2,fl,q⟩:=h
 by_cases hl:xs.length=ys.length
 ·exact Vf false hu pins s σ H (.ref a) (.ref b) v u Q I rx ry ⟨xs,ys,g1,g2,hl,fl,q⟩
 ·cases rx
  cases ry
  obtain⟨its,ri,ti,_⟩:=I.list (SqL.of g1)
  obtain⟨its2,ri2,ti2,_⟩:=I.list (SqL.of g2)
  have el1:its.length=xs.length:=ri.length.symm
  have el2:its2.length=ys.length:=ri2.length.symm
  have e:gW xs ys=false:=by unfold gW;rw[beq_eq_false_iff_ne.mpr hl,Bool.and_false]
  rw[e]at q;exact SeqAt.RcAt.lists_lengths ti.isList ti2.isList (by rw[fY,fY,el1,el2];simpa using hl) Zo _ _ _ _ ⟨.bl _,H,I,rfl,q⟩
theorem R.gk (hu:X.A.units+64<cLine):hZ X (compareOp .Eq) Ko:=⟨Ow hu⟩
end
theorem Kp {c:Nat}:∀(ps:List (List Nat)),ps≠[]->(jn c ps).length+1=(ps.map List.length).sum+ps.length
 | [],h=>absurd rfl h
 | [p],_=>by simp [jn]
 | p::q::r,_=>by
  have ih:=Kp (c:=c) (q::r) Zs
  show(p++c::jn c (q::r)).length+1=_
  rw[eG,fI,List.map_cons,List.sum_cons,fI];omega
theorem gY {ws:List Str} (h:ws≠[]):(jw ws).length+1=(ws.map Str.length).sum+ws.length:=by
 rw[rF,dM];have:=Kp (c:=32) (ws.map fun p=>p.cps.toList) (by simpa using h)
 rw[List.map_map,aZ]at this;have e:ws.map (List.length∘fun p:Str=>p.cps.toList)=ws.map Str.length:=List.map_congr_left fun p _=>by simp [Str.length]
 rw[e]at this;exact this
theorem lM {ws:List Str} {p:Str} (h:p∈ws):p.length<=(ws.map Str.length).sum:=by
 induction ws with
 | nil=>cases h
 | cons w ws ih=>
  rw[List.map_cons,List.sum_cons];rcases List.mem_cons.mp h with rfl | h
  ·omega
  ·have:=ih h;omega
theorem gH (a b:List Str):((a++b).map Str.length).sum=(a.map Str.length).sum+(b.map Str.length).sum:=by rw[hW,List.sum_append]
end L2
namespace KL
open PySem L2
def gZ (i:Nat):Stmt:=PySem.Challenge.pw_oncedoor_k32_texts_of_no_row.main.body.getD i (.Pass ⟨0,0,0,0⟩)
abbrev lN:Stmt:=gZ 27
abbrev oG:Stmt:=gZ 28
abbrev iB:Stmt:=gZ 29
abbrev jQ:Stmt:=gZ 30
abbrev eL:Stmt:=gZ 31
abbrev lO:Stmt:=gZ 35
abbrev fK:Stmt:=gZ 36
abbrev iC:Stmt:=gZ 37
abbrev lP:Stmt:=gZ 38
abbrev fL:Stmt:=gZ 40
abbrev cN:Stmt:=gZ 41
abbrev fM:Stmt:=gZ 42
abbrev lQ:Stmt:=gZ 43
abbrev qF:Stmt:=gZ 44
abbrev iD:Stmt:=gZ 45
abbrev eM:Stmt:=gZ 46
abbrev lE:Stmt:=gZ 50
abbrev lR:Stmt:=gZ 51
abbrev hG:Stmt:=gZ 52
abbrev gJ:Stmt:=gZ 53
abbrev lS:Stmt:=gZ 54
abbrev lT:Stmt:=gZ 56
abbrev jR:Stmt:=gZ 57
abbrev fA:Stmt:=gZ 58
abbrev iE:Stmt:=gZ 59
abbrev dW:Stmt:=gZ 60
abbrev dN:Stmt:=gZ 61
abbrev gK:Stmt:=gZ 62
abbrev jS:Stmt:=gZ 63
abbrev gN:Stmt:=gZ 64
abbrev lU:Stmt:=gZ 65
abbrev dO:Stmt:=gZ 66
abbrev iF:Stmt:=gZ 67
abbrev dI:Stmt:=gZ 68
abbrev fB:Stmt:=gZ 69
abbrev dJ:Stmt:=gZ 70
abbrev dL:Stmt:=gZ 71
abbrev cD:Stmt:=gZ 72
abbrev gO:Stmt:=gZ 73
abbrev fN:Stmt:=gZ 74
abbrev iG:Stmt:=gZ 75
abbrev jT:Stmt:=gZ 76
abbrev eT:Stmt:=gZ 77
abbrev hJ:Stmt:=gZ 78
abbrev jU:Stmt:=gZ 79
abbrev jV:Stmt:=gZ 80
abbrev oH:Stmt:=gZ 81
theorem hU {N P:List Str} {sc:Scope} (a:sc.kind=.function:=by rfl) (b:sc.isCoroutine=false:=by rfl) (c:sc.isGenerator=false:=by rfl) (d:N.Nodup:=by decide +kernel) (e:N.take P.length=P:=by rfl) (f:∀x∈P,sc.names.lookup x=some .local∨sc.names.lookup x=some .cell:=by decide +kernel) (g:∀y∈sc.names,y.2≠.free:=by decide +kernel):aL N P sc:=⟨a,b,c,d,e,f,g⟩
theorem Aw:aL ["thing"] ["thing"] (aE lN):=hU
theorem Fq:aL ["thing"] ["thing"] (aE oG):=hU
theorem wG:aL ["text"] ["text"] (aE iB):=hU
theorem yU:aL ["thing","least","most"] ["thing","least","most"] (aE jQ):=hU
theorem sI:aL ["thing","signs","longest"] ["thing","signs","longest"] (aE eL):=hU
theorem Ax:aL ["thing"] ["thing"] (aE lO):=hU
theorem wH:aL ["word","names"] ["word","names"] (aE fK):=hU
theorem jW:aL ["text","parts","deed"] ["text"] (aE iC):=hU
theorem nD:aL ["deed","add","take"] ["deed"] (aE lP):=hU
theorem jX:aL ["deed","thing","word","bounds"] ["deed","thing"] (aE fL):=hU
theorem iH:aL ["thing","widest"] ["thing"] (aE cN):=hU
theorem wI:aL ["words"] ["words"] (aE fM):=hU
theorem Ay:aL ["thing"] ["thing"] (aE lQ):=hU
theorem Kq:aL ["answer"] ["answer"] (aE qF):=hU
theorem dC:aL ["deed","n","left","come","short","full"] ["deed"] (aE iD):=hU
theorem sJ:aL ["things","bounds"] ["things","bounds"] (aE eM):=hU
theorem tX:aL ["thing","word"] ["thing"] (aE lE):=hU
theorem Az:aL ["kind","thing"] ["kind","thing"] (aE lR):=hU
theorem fO:aL ["text","parts","kinds","read","row"] ["text"] (aE hG):=hU
theorem fE:aL ["text","words","sides"] ["text"] (aE gJ):=hU
theorem Ba:aL ["words"] ["words"] (aE lS):=hU
theorem Bb:aL ["_law_cell","_law_k"] ["_law_cell","_law_k"] (aE lT):=hU
theorem dX:aL ["_law_pen_here","_law_most","_law_found","_law_turn","_law_mixed"] ["_law_pen_here","_law_most"] (aE jR):=hU
theorem rM:aL ["_law_script","_law_k"] ["_law_script","_law_k"] (aE fA):=hU
theorem jY:aL ["_law_pen_here","_law_many","_law_words_here","_law_turn"] ["_law_pen_here","_law_many"] (aE iE):=hU
theorem bO:aL ["_law_pen_here","_law_many","_law_letters","_law_size","_law_at","_law_step","_law_base","_law_names_here","_law_k","_law_long","_law_signs"] ["_law_pen_here","_law_many"] (aE dW):=hU
theorem bR:aL ["_law_pen_here","_law_many","_law_signs","_law_size","_law_at","_law_step","_law_base","_law_rows","_law_way","_law_k","_law_row_here"] ["_law_pen_here","_law_many"] (aE dN):=hU
theorem mK:aL ["_law_pen_here","_law_least","_law_most","_law_way"] ["_law_pen_here","_law_least","_law_most"] (aE gK):=hU
theorem dY:aL ["_law_pen_here","_law_names_here","_law_word","_law_one","_law_other","_law_name","_law_n"] ["_law_pen_here","_law_names_here"] (aE jS):=hU
theorem bP:aL ["_law_pen_here","_law_deed_here","_law_word","_law_n","_law_short","_law_full","_law_less","_law_more","_law_some"] ["_law_pen_here","_law_deed_here"] (aE gN):=hU
theorem cY:aL ["_law_pen_here","_law_names_here","_law_keys_here","_law_word","_law_number_here","_law_turn","_law_deed_here","_law_answer_here","_law_asker","_law_key"] ["_law_pen_here","_law_names_here","_law_keys_here"] (aE lU):=hU
theorem fP:aL ["_law_row_here","_law_words_here","_law_k","_law_part"] ["_law_row_here"] (aE dO):=hU
theorem wJ:aL ["_law_thing","_law_least","_law_most"] ["_law_thing","_law_least","_law_most"] (aE iF):=hU
theorem rN:aL ["_law_thing","_law_signs","_law_most"] ["_law_thing","_law_signs","_law_most"] (aE dI):=hU
theorem rO:aL ["_law_thing"] ["_law_thing"] (aE fB):=hU
theorem lF:aL ["_law_thing","_law_size"] ["_law_thing"] (aE dJ):=hU
theorem dD:aL ["_law_deed_here","_law_thing","_law_word","_law_n","_law_most"] ["_law_deed_here","_law_thing"] (aE dL):=hU
theorem eP:aL ["_law_thing","_law_word"] ["_law_thing"] (aE cD):=hU
theorem mL:aL ["_law_thing","_law_word"] ["_law_thing"] (aE gO):=hU
theorem wK:aL ["_law_word"] ["_law_word"] (aE fN):=hU
theorem gP:aL ["_law_words_here","_law_parts_here","_law_word","_law_number_here"] ["_law_words_here"] (aE iG):=hU
theorem cZ:aL ["_law_text","_law_words_here","_law_found","_law_at"] ["_law_text"] (aE jT):=hU
theorem pQ:aL ["_law_found","_law_due"] ["_law_found","_law_due"] (aE eT):=hU
theorem dA:aL ["_law_error","_law_marks"] ["_law_error"] (aE hJ):=hU
theorem bU:aL ["_law_pen_here","_law_text","_law_words_here","_law_at","_law_spot","_law_sign","_law_some","_law_way","_law_number_here"] ["_law_pen_here","_law_text"] (aE jU):=hU
theorem fQ:aL ["_law_text","_law_found","e"] ["_law_text"] (aE jV):=hU
theorem eU:aL ["_law_script","_law_pen_here","_law_names_here","_law_keys_here","_law_k","_law_cell","_law_line_here","_law_turn","_law_text","_law_due"] ["_law_script"] (aE oH):=hU
structure Txt (K:W.Frag) (mg:Str->Option Value):Prop where
 b_ValueError:mg "ValueError"=none
 b_all:mg "all"=none
 b_any:mg "any"=none
 b_bool:mg "bool"=none
 b_enumerate:mg "enumerate"=none
 b_int:mg "int"=none
 b_isinstance:mg "isinstance"=none
 b_len:mg "len"=none
 b_list:mg "list"=none
 b_max:mg "max"=none
 b_min:mg "min"=none
 b_range:mg "range"=none
 b_str:mg "str"=none
 b_tuple:mg "tuple"=none
 b_zip:mg "zip"=none
 g_LETTERS:∃t,mg "LETTERS"=some (.str ("abcdefghijklmnopqrstuvwxyz") t)
 g_FIGURES:∃t,mg "FIGURES"=some (.str ("0123456789") t)
 g_LONGEST_NAME:∃t,mg "LONGEST_NAME"=some (.int (8) t)
 g_LONGEST_KEY:∃t,mg "LONGEST_KEY"=some (.int (12) t)
 g_LONGEST_NUMBER:∃t,mg "LONGEST_NUMBER"=some (.int (13) t)
 g_MOST:∃t,mg "MOST"=some (.int (1000000000000) t)
structure Ze (Pm:Params) (K:W.Frag) (mg:Str->Option Value):Prop where
 g_NAME_COUNTS:∃a,mg "NAME_COUNTS"=some (.ref a)/\KTab K Pm a (WS)
 g_UNLIKE_WORDS:∃a,mg "UNLIKE_WORDS"=some (.ref a)/\∀H,SqT K H a (UW)
 g_PARTS:∃a,mg "PARTS"=some (.ref a)/\KTabT K Pm a (PTS)
 g_BOUNDS:∃a,mg "BOUNDS"=some (.ref a)/\KTabT K Pm a (BDS)
section
variable {P:Program} {w:World} {K:W.Frag} {mg:Str->Option Value} {base:Heap}
theorem Vo (T:Txt K mg) (D:DefAt K mg "_law_pen" lT ["_law_cell","_law_k"]):Callee P w K mg base 1 "_law_pen" ["_law_cell","_law_k"] Qv:=by
 refine D.go Bb (fun vs H Q E h=>?_) (fun f cdv A outer s H vs Q E hr h=>?_)
 ·obtain⟨c,k,rfl,_⟩:=h;rfl
 ·obtain⟨c,k,rfl,q⟩:=h
  refine⟨_,(R.af (R.ag (R.ap (R.Z (R.ao (R.fe rfl) rfl T.b_max Ad (R.Z R.ac (R.Z (R.op R.bd (R.v 0) (R.op R.bq R.ac R.ac)) R.aa))) (R.Z (R.op R.cf (R.op R.ar (R.op R.ar (R.op R.cg (R.op R.cf (R.v 0) R.ac) R.ac) (R.op R.cg R.ac (R.v 1))) R.ac) R.ac) R.aa))))),?_⟩
  refine⟨⟨Zd,Zd,Zd⟩,?_⟩
  refine⟨by show(0:Int)<_;decide,.inr ⟨Zd,Zd⟩,.inl ⟨Zd,Zd⟩,by show(0:Int)<_;decide,dU rfl,fun p hp=>?_⟩
  refine q p _ hp (aA hp) ⟨_,_,aD,?_,Int.emod_nonneg _ Zd,Int.emod_lt_of_pos _ Zd⟩
  split <;> omega
theorem Ox (T:Txt K mg) (D:DefAt K mg "_law_take" jR ["_law_pen_here","_law_most"]):Callee P w K mg base 1 "_law_take" ["_law_pen_here","_law_most"] gX:=by
 refine D.go dX (fun vs H Q E h=>?_) (fun f cdv A outer s H vs Q E hr h=>?_)
 ·obtain⟨p,m,rfl,_⟩:=h;rfl
 ·obtain⟨p,m,rfl,⟨i,j,g,i0,j0,j1⟩,m0,m1,q⟩:=h
  refine⟨_,(R.ae (R.aj (R.ah R.gt (R.ix (R.aq (K:=K)) (R.v 0) R.ac) R.ac) (R.ae (R.ai (i:=2) dX.nd (R.op R.cf (R.ix (R.aq (K:=K)) (R.v 0) R.ac) (R.v 1))) (R.ae (R.du (R.op R.eu (R.ix (R.aq (K:=K)) (R.v 0) R.ac) (R.v 1)) (R.dv (R.v 0) R.ac R.dw)) (R.af (R.ag (R.v 2))))) R.ak) (R.ae (R.ai (i:=2) dX.nd R.ac) (R.ae (R.cm PassesOwn.never rfl (R.cq rfl T.b_range (R.Z (R.op R.ar R.ac (R.bn R.cr rfl T.b_int fU (R.Z (R.az R.gt (R.v 1) (R.op R.bq R.ac R.ac)) R.aa))) R.aa)) (R.gn (i:=3) dX.nd) (R.ae (R.du (R.op R.cf (R.op R.ar (R.op R.ar (R.op R.cg (R.ix (R.aq (K:=K)) (R.v 0) R.ac) (R.ix (R.aq (K:=K)) (R.v 0) R.ac)) (R.op R.cg R.ac (R.ix (R.aq (K:=K)) (R.v 0) R.ac))) R.ac) R.ac) (R.dv (R.v 0) R.ac R.dw)) (R.ae (R.ai (i:=4) dX.nd (R.op R.cf (R.op R.ar (R.op R.cg (R.ix (R.aq (K:=K)) (R.v 0) R.ac) R.ac) R.ac) R.ac)) (R.af (R.ai (i:=2) dX.nd (R.op R.ar (R.op R.cg (R.v 2) R.ac) (R.op R.cf (R.op R.cg (R.v 4) (R.v 4)) R.ac))))))) (R.af (R.ag (R.op R.cf (R.op R.eu (R.v 2) R.ac) (R.v 1))))))),?_⟩
  refine⟨_,SqL.of g,_,rfl,?_⟩
  refine aV (fun h=>?_) (fun h=>?_)
  ·have hi:0<i:=of_decide_eq_true h
   refine⟨_,SqL.of g,_,rfl,m0,_,SqL.of g,_,rfl,⟨m0,Zo⟩,p,_,_,_,rfl,rfl,g,rfl,?_⟩
   exact q _ _ (Int.emod_nonneg _ Zo) (Int.emod_lt_of_pos _ m0) ⟨_,_,aD,Int.ediv_nonneg i0 Zo,j0,j1⟩ fun c o e n=>by rw[aM n];exact e
  ·dsimp only [aR];refine⟨⟨Zd,Zd,Zd⟩,?_⟩
   refine⟨_,rfl,by split <;> decide,by split <;> decide,?_⟩
   refine qB (gQ 0 _) (fun _ σ H'=>∃(f:Int) (o3 o4:Option V),σ=[some (.ref p),some (.int m),some (.int f),o3,o4]/\0<=f/\PenAt H' p/\K1 p H H') (fun _ _ _ _=>trivial) ⟨0,_,_,rfl,Zd,⟨i,j,g,i0,j0,j1⟩,fun c o e _=>e⟩ ?_ ?_
   ·rintro _ v σ H' hv ⟨f,o3,o4,rfl,f0,⟨i',j',g',i0',j0',j1'⟩,k'⟩
    dsimp only [aI];refine⟨_,SqL.of g',_,rfl,_,SqL.of g',_,rfl,.inl ⟨Zo,Zo⟩,_,SqL.of g',_,rfl,.inl ⟨Zd,Zd⟩,by show(0:Int)<_;decide,p,_,_,_,rfl,rfl,g',rfl,?_⟩
    have h0:=Int.emod_nonneg (j'*j'+48271*j'+11) (show(2147483629:Int)≠0 by decide)
    have h1:=Int.emod_lt_of_pos (j'*j'+48271*j'+11) (show(0:Int)<2147483629 by decide)
    refine⟨_,SqL.of aD,_,rfl,.inr ⟨Zd,Zd⟩,by show(0:Int)<_;decide,?_⟩
    dsimp only [aI];generalize hx:((j'*j'+48271*j'+11) % 2147483629*40692+5) % 2147483399=x;have x0:0<=x:=by rw[<- hx];exact Int.emod_nonneg _ Zd
    have x1:x<2147483399:=by rw[<- hx];exact Int.emod_lt_of_pos _ Zd
    refine⟨.inr ⟨Zd,Zd⟩,.inl ⟨Zo,Zo⟩,by show(0:Int)<_;decide,_,_,_,rfl,?_,⟨_,_,aD,i0',h0,h1⟩,fun c o e n=>by rw[aM n];exact k' c o e n⟩
    have:=Int.emod_nonneg (x*x) (show(998244353:Int)≠0 by decide)
    omega
   ·rintro σ H' ⟨f,o3,o4,rfl,f0,pn,k'⟩
    exact⟨⟨Zd,Zd⟩,m0,q _ _ (Int.emod_nonneg _ Zo) (Int.emod_lt_of_pos _ m0) pn k'⟩
theorem Oy (T:Txt K mg) (D:DefAt K mg "_law_cell_at" fA ["_law_script","_law_k"]):Callee P w K mg base 1 "_law_cell_at" ["_law_script","_law_k"] (Jp K):=by
 refine D.go rM (fun vs H Q E h=>?_) (fun f cdv A outer s H vs Q E hr h=>?_)
 ·obtain⟨a,ns,k,rfl,_⟩:=h;rfl
 ·obtain⟨a,ns,k,rfl,hS,q⟩:=h
  refine⟨_,(R.ae (R.aj (R.ah R.lt (R.v 1) (R.ao (R.au (K:=K)) rfl T.b_len aX (R.Z (R.v 0) R.aa))) (R.af (R.ag (R.ix (R.aq (K:=K)) (R.v 0) (R.v 1)))) R.ak) (R.af (R.ag R.ac))),?_⟩
  refine⟨_,.inl hS,?_⟩
  refine aV (fun h=>?_) (fun h=>q 0)
  have hk:k<ns.length:=by
   have:=of_decide_eq_true h
   rw[aZ]at this;omega
  exact⟨_,hS,_,aF (by rw[kH,jH hk];rfl),q _⟩
theorem yV (T:Txt K mg) (cLtake:Callee P w K mg base 1 "_law_take" ["_law_pen_here","_law_most"] gX) (D:DefAt K mg "_law_number" gK ["_law_pen_here","_law_least","_law_most"]):Callee P w K mg base 2 "_law_number" ["_law_pen_here","_law_least","_law_most"] jN:=by
 refine D.go mK (fun vs H Q E h=>?_) (fun f cdv A outer s H vs Q E hr h=>?_)
 ·obtain⟨p,lo,hi,rfl,_⟩:=h;rfl
 ·obtain⟨p,lo,hi,rfl,pn,hlh,hd,q⟩:=h
  have hLtake:=hr
  refine⟨_,(R.ae (R.ai (i:=3) mK.nd (R.fn cLtake hLtake rfl (R.Z (R.v 0) (R.Z R.ac R.aa)))) (R.ae (R.aj (R.ah R.lt (R.v 3) R.ac) (R.af (R.ag (R.ix (R.aq (K:=K)) (R.ap (R.Z (R.v 1) (R.Z (R.v 2) R.aa))) (R.v 3)))) R.ak) (R.ae (R.aj (R.ah R.eq (R.v 3) R.ac) (R.af (R.ag (R.ao (R.fj rfl) rfl T.b_min Ue (R.Z (R.v 2) (R.Z (R.op R.ar (R.v 1) (R.fn cLtake hLtake rfl (R.Z (R.v 0) (R.Z R.ac R.aa)))) R.aa))))) R.ak) (R.ae (R.aj (R.ah R.eq (R.v 3) R.ac) (R.af (R.ag (R.ao (R.fe rfl) rfl T.b_max Ad (R.Z (R.v 1) (R.Z (R.op R.bd (R.v 2) (R.fn cLtake hLtake rfl (R.Z (R.v 0) (R.Z R.ac R.aa)))) R.aa))))) R.ak) (R.af (R.ag (R.op R.ar (R.v 1) (R.fn cLtake hLtake rfl (R.Z (R.v 0) (R.Z (R.op R.ar (R.op R.bd (R.v 2) (R.v 1)) R.ac) R.aa)))))))))),?_⟩
  refine⟨p,5,rfl,pn,Zd,Zd,fun r H1 a0 a1 p1 k1=>?_⟩
  dsimp only [aI];rcases(by omega:r=0∨r=1∨r=2∨r=3∨r=4) with rfl | rfl | rfl | rfl | rfl
  ·refine⟨dU rfl,fun l hl=>⟨_,SqL.of aD,_,rfl,q _ _ (Int.le_refl _) hlh (p1.same (aA hl)) (k1.trans (.of (aA hl)))⟩⟩
  ·refine⟨dU rfl,fun l hl=>⟨_,SqL.of aD,_,rfl,q _ _ hlh (Int.le_refl _) (p1.same (aA hl)) (k1.trans (.of (aA hl)))⟩⟩
  ·refine⟨p,9,rfl,p1,Zd,Zd,fun r2 H2 b0 b1 p2 k2=>q _ _ ?_ ?_ p2 (k1.trans k2)⟩ <;> split <;> omega
  ·refine⟨p,9,rfl,p1,Zd,Zd,fun r2 H2 b0 b1 p2 k2=>q _ _ ?_ ?_ p2 (k1.trans k2)⟩ <;> split <;> omega
  ·exact⟨p,_,rfl,p1,Zo,Zo,fun r2 H2 b0 b1 p2 k2=>q _ _ Zo Zo p2 (k1.trans k2)⟩
theorem Oz (T:Txt K mg) (D:DefAt K mg "is_made_of" eL ["thing","signs","longest"]):Callee P w K mg base 1 "is_made_of" ["thing","signs","longest"] mQ:=by
 refine D.go sI (fun vs H Q E h=>?_) (fun f cdv A outer s H vs Q E hr h=>?_)
 ·obtain⟨x,sg,n,k,rfl,_⟩:=h;rfl
 ·obtain⟨x,sg,n,k,rfl,hk,hz,q⟩:=h
  refine⟨_,(R.ae (R.aj (R.tw (R.bc (R.aw (R.av (R.ba .str (R.v 0) rfl T.b_isinstance rfl T.b_str fT))) (R.bh (R.aw (R.fg R.le R.le R.ac (R.ao R.dy rfl T.b_len aX (R.Z (R.v 0) R.aa)) (R.v 2)))))) (R.af (R.ag R.bl)) R.ak) (R.af (R.ag (R.ao (R.dg (K:=K) rfl) rfl T.b_all qX (R.Z (R.bo rfl (js:=[none,some 1]) (N:=["sign","signs"]) (CompScope.by (aE eL) ["thing","signs","longest"] rfl rfl Zk) (bF rfl) (R.wS (R.v 0)) (fun C s₂ H₂ fp=>⟨(R.gn (i:=0) (show(["sign","signs"]:List Str).Nodup by decide +kernel)),R.br,(R.az R.ie (R.v 0) (R.v 1))⟩)) R.aa))))),?_⟩
  have no:xV .str k=false->bI x sg.cps.toList n=false:=fun e=>by
   cases x <;> first | rfl | (cases k <;> first | exact hk.elim | cases e)
  refine⟨k,hk,?_⟩
  cases x with
  | str z=>
   cases k <;> first | exact hk.elim | skip
   have hz1:=hz z rfl
   refine⟨cH hz1,?_⟩
   refine aV (fun h1=>?_) (fun h1=>?_)
   ·refine aV (fun h2=>?_) (fun h2=>?_)
    ·have e:bI (.str z) sg.cps.toList n=false:=by
      rw[bW];have h2':decide ((z.length:Int)<=n)=false:=by simpa using h2
      rw[h2'];simp
     have h:=q H (Same.refl H)
     rw[e]at h;exact h
    ·refine⟨z,rfl,pE (Cl z) (by simp [nS,Str.length]at hz1 ⊢;omega) (fun _=>true) (fun v=>match v with | .str y=>.bl (decide (y.cps.toList.headD 0∈sg.cps.toList)) | _=>.non) trivial (fun v ys N hv ht hf=>?_) ?_⟩
     ·obtain⟨c,hc,rfl⟩:=Zmm.mp hv
      exact⟨c,rfl,ht rfl⟩
     ·intro p hp;refine⟨p,z.cps.toList.map (fun c=>decide (c∈sg.cps.toList)),rfl,SqL.of (by rw[aD,List.filter_eq_self.mpr (fun _ _=>rfl)];unfold nS;rw[List.map_map,List.map_map];rfl),?_⟩
      have e:bI (.str z) sg.cps.toList n=List.all (z.cps.toList.map (fun c=>decide (c∈sg.cps.toList))) id:=by
       rw[bW];have h2':decide ((z.length:Int)<=n)=true:=by simpa using h2
       have h1':decide (1<=(z.length:Int))=true:=h1
       rw[h2',h1',List.all_map];simp [Function.comp_def]
      rw[<- e];exact q _ (fun c o e=>by rw[aM (aH e hp)];exact e)
   ·have e:bI (.str z) sg.cps.toList n=false:=by
     rw[bW];have h1':decide (1<=(z.length:Int))=false:=h1
     rw[h1'];simp
    have h:=q H (Same.refl H)
    rw[e]at h;exact h
  | _=>
   cases k <;> first | exact hk.elim | exact q H (Same.refl H)
theorem Bc (T:Txt K mg) (c_is_made_of:Callee P w K mg base 1 "is_made_of" ["thing","signs","longest"] mQ) (D:DefAt K mg "is_name" lN ["thing"]):Callee P w K mg base 2 "is_name" ["thing"] (iM LET 8):=by
 refine D.go Aw (fun vs H Q E h=>?_) (fun f cdv A outer s H vs Q E hr h=>?_)
 ·obtain⟨x,k,rfl,_⟩:=h;rfl
 ·obtain⟨x,k,rfl,hk,hz,q⟩:=h
  have hr_is_made_of:=hr
  refine⟨_,(R.af (R.ag (R.fn c_is_made_of hr_is_made_of rfl (R.Z (R.v 0) (R.Z (R.gS rfl T.g_LETTERS) (R.Z (R.gI rfl T.g_LONGEST_NAME) R.aa)))))),?_⟩
  refine⟨x,_,8,k,rfl,hk,hz,fun H' s'=>?_⟩
  rw[vF];exact q H' s'
theorem Fs (T:Txt K mg) (c_is_made_of:Callee P w K mg base 1 "is_made_of" ["thing","signs","longest"] mQ) (D:DefAt K mg "is_key" oG ["thing"]):Callee P w K mg base 2 "is_key" ["thing"] (iM (LET++nH) 12):=by
 refine D.go Fq (fun vs H Q E h=>?_) (fun f cdv A outer s H vs Q E hr h=>?_)
 ·obtain⟨x,k,rfl,_⟩:=h;rfl
 ·obtain⟨x,k,rfl,hk,hz,q⟩:=h
  have hr_is_made_of:=hr
  refine⟨_,(R.af (R.ag (R.fn c_is_made_of hr_is_made_of rfl (R.Z (R.v 0) (R.Z (R.op R.db (R.gS rfl T.g_LETTERS) (R.gS rfl T.g_FIGURES)) (R.Z (R.gI rfl T.g_LONGEST_KEY) R.aa)))))),?_⟩
  refine⟨Zk,x,_,12,k,rfl,hk,hz,fun H' s'=>?_⟩
  rw[pZ,vF,Ah];exact q H' s'
theorem Kr (T:Txt K mg) (D:DefAt K mg "is_whole" jQ ["thing","least","most"]):Callee P w K mg base 1 "is_whole" ["thing","least","most"] eZ:=by
 refine D.go yU (fun vs H Q E h=>?_) (fun f cdv A outer s H vs Q E hr h=>?_)
 ·obtain⟨x,lo,hi,rfl,_⟩:=h;rfl
 ·obtain⟨x,lo,hi,rfl,⟨k,hk,hz⟩,q⟩:=h
  refine⟨_,(R.ae (R.aj (R.tw (R.bc (R.aw (R.av (R.ba .int (R.v 0) rfl T.b_isinstance rfl T.b_int fU))) (R.bh (R.av (R.ba .bl (R.v 0) rfl T.b_isinstance rfl T.b_bool vD))))) (R.af (R.ag R.bl)) R.ak) (R.af (R.ag (R.gm R.le R.le (R.v 1) (R.v 0) (R.v 2))))),?_⟩
  have h:=q H (Same.refl H)
  refine⟨k,hk,?_⟩
  cases x with
  | int n=>
   cases k <;> first | exact hk.elim | skip
   refine⟨.int,trivial,?_⟩
   show if decide (lo<=n)=true then _ else _
   have e:aO lo hi (.int n)=(decide (lo<=n)&&decide (n<=hi)):=rfl
   refine aV (fun h1=>?_) (fun h1=>?_)
   ·rw[e,h1,Bool.true_and]at h;exact h
   ·rw[e,h1,Bool.false_and]at h;exact h
  | bl b=>
   cases k <;> first | exact hk.elim | skip
   exact⟨.bl,trivial,h⟩
  | _=>cases k <;> first | exact hk.elim | exact h
theorem Pa (T:Txt K mg) (U:Ze w.params K mg) (c_is_name:Callee P w K mg base 2 "is_name" ["thing"] (iM LET 8)) (D:DefAt K mg "fits_word" fK ["word","names"]):Callee P w K mg base 3 "fits_word" ["word","names"] Iy:=by
 refine D.go wH (fun vs H Q E h=>?_) (fun f cdv A outer s H vs Q E hr h=>?_)
 ·obtain⟨x,a,ns,rfl,_⟩:=h;rfl
 ·obtain⟨x,a,ns,rfl,⟨k,hk,hz⟩,ha,hns,hp,q⟩:=h
  have hr_is_name:=hr
  obtain⟨aN,m_NAME_COUNTS,tN⟩:=U.g_NAME_COUNTS
  obtain⟨aU,m_UNLIKE_WORDS,tU⟩:=U.g_UNLIKE_WORDS
  refine⟨_,(R.ae (R.aj (R.tw (R.bc (R.aw (R.av (R.ba .str (R.v 0) rfl T.b_isinstance rfl T.b_str fT))) (R.bh (R.ah (R.ig (K:=K) (P:=w.params)) (R.v 0) (R.gR rfl m_NAME_COUNTS))))) (R.af (R.ag R.bl)) R.ak) (R.ae (R.aj (R.tw (R.bc (R.ah R.ne (R.ao (R.au (K:=K)) rfl T.b_len aX (R.Z (R.v 1) R.aa)) (R.ix (R.ii (K:=K) (P:=w.params)) (R.gR rfl m_NAME_COUNTS) (R.v 0))) (R.bh (R.aw (R.av (R.ao (R.dg (K:=K) rfl) rfl T.b_all qX (R.Z (R.bo rfl (js:=[none]) (N:=["name"]) (CompScope.by (aE fK) ["word","names"] rfl rfl Zk) (bF rfl) (R.cu (K:=K) (R.v 1)) (fun C s₂ H₂ fp=>⟨(R.gn (i:=0) (show(["name"]:List Str).Nodup by decide +kernel)),R.br,(R.fn c_is_name hr_is_name rfl (R.Z (R.v 0) R.aa))⟩)) R.aa))))))) (R.af (R.ag R.bl)) R.ak) (R.af (R.ag (R.or (R.az (R.gr (K:=K)) (R.v 0) (R.gR rfl m_UNLIKE_WORDS)) (R.bp (R.az R.ne (R.ix (R.al (K:=K)) (R.v 1) R.ac) (R.ix (R.al (K:=K)) (R.v 1) R.ac)))))))),?_⟩
  have h:=q H (Same.refl H)
  refine⟨k,hk,?_⟩
  cases x with
  | str z=>
   cases k <;> first | exact hk.elim | skip
   refine⟨WS,tN,?_⟩
   show if (!(WS.lookup z).isSome)=true then _ else _
   cases e:WS.lookup z with
   | none=>
    have e2:bJ (.str z) ns=false:=by unfold bJ;simp only [e]
    rw[e2]at h;exact h
   | some i=>
    have e2:bJ (.str z) ns=(decide ((ns.length:Int)=i)&&ns.all dF&&(!cQ (.str z) UW||!decide (eF ns 0=eF ns 1))):=by unfold bJ;simp only [e]
    refine⟨ns,.inr (SqT.of ha),WS,i,tN,e,?_⟩
    refine aV (fun h1=>?_) (fun h1=>?_)
    ·have h1':decide ((ns.length:Int)=i)=false:=by simpa using h1
     rw[e2,h1']at h;exact h
    ·have h1':decide ((ns.length:Int)=i)=true:=by simpa using h1
     refine⟨a,rfl,⟨_,SqT.of ha⟩,?_⟩
     refine bV (hX K a ns) Zo (fun j ys H'=>ys=(ns.take j).map (fun y=>V.bl (dF y))/\Same H H') (fun j ys H' ⟨e3,s3⟩=>⟨SqT.of (s3 _ _ ha),by rw[e3,aZ,fS];omega⟩) ⟨rfl,Same.refl H⟩ (fun j y ys H' hy ⟨e3,s3⟩=>?_) (fun ys H' ⟨e3,s3⟩=>?_)
     ·obtain⟨ky,hky,hzy⟩:=(hp y (sN hy)).same s3
      refine⟨y,ky,rfl,hky,hzy,fun H'' s''=>⟨?_,s3.trans s''⟩⟩
      rw[Mj,hy,hW,e3];rfl
     ·intro p hpn;rw[rV (cL _)]at e3;have hs:Same H (aJ H' p (.lst ys)):=s3.trans (aA hpn)
      refine⟨p,ns.map dF,rfl,SqL.of (by rw[aD,e3,List.map_map];rfl),?_⟩
      have e4:List.all (ns.map dF) id=ns.all dF:=by rw[List.all_map];rfl
      have h5:=q _ hs
      dsimp only;rw[e4];cases e5:ns.all dF with
      | false=>
       rw[e2,h1',e5]at h5;exact h5
      | true=>
       rw[e2,h1',e5]at h5;refine⟨aU,UW,rfl,.inr (tU _),rfl,rfl,?_⟩
       show if (!cQ (.str z) UW)=true then _ else _
       cases e6:cQ (.str z) UW with
       | false=>
        rw[e6]at h5;exact h5
       | true=>
        rw[e6]at h5;have i2:=Qq e e6
        have hl:(ns.length:Int)=i:=of_decide_eq_true h1'
        obtain⟨y0,hy0,m0⟩:=kT (xs:=ns) (i:=0) Zd Zo
        obtain⟨y1,hy1,m1⟩:=kT (xs:=ns) (i:=1) Zd Zo
        have n0:=List.all_eq_true.mp e5 y0 m0
        have n1:=List.all_eq_true.mp e5 y1 m1
        refine⟨ns,SqT.of (hs _ _ ha),y0,hy0,ns,SqT.of (hs _ _ ha),y1,hy1,?_⟩
        rw[hy0,hy1]at h5;cases y0 <;> first | (unfold dF bI at n0;exact absurd n0 Bool.false_ne_true) | skip
        cases y1 <;> first | (unfold dF bI at n1;exact absurd n1 Bool.false_ne_true) | skip
        rename_i z0 z1
        have e7:decide (some (V.str z0)=some (V.str z1))=decide (z0=z1):=by
         rw[decide_eq_decide];constructor
         ·intro e8;injection e8 with e8;injection e8
         ·intro e8;rw[e8]
        rw[e7]at h5;exact h5
  | _=>cases k <;> first | exact hk.elim | exact h
theorem Bd (T:Txt K mg) (c_fits_word:Callee P w K mg base 3 "fits_word" ["word","names"] Iy) (c_is_whole:Callee P w K mg base 1 "is_whole" ["thing","least","most"] eZ) (D:DefAt K mg "is_deed" lO ["thing"]):Callee P w K mg base 4 "is_deed" ["thing"] kW:=by
 refine D.go Ax (fun vs H Q E h=>?_) (fun f cdv A outer s H vs Q E hr h=>?_)
 ·obtain⟨x,rfl,_⟩:=h;rfl
 ·obtain⟨x,rfl,⟨⟨k,hk,hz⟩,hp⟩,hlen,q⟩:=h
  have hr_fits_word:=hr
  have hr_is_whole:Room 1 _:=hr.mono Zd
  refine⟨_,(R.ae (R.aj (R.tw (R.bc (R.aw (R.av (R.ba .tup (R.v 0) rfl T.b_isinstance rfl T.b_tuple bT))) (R.bh (R.ah R.lt (R.ao (R.au (K:=K)) rfl T.b_len aX (R.Z (R.v 0) R.aa)) R.ac)))) (R.af (R.ag R.bl)) R.ak) (R.af (R.ag (R.bj (R.fn c_fits_word hr_fits_word rfl (R.Z (R.ix (R.al (K:=K)) (R.v 0) R.ac) (R.Z (R.sl R.sT (R.v 0) (R.ps R.ac) (R.ps (R.bt R.ac))) R.aa))) (R.bp (R.fn c_is_whole hr_is_whole rfl (R.Z (R.ix (R.al (K:=K)) (R.v 0) (R.bt R.ac)) (R.Z R.ac (R.Z (R.gI rfl T.g_MOST) R.aa))))))))),?_⟩
  have h:=q H (Same.refl H)
  refine⟨k,hk,?_⟩
  cases x with
  | ref a=>
   cases k <;> first | exact hk.elim | skip
   case tup=>
    obtain⟨xs,hx⟩:=hk
    have hpx:=hp a xs rfl hx
    have hlx:=hlen a xs rfl hx
    have eV:cC H (.ref a)=bE xs:=by unfold cC;simp only [hx]
    refine⟨xs,.inr (SqT.of hx),?_⟩
    refine aV (fun h1=>?_) (fun h1=>?_)
    ·have h1':((xs.length:Int)<3):=of_decide_eq_true h1
     have e1:bE xs=false:=by
      unfold bE;rw[decide_eq_false Zo];rfl
     rw[eV,e1]at h;exact h
    ·have h1':¬ ((xs.length:Int)<3):=of_decide_eq_false h1
     have h3:3<=xs.length:=by omega
     obtain⟨y0,hy0,m0⟩:=kT (xs:=xs) (i:=0) Zd Zo
     refine⟨xs,SqT.of hx,y0,hy0,xs,hx,fun p H1 s1 g1=>?_⟩
     refine⟨y0,p,_,rfl,(hpx y0 m0).same s1,g1,?_,fun y hy=>(hpx y (Cr h3 hy)).same s1,fun H2 s2=>?_⟩
     ·have:=lK h3
      unfold fV at this;omega
     have e2:bE xs=(bJ y0 (fV xs)&&aO 1 1000000000000 ((eF xs (-1)).getD .non)):=by
      unfold bE;rw[decide_eq_true h3,hy0];rfl
     have hs:=s1.trans s2
     have h5:=q H2 hs
     show if bJ y0 (fV xs)=true then _ else _
     cases e3:bJ y0 (fV xs) with
     | false=>
      rw[eV,e2,e3]at h5;exact h5
     | true=>
      rw[eV,e2,e3]at h5;obtain⟨yl,hyl,ml⟩:∃v,eF xs (-1)=some v/\v∈xs:=by
       have hj:xs.length - 1<xs.length:=by omega
       refine⟨xs[xs.length - 1],?_,List.getElem_mem hj⟩
       unfold eF Ej;rw[if_neg Zd,if_pos Zo]
       have:((-1:Int)+(xs.length:Int)).toNat=xs.length - 1:=by omega
       simp [this,hj]
      refine⟨xs,SqT.of (hs _ _ hx),yl,hyl,?_⟩
      refine⟨yl,1,1000000000000,rfl,(hpx yl ml).same hs,fun H3 s3=>?_⟩
      have h6:=q H3 (hs.trans s3)
      rw[eV,e2,e3,hyl]at h6;exact h6
   all_goals
    have e1:cC H (.ref a)=false:=by
     unfold cC;first
      | (rcases hk with⟨xs,e⟩ | ⟨o,xs,e⟩ <;> simp only [e])
      | (obtain⟨kvs,e⟩:=hk;simp only [e])
    rw[e1]at h;exact h
  | _=>cases k <;> first | exact hk.elim | exact h
theorem iI:("0":Str)=tx [48]:=by decide +kernel
theorem Ft (T:Txt K mg) (c_is_made_of:Callee P w K mg base 1 "is_made_of" ["thing","signs","longest"] mQ) (D:DefAt K mg "number_of" iB ["text"]):Callee P w K mg base 2 "number_of" ["text"] pN:=by
 refine D.go wG (fun vs H Q E h=>?_) (fun f cdv A outer s H vs Q E hr h=>?_)
 ·obtain⟨z,rfl,_⟩:=h;rfl
 ·obtain⟨z,rfl,hz,q⟩:=h
  have hr_is_made_of:=hr
  refine⟨_,(R.ae (R.aj (R.aw (R.av (R.fn c_is_made_of hr_is_made_of rfl (R.Z (R.v 0) (R.Z (R.gS rfl T.g_FIGURES) (R.Z (R.gI rfl T.g_LONGEST_NUMBER) R.aa)))))) (R.af (R.ag R.bw)) R.ak) (R.ae (R.aj (R.tw (R.bu (R.ah R.eq (R.ix R.iS (R.v 0) R.ac) R.ad) (R.bx (R.ah R.ne (R.v 0) R.ad)))) (R.af (R.ag R.bw)) R.ak) (R.af (R.ag (R.bn R.gu rfl T.b_int fU (R.Z (R.v 0) R.aa)))))),?_⟩
  refine⟨.str z,_,13,.str,rfl,trivial,fun y e=>by injection e with e;subst e;exact hz,fun H1 s1=>?_⟩
  rw[Ah];have hq:=q H1 s1
  refine aV (fun hm=>?_) (fun hm=>?_)
  ·have hm':bI (.str z) nH 13=false:=by simpa using hm
   have e:aK z=none:=by unfold aK;rw[if_neg (by rw[hm'];exact Bool.false_ne_true)]
   rw[e]at hq;exact hq
  ·have hm':bI (.str z) nH 13=true:=by simpa using hm
   have hm2:=hm'
   rw[bW,Bool.and_eq_true,Bool.and_eq_true]at hm2;obtain⟨⟨h1,h2⟩,h3⟩:=hm2
   have h1':1<=(z.length:Int):=of_decide_eq_true h1
   have h2':(z.length:Int)<=13:=of_decide_eq_true h2
   have hl:z.cps.toList.length=z.length:=by simp [Str.length]
   obtain⟨c,r,hcr⟩:∃c r,z.cps.toList=c::r:=by
    cases e:z.cps.toList with
    | nil=>rw[e]at hl;simp at hl;omega
    | cons c r=>exact⟨c,r,rfl⟩
   have fin:¬ (z.cps.toList.head?=some 48/\z≠tx [48])->NumText.AllDigits z.cps.toList/\z.cps.toList≠[]/\z.length<=640/\Q (.int (NumText.digitsVal z.cps.toList:Nat)) H1:=fun hn=>by
    have e:aK z=some (NumText.digitsVal z.cps.toList):=by unfold aK;rw[if_pos hm',if_neg hn]
    rw[e]at hq;exact⟨rA h3,by rw[hcr];simp,Zo,hq⟩
   refine⟨cH Zo,c,by rw[hcr];exact aF (j:=0) rfl,?_⟩
   refine aV (fun hc=>?_) (fun hc=>?_)
   ·refine aV (fun hn=>?_) (fun hn=>?_)
    ·have hc':tx [c]=("0":Str):=of_decide_eq_true hc
     rw[iI,uZ]at hc';have hn':¬ z=("0":Str):=by simpa using hn
     rw[iI]at hn';have e:aK z=none:=by
      unfold aK;rw[if_pos hm',if_pos];exact⟨by rw[hcr];injection hc' with hc';rw[hc'];rfl,hn'⟩
     rw[e]at hq;exact hq
    ·have hn':z=("0":Str):=by simpa using hn
     rw[iI]at hn';exact fin fun⟨_,h⟩=>h hn'
   ·have hc':¬ tx [c]=("0":Str):=of_decide_eq_false hc
    rw[iI,uZ]at hc';refine fin fun⟨h,_⟩=>hc' ?_
    rw[hcr]at h;have:c=48:=by simpa using h
    rw[this]
theorem Callee.no {x:Str} {st:Stmt} {N ps:List Str} {k:Nat} (D:DefAt K mg x st ps) (S:aL N ps (aE st)):Callee P w K mg base (k+1) x ps (fun _ _ _ _=>False):=
 D.go S (fun _ _ _ _ h=>h.elim) (fun _ _ _ _ _ _ _ _ _ _ h=>h.elim)
theorem oI (T:Txt K mg) (D:DefAt K mg "_law_same" eT ["_law_found","_law_due"]) {k:Nat} {sp:Sp} (cLsame:Callee P w K mg base (k+1) "_law_same" ["_law_found","_law_due"] sp) (n:Nat)
  (hsp:∀m t,n=m+1->Vd m t->∀x y H Q E,Rep H m t x->Rep H m t y->(∀H',Same H H'->Q (.bl true) H')->sp [x,y] H Q E):Callee P w K mg base (k+2) "_law_same" ["_law_found","_law_due"] (Ao n):=by
 refine D.go pQ (fun vs H Q E h=>?_) (fun f cdv A outer s H vs Q E hr h=>?_)
 ·obtain⟨x,y,t,rfl,_⟩:=h;rfl
 ·obtain⟨x,y,t,rfl,hx,hy,hok,q⟩:=h
  have hLsame:=hr
  refine⟨_,(R.ae (R.aj (R.av (R.ao R.fo rfl T.b_isinstance aS (R.Z (R.v 1) (R.Z (R.am (R.Z (R.dq rfl T.b_list vC) (R.Z (R.dq rfl T.b_tuple bT) R.aa))) R.aa)))) (R.ae (R.aj (R.tw (R.bc (R.ah R.ne (R.ba .lst (R.v 0) rfl T.b_isinstance rfl T.b_list vC) (R.ba .lst (R.v 1) rfl T.b_isinstance rfl T.b_list vC)) (R.bh (R.ah R.ne (R.ba .tup (R.v 0) rfl T.b_isinstance rfl T.b_tuple bT) (R.ba .tup (R.v 1) rfl T.b_isinstance rfl T.b_tuple bT))))) (R.af (R.ag R.bl)) R.ak) (R.af (R.ag (R.bj (R.az R.eq (R.ao (R.au (K:=K)) rfl T.b_len aX (R.Z (R.v 0) R.aa)) (R.ao (R.au (K:=K)) rfl T.b_len aX (R.Z (R.v 1) R.aa))) (R.bp (R.ao (R.dg (K:=K) rfl) rfl T.b_all qX (R.Z (R.bo rfl (js:=[none,none]) (N:=["_law_one","_law_other"]) (CompScope.by (aE eT) ["_law_found","_law_due"] rfl rfl Zk) (kP (cG rfl (cG rfl iX))) (R.de (K:=K) rfl T.b_zip (R.v 0) (R.v 1)) (fun C s₂ H₂ fp=>⟨(R.cv (K:=K) (n:=2) rfl (R.bv (R.gn (i:=0) (show(["_law_one","_law_other"]:List Str).Nodup by decide +kernel)) (R.bv (R.gn (i:=1) (show(["_law_one","_law_other"]:List Str).Nodup by decide +kernel)) R.cy))),R.br,(R.fn cLsame hLsame rfl (R.Z (R.v 0) (R.Z (R.v 1) R.aa)))⟩)) R.aa))))))) R.ak) (R.ae (R.aj (R.ah R.dz (R.v 1) R.bw) (R.af (R.ag (R.az R.dz (R.v 0) R.bw))) R.ak) (R.ae (R.aj (R.av (R.ba .str (R.v 1) rfl T.b_isinstance rfl T.b_str fT)) (R.af (R.ag (R.bj (R.ba .str (R.v 0) rfl T.b_isinstance rfl T.b_str fT) (R.bp (R.az R.eq (R.v 0) (R.v 1)))))) R.ak) (R.af (R.ag (R.bj (R.ba .int (R.v 0) rfl T.b_isinstance rfl T.b_int fU) (R.bj (R.gv (R.ba .bl (R.v 0) rfl T.b_isinstance rfl T.b_bool vD)) (R.bp (R.az R.eq (R.v 0) (R.v 1)))))))))),?_⟩
  refine⟨Zs,fun p1 H1 s1 g1=>⟨g1,?_⟩⟩
  cases t with
  | sc v=>
   have ex:x=v/\Fc v=true:=by cases n <;> exact hx
   have ey:y=v/\Fc v=true:=by cases n <;> exact hy
   obtain⟨rfl,hv⟩:=ex
   obtain⟨rfl,_⟩:=ey
   cases y with
   | non=>exact⟨.non,trivial,q _ s1⟩
   | str z=>
    refine⟨.str,trivial,.str,trivial,.str,trivial,?_⟩
    show Q (.bl (decide (z=z))) H1
    rw[decide_eq_true rfl];exact q _ s1
   | int z=>
    refine⟨.int,trivial,.int,trivial,.int,trivial,.int,trivial,?_⟩
    show Q (.bl (decide (z=z))) H1
    rw[decide_eq_true rfl];exact q _ s1
   | bl z=>cases n <;> exact hok.elim
   | _=>cases hv
  | tp ts=>
   cases n with
   | zero=>exact hx.elim
   | succ n=>
    obtain⟨a,xs,rfl,ga,hP⟩:=hx
    obtain⟨b,ys,rfl,gb,hR⟩:=hy
    obtain⟨hl,hts⟩:=hok
    have lx:=hP.length
    have ly:=hR.length
    have ga1:=s1 _ _ ga
    have gb1:=s1 _ _ gb
    refine⟨.tup,⟨_,gb1⟩,.tup,⟨_,ga1⟩,.tup,⟨_,gb1⟩,.tup,⟨_,ga1⟩,.tup,⟨_,gb1⟩,?_⟩
    refine⟨xs,.inr (SqT.of ga1),ys,.inr (SqT.of gb1),?_⟩
    show if decide ((xs.length:Int)=(ys.length:Int))=true then _ else _
    refine aV (fun _=>?_) (fun h=>absurd (show(xs.length:Int)=(ys.length:Int) by omega) (of_decide_eq_false h))
    refine⟨false,false,xs,ys,SqT.of ga1,SqT.of gb1,?_⟩
    refine kX Zo (fun i zs H'=>zs=(List.replicate i true).map V.bl/\Same H1 H') (fun i zs H' ⟨e,s'⟩=>⟨SqT.of (s' _ _ ga1),SqT.of (s' _ _ gb1),by rw[e,aZ,List.length_replicate];exact cL _⟩) ⟨rfl,Same.refl _⟩ (fun i u v zs H' t' hu hv ⟨e,s'⟩ ht'=>?_) (fun zs H' ⟨e,s'⟩=>?_)
    ·have s2:=s'.trans (aA (o:=.tup [u,v]) ht')
     have hiu:i<xs.length:=(Zgs.mp hu).1
     have hiv:i<ys.length:=(Zgs.mp hv).1
     obtain⟨h1,r1⟩:=Paired.get' (j:=i) hP hiu
     obtain⟨h2,r2⟩:=Paired.get' (j:=i) hR hiv
     rw[(Zgs.mp hu).2]at r1;rw[(Zgs.mp hv).2]at r2;refine⟨t',_,rfl,SqT.of aD,rfl,_,_,rfl,_,_,rfl,rfl,hsp n ts[i] rfl (hts _ (List.getElem_mem h1)) u v _ _ _ ((r1.same s1).same s2) ((r2.same s1).same s2) fun H'' s''=>⟨?_,s2.trans s''⟩⟩
     rw[e,List.replicate_succ',hW];rfl
    ·intro l hl';refine⟨l,_,rfl,SqL.of (by rw[aD,e]),?_⟩
     rw[show(List.replicate (min xs.length ys.length) true).all id=true by simp]
     exact q _ ((s1.trans s').trans (aA hl'))
  | ls ts=>
   cases n with
   | zero=>exact hx.elim
   | succ n=>
    obtain⟨a,xs,rfl,ga,hP⟩:=hx
    obtain⟨b,ys,rfl,gb,hR⟩:=hy
    obtain⟨hl,hts⟩:=hok
    have lx:=hP.length
    have ly:=hR.length
    have ga1:=s1 _ _ ga
    have gb1:=s1 _ _ gb
    refine⟨.lst,.inl ⟨_,gb1⟩,.lst,.inl ⟨_,ga1⟩,.lst,.inl ⟨_,gb1⟩,.lst,.inl ⟨_,ga1⟩,.lst,.inl ⟨_,gb1⟩,?_⟩
    refine⟨xs,.inl (SqL.of ga1),ys,.inl (SqL.of gb1),?_⟩
    show if decide ((xs.length:Int)=(ys.length:Int))=true then _ else _
    refine aV (fun _=>?_) (fun h=>absurd (show(xs.length:Int)=(ys.length:Int) by omega) (of_decide_eq_false h))
    refine⟨true,true,xs,ys,SqL.of ga1,SqL.of gb1,?_⟩
    refine kX Zo (fun i zs H'=>zs=(List.replicate i true).map V.bl/\Same H1 H') (fun i zs H' ⟨e,s'⟩=>⟨SqL.of (s' _ _ ga1),SqL.of (s' _ _ gb1),by rw[e,aZ,List.length_replicate];exact cL _⟩) ⟨rfl,Same.refl _⟩ (fun i u v zs H' t' hu hv ⟨e,s'⟩ ht'=>?_) (fun zs H' ⟨e,s'⟩=>?_)
    ·have s2:=s'.trans (aA (o:=.tup [u,v]) ht')
     have hiu:i<xs.length:=(Zgs.mp hu).1
     have hiv:i<ys.length:=(Zgs.mp hv).1
     obtain⟨h1,r1⟩:=Paired.get' (j:=i) hP hiu
     obtain⟨h2,r2⟩:=Paired.get' (j:=i) hR hiv
     rw[(Zgs.mp hu).2]at r1;rw[(Zgs.mp hv).2]at r2;refine⟨t',_,rfl,SqT.of aD,rfl,_,_,rfl,_,_,rfl,rfl,hsp n ts[i] rfl (hts _ (List.getElem_mem h1)) u v _ _ _ ((r1.same s1).same s2) ((r2.same s1).same s2) fun H'' s''=>⟨?_,s2.trans s''⟩⟩
     rw[e,List.replicate_succ',hW];rfl
    ·intro l hl';refine⟨l,_,rfl,SqL.of (by rw[aD,e]),?_⟩
     rw[show(List.replicate (min xs.length ys.length) true).all id=true by simp]
     exact q _ ((s1.trans s').trans (aA hl'))
theorem Db (T:Txt K mg) (D:DefAt K mg "_law_same" eT ["_law_found","_law_due"]):∀n,Callee P w K mg base (n+2) "_law_same" ["_law_found","_law_due"] (Ao n)
 | 0=>oI T D (Callee.no D pQ (k:=0)) 0 (fun _ _ e=>nomatch e)
 | n+1=>oI T D (Db T D n) (n+1) (fun m t e hf x y H Q E r r' k=>by
   injection e with e
   subst e;exact⟨x,y,t,rfl,r,r',hf,k⟩)
inductive mM (zs:List Str):List V->Prop
 | one (z a:Str) (n:Int):(z="add"∨z="take")->a∈zs->1<=n->n<=1000000000000->mM zs [.str z,.str a,.int n]
 | move (a b:Str) (n:Int):a∈zs->b∈zs->a≠b->1<=n->n<=1000000000000->mM zs [.str "move",.str a,.str b,.int n]
 | two (z a b:Str) (n:Int):(z="send"∨z="fetch")->a∈zs->b∈zs->1<=n->n<=1000000000000->mM zs [.str z,.str a,.str b,.int n]
 | pass (a b c:Str) (n:Int):a∈zs->b∈zs->c∈zs->a≠b->1<=n->n<=1000000000000->mM zs [.str "pass",.str a,.str b,.str c,.int n]
theorem PenAt.neS {H:Hp} {p l:Addr} {zs:List Str} (h:PenAt H p) (hl:H l=some (.lst (zs.map V.str))) (hz:zs≠[]):l≠p:=fun e=>by
 obtain⟨i,j,g,_⟩:=h
 rw[e,g]at hl;cases zs with
 | nil=>exact hz rfl
 | cons z r=>cases hl
theorem PenAt.tup {H:Hp} {p t:Addr} {xs:List V} (h:PenAt H p) (e:H t=some (.tup xs)):t≠p:=fun z=>by
 obtain⟨i,j,g,_⟩:=h
 rw[z,g]at e;cases e
def yW:Sp:=fun vs H Q _=>∃(p ln:Addr) (zs:List Str),vs=[.ref p,.ref ln]/\PenAt H p/\H ln=some (.lst (zs.map V.str))/\zs.Nodup/\2<=zs.length/\zs.length<=100/\∀t xs H',mM zs xs->H' t=some (.tup xs)->PenAt H' p->K1 p H H'->Q (.ref t) H'
theorem Fu (T:Txt K mg) (cLtake:Callee P w K mg base 1 "_law_take" ["_law_pen_here","_law_most"] gX) (cLnumber:Callee P w K mg base 2 "_law_number" ["_law_pen_here","_law_least","_law_most"] jN) (D:DefAt K mg "_law_deed" jS ["_law_pen_here","_law_names_here"]):Callee P w K mg base 3 "_law_deed" ["_law_pen_here","_law_names_here"] yW:=by
 refine D.go dY (fun vs H Q E h=>?_) (fun f cdv A outer s H vs Q E hr h=>?_)
 ·obtain⟨p,ln,zs,rfl,_⟩:=h;rfl
 ·obtain⟨p,ln,zs,rfl,pn,hln,hnd,h2,h100,q⟩:=h
  have hLtake:Room 1 _:=hr.mono Zd
  have hLnumber:=hr
  refine⟨_,(R.ae (R.ai (i:=2) dY.nd (R.ix (R.aq (K:=K)) (R.ap (R.Z R.ad (R.Z R.ad (R.Z R.ad (R.Z R.ad (R.Z R.ad (R.Z R.ad R.aa))))))) (R.fn cLtake hLtake rfl (R.Z (R.v 0) (R.Z R.ac R.aa))))) (R.ae (R.ai (i:=3) dY.nd (R.fn cLtake hLtake rfl (R.Z (R.v 0) (R.Z (R.ao (R.au (K:=K)) rfl T.b_len aX (R.Z (R.v 1) R.aa)) R.aa)))) (R.ae (R.ai (i:=4) dY.nd (R.ix (R.aq (K:=K)) (R.v 1) (R.op R.cf (R.op R.ar (R.op R.ar (R.v 3) R.ac) (R.fn cLtake hLtake rfl (R.Z (R.v 0) (R.Z (R.op R.bd (R.ao (R.au (K:=K)) rfl T.b_len aX (R.Z (R.v 1) R.aa)) R.ac) R.aa)))) (R.ao (R.au (K:=K)) rfl T.b_len aX (R.Z (R.v 1) R.aa))))) (R.ae (R.ai (i:=5) dY.nd (R.ix (R.aq (K:=K)) (R.v 1) (R.fn cLtake hLtake rfl (R.Z (R.v 0) (R.Z (R.ao (R.au (K:=K)) rfl T.b_len aX (R.Z (R.v 1) R.aa)) R.aa))))) (R.ae (R.ai (i:=6) dY.nd (R.fn cLnumber hLnumber rfl (R.Z (R.v 0) (R.Z R.ac (R.Z (R.op R.bq R.ac R.ac) R.aa))))) (R.ae (R.aj (R.ah (R.bz (K:=K)) (R.v 2) (R.am (R.Z R.ad (R.Z R.ad R.aa)))) (R.af (R.ag (R.am (R.Z (R.v 2) (R.Z (R.v 5) (R.Z (R.v 6) R.aa)))))) R.ak) (R.ae (R.aj (R.ah R.eq (R.v 2) R.ad) (R.af (R.ag (R.am (R.Z (R.v 2) (R.Z (R.ix (R.aq (K:=K)) (R.v 1) (R.v 3)) (R.Z (R.v 4) (R.Z (R.v 6) R.aa))))))) R.ak) (R.ae (R.aj (R.ah R.eq (R.v 2) R.ad) (R.af (R.ag (R.am (R.Z (R.v 2) (R.Z (R.ix (R.aq (K:=K)) (R.v 1) (R.v 3)) (R.Z (R.v 4) (R.Z (R.v 5) (R.Z (R.v 6) R.aa)))))))) R.ak) (R.af (R.ag (R.am (R.Z (R.v 2) (R.Z (R.v 4) (R.Z (R.v 5) (R.Z (R.v 6) R.aa))))))))))))))),?_⟩
  have hzn:zs≠[]:=fun e=>by rw[e]at h2;exact absurd h2 Zd
  have npl:=PenAt.neS pn hln hzn
  have e12:(10:Int) ^ (12:Int).toNat=1000000000000:=by decide
  refine⟨dU rfl,fun l0 h0=>⟨p,6,rfl,pn.same (aA h0),Zd,Zd,fun r G1 r0 r1 pn1 k1=>⟨_,SqL.of (k1 _ _ aD (pn.ne h0)),?_⟩⟩⟩
  obtain⟨wd,hwd,hat⟩:∃wd:Str,(wd="add"∨wd="take"∨wd="move"∨wd="send"∨wd="fetch"∨wd="pass")/\eF [V.str "add",.str "take",.str "move",.str "send",.str "fetch",.str "pass"] r=some (.str wd):=by
   rcases Zz r0 r1 with rfl | rfl | rfl | rfl | rfl | rfl
   ·exact⟨_,.inl rfl,rfl⟩
   ·exact⟨_,.inr (.inl rfl),rfl⟩
   ·exact⟨_,.inr (.inr (.inl rfl)),rfl⟩
   ·exact⟨_,.inr (.inr (.inr (.inl rfl))),rfl⟩
   ·exact⟨_,.inr (.inr (.inr (.inr (.inl rfl)))),rfl⟩
   ·exact⟨_,.inr (.inr (.inr (.inr (.inr rfl)))),rfl⟩
  refine⟨_,hat,?_⟩
  dsimp only [aI];have k01:K1 p H G1:=(K1.of (aA h0)).trans k1
  have g1:=k01 _ _ hln npl
  refine⟨_,.inl (SqL.of g1),p,_,rfl,pn1,by rw[aZ];omega,by rw[aZ];omega,fun r' G2 a0 a1 pn2 k2=>?_⟩
  obtain⟨j,rfl⟩:=oR a0
  rw[aZ]at a1;have hj:j<zs.length:=by omega
  have k02:=k01.trans k2
  have g2:=k02 _ _ hln npl
  dsimp only [aI];refine⟨_,.inl (SqL.of g2),p,_,rfl,pn2,by rw[aZ];omega,by rw[aZ];omega,fun r2 G3 b0 b1 pn3 k3=>?_⟩
  obtain⟨m,rfl⟩:=oR b0
  rw[aZ]at b1;have k03:=k02.trans k3
  have g3:=k03 _ _ hln npl
  have hpos:0<zs.length:=by omega
  obtain⟨k,hk⟩:∃k,k=(j+1+m) % zs.length:=⟨_,rfl⟩
  have hkl:k<zs.length:=by rw[hk];exact Nat.mod_lt _ hpos
  have ek:((j:Int)+1+(m:Int)) % ((zs.map V.str).length:Int)=(k:Int):=by
   rw[aZ,hk];have e:(j:Int)+1+(m:Int)=((j+1+m:Nat):Int):=by omega
   rw[e];exact(Int.natCast_emod _ _).symm
  have hne:zs[j]≠zs[k]:=fun e=>by
   have:=nI hnd (jH hj) (by rw[jH hkl,e])
   rw[hk]at this;by_cases hb:j+1+m<zs.length
   ·rw[Nat.mod_eq_of_lt hb]at this;omega
   ·have h3:(j+1+m) % zs.length=j+1+m - zs.length:=by
     rw[Nat.mod_eq_sub_mod Zo,Nat.mod_eq_of_lt Zo]
    rw[h3]at this;omega
  refine⟨_,.inl (SqL.of g3),(show(0:Int)<((zs.map V.str).length:Int) by rw[aZ];omega),?_⟩
  dsimp only;rw[ek];refine⟨_,SqL.of g3,.str zs[k],aF (by rw[kH,jH hkl];rfl),?_⟩
  dsimp only [aI];refine⟨_,.inl (SqL.of g3),p,_,rfl,pn3,by rw[aZ];omega,by rw[aZ];omega,fun r3 G4 c0 c1 pn4 k4=>?_⟩
  obtain⟨i3,rfl⟩:=oR c0
  rw[aZ]at c1;have hi3:i3<zs.length:=by omega
  have k04:=k03.trans k4
  have g4:=k04 _ _ hln npl
  refine⟨_,SqL.of g4,.str zs[i3],aF (by rw[kH,jH hi3];rfl),?_⟩
  dsimp only [aI];refine⟨⟨Zd,Zd,Zd⟩,p,1,_,rfl,pn4,Zd,Zd,fun n G5 n0 n1 pn5 k5=>?_⟩
  dsimp only [aI];have n1':n<=1000000000000:=by rw[<- e12];exact n1
  have k05:=k04.trans k5
  have g5:=k05 _ _ hln npl
  have mj:zs[j]∈zs:=List.getElem_mem hj
  have mk:zs[k]∈zs:=List.getElem_mem hkl
  have mi:zs[i3]∈zs:=List.getElem_mem hi3
  have one:∀ {f:V->Hp->Prop},f (.str zs[j]) G5->∃xs,SqL K G5 ln xs/\∃v,eF xs (j:Int)=some v/\f v G5:=fun h=>⟨_,SqL.of g5,.str zs[j],aF (by rw[kH,jH hj];rfl),h⟩
  have fin:∀ {xs:List V},mM zs xs->∀t H',Same G5 H'->H' t=some (.tup xs)->Q (.ref t) H':=fun h t H' s' g'=>q t _ H' h g' (pn5.same s') (k05.trans (K1.of s'))
  rcases hwd with rfl | rfl | rfl | rfl | rfl | rfl
  ·refine⟨Zs,fun ta Ha sa ga=>⟨ta,_,rfl,.inr (SqT.of ga),rfl,rfl,?_⟩⟩
   have h1:cQ (.str "add") [V.str "add",.str "take"]=true:=rfl
   dsimp only;rw[h1];exact⟨Zs,fun t H' s' g'=>fin (.one _ _ _ (.inl rfl) mi n0 n1') t H' (sa.trans s') g'⟩
  ·refine⟨Zs,fun ta Ha sa ga=>⟨ta,_,rfl,.inr (SqT.of ga),rfl,rfl,?_⟩⟩
   have h1:cQ (.str "take") [V.str "add",.str "take"]=true:=rfl
   dsimp only;rw[h1];exact⟨Zs,fun t H' s' g'=>fin (.one _ _ _ (.inr rfl) mi n0 n1') t H' (sa.trans s') g'⟩
  ·refine⟨Zs,fun ta Ha sa ga=>⟨ta,_,rfl,.inr (SqT.of ga),rfl,rfl,?_⟩⟩
   have h1:cQ (.str "move") [V.str "add",.str "take"]=false:=rfl
   dsimp only;rw[h1];exact⟨_,SqL.of (sa _ _ g5),.str zs[j],aF (by rw[kH,jH hj];rfl),Zs,fun t H' s' g'=>fin (.move _ _ _ mj mk hne n0 n1') t H' (sa.trans s') g'⟩
  ·refine⟨Zs,fun ta Ha sa ga=>⟨ta,_,rfl,.inr (SqT.of ga),rfl,rfl,?_⟩⟩
   have h1:cQ (.str "send") [V.str "add",.str "take"]=false:=rfl
   dsimp only;rw[h1];exact⟨Zs,fun t H' s' g'=>fin (.two _ _ _ _ (.inl rfl) mk mi n0 n1') t H' (sa.trans s') g'⟩
  ·refine⟨Zs,fun ta Ha sa ga=>⟨ta,_,rfl,.inr (SqT.of ga),rfl,rfl,?_⟩⟩
   have h1:cQ (.str "fetch") [V.str "add",.str "take"]=false:=rfl
   dsimp only;rw[h1];exact⟨Zs,fun t H' s' g'=>fin (.two _ _ _ _ (.inr rfl) mk mi n0 n1') t H' (sa.trans s') g'⟩
  ·refine⟨Zs,fun ta Ha sa ga=>⟨ta,_,rfl,.inr (SqT.of ga),rfl,rfl,?_⟩⟩
   have h1:cQ (.str "pass") [V.str "add",.str "take"]=false:=rfl
   dsimp only;rw[h1];exact⟨_,SqL.of (sa _ _ g5),.str zs[j],aF (by rw[kH,jH hj];rfl),Zs,fun t H' s' g'=>fin (.pass _ _ _ _ mj mk mi hne n0 n1') t H' (sa.trans s') g'⟩
inductive lG:List V->Str->Int->List Str->Prop
 | one (z a:Str) (n:Int):(z="add"∨z="take")->lG [.str z,.str a,.int n] z n []
 | move (a b:Str) (n:Int):lG [.str "move",.str a,.str b,.int n] "move" n []
 | two (z a b:Str) (n:Int):(z="send"∨z="fetch")->lG [.str z,.str a,.str b,.int n] z n [a]
 | pass (a b c:Str) (n:Int):lG [.str "pass",.str a,.str b,.str c,.int n] "pass" n [a,b]
inductive oJ (w:Str) (n:Int) (hs:List Str):List V->Prop
 | short (a:Int):(w="take"∨w="send"∨w="move")->0<=a->a<=n - 1->oJ w n hs [.str "short",.int a]
 | full (a:Int):(w="add"∨w="fetch"∨w="move")->1000000000000 - n+1<=a->a<=1000000000000->oJ w n hs [.str "full",.int a]
 | more (a:Int):(w="add"∨w="fetch")->n<=a->a<=1000000000000->oJ w n hs [.str "is",.int a]
 | less (a:Int):(w="take"∨w="send")->0<=a->a<=1000000000000 - n->oJ w n hs [.str "is",.int a]
 | both (a b:Int):w="move"->0<=a->a<=1000000000000 - n->n<=b->b<=1000000000000->oJ w n hs [.str "is",.int a,.int b]
 | no (h:Str):(w="send"∨w="fetch"∨w="pass")->h∈hs->oJ w n hs [.str "no",.str h]
 | ok:w="pass"->oJ w n hs [.str "ok"]
def rP:Sp:=fun vs H Q _=>∃(p d:Addr) (zs:List Str) (xs:List V),vs=[.ref p,.ref d]/\PenAt H p/\H d=some (.tup xs)/\mM zs xs/\∀t ys H' w n hs,lG xs w n hs->oJ w n hs ys->H' t=some (.tup ys)->PenAt H' p->K1 p H H'->Q (.ref t) H'
theorem yX (T:Txt K mg) (cLtake:Callee P w K mg base 1 "_law_take" ["_law_pen_here","_law_most"] gX) (cLnumber:Callee P w K mg base 2 "_law_number" ["_law_pen_here","_law_least","_law_most"] jN) (D:DefAt K mg "_law_answer" gN ["_law_pen_here","_law_deed_here"]):Callee P w K mg base 3 "_law_answer" ["_law_pen_here","_law_deed_here"] rP:=by
 refine D.go bP (fun vs H Q E h=>?_) (fun f cdv A outer s H vs Q E hr h=>?_)
 ·obtain⟨p,d,zs,xs,rfl,_⟩:=h;rfl
 ·obtain⟨p,d,zs,xs,rfl,pn,hd,hD,q⟩:=h
  have hLtake:Room 1 _:=hr.mono Zd
  have hLnumber:=hr
  refine⟨_,(R.ae (R.ai (i:=2) bP.nd (R.ix (R.al (K:=K)) (R.v 1) R.ac)) (R.ae (R.ai (i:=3) bP.nd (R.ix (R.al (K:=K)) (R.v 1) (R.bt R.ac))) (R.ae (R.ai (i:=4) bP.nd (R.am (R.Z R.ad (R.Z (R.fn cLnumber hLnumber rfl (R.Z (R.v 0) (R.Z R.ac (R.Z (R.op R.bd (R.v 3) R.ac) R.aa)))) R.aa)))) (R.ae (R.ai (i:=5) bP.nd (R.am (R.Z R.ad (R.Z (R.fn cLnumber hLnumber rfl (R.Z (R.v 0) (R.Z (R.op R.ar (R.op R.bd (R.op R.bq R.ac R.ac) (R.v 3)) R.ac) (R.Z (R.op R.bq R.ac R.ac) R.aa)))) R.aa)))) (R.ae (R.ai (i:=6) bP.nd (R.fn cLnumber hLnumber rfl (R.Z (R.v 0) (R.Z R.ac (R.Z (R.op R.bd (R.op R.bq R.ac R.ac) (R.v 3)) R.aa))))) (R.ae (R.ai (i:=7) bP.nd (R.fn cLnumber hLnumber rfl (R.Z (R.v 0) (R.Z (R.v 3) (R.Z (R.op R.bq R.ac R.ac) R.aa))))) (R.ae (R.aj (R.ah R.eq (R.v 2) R.ad) (R.af (R.ag (R.ix (R.aq (K:=K)) (R.ap (R.Z (R.am (R.Z R.ad R.aa)) (R.Z (R.am (R.Z R.ad (R.Z (R.ix (R.al (K:=K)) (R.v 1) R.ac) R.aa))) (R.Z (R.am (R.Z R.ad (R.Z (R.ix (R.al (K:=K)) (R.v 1) R.ac) R.aa))) R.aa)))) (R.fn cLtake hLtake rfl (R.Z (R.v 0) (R.Z R.ac R.aa)))))) R.ak) (R.ae (R.aj (R.ah R.eq (R.v 2) R.ad) (R.af (R.ag (R.ix (R.aq (K:=K)) (R.ap (R.Z (R.v 4) (R.Z (R.v 5) (R.Z (R.am (R.Z R.ad (R.Z (R.v 6) (R.Z (R.v 7) R.aa)))) R.aa)))) (R.fn cLtake hLtake rfl (R.Z (R.v 0) (R.Z R.ac R.aa)))))) R.ak) (R.ae (R.ai (i:=8) bP.nd (R.ap (R.Z (R.am (R.Z R.ad (R.Z (R.v 7) R.aa))) (R.Z (R.v 5) R.aa)))) (R.ae (R.aj (R.ah (R.bz (K:=K)) (R.v 2) (R.am (R.Z R.ad (R.Z R.ad R.aa)))) (R.af (R.ai (i:=8) bP.nd (R.ap (R.Z (R.am (R.Z R.ad (R.Z (R.v 6) R.aa))) (R.Z (R.v 4) R.aa))))) R.ak) (R.ae (R.aj (R.ah (R.bz (K:=K)) (R.v 2) (R.am (R.Z R.ad (R.Z R.ad R.aa)))) (R.af (R.ee (R.bb (K:=K) PySem.F.plainAttrs_list PySem.F.slot_list_append PySem.F.type_list_append R.eg (R.v 8) (R.Z (R.am (R.Z R.ad (R.Z (R.ix (R.al (K:=K)) (R.v 1) R.ac) R.aa))) R.aa)))) R.ak) (R.af (R.ag (R.ix (R.aq (K:=K)) (R.v 8) (R.fn cLtake hLtake rfl (R.Z (R.v 0) (R.Z (R.ao (R.au (K:=K)) rfl T.b_len aX (R.Z (R.v 8) R.aa)) R.aa))))))))))))))))),?_⟩
  have e12:(10:Int) ^ (12:Int).toNat=1000000000000:=by decide
  obtain⟨wd,n,hs,hS,n0,n1,hw,hl⟩:∃wd n hs,lG xs wd n hs/\1<=n/\n<=1000000000000/\eF xs 0=some (.str wd)/\eF xs (-1)=some (.int n):=by
   cases hD with
   | one z a n h _ h0 h1=>exact⟨_,_,_,.one z a n h,h0,h1,rfl,rfl⟩
   | move a b n _ _ _ h0 h1=>exact⟨_,_,_,.move a b n,h0,h1,rfl,rfl⟩
   | two z a b n h _ _ h0 h1=>exact⟨_,_,_,.two z a b n h,h0,h1,rfl,rfl⟩
   | pass a b c n _ _ _ _ h0 h1=>exact⟨_,_,_,.pass a b c n,h0,h1,rfl,rfl⟩
  have pw:((0:Int)<=12/\(12:Int)<100):=⟨Zd,Zd⟩
  refine⟨_,SqT.of hd,_,hw,?_⟩
  dsimp only [aI];refine⟨_,SqT.of hd,_,hl,?_⟩
  dsimp only [aI];refine⟨p,0,n - 1,rfl,pn,Zo,Zo,fun a1 G1 a10 a11 pn1 k1=>⟨Zs,fun t1 G2 s2 g2=>?_⟩⟩
  dsimp only [aI];have pn2:=pn1.same s2
  refine⟨⟨Zd,Zd,Zd⟩,⟨Zd,Zd,Zd⟩,p,_,_,rfl,pn2,Zo,Zo,fun a2 G3 a20 a21 pn3 k3=>⟨Zs,fun t2 G4 s4 g4=>?_⟩⟩
  dsimp only [aI];have pn4:=pn3.same s4
  refine⟨⟨Zd,Zd,Zd⟩,p,0,_,rfl,pn4,Zo,Zo,fun a3 G5 a30 a31 pn5 k5=>?_⟩
  dsimp only [aI];refine⟨⟨Zd,Zd,Zd⟩,p,n,_,rfl,pn5,Zo,Zo,fun a4 G6 a40 a41 pn6 k6=>?_⟩
  dsimp only [aI];rw[e12]at a20 a21 a31 a41;have k06:K1 p H G6:=(((k1.trans (K1.of s2)).trans k3).trans (K1.of s4)).trans (k5.trans k6)
  have hd6:=k06 _ _ hd (PenAt.tup pn hd)
  have g16:G6 t1=some (.tup [.str "short",.int a1]):=k6 _ _ (k5 _ _ (s4 _ _ (k3 _ _ g2 (PenAt.tup pn2 g2))) (PenAt.tup pn4 (s4 _ _ (k3 _ _ g2 (PenAt.tup pn2 g2))))) (PenAt.tup pn5 (k5 _ _ (s4 _ _ (k3 _ _ g2 (PenAt.tup pn2 g2))) (PenAt.tup pn4 (s4 _ _ (k3 _ _ g2 (PenAt.tup pn2 g2))))))
  have g26:G6 t2=some (.tup [.str "full",.int a2]):=k6 _ _ (k5 _ _ g4 (PenAt.tup pn4 g4)) (PenAt.tup pn5 (k5 _ _ g4 (PenAt.tup pn4 g4)))
  have fin:∀ {G:Hp} {ys:List V} {t:Addr},K1 p G6 G->PenAt G p->G t=some (.tup ys)->oJ wd n hs ys->Q (.ref t) G:=fun k pn' g h=>q _ _ _ _ _ _ hS h g pn' (k06.trans k)
  have tk:∀ {G G':Hp} {t:Addr} {ys:List V},PenAt G p->K1 p G G'->G t=some (.tup ys)->G' t=some (.tup ys):=fun pn' k g=>k _ _ g (PenAt.tup pn' g)
  have last:∀ {G:Hp} (l:Addr) (ts:List (Addr × List V)),K1 p G6 G->PenAt G p->l≠p->G l=some (.lst (ts.map fun q=>V.ref q.1))->(∀q∈ts,G q.1=some (.tup q.2)/\oJ wd n hs q.2)->0<ts.length->ts.length<=10 →
    ∃ys,(SqL K G l ys∨SqT K G l ys)/\gX [.ref p,.int ys.length] G (fun r G'=>Et K (.ref l) r G' Q) E0:=fun {G} l ts k pn' nl gl ht h0 h10=>by
   refine⟨_,.inl (SqL.of gl),p,_,rfl,pn',by rw[aZ];omega,by rw[aZ];omega,fun r G' r0 r1 pnF kF=>?_⟩
   obtain⟨v,hv,hm⟩:=kT r0 r1
   obtain⟨qq,hq,rfl⟩:=Zmm.mp hm
   exact⟨_,SqL.of (kF _ _ gl nl),_,hv,fin (k.trans kF) pnF (tk pn' kF (ht qq hq).1) (ht qq hq).2⟩
  have app:∀ {G:Hp} {h:Str} (l:Addr) (x1 x2:Addr × List V),G6 l=none->Same G6 G->l≠p->G l=some (.lst [.ref x1.1,.ref x2.1])->(G x1.1=some (.tup x1.2)/\oJ wd n hs x1.2)->(G x2.1=some (.tup x2.2)/\oJ wd n hs x2.2)->oJ wd n hs [.str "no",.str h] →
    ∀t G',Same G G'->G' t=some (.tup [.str "no",.str h])->∃ys,(SqL K (aJ G' l (.lst [.ref x1.1,.ref x2.1,.ref t])) l ys∨SqT K (aJ G' l (.lst [.ref x1.1,.ref x2.1,.ref t])) l ys)/\gX [.ref p,.int ys.length] (aJ G' l (.lst [.ref x1.1,.ref x2.1,.ref t])) (fun r G'=>Et K (.ref l) r G' Q) E0:=fun {G h} l x1 x2 fr sG nl gl h1 h2 hz t G' s' g'=>by
   have gl':=s' _ _ gl
   have kt:∀ {c:Addr} {ys:List V},G' c=some (.tup ys)->(aJ G' l (.lst [.ref x1.1,.ref x2.1,.ref t])) c=some (.tup ys):=fun e=>by rw[aM (Wn e gl' (fun z=>nomatch z))];exact e
   have pn6':=pn6
   obtain⟨i0,j0,gp,rp⟩:=pn6'
   have pnG:PenAt (aJ G' l (.lst [.ref x1.1,.ref x2.1,.ref t])) p:=⟨i0,j0,by rw[aM nl.symm];exact s' _ _ (sG _ _ gp),rp⟩
   refine last l [x1,x2,(t,[.str "no",.str h])] (fun a o e _=>by rw[aM (fun z=>by rw[z,fr]at e;cases e)];exact s' _ _ (sG _ _ e)) pnG nl aD (fun q hq=>?_) Zs Zs
   simp only [List.mem_cons,List.not_mem_nil,or_false]at hq
   rcases hq with rfl | rfl | rfl
   ·exact⟨kt (s' _ _ h1.1),h1.2⟩
   ·exact⟨kt (s' _ _ h2.1),h2.2⟩
   ·exact⟨kt g',hz⟩
  cases hS with
  | pass a b c n=>
   refine⟨Zs,fun u1 F1 e1 f1=>⟨_,SqT.of (e1 _ _ hd6),_,rfl,Zs,fun u2 F2 e2 f2=>⟨_,SqT.of (e2 _ _ (e1 _ _ hd6)),_,rfl,Zs,fun u3 F3 e3 f3=>⟨dU rfl,fun l hl=>⟨p,3,rfl,((((pn6.same e1).same e2).same e3).same (aA hl)),Zd,Zd,fun r F4 r0 r1 pnF kF=>⟨_,SqL.of (kF _ _ aD (((((pn6.same e1).same e2).same e3).ne hl))),?_⟩⟩⟩⟩⟩⟩
   have pnL:=((((pn6.same e1).same e2).same e3).same (aA (o:=.lst [.ref u1,.ref u2,.ref u3]) hl))
   have sL:=((e1.trans e2).trans e3).trans (aA (o:=.lst [.ref u1,.ref u2,.ref u3]) hl)
   have k:=(K1.of (p:=p) sL).trans kF
   have h3:r=0∨r=1∨r=2:=by omega
   rcases h3 with rfl | rfl | rfl
   ·exact⟨_,rfl,fin k pnF (tk pnL kF (aA hl _ _ (e3 _ _ (e2 _ _ f1)))) (.ok rfl)⟩
   ·exact⟨_,rfl,fin k pnF (tk pnL kF (aA hl _ _ (e3 _ _ f2))) (.no _ (.inr (.inr rfl)) Zs)⟩
   ·exact⟨_,rfl,fin k pnF (tk pnL kF (aA hl _ _ f3)) (.no _ (.inr (.inr rfl)) Zs)⟩
  | move a b n=>
   refine⟨Zs,fun u3 F3 e3 f3=>⟨dU rfl,fun l hl=>⟨p,3,rfl,((pn6.same e3).same (aA hl)),Zd,Zd,fun r F4 r0 r1 pnF kF=>⟨_,SqL.of (kF _ _ aD ((pn6.same e3).ne hl)),?_⟩⟩⟩⟩
   have pnL:=((pn6.same e3).same (aA (o:=.lst [.ref t1,.ref t2,.ref u3]) hl))
   have k:=(K1.of (p:=p) (e3.trans (aA (o:=.lst [.ref t1,.ref t2,.ref u3]) hl))).trans kF
   have h3:r=0∨r=1∨r=2:=by omega
   rcases h3 with rfl | rfl | rfl
   ·exact⟨_,rfl,fin k pnF (tk pnL kF (aA hl _ _ (e3 _ _ g16))) (.short _ (.inr (.inr rfl)) a10 a11)⟩
   ·exact⟨_,rfl,fin k pnF (tk pnL kF (aA hl _ _ (e3 _ _ g26))) (.full _ (.inr (.inr rfl)) a20 a21)⟩
   ·exact⟨_,rfl,fin k pnF (tk pnL kF (aA hl _ _ f3)) (.both _ _ rfl a30 a31 a40 a41)⟩
  | one z a n h=>
   rcases h with rfl | rfl
   ·refine⟨Zs,fun u1 F1 e1 f1=>⟨dU rfl,fun l hl=>?_⟩⟩
    dsimp only [aI];have pn1':=(pn6.same e1).same (aA (o:=.lst [.ref u1,.ref t2]) hl)
    have sl:=e1.trans (aA (o:=.lst [.ref u1,.ref t2]) hl)
    have gl:(aJ F1 l (.lst [.ref u1,.ref t2])) l=some (.lst [.ref u1,.ref t2]):=aD
    have nl:l≠p:=(pn6.same e1).ne hl
    have fu:(aJ F1 l (.lst [.ref u1,.ref t2])) u1=some (.tup [.str "is",.int a4]):=aA hl _ _ f1
    generalize aJ F1 l (.lst [.ref u1,.ref t2])=F2 at pn1' sl gl fu ⊢;refine⟨Zs,fun w1 F3 e3 f3=>⟨w1,_,rfl,.inr (SqT.of f3),rfl,rfl,?_⟩⟩
    have h1:cQ (.str "add") [V.str "take",.str "send"]=false:=rfl
    dsimp only;rw[h1];refine⟨Zs,fun w2 F4 e4 f4=>⟨w2,_,rfl,.inr (SqT.of f4),rfl,rfl,?_⟩⟩
    have h2:cQ (.str "add") [V.str "send",.str "fetch"]=false:=rfl
    dsimp only;rw[h2];have s4':=(sl.trans e3).trans e4
    refine last l [(u1,[.str "is",.int a4]),(t2,[.str "full",.int a2])] (K1.of s4') (pn6.same s4') nl (e4 _ _ (e3 _ _ gl)) (fun q hq=>?_) Zs Zs
    simp only [List.mem_cons,List.not_mem_nil,or_false]at hq
    rcases hq with rfl | rfl
    ·exact⟨e4 _ _ (e3 _ _ fu),.more _ (.inl rfl) a40 a41⟩
    ·exact⟨s4' _ _ g26,.full _ (.inl rfl) a20 a21⟩
   ·refine⟨Zs,fun u1 F1 e1 f1=>⟨dU rfl,fun l hl=>?_⟩⟩
    dsimp only [aI];have pn1':=(pn6.same e1).same (aA (o:=.lst [.ref u1,.ref t2]) hl)
    have sl:=e1.trans (aA (o:=.lst [.ref u1,.ref t2]) hl)
    have gl:(aJ F1 l (.lst [.ref u1,.ref t2])) l=some (.lst [.ref u1,.ref t2]):=aD
    have nl:l≠p:=(pn6.same e1).ne hl
    have fu:(aJ F1 l (.lst [.ref u1,.ref t2])) u1=some (.tup [.str "is",.int a4]):=aA hl _ _ f1
    generalize aJ F1 l (.lst [.ref u1,.ref t2])=F2 at pn1' sl gl fu ⊢;refine⟨Zs,fun w1 F3 e3 f3=>⟨w1,_,rfl,.inr (SqT.of f3),rfl,rfl,?_⟩⟩
    have h1:cQ (.str "take") [V.str "take",.str "send"]=true:=rfl
    dsimp only;rw[h1];refine⟨Zs,fun u2 F4 e4 f4=>⟨dU rfl,fun l2 hl2=>?_⟩⟩
    dsimp only [aI];have s4':=(sl.trans e3).trans e4
    have s5':=s4'.trans (aA (o:=.lst [.ref u2,.ref t1]) hl2)
    have gl2:(aJ F4 l2 (.lst [.ref u2,.ref t1])) l2=some (.lst [.ref u2,.ref t1]):=aD
    have nl2:l2≠p:=(pn6.same s4').ne hl2
    have fu2:(aJ F4 l2 (.lst [.ref u2,.ref t1])) u2=some (.tup [.str "is",.int a3]):=aA hl2 _ _ f4
    generalize aJ F4 l2 (.lst [.ref u2,.ref t1])=F5 at s5' gl2 fu2 ⊢;refine⟨Zs,fun w2 F6 e6 f6=>⟨w2,_,rfl,.inr (SqT.of f6),rfl,rfl,?_⟩⟩
    have h2:cQ (.str "take") [V.str "send",.str "fetch"]=false:=rfl
    dsimp only;rw[h2];have s6':=s5'.trans e6
    refine last l2 [(u2,[.str "is",.int a3]),(t1,[.str "short",.int a1])] (K1.of s6') (pn6.same s6') nl2 (e6 _ _ gl2) (fun q hq=>?_) Zs Zs
    simp only [List.mem_cons,List.not_mem_nil,or_false]at hq
    rcases hq with rfl | rfl
    ·exact⟨e6 _ _ fu2,.less _ (.inl rfl) a30 a31⟩
    ·exact⟨s6' _ _ g16,.short _ (.inl rfl) a10 a11⟩
  | two z a b n h=>
   rcases h with rfl | rfl
   ·refine⟨Zs,fun u1 F1 e1 f1=>⟨dU rfl,fun l hl=>?_⟩⟩
    dsimp only [aI];have sl:=e1.trans (aA (o:=.lst [.ref u1,.ref t2]) hl)
    have gl:(aJ F1 l (.lst [.ref u1,.ref t2])) l=some (.lst [.ref u1,.ref t2]):=aD
    have nl:l≠p:=(pn6.same e1).ne hl
    have fu:(aJ F1 l (.lst [.ref u1,.ref t2])) u1=some (.tup [.str "is",.int a4]):=aA hl _ _ f1
    generalize aJ F1 l (.lst [.ref u1,.ref t2])=F2 at sl gl fu ⊢;refine⟨Zs,fun w1 F3 e3 f3=>⟨w1,_,rfl,.inr (SqT.of f3),rfl,rfl,?_⟩⟩
    have h1:cQ (.str "send") [V.str "take",.str "send"]=true:=rfl
    dsimp only;rw[h1];refine⟨Zs,fun u2 F4 e4 f4=>⟨dU rfl,fun l2 hl2=>?_⟩⟩
    dsimp only [aI];have s4':=(sl.trans e3).trans e4
    have s5':=s4'.trans (aA (o:=.lst [.ref u2,.ref t1]) hl2)
    have gl2:(aJ F4 l2 (.lst [.ref u2,.ref t1])) l2=some (.lst [.ref u2,.ref t1]):=aD
    have nl2:l2≠p:=(pn6.same s4').ne hl2
    have fu2:(aJ F4 l2 (.lst [.ref u2,.ref t1])) u2=some (.tup [.str "is",.int a3]):=aA hl2 _ _ f4
    generalize aJ F4 l2 (.lst [.ref u2,.ref t1])=F5 at s5' gl2 fu2 ⊢;refine⟨Zs,fun w2 F6 e6 f6=>⟨w2,_,rfl,.inr (SqT.of f6),rfl,rfl,?_⟩⟩
    have h2:cQ (.str "send") [V.str "send",.str "fetch"]=true:=rfl
    dsimp only;rw[h2];have s6':=s5'.trans e6
    have gl6:=e6 _ _ gl2
    exact⟨.inl ⟨rfl,_,SqL.of gl6⟩,_,SqT.of (s6' _ _ hd6),_,rfl,Zs,fun t F7 e7 f7=>⟨l2,_,_,rfl,rfl,e7 _ _ gl6,by show 2<sizeLine;decide,app l2 (u2,[.str "is",.int a3]) (t1,[.str "short",.int a1]) (by cases e:G6 l2 with | none=>rfl | some o=>(rw[s4' _ _ e]at hl2;cases hl2)) s6' nl2 gl6 ⟨e6 _ _ fu2,.less _ (.inr rfl) a30 a31⟩ ⟨s6' _ _ g16,.short _ (.inr (.inl rfl)) a10 a11⟩ (.no _ (.inl rfl) iW) t F7 e7 f7⟩⟩
   ·refine⟨Zs,fun u1 F1 e1 f1=>⟨dU rfl,fun l hl=>?_⟩⟩
    dsimp only [aI];have sl:=e1.trans (aA (o:=.lst [.ref u1,.ref t2]) hl)
    have gl:(aJ F1 l (.lst [.ref u1,.ref t2])) l=some (.lst [.ref u1,.ref t2]):=aD
    have nl:l≠p:=(pn6.same e1).ne hl
    have fu:(aJ F1 l (.lst [.ref u1,.ref t2])) u1=some (.tup [.str "is",.int a4]):=aA hl _ _ f1
    generalize aJ F1 l (.lst [.ref u1,.ref t2])=F2 at sl gl fu ⊢;refine⟨Zs,fun w1 F3 e3 f3=>⟨w1,_,rfl,.inr (SqT.of f3),rfl,rfl,?_⟩⟩
    have h1:cQ (.str "fetch") [V.str "take",.str "send"]=false:=rfl
    dsimp only;rw[h1];refine⟨Zs,fun w2 F6 e6 f6=>⟨w2,_,rfl,.inr (SqT.of f6),rfl,rfl,?_⟩⟩
    have h2:cQ (.str "fetch") [V.str "send",.str "fetch"]=true:=rfl
    dsimp only;rw[h2];have s6':=(sl.trans e3).trans e6
    have gl6:=e6 _ _ (e3 _ _ gl)
    exact⟨.inl ⟨rfl,_,SqL.of gl6⟩,_,SqT.of (s6' _ _ hd6),_,rfl,Zs,fun t F7 e7 f7=>⟨l,_,_,rfl,rfl,e7 _ _ gl6,by show 2<sizeLine;decide,app l (u1,[.str "is",.int a4]) (t2,[.str "full",.int a2]) (by cases e:G6 l with | none=>rfl | some o=>(rw[e1 _ _ e]at hl;cases hl)) s6' nl gl6 ⟨e6 _ _ (e3 _ _ fu),.more _ (.inr rfl) a40 a41⟩ ⟨s6' _ _ g26,.full _ (.inr (.inl rfl)) a20 a21⟩ (.no _ (.inr (.inl rfl)) iW) t F7 e7 f7⟩⟩
theorem Pb (T:Txt K mg) (D:DefAt K mg "asks_of" lP ["deed"]):Callee P w K mg base 1 "asks_of" ["deed"] Jh:=by
 refine D.go nD (fun vs H Q E h=>?_) (fun f cdv A outer s H vs Q E hr h=>?_)
 ·obtain⟨p,wd,xs,cs,as,rfl,_⟩:=h;rfl
 ·obtain⟨p,wd,xs,cs,as,rfl,hp,⟨one,other,nm,n,hd⟩,q⟩:=h
  refine⟨_,(R.ae (R.ai (i:=1) nD.nd (R.am (R.Z R.ad (R.Z (R.ix (R.al (K:=K)) (R.v 0) (R.bt R.ac)) (R.Z (R.ix (R.al (K:=K)) (R.v 0) (R.bt R.ac)) R.aa))))) (R.ae (R.ai (i:=2) nD.nd (R.am (R.Z R.ad (R.Z (R.ix (R.al (K:=K)) (R.v 0) (R.bt R.ac)) (R.Z (R.ix (R.al (K:=K)) (R.v 0) (R.bt R.ac)) R.aa))))) (R.ae (R.aj (R.ah R.eq (R.ix (R.al (K:=K)) (R.v 0) R.ac) R.ad) (R.af (R.ag (R.am (R.Z (R.am (R.Z (R.ix (R.al (K:=K)) (R.v 0) R.ac) (R.Z (R.v 1) R.aa))) R.aa)))) R.ak) (R.ae (R.aj (R.ah R.eq (R.ix (R.al (K:=K)) (R.v 0) R.ac) R.ad) (R.af (R.ag (R.am (R.Z (R.am (R.Z (R.ix (R.al (K:=K)) (R.v 0) R.ac) (R.Z (R.v 2) R.aa))) R.aa)))) R.ak) (R.ae (R.aj (R.ah R.eq (R.ix (R.al (K:=K)) (R.v 0) R.ac) R.ad) (R.af (R.ag (R.am (R.Z (R.am (R.Z (R.ix (R.al (K:=K)) (R.v 0) R.ac) (R.Z (R.v 2) R.aa))) (R.Z (R.am (R.Z (R.ix (R.al (K:=K)) (R.v 0) R.ac) (R.Z (R.v 1) R.aa))) R.aa))))) R.ak) (R.af (R.ag (R.am R.aa)))))))),?_⟩
  cases hd
  all_goals
   refine⟨_,SqT.of hp,_,rfl,_,SqT.of hp,_,rfl,Zs,fun p1 H1 s1 g1=>⟨_,SqT.of (s1 _ _ hp),_,rfl,_,SqT.of (s1 _ _ hp),_,rfl,Zs,fun p2 H2 s2 g2=>?_⟩⟩
   have hp2:=(s1.trans s2) _ _ hp
   refine⟨_,SqT.of hp2,_,rfl,?_⟩
  case send=>exact⟨_,SqT.of hp2,_,rfl,Zs,fun p3 H3 s3 g3=>⟨Zs,fun p4 H4 s4 g4=>q p4 _ H4 (((s1.trans s2).trans s3).trans s4) g4 (.cons ⟨p3,p1,rfl,s4 _ _ g3,s4 _ _ (s3 _ _ (s2 _ _ g1))⟩ .nil)⟩⟩
  all_goals refine⟨_,SqT.of hp2,_,rfl,?_⟩
  case fetch=>exact⟨_,SqT.of hp2,_,rfl,Zs,fun p3 H3 s3 g3=>⟨Zs,fun p4 H4 s4 g4=>q p4 _ H4 (((s1.trans s2).trans s3).trans s4) g4 (.cons ⟨p3,p2,rfl,s4 _ _ g3,s4 _ _ (s3 _ _ g2)⟩ .nil)⟩⟩
  all_goals refine⟨_,SqT.of hp2,_,rfl,?_⟩
  case pass=>
   refine⟨_,SqT.of hp2,_,rfl,Zs,fun p3 H3 s3 g3=>⟨_,SqT.of (s3 _ _ hp2),_,rfl,Zs,fun p4 H4 s4 g4=>⟨Zs,fun p5 H5 s5 g5=>?_⟩⟩⟩
   exact q p5 _ H5 ((((s1.trans s2).trans s3).trans s4).trans s5) g5 (.cons ⟨p3,p2,rfl,s5 _ _ (s4 _ _ g3),s5 _ _ (s4 _ _ (s3 _ _ g2))⟩ (.cons ⟨p4,p1,rfl,s5 _ _ g4,s5 _ _ (s4 _ _ (s3 _ _ (s2 _ _ g1)))⟩ .nil))
  all_goals exact⟨Zd,fun p3 H3 s3 g3=>q p3 [] H3 ((s1.trans s2).trans s3) g3 .nil⟩
theorem Be (T:Txt K mg) (D:DefAt K mg "word_of" lQ ["thing"]):Callee P w K mg base 1 "word_of" ["thing"] nZ:=by
 refine D.go Ay (fun vs H Q E h=>?_) (fun f cdv A outer s H vs Q E hr h=>?_)
 ·obtain⟨x,rfl,_⟩:=h;rfl
 ·obtain⟨x,rfl,hx,q⟩:=h
  refine⟨_,(R.ae (R.aj (R.tw (R.bc (R.aw (R.av (R.ba .tup (R.v 0) rfl T.b_isinstance rfl T.b_tuple bT))) (R.bc (R.ah R.eq (R.ao (R.au (K:=K)) rfl T.b_len aX (R.Z (R.v 0) R.aa)) R.ac) (R.bh (R.aw (R.av (R.ba .str (R.ix (R.al (K:=K)) (R.v 0) R.ac) rfl T.b_isinstance rfl T.b_str fT))))))) (R.af (R.ag R.bw)) R.ak) (R.af (R.ag (R.ix (R.al (K:=K)) (R.v 0) R.ac)))),?_⟩
  rcases hx.1 with⟨hf,_⟩ | ⟨a,ys,rfl,h | h⟩ | ⟨a,kvs,rfl,h⟩
  ·cases x with
   | non=>exact⟨.non,trivial,q⟩
   | bl _=>exact⟨.bl,trivial,q⟩
   | int _=>exact⟨.int,trivial,q⟩
   | str _=>exact⟨.str,trivial,q⟩
   | _=>exact absurd (show false=true from hf) Bool.false_ne_true
  ·refine⟨.lst,.inl ⟨ys,h⟩,?_⟩
   have e:cT H (.ref a)=.non:=by unfold cT aY;dsimp only;rw[h]
   rw[e]at q;exact q
  ·refine⟨.tup,⟨ys,h⟩,ys,.inr (SqT.of h),?_⟩
   have e0:cT H (.ref a)=kD ys:=by unfold cT;rw[cJ h]
   rw[e0]at q;obtain⟨_,hp⟩:=hx.2 a ys rfl h
   cases ys with
   | nil=>exact q
   | cons y r=>
    have e1:eF (y::r) ((0:Nat):Int)=some y:=aF rfl
    refine⟨y::r,SqT.of h,y,e1,?_⟩
    obtain⟨k,hk⟩:=(hp y iW).kd
    refine⟨k,hk,?_⟩
    cases y with
    | str u=>
     cases k <;> first | exact hk.elim | skip
     exact⟨_,SqT.of h,_,e1,q⟩
    | non=>cases k <;> first | exact hk.elim | exact q
    | bl _=>cases k <;> first | exact hk.elim | exact q
    | int _=>cases k <;> first | exact hk.elim | exact q
    | ref _=>cases k <;> first | exact hk.elim | exact q
    | _=>cases k <;> exact hk.elim
  ·refine⟨.dct,⟨kvs,h⟩,?_⟩
   have e:cT H (.ref a)=.non:=by unfold cT aY;dsimp only;rw[h]
   rw[e]at q;exact q
theorem Ks (T:Txt K mg) (c_is_name:Callee P w K mg base 2 "is_name" ["thing"] (iM LET 8)) (D:DefAt K mg "is_no" qF ["answer"]):Callee P w K mg base 3 "is_no" ["answer"] Am:=by
 refine D.go Kq (fun vs H Q E h=>?_) (fun f cdv A outer s H vs Q E hr h=>?_)
 ·obtain⟨a,xs,rfl,_⟩:=h;rfl
 ·obtain⟨a,xs,rfl,h,hp,q⟩:=h
  have hr_is_name:=hr
  refine⟨_,(R.af (R.ag (R.bj (R.az R.eq (R.ao (R.au (K:=K)) rfl T.b_len aX (R.Z (R.v 0) R.aa)) R.ac) (R.bp (R.fn c_is_name hr_is_name rfl (R.Z (R.ix (R.al (K:=K)) (R.v 0) R.ac) R.aa)))))),?_⟩
  refine⟨xs,.inr (SqT.of h),?_⟩
  match xs,h,hp,q with
  | [],h,hp,q=>exact q H (Same.refl _)
  | [_],h,hp,q=>exact q H (Same.refl _)
  | [x,y],h,hp,q=>
   obtain⟨k,hk⟩:=(hp y Zs).kd
   refine⟨_,SqT.of h,y,rfl,y,k,rfl,hk,?_,fun H' s'=>q H' s'⟩
   intro z e;subst e;rcases hp (.str z) Zs with⟨_,h⟩ | ⟨_,_,e,_⟩ | ⟨_,_,e,_⟩
   ·exact h z rfl
   ·cases e
   ·cases e
  | x::y::z::r,h,hp,q=>
   exact q H (Same.refl _)
theorem qG {H:Hp}:∀ {L:List (Str × List (Int × Int))} {kvs:List (dQ × V)},Paired (fun a b=>b.1=Sum.inr a.1/\yD H (some a.2) (some b.2)) L kvs->∀u:Str,yD H (L.lookup u) (dB kvs (Sum.inr u))
 | _,_,.nil,u=>rfl
 | a::L,b::kvs,.cons h t,u=>by
  rw[List.lookup_cons];by_cases e:u=a.1
  ·subst e;rw[beq_self_eq_true,cR h.1];exact h.2
  ·have hb:(u == a.1)=false:=beq_eq_false_iff_ne.mpr e
   rw[hb,cS (by rw[h.1];intro z;exact e (Sum.inr.inj z).symm)]
   exact qG t u
theorem mk2 {a b:Str} (h:([Sum.inr a,Sum.inr b]:List dQ).Nodup) (x y:V):gU [] [(Sum.inr a,x),(Sum.inr b,y)]=[(Sum.inr a,x),(Sum.inr b,y)]:=pG _ _ h fun _ _=>rfl
theorem mk3 {a b c:Str} (h:([Sum.inr a,Sum.inr b,Sum.inr c]:List dQ).Nodup) (x y z:V):gU [] [(Sum.inr a,x),(Sum.inr b,y),(Sum.inr c,z)]=[(Sum.inr a,x),(Sum.inr b,y),(Sum.inr c,z)]:=pG _ _ h fun _ _=>rfl
theorem Fv (T:Txt K mg) (D:DefAt K mg "bounds_of" iD ["deed"]):Callee P w K mg base 1 "bounds_of" ["deed"] yE:=by
 refine D.go dC (fun vs H Q E h=>?_) (fun f cdv A outer s H vs Q E hr h=>?_)
 ·obtain⟨p,wd,n,xs,as,rfl,_⟩:=h;rfl
 ·obtain⟨p,wd,n,xs,as,rfl,hp,⟨⟨one,other,nm,cs,hd⟩,_⟩,q⟩:=h
  refine⟨_,(R.ae (R.ai (i:=1) dC.nd (R.ix (R.al (K:=K)) (R.v 0) (R.bt R.ac))) (R.ae (R.ai (i:=2) dC.nd (R.am (R.Z R.ac (R.Z (R.op R.bd (R.gI rfl T.g_MOST) (R.v 1)) R.aa)))) (R.ae (R.ai (i:=3) dC.nd (R.am (R.Z (R.v 1) (R.Z (R.gI rfl T.g_MOST) R.aa)))) (R.ae (R.ai (i:=4) dC.nd (R.am (R.Z R.ac (R.Z (R.op R.bd (R.v 1) R.ac) R.aa)))) (R.ae (R.ai (i:=5) dC.nd (R.am (R.Z (R.op R.ar (R.op R.bd (R.gI rfl T.g_MOST) (R.v 1)) R.ac) (R.Z (R.gI rfl T.g_MOST) R.aa)))) (R.ae (R.aj (R.ah R.eq (R.ix (R.al (K:=K)) (R.v 0) R.ac) R.ad) (R.af (R.ag R.ij)) R.ak) (R.ae (R.aj (R.ah R.eq (R.ix (R.al (K:=K)) (R.v 0) R.ac) R.ad) (R.af (R.ag (R.dh (R.be R.ad (R.am (R.Z (R.v 2) (R.Z (R.v 3) R.aa))) (R.be R.ad (R.am (R.Z (R.v 4) R.aa)) (R.be R.ad (R.am (R.Z (R.v 5) R.aa)) R.di)))))) R.ak) (R.ae (R.aj (R.ah (R.bz (K:=K)) (R.ix (R.al (K:=K)) (R.v 0) R.ac) (R.am (R.Z R.ad (R.Z R.ad R.aa)))) (R.af (R.ag (R.dh (R.be R.ad (R.am (R.Z (R.v 2) R.aa)) (R.be R.ad (R.am (R.Z (R.v 4) R.aa)) R.di))))) R.ak) (R.af (R.ag (R.dh (R.be R.ad (R.am (R.Z (R.v 3) R.aa)) (R.be R.ad (R.am (R.Z (R.v 5) R.aa)) R.di))))))))))))),?_⟩
  have el:eF xs (-1)=some (.int n):=by cases hd <;> rfl
  refine⟨_,SqT.of hp,_,el,?_⟩
  dsimp only [aI];refine⟨Zs,fun p1 H1 s1 g1=>⟨Zs,fun p2 H2 s2 g2=>⟨Zs,fun p3 H3 s3 g3=>⟨Zs,fun p4 H4 s4 g4=>?_⟩⟩⟩⟩
  have s04:=((s1.trans s2).trans s3).trans s4
  have hp4:=s04 _ _ hp
  have g1':=s4 _ _ (s3 _ _ (s2 _ _ g1))
  have g2':=s4 _ _ (s3 _ _ g2)
  have g3':=s4 _ _ g3
  have fin:∀(H5:Hp) (pd:Addr) (G:Hp) (kvs:List (dQ × V)),Same H H5->H5 pd=none->Same (aJ H5 pd (.dK [])) G->(∀u:Str,yD (aJ G pd (.dK kvs)) ((jB wd n).lookup u) (dB kvs (Sum.inr u)))->Q (.ref pd) (aJ G pd (.dK kvs)):=fun H5 pd G kvs sH hpd sG hb=>by
   refine q pd kvs _ (fun c o e=>?_) aD hb
   have e':=sH _ _ e
   rw[aM (aH e' hpd)];exact sG _ _ (aA hpd _ _ e')
  have at_:∀ {H5:Hp} {pd:Addr} {G:Hp} {kvs:List (dQ × V)} {c:Addr} {ys:List V},Same (aJ H5 pd (.dK [])) G->G c=some (.tup ys)->aJ G pd (.dK kvs) c=some (.tup ys):=fun {H5 pd G kvs c ys} sG e=>by
   have:c≠pd:=fun z=>by have h:=sG _ _ aD;rw[<- z,e]at h;cases h
   rw[aM this];exact e
  have b1:∀ {G:Hp} {c t:Addr} {lo hi:Int},G t=some (.tup [.ref c])->G c=some (.tup [.int lo,.int hi])->yD G (some [(lo,hi)]) (some (.ref t)):=fun {G c t lo hi} h1 h2=>⟨t,[(c,lo,hi)],rfl,h1,fun z hz=>by rw[Zms.mp hz];exact h2,rfl⟩
  cases hd with
  | pass=>
   refine⟨_,SqT.of hp4,_,rfl,?_⟩
   intro d hd;exact q d [] _ (s04.trans (aA hd)) aD fun u=>rfl
  | move=>
   refine⟨_,SqT.of hp4,_,rfl,?_⟩
   refine⟨_,SqT.of hp4,_,rfl,?_⟩
   intro pd hpd;refine⟨Zs,fun q1 G1 r1 e1=>⟨Zs,fun q2 G2 r2 e2=>⟨Zs,fun q3 G3 r3 e3=>⟨r3 _ _ (r2 _ _ (r1 _ _ aD)),[(Sum.inr ("is":Str),.ref q1),(Sum.inr ("short":Str),.ref q2),(Sum.inr ("full":Str),.ref q3)],rfl,Zs,?_⟩⟩⟩⟩
   rw[mk3 Zk]
   have sG:=(r1.trans r2).trans r3
   have up:=fun {c:Addr} {ys:List V} (e:H4 c=some (.tup ys))=>sG _ _ (aA (o:=.dK []) hpd _ _ e)
   refine fin H4 pd G3 _ s04 hpd sG (qG (.cons ⟨rfl,?_⟩ (.cons ⟨rfl,b1 (at_ sG (r3 _ _ e2)) (at_ sG (up g3'))⟩ (.cons ⟨rfl,b1 (at_ sG e3) (at_ sG (up g4))⟩ .nil))))
   exact⟨q1,[(p1,_,_),(p2,_,_)],rfl,at_ sG (r3 _ _ (r2 _ _ e1)),fun z hz=>by
    simp only [List.mem_cons,List.not_mem_nil,or_false]at hz
    rcases hz with rfl | rfl
    ·exact at_ sG (up g1')
    ·exact at_ sG (up g2'),rfl⟩
  | take | send=>
   refine⟨_,SqT.of hp4,_,rfl,?_⟩
   refine⟨_,SqT.of hp4,_,rfl,?_⟩
   refine⟨_,SqT.of hp4,_,rfl,Zs,fun p5 H5 s5 g5=>⟨p5,_,rfl,.inr (SqT.of g5),rfl,rfl,?_⟩⟩
   intro pd hpd;refine⟨Zs,fun q1 G1 r1 e1=>⟨Zs,fun q2 G2 r2 e2=>⟨r2 _ _ (r1 _ _ aD),[(Sum.inr ("is":Str),.ref q1),(Sum.inr ("short":Str),.ref q2)],rfl,Zs,?_⟩⟩⟩
   rw[mk2 Zk]
   have sG:=r1.trans r2
   have up:=fun {c:Addr} {ys:List V} (e:H4 c=some (.tup ys))=>sG _ _ (aA (o:=.dK []) hpd _ _ (s5 _ _ e))
   exact fin H5 pd G2 _ (s04.trans s5) hpd sG (qG (.cons ⟨rfl,b1 (at_ sG (r2 _ _ e1)) (at_ sG (up g1'))⟩ (.cons ⟨rfl,b1 (at_ sG e2) (at_ sG (up g3'))⟩ .nil)))
  | add | fetch=>
   refine⟨_,SqT.of hp4,_,rfl,?_⟩
   refine⟨_,SqT.of hp4,_,rfl,?_⟩
   refine⟨_,SqT.of hp4,_,rfl,Zs,fun p5 H5 s5 g5=>⟨p5,_,rfl,.inr (SqT.of g5),rfl,rfl,?_⟩⟩
   intro pd hpd;refine⟨Zs,fun q1 G1 r1 e1=>⟨Zs,fun q2 G2 r2 e2=>⟨r2 _ _ (r1 _ _ aD),[(Sum.inr ("is":Str),.ref q1),(Sum.inr ("full":Str),.ref q2)],rfl,Zs,?_⟩⟩⟩
   rw[mk2 Zk]
   have sG:=r1.trans r2
   have up:=fun {c:Addr} {ys:List V} (e:H4 c=some (.tup ys))=>sG _ _ (aA (o:=.dK []) hpd _ _ (s5 _ _ e))
   exact fin H5 pd G2 _ (s04.trans s5) hpd sG (qG (.cons ⟨rfl,b1 (at_ sG (r2 _ _ e1)) (at_ sG (up g2'))⟩ (.cons ⟨rfl,b1 (at_ sG e2) (at_ sG (up g4))⟩ .nil)))
theorem yY {α:Type} {xs:List α} {i:Nat} {x:α} (h:xs[i]?=some x):xs.take (i+1)=xs.take i++[x]:=by
 rw[List.take_succ,h];rfl
theorem Fw (T:Txt K mg) (c_is_whole:Callee P w K mg base 1 "is_whole" ["thing","least","most"] eZ) (D:DefAt K mg "are_within" eM ["things","bounds"]):Callee P w K mg base 2 "are_within" ["things","bounds"] yF:=by
 refine D.go sJ (fun vs H Q E h=>?_) (fun f cdv A outer s H vs Q E hr h=>?_)
 ·obtain⟨a,t,xs,bs,rfl,_⟩:=h;rfl
 ·obtain⟨a,t,xs,bs,rfl,ha,hl,hx,ht,hb,q⟩:=h
  have hr_is_whole:=hr
  refine⟨_,(R.ae (R.aj (R.ah R.ne (R.ao (R.au (K:=K)) rfl T.b_len aX (R.Z (R.v 0) R.aa)) (R.ao (R.au (K:=K)) rfl T.b_len aX (R.Z (R.v 1) R.aa))) (R.af (R.ag R.bl)) R.ak) (R.af (R.ag (R.ao (R.dg (K:=K) rfl) rfl T.b_all qX (R.Z (R.bo rfl (js:=[none,none]) (N:=["thing","least_most"]) (CompScope.by (aE eM) ["things","bounds"] rfl rfl Zk) (kP (cG rfl (cG rfl iX))) (R.de (K:=K) rfl T.b_zip (R.v 0) (R.v 1)) (fun C s₂ H₂ fp=>⟨(R.cv (K:=K) (n:=2) rfl (R.bv (R.gn (i:=0) (show(["thing","least_most"]:List Str).Nodup by decide +kernel)) (R.bv (R.gn (i:=1) (show(["thing","least_most"]:List Str).Nodup by decide +kernel)) R.cy))),R.br,(R.fn c_is_whole hr_is_whole rfl (R.Z (R.v 0) (R.Z (R.ix (R.al (K:=K)) (R.v 1) R.ac) (R.Z (R.ix (R.al (K:=K)) (R.v 1) R.ac) R.aa))))⟩)) R.aa))))),?_⟩
  refine⟨xs,.inr (SqT.of ha),vM bs,.inr (SqT.of ht),?_⟩
  have elb:(vM bs).length=(bs.map (·.2)).length:=by unfold vM;rw[aZ,aZ]
  dsimp only [Zx,mB];refine aV (fun h=>?_) (fun h=>?_)
  ·have h':xs.length≠(bs.map (·.2)).length:=by
    rw[<- elb];intro e;rw[e]at h;simp at h
   have:=q H (Same.refl _)
   unfold bN at this;rw[decide_eq_false h',Bool.false_and]at this;exact this
  ·have h':xs.length=(bs.map (·.2)).length:=by
    rw[<- elb];have:((xs.length:Int)=((vM bs).length:Int)):=by simpa using h
    omega
   have hlb:bs.length=xs.length:=by rw[h',aZ]
   refine⟨false,false,xs,vM bs,SqT.of ha,SqT.of ht,?_⟩
   refine kX Zo (fun i ys H'=>ys=(((xs.zip (bs.map (·.2))).take i).map fun q=>aO q.2.1 q.2.2 q.1).map V.bl/\Same H H') (fun i ys H' ⟨e,s'⟩=>⟨SqT.of (s' _ _ ha),SqT.of (s' _ _ ht),by rw[e,aZ,aZ,fS];exact Nat.min_le_left _ _⟩) ⟨rfl,Same.refl _⟩ (fun i x y ys H' t' hx' hy' ⟨e,s'⟩ ht'=>?_) (fun ys H' ⟨e,s'⟩=>?_)
   ·unfold vM at hy';rw[kH]at hy';cases hn:bs[i]? with
    | none=>rw[hn]at hy';cases hy'
    | some z=>
     rw[hn]at hy';cases hy'
     have s2:=s'.trans (aA (o:=.tup [x,.ref z.1]) ht')
     have gz:=s2 _ _ (hb z (sN hn))
     have ez:(xs.zip (bs.map (·.2)))[i]?=some (x,z.2):=by
      rw[List.getElem?_zip_eq_some];exact⟨hx',by rw[kH,hn];rfl⟩
     refine⟨t',_,rfl,SqT.of aD,rfl,_,_,rfl,_,_,rfl,rfl,_,SqT.of gz,_,rfl,_,SqT.of gz,_,rfl,x,z.2.1,z.2.2,rfl,((hx x (sN hx')).same s2).pt,fun H'' s''=>⟨?_,s2.trans s''⟩⟩
     rw[yY ez,hW,hW,e];rfl
   ·intro l hl';refine⟨l,((xs.zip (bs.map (·.2))).map fun q=>aO q.2.1 q.2.2 q.1),rfl,SqL.of ?_,?_⟩
    ·rw[aD,e];have:(xs.zip (bs.map (·.2))).take (min xs.length (vM bs).length)=xs.zip (bs.map (·.2)):=rV (by rw[List.length_zip,elb];exact cL _)
     rw[this]
    ·have:=q (aJ H' l (.lst ys)) (s'.trans (aA hl'))
     unfold bN at this;rw[decide_eq_true h',Bool.true_and]at this;rw[List.all_map];exact this
theorem Pd {wd:Str} {xs:List V} {cs:List (Str × Int)} {as:List (Str × List V)} (h:DWX wd xs cs as):eF xs 0=some (.str wd):=by
 obtain⟨one,other,nm,n,hd⟩:=h
 cases hd <;> rfl
theorem jE (wd:Str) (hs:List Str) (n:Int) (u:Str) (r:List V):cK wd hs n (.str u::r)=if u="no" then (match r with | [y]=>mU y hs | _=>false) else if u="ok" then decide (wd="pass")&&r.isEmpty else match (jB wd n).lookup u with | some bs=>bN r bs | none=>false:=rfl
theorem Pe {hs:List Str} (h:∀z∈hs,isNm z) (y:V) (m:mU y hs=true):dF y=true:=by
 cases y with
 | str z=>exact fW (h z (by simpa [mU]using m))
 | _=>cases m
theorem wM (T:Txt K mg) (c_word_of:Callee P w K mg base 1 "word_of" ["thing"] nZ) (c_is_no:Callee P w K mg base 3 "is_no" ["answer"] Am) (c_asks_of:Callee P w K mg base 1 "asks_of" ["deed"] Jh) (c_bounds_of:Callee P w K mg base 1 "bounds_of" ["deed"] yE)
  (c_are_within:Callee P w K mg base 2 "are_within" ["things","bounds"] yF) (D:DefAt K mg "is_answer" fL ["deed","thing"]):Callee P w K mg base 4 "is_answer" ["deed","thing"] oB:=by
 refine D.go jX (fun vs H Q E h=>?_) (fun f cdv A outer s H vs Q E hr h=>?_)
 ·obtain⟨p,wd,n,xs,as,x,rfl,_⟩:=h;rfl
 ·obtain⟨p,wd,n,xs,as,x,rfl,hp,hd,hx,q⟩:=h
  have hr_word_of:Room 1 _:=hr.mono Zd
  have hr_asks_of:Room 1 _:=hr.mono Zd
  have hr_bounds_of:Room 1 _:=hr.mono Zd
  have hr_are_within:Room 2 _:=hr.mono Zd
  have hr_is_no:=hr
  have hu1:=Xm hr
  refine⟨_,(R.ae (R.ai (i:=2) jX.nd (R.fn c_word_of hr_word_of rfl (R.Z (R.v 1) R.aa))) (R.ae (R.aj (R.ah R.eq (R.v 2) R.ad) (R.af (R.ag (R.bj (R.fn c_is_no hr_is_no rfl (R.Z (R.v 1) R.aa)) (R.bp (R.az (R.bz (K:=K)) (R.ix (R.al (K:=K)) (R.v 1) R.ac) (R.bo rfl (js:=[none,none]) (N:=["house","there"]) (CompScope.by (aE fL) ["deed","thing","word","bounds"] rfl rfl Zk) (kP (cG rfl (cG rfl iX))) (R.cu (K:=K) (R.fn c_asks_of hr_asks_of rfl (R.Z (R.v 0) R.aa))) (fun C s₂ H₂ fp=>⟨(R.cv (K:=K) (n:=2) rfl (R.bv (R.gn (i:=0) (show(["house","there"]:List Str).Nodup by decide +kernel)) (R.bv (R.gn (i:=1) (show(["house","there"]:List Str).Nodup by decide +kernel)) R.cy))),R.br,(R.v 0)⟩))))))) R.ak) (R.ae (R.aj (R.ah R.eq (R.v 2) R.ad) (R.af (R.ag (R.bj (R.az R.eq (R.ix (R.al (K:=K)) (R.v 0) R.ac) R.ad) (R.bp (R.az R.eq (R.ao (R.au (K:=K)) rfl T.b_len aX (R.Z (R.v 1) R.aa)) R.ac))))) R.ak) (R.ae (R.ai (i:=3) jX.nd (R.fn c_bounds_of hr_bounds_of rfl (R.Z (R.v 0) R.aa))) (R.af (R.ag (R.bj (R.az (R.fk hu1) (R.v 2) (R.v 3)) (R.bp (R.fn c_are_within hr_are_within rfl (R.Z (R.sl R.sT (R.v 1) (R.ps R.ac) R.pn) (R.Z (R.ik hu1 (R.v 3) (R.v 2)) R.aa))))))))))),?_⟩
  refine⟨x,rfl,hx,?_⟩
  dsimp only [aI];obtain⟨cs,hdx⟩:=hd.dwx
  have none_case:cT H x=.non->fX H wd (as.map (·.1)) n x=false->∀ {R:Prop},R=R->True:=fun _ _ _ _=>trivial
  have key:(cT H x=.non/\fX H wd (as.map (·.1)) n x=false)∨∃a u r,x=.ref a/\H a=some (.tup (.str u::r))/\cT H x=.str u/\fX H wd (as.map (·.1)) n x=cK wd (as.map (·.1)) n (.str u::r):=by
   unfold cT fX;cases e:aY H x with
   | none=>exact .inl ⟨rfl,rfl⟩
   | some ys=>
    have:∃a,x=.ref a/\H a=some (.tup ys):=by
     unfold aY at e;cases x with
     | ref a=>
      dsimp only at e
      refine⟨a,rfl,?_⟩
      split at e
      ·cases e;assumption
      ·cases e
     | _=>cases e
    obtain⟨a,rfl,h⟩:=this
    cases ys with
    | nil=>exact .inl ⟨rfl,rfl⟩
    | cons y r=>cases y with
     | str u=>exact .inr ⟨a,u,r,rfl,h,rfl,rfl⟩
     | _=>exact .inl ⟨rfl,rfl⟩
  rcases key with⟨ew,ea⟩ | ⟨a,u,r,rfl,h,ew,ea⟩
  ·rw[ew];refine⟨p,wd,n,xs,as,rfl,hp,hd,fun d kvs H1 s1 g1 hb=>?_⟩
   refine⟨⟨kvs,g1⟩,?_⟩
   have:=q H1 s1
   rw[ea]at this;exact this
  ·rw[ew];rw[ea,jE]at q;obtain⟨hl,hpc⟩:=hx.2 a _ rfl h
   have hpr:∀y∈r,Pc H y:=fun y hy=>hpc y (gT _ hy)
   show if decide (u="no")=true then _ else _
   refine aV (fun h0=>?_) (fun h0=>?_)
   ·rw[if_pos (of_decide_eq_true h0)]at q;refine⟨a,_,rfl,h,hpc,fun H1 s1=>?_⟩
    show if oA (.str u::r)=true then _ else _
    refine aV (fun h1=>?_) (fun h1=>?_)
    ·match r,h1,q,h,hpr with
     | [y],h1,q,h,hpr=>
      have hny:dF y=true:=h1
      cases y with
      | str z=>
       refine⟨_,SqT.of (s1 _ _ h),_,rfl,p,wd,xs,cs,as,rfl,s1 _ _ hp,hdx,fun t us H2 s2 g2 ha=>⟨t,rfl,⟨_,SqT.of g2⟩,?_⟩⟩
       refine bV (hX K t us) (by have:=ha.length;obtain⟨one,other,nm,n',hh⟩:=hdx;rw[<- this];cases hh <;> simp) (fun i ys H'=>H'=H2/\ys=((as.take i).map (·.1)).map V.str) (fun i ys H' ⟨e,e2⟩=>⟨by rw[e];exact SqT.of g2,by rw[e2,aZ,aZ,fS];exact Nat.min_le_left _ _⟩) ⟨rfl,rfl⟩ (fun i v ys H' hv ⟨e,e2⟩=>?_) (fun ys H' ⟨e,e2⟩=>?_)
       ·subst e;obtain⟨hi,ev⟩:=Zgs.mp hv
        obtain⟨hi2,a',d',ev',ga,gd⟩:=Paired.get' (j:=i) ha hi
        rw[ev]at ev';subst ev';refine⟨a',_,rfl,SqT.of ga,rfl,_,_,rfl,_,_,rfl,rfl,rfl,?_⟩
        rw[yY (jH hi2),hW,hW,e2];rfl
       ·subst e;intro l hl';have e3:ys=(as.map (·.1)).map V.str:=by rw[e2,<- ha.length,List.take_length]
        refine⟨l,_,rfl,.inl (SqL.of aD),rfl,by rw[e3];exact Ey _,?_⟩
        have:=q (aJ H' l (.lst ys)) ((s1.trans s2).trans (aA hl'))
        show Q (.bl (cQ (.str z) ys)) _
        rw[e3,Cq]at *;exact this
      | _=>cases hny
    ·have e:(match r with | [y]=>mU y (as.map (·.1)) | _=>false)=false:=by
      match r,h1 with
      | [],_=>rfl
      | [y],h1=>
       have h1':dF y=false:=h1
       cases m:mU y (as.map (·.1)) with
       | false=>exact m
       | true=>
        have:=Pe (hs:=as.map (·.1)) (fun z hz=>by obtain⟨q',hq',rfl⟩:=Zmm.mp hz;exact hd.nm q' hq') y m
        rw[this]at h1';cases h1'
      | _::_::_,_=>rfl
     rw[e]at q;exact q H1 s1
   ·rw[if_neg (of_decide_eq_false h0)]at q;show if decide (u="ok")=true then _ else _
    refine aV (fun h1=>?_) (fun h1=>?_)
    ·rw[if_pos (of_decide_eq_true h1)]at q;refine⟨_,SqT.of hp,_,Pd hdx,?_⟩
     show if decide (wd="pass")=true then _ else _
     have q':=q H (Same.refl _)
     refine aV (fun h2=>?_) (fun h2=>?_)
     ·rw[h2,Bool.true_and]at q';refine⟨_,.inr (SqT.of h),?_⟩
      have e:r.isEmpty=decide ((((V.str u::r).length:Nat):Int)=1):=by
       cases r with
       | nil=>rfl
       | cons y r=>symm;exact decide_eq_false (by rw[fI,fI];omega)
      rw[e]at q';exact q'
     ·rw[h2,Bool.false_and]at q';exact q'
    ·rw[if_neg (of_decide_eq_false h1)]at q;refine⟨p,wd,n,xs,as,rfl,hp,hd,fun d kvs H1 s1 g1 hb=>?_⟩
     dsimp only [aI];have hbu:=hb u
     refine⟨kvs,g1,?_⟩
     show if (dB kvs (Sum.inr u)).isSome=true then _ else _
     cases eb:(jB wd n).lookup u with
     | none=>
      rw[eb]at hbu q;have hv:dB kvs (Sum.inr u)=none:=hbu
      rw[hv];exact q H1 s1
     | some bs=>
      rw[eb]at hbu q;obtain⟨t,zs,hv,gt,hba,hm⟩:=hbu
      rw[hv];refine⟨_,s1 _ _ h,fun p2 H2 s2 g2=>⟨d,.ref t,rfl,?_,p2,t,r,zs,rfl,?_,?_,fun y hy=>(hpr y hy).same (s1.trans s2),s2 _ _ gt,hba.same s2,fun H3 s3=>?_⟩⟩
      ·have:=DGet.k (k:=Sum.inr u) (s2 _ _ g1)
       rw[hv]at this;exact this
      ·have ec:dS (V.str u::r) (some 1) none=r:=eK _ 1
       rw[ec]at g2;exact g2
      ·rw[fI]at hl;omega
      ·rw[hm];exact q H3 ((s1.trans s2).trans s3)
end
end KL
namespace KL
open PySem L2
section
variable {P:Program} {w:World} {K:W.Frag} {mg:Str->Option Value} {base:Heap}
theorem Pf (T:Txt K mg) (c_word_of:Callee P w K mg base 1 "word_of" ["thing"] nZ) (c_is_no:Callee P w K mg base 3 "is_no" ["answer"] Am) (c_is_answer:Callee P w K mg base 4 "is_answer" ["deed","thing"] oB) (D:DefAt K mg "is_some_answer" cN ["thing"]):Callee P w K mg base 5 "is_some_answer" ["thing"] vV:=by
 refine D.go iH (fun vs H Q E h=>?_) (fun f cdv A outer s H vs Q E hr h=>?_)
 ·obtain⟨x,rfl,_⟩:=h;rfl
 ·obtain⟨x,rfl,tg,q⟩:=h
  have hr_word_of:Room 1 _:=hr.mono Zd
  have hr_is_no:Room 3 _:=hr.mono Zd
  have hr_is_answer:=hr
  refine⟨_,(R.ae (R.aj (R.ah R.eq (R.fn c_word_of hr_word_of rfl (R.Z (R.v 0) R.aa)) R.ad) (R.af (R.ag (R.fn c_is_no hr_is_no rfl (R.Z (R.v 0) R.aa)))) R.ak) (R.ae (R.ai (i:=1) iH.nd (R.am (R.Z (R.am (R.Z R.ad (R.Z R.ad (R.Z R.ac R.aa)))) (R.Z (R.am (R.Z R.ad (R.Z R.ad (R.Z R.ac R.aa)))) (R.Z (R.am (R.Z R.ad (R.Z R.ad (R.Z R.ad (R.Z R.ac R.aa))))) (R.Z (R.am (R.Z R.ad (R.Z R.ad (R.Z R.ad (R.Z (R.gI rfl T.g_MOST) R.aa))))) (R.Z (R.am (R.Z R.ad (R.Z R.ad (R.Z R.ad (R.Z R.ad (R.Z R.ac R.aa)))))) R.aa))))))) (R.af (R.ag (R.ao (R.il (K:=K) rfl) rfl T.b_any Ud (R.Z (R.bo rfl (js:=[none,some 0]) (N:=["deed","thing"]) (CompScope.by (aE cN) ["thing","widest"] rfl rfl Zk) (bF rfl) (R.cu (K:=K) (R.v 1)) (fun C s₂ H₂ fp=>⟨(R.gn (i:=0) (show(["deed","thing"]:List Str).Nodup by decide +kernel)),R.br,(R.fn c_is_answer hr_is_answer rfl (R.Z (R.v 0) (R.Z (R.v 1) R.aa)))⟩)) R.aa)))))),?_⟩
  rw[Kf]at q;refine⟨x,rfl,tg,?_⟩
  have hw0:cT H x=.non∨∃u,cT H x=.str u:=by
   unfold cT kD;cases aY H x with
   | none=>exact .inl rfl
   | some xs=>cases xs with
    | nil=>exact .inl rfl
    | cons y r=>cases y <;> first | exact .inl rfl | exact .inr ⟨_,rfl⟩
  by_cases hno:cT H x=.str "no"
  ·obtain⟨u,e,hu⟩:∃u,cT H x=.str u/\u="no":=⟨_,hno,rfl⟩
   rw[e];show if decide (u="no")=true then _ else _
   refine kR (decide_eq_true hu) ?_
   rw[if_pos hno]at q;have hw:=hno
   unfold cT at hw;cases hp:aY H x with
   | none=>rw[hp]at hw;cases hw
   | some xs=>
    rw[hp]at q;have:∃a,x=.ref a/\H a=some (.tup xs):=by
     unfold aY at hp;split at hp
     ·rename_i a
      refine⟨a,rfl,?_⟩
      split at hp
      ·rename_i ys e;rw[e,Option.some.inj hp]
      ·cases hp
     ·cases hp
    obtain⟨a,rfl,ga⟩:=this
    exact⟨a,xs,rfl,ga,(tg.2 a xs rfl ga).2,q⟩
  rw[if_neg hno]at q;rcases hw0 with e | ⟨u,e⟩
  ·rw[e];show aR _ _ _
   dsimp only [aR];refine⟨Zs,fun t1 H1 s1 g1=>⟨Zs,fun t2 H2 s2 g2=>⟨Zs,fun t3 H3 s3 g3=>⟨Zs,fun t4 H4 s4 g4=>⟨Zs,fun t5 H5 s5 g5=>⟨Zs,fun tw H6 s6 g6=>?_⟩⟩⟩⟩⟩⟩
   dsimp only [aI];have gs:Paired (fun(q:Str × Int × List V) (v:V)=>∃b,v=.ref b/\H6 b=some (.tup q.2.2)) WID [.ref t1,.ref t2,.ref t3,.ref t4,.ref t5]:=by
    refine .cons ⟨_,rfl,s6 _ _ (s5 _ _ (s4 _ _ (s3 _ _ (s2 _ _ g1))))⟩ (.cons ⟨_,rfl,s6 _ _ (s5 _ _ (s4 _ _ (s3 _ _ g2)))⟩ (.cons ⟨_,rfl,s6 _ _ (s5 _ _ (s4 _ _ g3))⟩ (.cons ⟨_,rfl,s6 _ _ (s5 _ _ g4)⟩ (.cons ⟨_,rfl,s6 _ _ g5⟩ .nil))))
   have s06:Same H H6:=((((s1.trans s2).trans s3).trans s4).trans s5).trans s6
   refine⟨tw,rfl,⟨_,SqT.of g6⟩,?_⟩
   refine bV (hX K tw _) Zs (fun j ys H'=>ys=((WID.take j).map fun q=>V.bl (fX H q.1 (sC q.1) q.2.1 x))/\Same H6 H') (fun j ys H' ⟨e,s'⟩=>⟨SqT.of (s' _ _ g6),by rw[e,aZ,fS];exact Nat.min_le_left _ _⟩) ⟨rfl,Same.refl _⟩ (fun j y ys H' hy ⟨e,s'⟩=>?_) (fun ys H' ⟨e,s'⟩=>?_)
   ·have hj:=(Zgs.mp hy).1
    obtain⟨hj',b,eb,gb⟩:=Paired.get' (j:=j) gs hj
    have ey:y=.ref b:=by rw[<- eb];exact((Zgs.mp hy).2).symm
    subst ey;obtain⟨as,hd,ha⟩:=Ke _ (List.getElem_mem hj')
    have s0':=s06.trans s'
    refine⟨b,_,_,_,as,x,rfl,s' _ _ gb,hd,tg.same s0',fun H7 s7=>⟨?_,s'.trans s7⟩⟩
    rw[lL s0' tg.1,ha,List.take_succ,jH hj',hW,e];rfl
   ·intro l hl;have e5:WID.take ([V.ref t1,.ref t2,.ref t3,.ref t4,.ref t5]:List V).length=WID:=rfl
    rw[e5]at e;refine⟨l,WID.map fun q=>fX H q.1 (sC q.1) q.2.1 x,rfl,SqL.of (by rw[aD,e,List.map_map];rfl),?_⟩
    have:=q (aJ H' l (.lst ys)) ((s06.trans s').trans (aA hl))
    rw[List.any_map];exact this
  ·rw[e];show if decide (u="no")=true then _ else _
   refine iK (decide_eq_false fun z=>hno (by rw[e,z])) ?_
   dsimp only [aR];refine⟨Zs,fun t1 H1 s1 g1=>⟨Zs,fun t2 H2 s2 g2=>⟨Zs,fun t3 H3 s3 g3=>⟨Zs,fun t4 H4 s4 g4=>⟨Zs,fun t5 H5 s5 g5=>⟨Zs,fun tw H6 s6 g6=>?_⟩⟩⟩⟩⟩⟩
   dsimp only [aI];have gs:Paired (fun(q:Str × Int × List V) (v:V)=>∃b,v=.ref b/\H6 b=some (.tup q.2.2)) WID [.ref t1,.ref t2,.ref t3,.ref t4,.ref t5]:=by
    refine .cons ⟨_,rfl,s6 _ _ (s5 _ _ (s4 _ _ (s3 _ _ (s2 _ _ g1))))⟩ (.cons ⟨_,rfl,s6 _ _ (s5 _ _ (s4 _ _ (s3 _ _ g2)))⟩ (.cons ⟨_,rfl,s6 _ _ (s5 _ _ (s4 _ _ g3))⟩ (.cons ⟨_,rfl,s6 _ _ (s5 _ _ g4)⟩ (.cons ⟨_,rfl,s6 _ _ g5⟩ .nil))))
   have s06:Same H H6:=((((s1.trans s2).trans s3).trans s4).trans s5).trans s6
   refine⟨tw,rfl,⟨_,SqT.of g6⟩,?_⟩
   refine bV (hX K tw _) Zs (fun j ys H'=>ys=((WID.take j).map fun q=>V.bl (fX H q.1 (sC q.1) q.2.1 x))/\Same H6 H') (fun j ys H' ⟨e,s'⟩=>⟨SqT.of (s' _ _ g6),by rw[e,aZ,fS];exact Nat.min_le_left _ _⟩) ⟨rfl,Same.refl _⟩ (fun j y ys H' hy ⟨e,s'⟩=>?_) (fun ys H' ⟨e,s'⟩=>?_)
   ·have hj:=(Zgs.mp hy).1
    obtain⟨hj',b,eb,gb⟩:=Paired.get' (j:=j) gs hj
    have ey:y=.ref b:=by rw[<- eb];exact((Zgs.mp hy).2).symm
    subst ey;obtain⟨as,hd,ha⟩:=Ke _ (List.getElem_mem hj')
    have s0':=s06.trans s'
    refine⟨b,_,_,_,as,x,rfl,s' _ _ gb,hd,tg.same s0',fun H7 s7=>⟨?_,s'.trans s7⟩⟩
    rw[lL s0' tg.1,ha,List.take_succ,jH hj',hW,e];rfl
   ·intro l hl;have e5:WID.take ([V.ref t1,.ref t2,.ref t3,.ref t4,.ref t5]:List V).length=WID:=rfl
    rw[e5]at e;refine⟨l,WID.map fun q=>fX H q.1 (sC q.1) q.2.1 x,rfl,SqL.of (by rw[aD,e,List.map_map];rfl),?_⟩
    have:=q (aJ H' l (.lst ys)) ((s06.trans s').trans (aA hl))
    rw[List.any_map];exact this
theorem Pg (T:Txt K mg) (U:Ze w.params K mg) (c_is_whole:Callee P w K mg base 1 "is_whole" ["thing","least","most"] eZ) (c_is_name:Callee P w K mg base 2 "is_name" ["thing"] (iM LET 8)) (c_is_key:Callee P w K mg base 2 "is_key" ["thing"] (iM (LET++nH) 12)) (c_is_deed:Callee P w K mg base 4 "is_deed" ["thing"] kW) (c_is_some_answer:Callee P w K mg base 5 "is_some_answer" ["thing"] vV) (D:DefAt K mg "is_part" lR ["kind","thing"]):Callee P w K mg base 6 "is_part" ["kind","thing"] Kc:=by
 refine D.go Az (fun vs H Q E h=>?_) (fun f cdv A outer s H vs Q E hr h=>?_)
 ·obtain⟨kd,x,rfl,_⟩:=h;rfl
 ·obtain⟨kd,x,rfl,tg,q⟩:=h
  have hr_is_whole:Room 1 _:=hr.mono Zd
  have hr_is_name:Room 2 _:=hr.mono Zd
  have hr_is_key:Room 2 _:=hr.mono Zd
  have hr_is_deed:Room 4 _:=hr.mono Zd
  have hr_is_some_answer:=hr
  obtain⟨aB,m_BOUNDS,tB⟩:=U.g_BOUNDS
  refine⟨_,(R.ae (R.aj (R.ah (R.fc (K:=K) (P:=w.params)) (R.v 0) (R.gR rfl m_BOUNDS)) (R.af (R.ag (R.fn c_is_whole hr_is_whole rfl (R.Z (R.v 1) (R.Z (R.ix (R.al (K:=K)) (R.ix (R.df (K:=K) (P:=w.params)) (R.gR rfl m_BOUNDS) (R.v 0)) R.ac) (R.Z (R.ix (R.al (K:=K)) (R.ix (R.df (K:=K) (P:=w.params)) (R.gR rfl m_BOUNDS) (R.v 0)) R.ac) R.aa)))))) R.ak) (R.ae (R.aj (R.ah R.eq (R.v 0) R.ad) (R.af (R.ag (R.fn c_is_name hr_is_name rfl (R.Z (R.v 1) R.aa)))) R.ak) (R.ae (R.aj (R.ah R.eq (R.v 0) R.ad) (R.af (R.ag (R.fn c_is_key hr_is_key rfl (R.Z (R.v 1) R.aa)))) R.ak) (R.ae (R.aj (R.ah R.eq (R.v 0) R.ad) (R.af (R.ag (R.fn c_is_deed hr_is_deed rfl (R.Z (R.v 1) R.aa)))) R.ak) (R.af (R.ag (R.fn c_is_some_answer hr_is_some_answer rfl (R.Z (R.v 1) R.aa)))))))),?_⟩
  obtain⟨kx,hkx⟩:=tg.1.kd
  have hz:∀z,x=.str z->z.length<=1000:=tg.1.pt.choose_spec.2
  refine⟨_,tB,?_⟩
  unfold bK at q;show if (BDS.lookup kd).isSome=true then _ else _
  cases hl:BDS.lookup kd with
  | some xs=>
   obtain⟨lo,hi,rfl⟩:=vU hl
   rw[hl]at q;refine kR rfl ?_
   refine⟨_,_,tB,hl,fun b hb=>⟨_,hb _,_,rfl,?_⟩⟩
   refine⟨_,_,tB,hl,fun b' hb'=>⟨_,hb' _,_,rfl,?_⟩⟩
   exact⟨x,lo,hi,rfl,tg.1.pt,q⟩
  | none=>
   rw[hl]at q;refine iK Zs ?_
   dsimp only [aR];show if decide (kd="name")=true then _ else _
   refine aV (fun h0=>?_) (fun h0=>?_)
   ·dsimp only at q
    rw[if_pos (of_decide_eq_true h0)]at q;exact⟨x,kx,rfl,hkx,hz,q⟩
   dsimp only at q
   rw[if_neg (of_decide_eq_false h0)]at q;dsimp only [aR];show if decide (kd="key")=true then _ else _
   refine aV (fun h1=>?_) (fun h1=>?_)
   ·rw[if_pos (of_decide_eq_true h1)]at q;exact⟨x,kx,rfl,hkx,hz,q⟩
   rw[if_neg (of_decide_eq_false h1)]at q;dsimp only [aR];show if decide (kd="deed")=true then _ else _
   refine aV (fun h2=>?_) (fun h2=>?_)
   ·rw[if_pos (of_decide_eq_true h2)]at q;exact⟨x,rfl,tg.th.1,tg.th.2,q⟩
   rw[if_neg (of_decide_eq_false h2)]at q;exact⟨x,rfl,tg,q⟩
end
end KL
namespace KL
open PySem L2
section
variable {P:Program} {w:World} {K:W.Frag} {mg:Str->Option Value} {base:Heap}
theorem Fx (T:Txt K mg) (U:Ze w.params K mg) (c_word_of:Callee P w K mg base 1 "word_of" ["thing"] nZ) (c_is_part:Callee P w K mg base 6 "is_part" ["kind","thing"] Kc) (c_is_answer:Callee P w K mg base 4 "is_answer" ["deed","thing"] oB) (D:DefAt K mg "is_row" lE ["thing"]):Callee P w K mg base 7 "is_row" ["thing"] lC:=by
 refine D.go tX (fun vs H Q E h=>?_) (fun f cdv A outer s H vs Q E hr h=>?_)
 ·obtain⟨x,rfl,_⟩:=h;rfl
 ·obtain⟨x,rfl,tz,q⟩:=h
  have hr_word_of:Room 1 _:=hr.mono Zd
  have hr_is_answer:Room 4 _:=hr.mono Zd
  have hr_is_part:=hr
  obtain⟨aP,m_PARTS,tP⟩:=U.g_PARTS
  refine⟨_,(R.ae (R.ai (i:=1) tX.nd (R.fn c_word_of hr_word_of rfl (R.Z (R.v 0) R.aa))) (R.ae (R.aj (R.tw (R.bc (R.ah (R.gf (K:=K) (P:=w.params)) (R.v 1) (R.gR rfl m_PARTS)) (R.bh (R.ah R.ne (R.ao (R.au (K:=K)) rfl T.b_len aX (R.Z (R.v 0) R.aa)) (R.op R.ar (R.ao (R.au (K:=K)) rfl T.b_len aX (R.Z (R.ix (R.df (K:=K) (P:=w.params)) (R.gR rfl m_PARTS) (R.v 1)) R.aa)) R.ac))))) (R.af (R.ag R.bl)) R.ak) (R.ae (R.aj (R.aw (R.av (R.ao (R.dg (K:=K) rfl) rfl T.b_all qX (R.Z (R.bo rfl (js:=[none,none]) (N:=["kind","part"]) (CompScope.by (aE lE) ["thing","word"] rfl rfl Zk) (kP (cG rfl (cG rfl iX))) (R.de (K:=K) rfl T.b_zip (R.ix (R.df (K:=K) (P:=w.params)) (R.gR rfl m_PARTS) (R.v 1)) (R.sl R.sT (R.v 0) (R.ps R.ac) R.pn)) (fun C s₂ H₂ fp=>⟨(R.cv (K:=K) (n:=2) rfl (R.bv (R.gn (i:=0) (show(["kind","part"]:List Str).Nodup by decide +kernel)) (R.bv (R.gn (i:=1) (show(["kind","part"]:List Str).Nodup by decide +kernel)) R.cy))),R.br,(R.fn c_is_part hr_is_part rfl (R.Z (R.v 0) (R.Z (R.v 1) R.aa)))⟩)) R.aa)))) (R.af (R.ag R.bl)) R.ak) (R.af (R.ag (R.or (R.az R.ne (R.v 1) R.ad) (R.bp (R.fn c_is_answer hr_is_answer rfl (R.Z (R.ix (R.al (K:=K)) (R.v 0) R.ac) (R.Z (R.ix (R.al (K:=K)) (R.v 0) R.ac) R.aa)))))))))),?_⟩
  refine⟨x,rfl,tz.tg,?_⟩
  rcases As H x with⟨hw,hv⟩ | ⟨wd,r,a,hw,hp,rfl,ga⟩
  ·rw[hw];dsimp only [aI];refine⟨_,tP,?_⟩
   dsimp only;have q':=q H (Same.refl H)
   rw[hv]at q';exact q'
  rw[hw];dsimp only [aI];refine⟨_,tP,?_⟩
  have eV:pX H (.ref a)=wC H (.str wd::r):=by unfold pX;rw[hp]
  rw[eV]at q;unfold wC at q;dsimp only at q ⊢
  rw[if_pos rfl];cases hl:PTS.lookup wd with
  | none=>
   rw[hl]at q;exact q H (Same.refl H)
  | some ks=>
  rw[hl]at q;dsimp only at q
  obtain⟨ht,l1,l6,hkept⟩:=tV hl
  refine⟨_,.inr (SqT.of ga),_,_,tP,hl,fun b hb=>⟨_,.inr (hb _),?_⟩⟩
  by_cases hlen:r.length=ks.length
  case neg=>
   rw[decide_eq_false hlen]at q;refine kR (c:=!decide ((((V.str wd::r).length:Nat):Int)=((ks.length:Nat):Int)+1)) ?_ ?_
   ·rw[decide_eq_false (by rw[fI];omega)];rfl
   ·exact q H (Same.refl H)
  refine iK (c:=!decide ((((V.str wd::r).length:Nat):Int)=((ks.length:Nat):Int)+1)) ?_ ?_
  ·rw[decide_eq_true (by rw[fI];omega)];rfl
  dsimp only [aR];refine⟨_,_,tP,hl,fun b1 hb1=>⟨_,ga,fun p1 H1 s1 g1=>?_⟩⟩
  have ec:dS (V.str wd::r) (some 1) none=r:=L2.eK _ 1
  rw[ec]at g1;have tgr:∀y∈r,Tg H y:=fun y hy=>(tz.2 a _ rfl ga).2 y (gT _ hy)
  refine⟨false,false,_,_,hb1 _,SqT.of g1,?_⟩
  refine kX Zo (fun i ys H'=>ys=((ks.zip r).take i).map (fun q=>V.bl (gC H q.1 q.2))/\Same H1 H') (fun i ys H' ⟨e,s'⟩=>⟨hb1 _,SqT.of (s' _ _ g1),by rw[e,aZ,fS];exact Nat.min_le_left _ _⟩) ⟨rfl,Same.refl _⟩ (fun i x y ys H' t' hx' hy' ⟨e,s'⟩ ht'=>?_) (fun ys H' ⟨e,s'⟩=>?_)
  ·obtain⟨kd,rfl⟩:=ht x (sN hx')
   have s2:=s'.trans (aA (o:=.tup [.str kd,y]) ht')
   have s02:=s1.trans s2
   have tgy:=tgr y (sN hy')
   refine⟨t',_,rfl,SqT.of aD,rfl,_,_,rfl,_,_,rfl,rfl,kd,y,rfl,tgy.same s02,fun H'' s''=>⟨?_,s2.trans s''⟩⟩
   rw[Ar s02 tgy.1,e,Mj,hW];have ez:(ks.zip r)[i]?=some (.str kd,y):=by rw[List.getElem?_zip_eq_some];exact⟨hx',hy'⟩
   rw[ez];rfl
  ·intro l hl';have ef:(ks.zip r).take (min ks.length r.length)=ks.zip r:=rV (by rw[List.length_zip];exact cL _)
   rw[ef]at e;refine⟨l,(ks.zip r).map (fun q=>gC H q.1 q.2),rfl,SqL.of (by rw[aD,e,List.map_map];rfl),?_⟩
   have s3:Same H (aJ H' l (.lst ys)):=(s1.trans s').trans (aA hl')
   generalize aJ H' l (.lst ys)=H3 at s3 ⊢;rw[decide_eq_true hlen,Bool.true_and]at q;have ea:((ks.zip r).map (fun q=>gC H q.1 q.2)).all id=(ks.zip r).all (fun q=>gC H q.1 q.2):=by rw[List.all_map];rfl
   show if (!((ks.zip r).map (fun q=>gC H q.1 q.2)).all id)=true then _ else _
   rw[ea];cases hall:(ks.zip r).all (fun q=>gC H q.1 q.2) with
   | false=>
    rw[hall]at q;exact q H3 s3
   | true=>
   rw[hall,Bool.true_and]at q;refine iK rfl ?_
   dsimp only [aR];show if (!decide (wd="kept"))=true then _ else _
   refine aV (fun h=>?_) (fun h=>?_)
   ·have q':=q H3 s3
    rw[h,Bool.true_or]at q';exact q'
   rw[h,Bool.false_or]at q;have hkp:wd="kept":=by simpa using h
   have eks:=hkept hkp
   subst eks;match r,hlen,ga,tgr,hall,q with
   | [r1,r2,r3,r4,r5,r6],_,ga,tgr,hall,q=>
    have h5:gC H (.str "deed") r5=true:=List.all_eq_true.mp hall (.str "deed",r5) Zs
    have h5':cC H r5=true:=by rw[<- mZ];exact h5
    obtain⟨b5,xs,wd',n',as,rfl,g5,_,hdw⟩:=rH h5'
    have tg6:Tg H r6:=tgr r6 Zs
    refine⟨_,SqT.of (s3 _ _ ga),_,rfl,_,SqT.of (s3 _ _ ga),_,rfl,b5,wd',n',xs,as,r6,rfl,s3 _ _ g5,hdw,tg6.same s3,fun H4 s4=>?_⟩
    rw[lL s3 tg6.1];have q':=q H4 (s3.trans s4)
    have eD:mG H ([r1,r2,r3,r4,V.ref b5,r6].getD 4 .non) ([r1,r2,r3,r4,V.ref b5,r6].getD 5 .non)=fX H wd' (as.map (·.1)) n' r6:=wE g5 hdw
    rw[eD]at q';exact q'
end
end KL
namespace KL
open PySem L2
section
variable {P:Program} {w:World} {K:W.Frag} {mg:Str->Option Value} {base:Heap}
theorem Fy (T:Txt K mg) (D:DefAt K mg "_law_whole" iF ["_law_thing","_law_least","_law_most"]):Callee P w K mg base 1 "_law_whole" ["_law_thing","_law_least","_law_most"] eZ:=by
 refine D.go wJ (fun vs H Q E h=>?_) (fun f cdv A outer s H vs Q E hr h=>?_)
 ·obtain⟨x,lo,hi,rfl,_⟩:=h;rfl
 ·obtain⟨x,lo,hi,rfl,⟨k,hk,hz⟩,q⟩:=h
  refine⟨_,(R.af (R.ag (R.bj (R.ba .int (R.v 0) rfl T.b_isinstance rfl T.b_int fU) (R.bj (R.gv (R.ba .bl (R.v 0) rfl T.b_isinstance rfl T.b_bool vD)) (R.bp (R.gm R.le R.le (R.v 1) (R.v 0) (R.v 2))))))),?_⟩
  have h:=q H (Same.refl H)
  refine⟨k,hk,?_⟩
  cases x with
  | int n=>
   cases k <;> first | exact hk.elim | skip
   refine⟨.int,trivial,?_⟩
   have e:aO lo hi (.int n)=(decide (lo<=n)&&decide (n<=hi)):=rfl
   rw[e]at h;show if decide (lo<=n)=true then _ else _
   refine aV (fun h1=>?_) (fun h1=>?_)
   ·rw[h1,Bool.true_and]at h;exact h
   ·rw[h1,Bool.false_and]at h;exact h
  | bl t=>
   cases k <;> first | exact hk.elim | skip
   exact⟨.bl,trivial,h⟩
  | _=>cases k <;> first | exact hk.elim | exact h
theorem Kt (T:Txt K mg) (D:DefAt K mg "_law_is_word" dI ["_law_thing","_law_signs","_law_most"]):Callee P w K mg base 1 "_law_is_word" ["_law_thing","_law_signs","_law_most"] mQ:=by
 refine D.go rN (fun vs H Q E h=>?_) (fun f cdv A outer s H vs Q E hr h=>?_)
 ·obtain⟨x,sg,n,k,rfl,_⟩:=h;rfl
 ·obtain⟨x,sg,n,k,rfl,hk,hz,q⟩:=h
  have hu:=hr.units0
  refine⟨_,(R.ae (R.aj (R.tw (R.bc (R.aw (R.av (R.ba .str (R.v 0) rfl T.b_isinstance rfl T.b_str fT))) (R.bh (R.aw (R.fg R.le R.le R.ac (R.ao R.dy rfl T.b_len aX (R.Z (R.v 0) R.aa)) (R.v 2)))))) (R.af (R.ag R.bl)) R.ak) (R.af (R.ag (R.az (R.im (K:=K) hu) (R.bo rfl (js:=[none,some 1]) (N:=["_law_sign","_law_signs"]) (CompScope.by (aE dI) ["_law_thing","_law_signs","_law_most"] rfl rfl Zk) (bF rfl) (R.wS (R.v 0)) (fun C s₂ H₂ fp=>⟨(R.gn (i:=0) (show(["_law_sign","_law_signs"]:List Str).Nodup by decide +kernel)),(R.dj (R.ah R.gy (R.v 0) (R.v 1))),(R.v 0)⟩)) (R.ap R.aa))))),?_⟩
  have h:=q H (Same.refl H)
  refine⟨k,hk,?_⟩
  cases x with
  | str z=>
   cases k <;> first | exact hk.elim | skip
   have hz1:=hz z rfl
   refine⟨cH hz1,?_⟩
   have e:bI (.str z) sg.cps.toList n=(decide (1<=(z.length:Int))&&decide ((z.length:Int)<=n)&&z.cps.toList.all (fun c=>decide (c∈sg.cps.toList))):=bW _ _ _
   refine aV (fun h1=>?_) (fun h1=>?_)
   ·show if (!decide ((z.length:Int)<=n))=true then _ else _
    refine aV (fun h2=>?_) (fun h2=>?_)
    ·have h2':decide ((z.length:Int)<=n)=false:=by simpa using h2
     rw[e,h2',Bool.and_false,Bool.false_and]at h;exact h
    ·have h2':decide ((z.length:Int)<=n)=true:=by simpa using h2
     refine⟨z,rfl,xW (kB hz1 Zd) (fun c=>!decide (c∈sg.cps.toList)) (fun c=>.str (tx [c])) (fun c ys N hv ht hf=>?_) ?_⟩
     ·refine⟨c,rfl,?_⟩
      exact aV (fun h=>ht h) (fun h=>hf h)
     ·intro p hp;refine⟨dU rfl,fun p2 hp2=>⟨p,p2,_,rfl,rfl,SqL.of (cI aD hp2),SqL.of aD,?_⟩⟩
      have h5:=q (aJ _ p2 (.lst [])) ((aA hp).trans (aA hp2))
      rw[e,h1,h2',<- jL]at h5;show Q (.bl (List.map _ _).isEmpty) _
      rw[List.isEmpty_map];exact h5
   ·rw[e,h1]at h;exact h
  | _=>cases k <;> first | exact hk.elim | exact h
theorem Bf (T:Txt K mg) (cLis_word:Callee P w K mg base 1 "_law_is_word" ["_law_thing","_law_signs","_law_most"] mQ) (D:DefAt K mg "_law_is_name" fB ["_law_thing"]):Callee P w K mg base 2 "_law_is_name" ["_law_thing"] (iM LET 8):=by
 refine D.go rO (fun vs H Q E h=>?_) (fun f cdv A outer s H vs Q E hr h=>?_)
 ·obtain⟨x,k,rfl,_⟩:=h;rfl
 ·obtain⟨x,k,rfl,hk,hz,q⟩:=h
  have hLis_word:=hr
  refine⟨_,(R.af (R.ag (R.fn cLis_word hLis_word rfl (R.Z (R.v 0) (R.Z R.ad (R.Z R.ac R.aa)))))),?_⟩
  refine⟨x,_,_,k,rfl,hk,hz,fun H' s'=>?_⟩
  have:=q H' s'
  rw[<- vF]at this;exact this
end
end KL
namespace KL
open PySem L2
section
variable {P:Program} {w:World} {K:W.Frag} {mg:Str->Option Value} {base:Heap}
theorem Ku (x:V) (r:List V):eF (x::r) 0=some x:=aF (j:=0) rfl
theorem pK (xs:List V):gW xs []=xs.isEmpty:=by
 cases xs with
 | nil=>rfl
 | cons x xs=>rfl
theorem Dc {y:V} (h:dF y=true):∃z,y=.str z:=by
 cases y <;> first | exact⟨_,rfl⟩ | (unfold dF bI at h;exact absurd h Bool.false_ne_true)
theorem Bg {z:Str} {r:List V} (h:WS.lookup z=none):bE (.str z::r)=false:=by
 unfold bE;have e:bJ ((eF (V.str z::r) 0).getD .non) (fV (.str z::r))=false:=by
  rw[Ku];show bJ (.str z) _=false
  unfold bJ;dsimp only;rw[h]
 rw[e,Bool.and_false,Bool.false_and]
theorem Fz {z:Str} {r:List V} {i:Int} (h:WS.lookup z=some i) (hl:¬ i+2=((V.str z::r).length:Int)):bE (.str z::r)=false:=by
 unfold bE;by_cases h3:3<=(V.str z::r).length
 ·have e:bJ ((eF (V.str z::r) 0).getD .non) (fV (.str z::r))=false:=by
   rw[Ku];show bJ (.str z) _=false
   unfold bJ;dsimp only;rw[h];dsimp only;have hml:=lK h3
   rw[decide_eq_false Zo];rfl
  rw[e,Bool.and_false,Bool.false_and]
 ·rw[decide_eq_false h3];rfl
theorem Bh {z:Str} {r:List V} {i:Int} (h:WS.lookup z=some i) (hl:i+2=((V.str z::r).length:Int)):bE (.str z::r)=((fV (.str z::r)).all dF&&(!cQ (.str z) UW||!decide (eF (fV (.str z::r)) 0=eF (fV (.str z::r)) 1))&&aO 1 1000000000000 ((eF (.str z::r) (-1)).getD .non)):=by
 have hi:=vG h
 have h3:3<=(V.str z::r).length:=by omega
 have hml:=lK h3
 unfold bE;rw[decide_eq_true h3,Bool.true_and];congr 1
 rw[Ku];show bJ (.str z) _=_
 unfold bJ;dsimp only;rw[h];dsimp only;rw[decide_eq_true Zo,Bool.true_and]
theorem Bi (T:Txt K mg) (cLis_name:Callee P w K mg base 2 "_law_is_name" ["_law_thing"] (iM LET 8)) (cLwhole:Callee P w K mg base 1 "_law_whole" ["_law_thing","_law_least","_law_most"] eZ) (D:DefAt K mg "_law_is_deed" dJ ["_law_thing"]):Callee P w K mg base 3 "_law_is_deed" ["_law_thing"] kW:=by
 refine D.go lF (fun vs H Q E h=>?_) (fun f cdv A outer s H vs Q E hr h=>?_)
 ·obtain⟨x,rfl,_⟩:=h;rfl
 ·obtain⟨x,rfl,⟨⟨k,hk,hz⟩,hp⟩,hlen,q⟩:=h
  have hLis_name:=hr
  have hLwhole:Room 1 _:=hr.mono Zd
  have hu:=hr.units0
  have hu64:=hr.units
  have hu1:=Nat.lt_trans (Nat.add_lt_add_left (show 1<64 by decide) _) hr.units
  refine⟨_,(R.ae (R.aj (R.tw (R.bc (R.aw (R.av (R.ba .tup (R.v 0) rfl T.b_isinstance rfl T.b_tuple bT))) (R.bc (R.ah (R.dt hu64) (R.v 0) (R.am R.aa)) (R.bh (R.aw (R.av (R.ba .str (R.ix (R.al (K:=K)) (R.v 0) R.ac) rfl T.b_isinstance rfl T.b_str fT))))))) (R.af (R.ag R.bl)) R.ak) (R.ae (R.ai (i:=1) lF.nd (R.ia hu1 (R.dh (R.be R.ad R.ac (R.be R.ad R.ac (R.be R.ad R.ac (R.be R.ad R.ac (R.be R.ad R.ac (R.be R.ad R.ac R.di))))))) (R.ix (R.al (K:=K)) (R.v 0) R.ac) (R.bt R.ac))) (R.ae (R.aj (R.tw (R.bc (R.ah R.ne (R.v 1) (R.ao (R.au (K:=K)) rfl T.b_len aX (R.Z (R.v 0) R.aa))) (R.bh (R.ah (R.ib (K:=K) hu) (R.bo rfl (js:=[none]) (N:=["_law_name"]) (CompScope.by (aE dJ) ["_law_thing","_law_size"] rfl rfl Zk) (bF rfl) (R.cu (K:=K) (R.sl R.sT (R.v 0) (R.ps R.ac) (R.ps (R.bt R.ac)))) (fun C s₂ H₂ fp=>⟨(R.gn (i:=0) (show(["_law_name"]:List Str).Nodup by decide +kernel)),(R.dj (R.aw (R.av (R.fn cLis_name hLis_name rfl (R.Z (R.v 0) R.aa))))),(R.v 0)⟩)) (R.ap R.aa))))) (R.af (R.ag R.bl)) R.ak) (R.ae (R.aj (R.tw (R.bu (R.ah (R.bz (K:=K)) (R.ix (R.al (K:=K)) (R.v 0) R.ac) (R.am (R.Z R.ad (R.Z R.ad R.aa)))) (R.bx (R.ah R.eq (R.ix (R.al (K:=K)) (R.v 0) R.ac) (R.ix (R.al (K:=K)) (R.v 0) R.ac))))) (R.af (R.ag R.bl)) R.ak) (R.af (R.ag (R.fn cLwhole hLwhole rfl (R.Z (R.ix (R.al (K:=K)) (R.v 0) (R.bt R.ac)) (R.Z R.ac (R.Z (R.op R.bq R.ac R.ac) R.aa)))))))))),?_⟩
  have h:=q H (Same.refl H)
  refine⟨k,hk,?_⟩
  cases x with
  | ref a=>
   cases k <;> first | exact hk.elim | skip
   case tup=>
    obtain⟨xs,hx⟩:=hk
    have hpx:=hp a xs rfl hx
    have hlx:=hlen a xs rfl hx
    have eV:cC H (.ref a)=bE xs:=by unfold cC;simp only [hx]
    rw[eV]at q h;refine⟨Zs,fun t0 H0 s0 g0=>⟨xs,[],s0 _ _ hx,g0,fun j u v h1 h2=>by simp at h2,?_⟩⟩
    rw[pK];cases xs with
    | nil=>exact q H0 s0
    | cons y0 r=>
    obtain⟨k0,hk0,hz0⟩:=hpx y0 iW
    have hx0:=s0 _ _ hx
    refine⟨_,SqT.of hx0,y0,Ku _ _,k0,hk0.same s0,?_⟩
    cases y0 with
    | str z=>
     cases k0 <;> first | exact hk0.elim | skip
     refine fun p hpn=>⟨aD,[(.inr "add",.int 3),(.inr "take",.int 3),(.inr "move",.int 4),(.inr "send",.int 4),(.inr "fetch",.int 4),(.inr "pass",.int 5)],rfl,Zd,?_⟩
     have s1:Same H (aJ (aJ H0 p (.dK [])) p (.dK nU)):=s0.trans (by
      intro c o e;have:c≠p:=aH e hpn
      rw[aM this,aM this];exact e)
     have gp:aJ (aJ H0 p (.dK [])) p (.dK nU) p=some (.dK nU):=aD
     show ∃a,V.ref p=.ref a/\Zw (aJ (aJ H0 p (.dK [])) p (.dK nU)) a/\_
     refine⟨p,rfl,.inl ⟨_,.inl gp⟩,?_⟩
     show xE _ _ _ _ (aJ (aJ H0 p (.dK [])) p (.dK nU)) _
     generalize aJ (aJ H0 p (.dK [])) p (.dK nU)=H1 at s1 gp;have hx1:=s1 _ _ hx
     refine⟨_,SqT.of hx1,.str z,Ku _ _,_,.inl ⟨nU,.inr z,.inl gp,rfl,rfl⟩,?_⟩
     dsimp only [aI];rw[Fb];cases e:WS.lookup z with
     | none=>
      rw[Bg e]at q;dsimp only [Option.map,Option.getD];refine⟨_,.inr (SqT.of hx1),?_⟩
      exact q H1 s1
     | some i=>
      have hi:=vG e
      dsimp only [Option.map,Option.getD];refine⟨_,.inr (SqT.of hx1),?_⟩
      refine aV (fun h6=>?_) (fun h6=>?_)
      ·have h6':¬ (i+2=((V.str z::r).length:Int)):=by simpa using h6
       rw[Fz e h6']at q;exact q H1 s1
      have h6':i+2=((V.str z::r).length:Int):=by simpa using h6
      rw[Bh e h6']at q;have h3:3<=(V.str z::r).length:=by omega
      have hml:=lK h3
      refine⟨_,hx1,fun pm H2 s2 g2=>⟨pm,rfl,⟨_,SqT.of g2⟩,?_⟩⟩
      have hs2:=s1.trans s2
      generalize hxs:V.str z::r=xs at *;have hy0:eF xs 0=some (.str z):=by rw[<- hxs];exact Ku _ _
      refine bV (hX K pm (fV xs)) Zo (fun j ys H'=>ys=((fV xs).take j).filter (fun y=>!dF y)/\Same H2 H') (fun j ys H' ⟨e3,s3⟩=>⟨SqT.of (s3 _ _ g2),by rw[e3];exact kB (List.length_filter_le _ _) (by rw[fS];omega)⟩) ⟨rfl,Same.refl _⟩ (fun j y ys H' hy ⟨e3,s3⟩=>?_) (fun ys H' ⟨e3,s3⟩=>?_)
      ·have my:y∈xs:=Cr h3 (sN hy)
       obtain⟨ky,hky,hzy⟩:=(hpx y my).same (hs2.trans s3)
       have key:=take_succ_filter (fun y=>!dF y) (fV xs) j y hy
       refine⟨y,ky,rfl,hky,hzy,fun H'' s''=>?_⟩
       show if (!dF y)=true then _ else _
       refine aV (fun h7=>⟨?_,s3.trans s''⟩) (fun h7=>⟨?_,s3.trans s''⟩)
       ·rw[key,if_pos h7,e3]
       ·rw[key,if_neg (by rw[h7];exact Bool.false_ne_true),List.append_nil,e3]
      ·rw[rV (cL _)]at e3;intro pc hpc;refine⟨dU rfl,fun p2 hp2=>⟨pc,p2,_,rfl,rfl,SqL.of (cI aD hp2),SqL.of aD,?_⟩⟩
       have hs3:Same H (aJ (aJ H' pc (.lst ys)) p2 (.lst [])):=((hs2.trans s3).trans (aA hpc)).trans (aA hp2)
       have hx3:=hs3 _ _ hx
       have e5:ys.isEmpty=(fV xs).all dF:=by rw[e3,jL]
       show if (!ys.isEmpty)=true then _ else _
       rw[e5];generalize aJ (aJ H' pc (.lst ys)) p2 (.lst [])=H3 at hs3 hx3;cases e6:(fV xs).all dF with
       | false=>
        have h5:=q H3 hs3
        rw[e6]at h5;exact h5
       | true=>
        rw[e6,Bool.true_and]at q;refine⟨xs,SqT.of hx3,.str z,hy0,Zs,fun pt H4 s4 g4=>⟨pt,UW,rfl,.inr (SqT.of g4),rfl,rfl,?_⟩⟩
        have hs4:=hs3.trans s4
        have hx4:=hs4 _ _ hx
        have rest:∀H5,Same H H5->(∀H6,Same H H6->Q (.bl (aO 1 1000000000000 ((eF xs (-1)).getD .non))) H6)->(Dv (Qo eZ (kC (xE (Eu K) (vr 0) (Zr (fun x H Q=>mI x fun i=>Q (.int (-i)) H) (tC (.int 1)))) (kC (tC (.int 1)) (kC (xE (m2 Mt fun i j=>.int (i ^ j.toNat)) (tC (.int 10)) (tC (.int 12))) xK))))) {nx:=fun _ H'=>Q .non H',rt:=Q } [some (.ref a),some (.int (i+2))] H5:=fun H5 s5 q5=>by
         obtain⟨yl,hyl,ml⟩:∃v,eF xs (-1)=some v/\v∈xs:=by
          have hj:xs.length - 1<xs.length:=by omega
          refine⟨xs[xs.length - 1],?_,List.getElem_mem hj⟩
          unfold eF Ej;rw[if_neg Zd,if_pos Zo]
          have:((-1:Int)+(xs.length:Int)).toNat=xs.length - 1:=by omega
          simp [this,hj]
         rw[hyl]at q5;have e12:(10:Int) ^ (12:Int).toNat=1000000000000:=by decide
         refine⟨xs,SqT.of (s5 _ _ hx),yl,hyl,⟨Zd,Zd,Zd⟩,yl,1,_,rfl,(hpx yl ml).same s5,fun H6 s6=>?_⟩
         rw[e12];exact q5 H6 (s5.trans s6)
        show if cQ (.str z) UW=true then _ else _
        cases e7:cQ (.str z) UW with
        | false=>
         rw[e7]at q;exact rest _ hs4 q
        | true=>
         rw[e7]at q;have i2:=Qq e e7
         have hml2:2<=(fV xs).length:=by omega
         obtain⟨c0,r0,exs⟩:∃c0 r0,xs=.str z::c0::r0:=by
          cases r with
          | nil=>rw[<- hxs]at h3;simp at h3
          | cons c0 r0=>exact⟨c0,r0,hxs.symm⟩
         have hmid:fV xs=((c0::r0).take (xs.length - 2)):=by rw[vH h3,exs];rfl
         match r0,exs,hmid with
         | [],exs,_=>rw[exs]at h3;simp at h3
         | [_],exs,hmid=>
          rw[exs]at hml2 hmid;rw[hmid]at hml2;simp at hml2
         | c1::c2::r1,exs,hmid=>
          have em:fV xs=c0::c1::((c2::r1).take (xs.length - 4)):=by
           rw[hmid,exs];simp
          have a0:eF (fV xs) 0=some c0:=by rw[em];exact aF (j:=0) rfl
          have a1:eF (fV xs) 1=some c1:=by rw[em];exact aF (j:=1) rfl
          have b1:eF xs 1=some c0:=by rw[exs];exact aF (j:=1) rfl
          have b2:eF xs 2=some c1:=by rw[exs];exact aF (j:=2) rfl
          have n0:dF c0=true:=List.all_eq_true.mp e6 c0 (by rw[em];exact iW)
          have n1:dF c1=true:=List.all_eq_true.mp e6 c1 (by rw[em];exact gT _ iW)
          rw[a0,a1]at q;refine⟨xs,SqT.of hx4,c0,b1,xs,SqT.of hx4,c1,b2,?_⟩
          obtain⟨z0,rfl⟩:=Dc n0
          obtain⟨z1,rfl⟩:=Dc n1
          have e8:decide (some (V.str z0)=some (V.str z1))=decide (z0=z1):=by
           rw[decide_eq_decide];constructor
           ·intro e8;injection e8 with e8;injection e8
           ·intro e8;rw[e8]
          rw[e8]at q;show if decide (z0=z1)=true then _ else _
          cases e9:decide (z0=z1) with
          | true=>
           have h5:=q _ hs4
           rw[e9]at h5;exact h5
          | false=>
           rw[e9]at q;exact rest _ hs4 q
    | _=>
     have ed:∀y:V,(∀z,y≠.str z)->bE (y::r)=false:=fun y hy=>by
      unfold bE;have e:bJ ((eF (y::r) 0).getD .non) (fV (y::r))=false:=by
       rw[Ku];show bJ y _=false
       cases y with
       | str z=>exact absurd rfl (hy z)
       | _=>rfl
      rw[e,Bool.and_false,Bool.false_and]
     rw[ed _ (fun z e=>by cases e)]at q
     cases k0 <;> first | exact hk0.elim | exact q H0 s0
   all_goals
    have e1:cC H (.ref a)=false:=by
     unfold cC;first
      | (rcases hk with⟨xs,e⟩ | ⟨o,xs,e⟩ <;> simp only [e])
      | (obtain⟨kvs,e⟩:=hk;simp only [e])
    rw[e1]at h;exact h
  | _=>cases k <;> first | exact hk.elim | exact h
end
end KL
namespace KL
open PySem L2
section
variable {P:Program} {w:World} {K:W.Frag} {mg:Str->Option Value} {base:Heap}
theorem eN:(("no":Str)="ok")=False/\(("no":Str)="is")=False/\(("no":Str)="short")=False/\(("no":Str)="full")=False/\(("ok":Str)="no")=False/\(("ok":Str)="is")=False/\(("ok":Str)="short")=False/\(("ok":Str)="full")=False/\(("is":Str)="no")=False/\(("is":Str)="ok")=False/\(("is":Str)="short")=False/\(("is":Str)="full")=False/\(("short":Str)="no")=False/\(("short":Str)="ok")=False/\(("short":Str)="is")=False/\(("short":Str)="full")=False/\(("full":Str)="no")=False/\(("full":Str)="ok")=False/\(("full":Str)="is")=False/\(("full":Str)="short")=False:=by
 refine⟨?_,?_,?_,?_,?_,?_,?_,?_,?_,?_,?_,?_,?_,?_,?_,?_,?_,?_,?_,?_⟩ <;> exact eq_false Zk
def cX (hs:List Str) (pass:Bool) (bi bs bf:Option (List (Int × Int))) (u:Str) (r:List V):Bool:=
 if u="no" then (match r with | [y]=>mU y hs | _=>false)
 else if u="ok" then pass&&r.isEmpty
 else if u="is" then (match bi with | some b=>bN r b | none=>false)
 else if u="short" then (match bs with | some b=>bN r b | none=>false)
 else if u="full" then (match bf with | some b=>bN r b | none=>false)
 else false
theorem nE {wd:Str} {hs:List Str} {n:Int} {ys:List V} (h:∀u r,ys≠.str u::r):cK wd hs n ys=false:=by
 unfold cK;split
 ·rename_i u r;exact absurd rfl (h u r)
 ·rfl
theorem tY {α:Type} {u:Str}:∀ {l:List (Str × α)},(∀q∈l,q.1≠u)->l.lookup u=none
 | [],_=>rfl
 | (x,j)::l,h=>by
  rw[List.lookup_cons];have e:(u == x)=false:=by
   rw[beq_eq_false_iff_ne];exact fun e=>h _ iW e.symm
  rw[e];exact tY fun q hq=>h q (gT _ hq)
theorem Ga (wd:Str) (n:Int):∀q∈jB wd n,q.1="is"∨q.1="short"∨q.1="full":=by
 intro q hq;unfold jB at hq;split at hq
 ·cases hq
 ·split at hq
  ·simp only [List.mem_cons,List.not_mem_nil,or_false]at hq
   rcases hq with rfl | rfl | rfl <;> simp
  ·split at hq <;> (simp only [List.mem_cons,List.not_mem_nil,or_false]at hq;rcases hq with rfl | rfl <;> simp)
theorem wN (wd:Str) (hs:List Str) (n:Int) (u:Str) (r:List V):cK wd hs n (.str u::r)=cX hs (decide (wd="pass")) ((jB wd n).lookup ("is":Str)) ((jB wd n).lookup ("short":Str)) ((jB wd n).lookup ("full":Str)) u r:=by
 unfold cK cX;dsimp only;by_cases h1:u="is"
 ·subst h1;simp [eN] <;> rfl
 by_cases h2:u="short"
 ·subst h2;simp [eN] <;> rfl
 by_cases h3:u="full"
 ·subst h3;simp [eN] <;> rfl
 rw[if_neg h1,if_neg h2,if_neg h3];rw[tY (u:=u) (l:=jB wd n) fun q hq e=>by
  rcases Ga wd n q hq with e' | e' | e'
  ·exact h1 (e.symm.trans e')
  ·exact h2 (e.symm.trans e')
  ·exact h3 (e.symm.trans e')]
 try rfl
theorem Kv (n:Int):jB "move" n=[(("is":Str),[((0:Int),1000000000000 - n),(n,(1000000000000:Int))]),("short",[(0,n - 1)]),("full",[(1000000000000 - n+1,1000000000000)])]:=by
 unfold jB;rw[if_neg Zk,if_pos rfl]
theorem Kw (wd:Str) (n:Int) (h:wd="take"∨wd="send"):jB wd n=[(("is":Str),[((0:Int),(1000000000000 - n:Int))]),("short",[(0,n - 1)])]:=by
 rcases h with rfl | rfl <;> (unfold jB;rw[if_neg Zk,if_neg Zk,if_pos Zk])
theorem Ph (wd:Str) (n:Int) (h:wd="add"∨wd="fetch"):jB wd n=[(("is":Str),[(n,(1000000000000:Int))]),("full",[(1000000000000 - n+1,1000000000000)])]:=by
 rcases h with rfl | rfl <;> (unfold jB;rw[if_neg Zk,if_neg Zk,if_neg Zk])
theorem Kx (n:Int):jB "pass" n=[]:=by unfold jB;rw[if_pos rfl]
theorem nF (hs:List Str) (n:Int) (u:Str) (r:List V):cK "move" hs n (.str u::r)=cX hs false (some [(0,1000000000000 - n),(n,1000000000000)]) (some [(0,n - 1)]) (some [(1000000000000 - n+1,1000000000000)]) u r:=by
 rw[wN,Kv];rfl
theorem lH (wd:Str) (hs:List Str) (n:Int) (u:Str) (r:List V) (h:wd="take"∨wd="send"):cK wd hs n (.str u::r)=cX hs false (some [(0,1000000000000 - n)]) (some [(0,n - 1)]) none u r:=by
 rw[wN,Kw wd n h];rcases h with rfl | rfl <;> rfl
theorem pR (wd:Str) (hs:List Str) (n:Int) (u:Str) (r:List V) (h:wd="add"∨wd="fetch"):cK wd hs n (.str u::r)=cX hs false (some [(n,1000000000000)]) none (some [(1000000000000 - n+1,1000000000000)]) u r:=by
 rw[wN,Ph wd n h];rcases h with rfl | rfl <;> rfl
theorem Bj (hs:List Str) (n:Int) (u:Str) (r:List V):cK "pass" hs n (.str u::r)=cX hs true none none none u r:=by
 rw[wN,Kx];rfl
theorem eQ (y:V) (a b:Int):bN [y] [(a,b)]=aO a b y:=by
 unfold bN;simp
theorem Ky (y1 y2:V) (a b c d:Int):bN [y1,y2] [(a,b),(c,d)]=(aO a b y1&&aO c d y2):=by
 unfold bN;simp
theorem aQ {r:List V} {bs:List (Int × Int)} (h:r.length≠bs.length):bN r bs=false:=by
 unfold bN;rw[decide_eq_false h];rfl
theorem Gb (one other:Str) (n:Int) (ys:List V):cK "pass" [one,other] n ys=(bL ys [.str "ok"]||(bL ys [.str "no",.str one]||(bL ys [.str "no",.str other]||false))):=by
 cases ys with
 | nil=>rfl
 | cons y0 r=>
  cases y0 with
  | str u=>
   rw[Bj];unfold cX;by_cases h1:u="no"
   ·subst h1;rw[if_pos rfl];match r with
    | []=>simp [bL,cP,eN]
    | [y]=>
     cases y with
     | str z=>simp [bL,cP,eN,mU]
     | _=>simp [bL,cP,eN,mU]
    | _::_::_=>simp [bL,cP,eN]
   rw[if_neg h1];by_cases h2:u="ok"
   ·subst h2;rw[if_pos rfl];cases r <;> simp [bL,cP,eN]
   rw[if_neg h2];simp [bL,cP,h1,h2]
  | _=>rfl
def jF (wd:Str) (one:V) (n:Int) (ys:List V):Bool:=
 if decide ((ys.length:Int)<2)=true then false
 else if (cQ (.str wd) [.str "send",.str "fetch"]&&bL ys [.str "no",one])=true then true
 else if (decide (wd="move")&&decide ((ys.length:Int)=3))=true then
  cP (ys.getD 0 .non) (.str "is")&&(aO 0 (1000000000000 - n) (ys.getD 1 .non)&&aO n 1000000000000 (ys.getD 2 .non))
 else if (!decide ((ys.length:Int)=2))=true then false
 else if (cP (ys.getD 0 .non) (.str "is")&&cQ (.str wd) [.str "add",.str "fetch"])=true then aO n 1000000000000 (ys.getD 1 .non)
 else if (cP (ys.getD 0 .non) (.str "is")&&cQ (.str wd) [.str "take",.str "send"])=true then aO 0 (1000000000000 - n) (ys.getD 1 .non)
 else if (cP (ys.getD 0 .non) (.str "full")&&cQ (.str wd) [.str "add",.str "fetch",.str "move"])=true then aO (1000000000000 - n+1) 1000000000000 (ys.getD 1 .non)
 else cP (ys.getD 0 .non) (.str "short")&&(cQ (.str wd) [.str "take",.str "send",.str "move"]&&aO 0 (n - 1) (ys.getD 1 .non))
theorem Zf:cQ (.str "add") [.str "send",.str "fetch"]=false/\cQ (.str "take") [.str "send",.str "fetch"]=false/\cQ (.str "move") [.str "send",.str "fetch"]=false/\cQ (.str "send") [.str "send",.str "fetch"]=true/\cQ (.str "fetch") [.str "send",.str "fetch"]=true
 /\ cQ (.str "add") [.str "add",.str "fetch"]=true/\cQ (.str "take") [.str "add",.str "fetch"]=false/\cQ (.str "move") [.str "add",.str "fetch"]=false/\cQ (.str "send") [.str "add",.str "fetch"]=false/\cQ (.str "fetch") [.str "add",.str "fetch"]=true
 /\ cQ (.str "add") [.str "take",.str "send"]=false/\cQ (.str "take") [.str "take",.str "send"]=true/\cQ (.str "move") [.str "take",.str "send"]=false/\cQ (.str "send") [.str "take",.str "send"]=true/\cQ (.str "fetch") [.str "take",.str "send"]=false
 /\ cQ (.str "add") [.str "add",.str "fetch",.str "move"]=true/\cQ (.str "take") [.str "add",.str "fetch",.str "move"]=false/\cQ (.str "move") [.str "add",.str "fetch",.str "move"]=true/\cQ (.str "send") [.str "add",.str "fetch",.str "move"]=false/\cQ (.str "fetch") [.str "add",.str "fetch",.str "move"]=true
 /\ cQ (.str "add") [.str "take",.str "send",.str "move"]=false/\cQ (.str "take") [.str "take",.str "send",.str "move"]=true/\cQ (.str "move") [.str "take",.str "send",.str "move"]=true/\cQ (.str "send") [.str "take",.str "send",.str "move"]=true/\cQ (.str "fetch") [.str "take",.str "send",.str "move"]=false
 /\ decide (("add":Str)="move")=false/\decide (("take":Str)="move")=false/\decide (("send":Str)="move")=false/\decide (("fetch":Str)="move")=false:=by
 refine⟨?_,?_,?_,?_,?_,?_,?_,?_,?_,?_,?_,?_,?_,?_,?_,?_,?_,?_,?_,?_,?_,?_,?_,?_,?_,?_,?_,?_,?_⟩ <;> decide +kernel
theorem Gc (one:V) (hs:List Str) (hhs:hs=[]) (n:Int) (ys:List V):cK "move" hs n ys=jF "move" one n ys:=by
 subst hhs;obtain⟨a1,a2,a3,a4,a5,b1,b2,b3,b4,b5,c1,c2,c3,c4,c5,d1,d2,d3,d4,d5,f1,f2,f3,f4,f5,g1,g2,g3,g4⟩:=Zf
 unfold jF;rw[a3,b3,c3,d3,f3];match ys with
 | []=>rfl
 | [y0]=>
  cases y0 with
  | str u=>
   rw[nF];unfold cX
   simp [aQ]
  | _=>rfl
 | [y0,y1]=>
  cases y0 with
  | str u=>
   rw[nF];unfold cX
   by_cases h1:u="no"
   ·subst h1;cases y1 <;> simp [eN,cP,mU]
   by_cases h2:u="ok"
   ·subst h2;simp [eN,cP]
   by_cases h3:u="is"
   ·subst h3;simp [eN,cP,aQ]
   by_cases h4:u="short"
   ·subst h4;simp [eN,cP,eQ]
   by_cases h5:u="full"
   ·subst h5;simp [eN,cP,eQ]
   simp [h1,h2,h3,h4,h5,cP]
  | _=>simp [cK,cP]
 | [y0,y1,y2]=>
  cases y0 with
  | str u=>
   rw[nF];unfold cX
   by_cases h1:u="no"
   ·subst h1;simp [eN,cP]
   by_cases h2:u="ok"
   ·subst h2;simp [eN,cP]
   by_cases h3:u="is"
   ·subst h3;simp [eN,cP,Ky]
   by_cases h4:u="short"
   ·subst h4;simp [eN,cP,aQ]
   by_cases h5:u="full"
   ·subst h5;simp [eN,cP,aQ]
   simp [h1,h2,h3,h4,h5,cP]
  | _=>simp [cK,cP]
 | y0::y1::y2::y3::r=>
  have e1:decide (((y0::y1::y2::y3::r).length:Int)<2)=false:=decide_eq_false (by simp only [fI];omega)
  have e2:decide (((y0::y1::y2::y3::r).length:Int)=3)=false:=decide_eq_false (by simp only [fI];omega)
  have e3:decide (((y0::y1::y2::y3::r).length:Int)=2)=false:=decide_eq_false (by simp only [fI];omega)
  rw[e1,e2,e3];cases y0 with
  | str u=>
   rw[nF];unfold cX
   simp [aQ]
  | _=>simp [cK]
theorem Kz (one:Str) (n:Int) (ys:List V):cK "add" [] n ys=jF "add" (.str one) n ys:=by
 obtain⟨a1,a2,a3,a4,a5,b1,b2,b3,b4,b5,c1,c2,c3,c4,c5,d1,d2,d3,d4,d5,f1,f2,f3,f4,f5,g1,g2,g3,g4⟩:=Zf
 unfold jF;rw[a1,b1,c1,d1,f1,g1];match ys with
 | []=>rfl
 | [y0]=>
  cases y0 with
  | str u=>
   rw[pR "add" _ _ _ _ (.inl rfl)];unfold cX
   simp [aQ]
  | _=>rfl
 | [y0,y1]=>
  cases y0 with
  | str u=>
   rw[pR "add" _ _ _ _ (.inl rfl)];unfold cX
   by_cases h1:u="no"
   ·subst h1;cases y1 <;> simp [eN,cP,mU,bL]
   by_cases h2:u="ok"
   ·subst h2;simp [eN,cP,bL]
   by_cases h3:u="is"
   ·subst h3;simp [eN,cP,eQ,bL]
   by_cases h4:u="short"
   ·subst h4;simp [eN,cP,eQ,bL]
   by_cases h5:u="full"
   ·subst h5;simp [eN,cP,eQ,bL]
   simp [h1,h2,h3,h4,h5,cP,bL]
  | _=>simp [cK,cP,bL]
 | y0::y1::y2::r=>
  have e1:decide (((y0::y1::y2::r).length:Int)<2)=false:=decide_eq_false (by simp only [fI];omega)
  have e3:decide (((y0::y1::y2::r).length:Int)=2)=false:=decide_eq_false (by simp only [fI];omega)
  rw[e1,e3];cases y0 with
  | str u=>
   rw[pR "add" _ _ _ _ (.inl rfl)];unfold cX
   simp [aQ,bL]
  | _=>simp [cK,bL]
theorem Gd (one:Str) (n:Int) (ys:List V):cK "take" [] n ys=jF "take" (.str one) n ys:=by
 obtain⟨a1,a2,a3,a4,a5,b1,b2,b3,b4,b5,c1,c2,c3,c4,c5,d1,d2,d3,d4,d5,f1,f2,f3,f4,f5,g1,g2,g3,g4⟩:=Zf
 unfold jF;rw[a2,b2,c2,d2,f2,g2];match ys with
 | []=>rfl
 | [y0]=>
  cases y0 with
  | str u=>
   rw[lH "take" _ _ _ _ (.inl rfl)];unfold cX
   simp [aQ]
  | _=>rfl
 | [y0,y1]=>
  cases y0 with
  | str u=>
   rw[lH "take" _ _ _ _ (.inl rfl)];unfold cX
   by_cases h1:u="no"
   ·subst h1;cases y1 <;> simp [eN,cP,mU,bL]
   by_cases h2:u="ok"
   ·subst h2;simp [eN,cP,bL]
   by_cases h3:u="is"
   ·subst h3;simp [eN,cP,eQ,bL]
   by_cases h4:u="short"
   ·subst h4;simp [eN,cP,eQ,bL]
   by_cases h5:u="full"
   ·subst h5;simp [eN,cP,eQ,bL]
   simp [h1,h2,h3,h4,h5,cP,bL]
  | _=>simp [cK,cP,bL]
 | y0::y1::y2::r=>
  have e1:decide (((y0::y1::y2::r).length:Int)<2)=false:=decide_eq_false (by simp only [fI];omega)
  have e3:decide (((y0::y1::y2::r).length:Int)=2)=false:=decide_eq_false (by simp only [fI];omega)
  rw[e1,e3];cases y0 with
  | str u=>
   rw[lH "take" _ _ _ _ (.inl rfl)];unfold cX
   simp [aQ,bL]
  | _=>simp [cK,bL]
theorem Ge (one:Str) (n:Int) (ys:List V):cK "send" [one] n ys=jF "send" (.str one) n ys:=by
 obtain⟨a1,a2,a3,a4,a5,b1,b2,b3,b4,b5,c1,c2,c3,c4,c5,d1,d2,d3,d4,d5,f1,f2,f3,f4,f5,g1,g2,g3,g4⟩:=Zf
 unfold jF;rw[a4,b4,c4,d4,f4,g3];match ys with
 | []=>rfl
 | [y0]=>
  cases y0 with
  | str u=>
   rw[lH "send" _ _ _ _ (.inr rfl)];unfold cX
   simp [aQ]
  | _=>rfl
 | [y0,y1]=>
  cases y0 with
  | str u=>
   rw[lH "send" _ _ _ _ (.inr rfl)];unfold cX
   by_cases h1:u="no"
   ·subst h1;cases y1 <;> simp [eN,cP,mU,bL]
   by_cases h2:u="ok"
   ·subst h2;simp [eN,cP,bL]
   by_cases h3:u="is"
   ·subst h3;simp [eN,cP,eQ,bL]
   by_cases h4:u="short"
   ·subst h4;simp [eN,cP,eQ,bL]
   by_cases h5:u="full"
   ·subst h5;simp [eN,cP,eQ,bL]
   simp [h1,h2,h3,h4,h5,cP,bL]
  | _=>simp [cK,cP,bL]
 | y0::y1::y2::r=>
  have e1:decide (((y0::y1::y2::r).length:Int)<2)=false:=decide_eq_false (by simp only [fI];omega)
  have e3:decide (((y0::y1::y2::r).length:Int)=2)=false:=decide_eq_false (by simp only [fI];omega)
  rw[e1,e3];cases y0 with
  | str u=>
   rw[lH "send" _ _ _ _ (.inr rfl)];unfold cX
   simp [aQ,bL]
  | _=>simp [cK,bL]
theorem Bk (one:Str) (n:Int) (ys:List V):cK "fetch" [one] n ys=jF "fetch" (.str one) n ys:=by
 obtain⟨a1,a2,a3,a4,a5,b1,b2,b3,b4,b5,c1,c2,c3,c4,c5,d1,d2,d3,d4,d5,f1,f2,f3,f4,f5,g1,g2,g3,g4⟩:=Zf
 unfold jF;rw[a5,b5,c5,d5,f5,g4];match ys with
 | []=>rfl
 | [y0]=>
  cases y0 with
  | str u=>
   rw[pR "fetch" _ _ _ _ (.inr rfl)];unfold cX
   simp [aQ]
  | _=>rfl
 | [y0,y1]=>
  cases y0 with
  | str u=>
   rw[pR "fetch" _ _ _ _ (.inr rfl)];unfold cX
   by_cases h1:u="no"
   ·subst h1;cases y1 <;> simp [eN,cP,mU,bL]
   by_cases h2:u="ok"
   ·subst h2;simp [eN,cP,bL]
   by_cases h3:u="is"
   ·subst h3;simp [eN,cP,eQ,bL]
   by_cases h4:u="short"
   ·subst h4;simp [eN,cP,eQ,bL]
   by_cases h5:u="full"
   ·subst h5;simp [eN,cP,eQ,bL]
   simp [h1,h2,h3,h4,h5,cP,bL]
  | _=>simp [cK,cP,bL]
 | y0::y1::y2::r=>
  have e1:decide (((y0::y1::y2::r).length:Int)<2)=false:=decide_eq_false (by simp only [fI];omega)
  have e3:decide (((y0::y1::y2::r).length:Int)=2)=false:=decide_eq_false (by simp only [fI];omega)
  rw[e1,e3];cases y0 with
  | str u=>
   rw[pR "fetch" _ _ _ _ (.inr rfl)];unfold cX
   simp [aQ,bL]
  | _=>simp [cK,bL]
theorem Pi {one other nm:Str} {n:Int} {wd:Str} {xs:List V} {cs:List (Str × Int)} {as:List (Str × List V)} (h:DW one other nm n wd xs cs as) (hne:wd≠"pass") (ys:List V):cK wd (as.map (·.1)) n ys=jF wd (.str one) n ys:=by
 cases h with
 | add=>exact Kz one n ys
 | take=>exact Gd one n ys
 | move=>exact Gc (.str one) _ rfl n ys
 | send=>exact Ge one n ys
 | fetch=>exact Bk one n ys
 | pass=>exact absurd rfl hne
end
end KL
namespace KL
open PySem L2
section
variable {P:Program} {w:World} {K:W.Frag} {mg:Str->Option Value} {base:Heap}
theorem rQ {H:Hp} {x:V} {k:Kd} (h:Pc H x) (hk:Kof H x k):(xV .tup k=false/\aY H x=none)∨∃a ys,x=.ref a/\H a=some (.tup ys)/\k=.tup:=by
 rcases h with⟨hf,_⟩ | ⟨a,ys,rfl,h | h⟩ | ⟨a,kvs,rfl,h⟩
 ·left
  cases x <;> first | cases hf | skip
  all_goals (cases k <;> first | exact hk.elim | exact⟨rfl,rfl⟩)
 ·left
  have e:aY H (.ref a)=none:=by unfold aY;dsimp only;rw[h]
  refine⟨?_,e⟩
  cases k <;> first | rfl | (exact hk.elim) | (obtain⟨zs,hz⟩:=hk;rw[h]at hz;cases hz)
 ·refine .inr ⟨a,ys,rfl,h,?_⟩
  cases k <;> first | rfl | exact hk.elim | (rcases hk with⟨zs,hz⟩ | ⟨o,zs,hz⟩ <;> (rw[h]at hz;cases hz)) | (obtain⟨zs,hz⟩:=hk;rw[h]at hz;cases hz)
 ·left
  have e:aY H (.ref a)=none:=by unfold aY;dsimp only;rw[h]
  refine⟨?_,e⟩
  cases k <;> first | rfl | (exact hk.elim) | (obtain⟨zs,hz⟩:=hk;rw[h]at hz;cases hz)
theorem aAK (zs:List Str):vZ (zs.map V.str):=fun y hy=>by obtain⟨z,_,e⟩:=Zmm.mp hy;exact⟨z,e.symm⟩
theorem Pj (T:Txt K mg) (cLwhole:Callee P w K mg base 1 "_law_whole" ["_law_thing","_law_least","_law_most"] eZ) (D:DefAt K mg "_law_is_answer" dL ["_law_deed_here","_law_thing"]):Callee P w K mg base 2 "_law_is_answer" ["_law_deed_here","_law_thing"] oB:=by
 refine D.go dD (fun vs H Q E h=>?_) (fun f cdv A outer s H vs Q E hr h=>?_)
 ·obtain⟨p,wd,n,xs,as,x,rfl,_⟩:=h;rfl
 ·obtain⟨p,wd,n,xs,as,x,rfl,gp,hd,tg,q⟩:=h
  have hLwhole:=hr
  have hu64:=hr.units
  have e12:(10:Int) ^ (12:Int).toNat=1000000000000:=by decide
  refine⟨_,(R.ae (R.ai (i:=2) dD.nd (R.ix (R.al (K:=K)) (R.v 0) R.ac)) (R.ae (R.ai (i:=3) dD.nd (R.ix (R.al (K:=K)) (R.v 0) (R.bt R.ac))) (R.ae (R.ai (i:=4) dD.nd (R.op R.bq R.ac R.ac)) (R.ae (R.aj (R.ah R.eq (R.v 2) R.ad) (R.af (R.ag (R.az (R.gj hu64) (R.v 1) (R.ap (R.Z (R.am (R.Z R.ad R.aa)) (R.Z (R.am (R.Z R.ad (R.Z (R.ix (R.al (K:=K)) (R.v 0) R.ac) R.aa))) (R.Z (R.am (R.Z R.ad (R.Z (R.ix (R.al (K:=K)) (R.v 0) R.ac) R.aa))) R.aa))))))) R.ak) (R.ae (R.aj (R.tw (R.bc (R.aw (R.av (R.ba .tup (R.v 1) rfl T.b_isinstance rfl T.b_tuple bT))) (R.bh (R.ah R.lt (R.ao (R.au (K:=K)) rfl T.b_len aX (R.Z (R.v 1) R.aa)) R.ac)))) (R.af (R.ag R.bl)) R.ak) (R.ae (R.aj (R.tw (R.bu (R.ah (R.bz (K:=K)) (R.v 2) (R.am (R.Z R.ad (R.Z R.ad R.aa)))) (R.bx (R.ah (R.gi hu64) (R.v 1) (R.am (R.Z R.ad (R.Z (R.ix (R.al (K:=K)) (R.v 0) R.ac) R.aa))))))) (R.af (R.ag R.bl)) R.ak) (R.ae (R.aj (R.tw (R.bu (R.ah R.eq (R.v 2) R.ad) (R.bx (R.ah R.eq (R.ao (R.au (K:=K)) rfl T.b_len aX (R.Z (R.v 1) R.aa)) R.ac)))) (R.af (R.ag (R.bj (R.az (R.cz hu64) (R.ix (R.al (K:=K)) (R.v 1) R.ac) R.ad) (R.bj (R.fn cLwhole hLwhole rfl (R.Z (R.ix (R.al (K:=K)) (R.v 1) R.ac) (R.Z R.ac (R.Z (R.op R.bd (R.v 4) (R.v 3)) R.aa)))) (R.bp (R.fn cLwhole hLwhole rfl (R.Z (R.ix (R.al (K:=K)) (R.v 1) R.ac) (R.Z (R.v 3) (R.Z (R.v 4) R.aa))))))))) R.ak) (R.ae (R.aj (R.ah R.ne (R.ao (R.au (K:=K)) rfl T.b_len aX (R.Z (R.v 1) R.aa)) R.ac) (R.af (R.ag R.bl)) R.ak) (R.ae (R.aj (R.tw (R.bu (R.ah (R.cz hu64) (R.ix (R.al (K:=K)) (R.v 1) R.ac) R.ad) (R.bx (R.ah (R.bz (K:=K)) (R.v 2) (R.am (R.Z R.ad (R.Z R.ad R.aa))))))) (R.af (R.ag (R.fn cLwhole hLwhole rfl (R.Z (R.ix (R.al (K:=K)) (R.v 1) R.ac) (R.Z (R.v 3) (R.Z (R.v 4) R.aa)))))) R.ak) (R.ae (R.aj (R.tw (R.bu (R.ah (R.cz hu64) (R.ix (R.al (K:=K)) (R.v 1) R.ac) R.ad) (R.bx (R.ah (R.bz (K:=K)) (R.v 2) (R.am (R.Z R.ad (R.Z R.ad R.aa))))))) (R.af (R.ag (R.fn cLwhole hLwhole rfl (R.Z (R.ix (R.al (K:=K)) (R.v 1) R.ac) (R.Z R.ac (R.Z (R.op R.bd (R.v 4) (R.v 3)) R.aa)))))) R.ak) (R.ae (R.aj (R.tw (R.bu (R.ah (R.cz hu64) (R.ix (R.al (K:=K)) (R.v 1) R.ac) R.ad) (R.bx (R.ah (R.bz (K:=K)) (R.v 2) (R.am (R.Z R.ad (R.Z R.ad (R.Z R.ad R.aa)))))))) (R.af (R.ag (R.fn cLwhole hLwhole rfl (R.Z (R.ix (R.al (K:=K)) (R.v 1) R.ac) (R.Z (R.op R.ar (R.op R.bd (R.v 4) (R.v 3)) R.ac) (R.Z (R.v 4) R.aa)))))) R.ak) (R.af (R.ag (R.bj (R.az (R.cz hu64) (R.ix (R.al (K:=K)) (R.v 1) R.ac) R.ad) (R.bj (R.az (R.bz (K:=K)) (R.v 2) (R.am (R.Z R.ad (R.Z R.ad (R.Z R.ad R.aa))))) (R.bp (R.fn cLwhole hLwhole rfl (R.Z (R.ix (R.al (K:=K)) (R.v 1) R.ac) (R.Z R.ac (R.Z (R.op R.bd (R.v 3) R.ac) R.aa)))))))))))))))))))),?_⟩
  obtain⟨one,other,nm,cs,hw⟩:=hd.ex
  have head:eF xs 0=some (.str wd)/\eF xs (-1)=some (.int n):=by cases hw <;> exact⟨aF (j:=0) rfl,rfl⟩
  refine⟨xs,SqT.of gp,.str wd,head.1,?_⟩
  dsimp only [aI];refine⟨xs,SqT.of gp,.int n,head.2,?_⟩
  dsimp only [aI];refine⟨⟨Zd,Zd,Zd⟩,?_⟩
  dsimp only [aI];rw[e12];show if decide (wd="pass")=true then _ else _
  refine aV (fun h0=>?_) (fun h0=>?_)
  ·have hp:=of_decide_eq_true h0
   cases hw with
   | pass=>
    refine⟨Zs,fun t1 H1 s1 g1=>⟨_,SqT.of (s1 _ _ gp),.str one,aF (j:=1) rfl,Zs,fun t2 H2 s2 g2=>⟨_,SqT.of (s2 _ _ (s1 _ _ gp)),.str other,aF (j:=2) rfl,Zs,fun t3 H3 s3 g3=>⟨dU rfl,fun l hl=>⟨[(t1,[.str "ok"]),(t2,[.str "no",.str one]),(t3,[.str "no",.str other])],aD,?_,?_,?_⟩⟩⟩⟩⟩
    ·have tt:∀zs:List Str,vZ (zs.map V.str):=fun zs y hy=>by obtain⟨z,_,e⟩:=Zmm.mp hy;exact⟨z,e.symm⟩
     have sl:=aA (o:=.lst [V.ref t1,.ref t2,.ref t3]) hl
     exact Zfm.mpr ⟨⟨sl _ _ (s3 _ _ (s2 _ _ g1)),tt ["ok"]⟩,Zfm.mpr ⟨⟨sl _ _ (s3 _ _ g2),tt ["no",one]⟩,Zfm.mpr ⟨⟨sl _ _ g3,tt ["no",other]⟩,fun _ h=>nomatch h⟩⟩⟩
    ·exact tg.same (((s1.trans s2).trans s3).trans (aA hl))
    ·have s4:=((s1.trans s2).trans s3).trans (aA (o:=.lst [V.ref t1,.ref t2,.ref t3]) hl)
     have q':=q _ s4
     have e:fX H "pass" [one,other] n x=([(t1,[V.str "ok"]),(t2,[.str "no",.str one]),(t3,[.str "no",.str other])].any fun q=>oE (aJ H3 l (.lst [V.ref t1,.ref t2,.ref t3])) x q.2):=by
      unfold fX oE;rw[kY s4 tg.1];cases aY H x with
      | none=>rfl
      | some ys=>exact Gb one other n ys
     rw[<- e];exact q'
   | _=>exact absurd hp Zk
  have hne:wd≠"pass":=of_decide_eq_false h0
  dsimp only [aR];obtain⟨k,hk⟩:=tg.1.kd
  refine⟨k,hk,?_⟩
  have notup:aY H x=none->Q (.bl false) H:=fun e=>by
   have q':=q H (Same.refl H)
   unfold fX at q';rw[e]at q';exact q'
  have hcase:=rQ tg.1 hk
  rcases hcase with⟨e1,e2⟩ | ⟨a,ys,rfl,ga,rfl⟩
  ·refine kR (c:=!xV .tup k) (by rw[e1];rfl) ?_
   exact notup e2
  have hys:=tg.2 a ys rfl ga
  have eV:fX H wd (as.map (·.1)) n (.ref a)=jF wd (.str one) n ys:=by
   unfold fX;rw[cJ ga];exact Pi hw hne ys
  rw[eV]at q;unfold jF at q;refine⟨ys,.inr (SqT.of ga),?_⟩
  refine aV (fun h1=>?_) (fun h1=>?_)
  ·have q':=q H (Same.refl H)
   rw[if_pos h1]at q';exact q'
  rw[if_neg (by rw[h1];exact Bool.false_ne_true)]at q
  have h1':=of_decide_eq_false h1
  obtain⟨y0,y1,r,rfl⟩:∃y0 y1 r,ys=y0::y1::r:=by
   match ys with
   | []=>exact absurd (show((0:Nat):Int)<2 by decide) h1'
   | [_]=>exact absurd (show((1:Nat):Int)<2 by decide) h1'
   | y0::y1::r=>exact⟨y0,y1,r,rfl⟩
  dsimp only [aR];refine iY (t:=jJ _ _) (fun v H'=>v=(cQ (.str wd) [.str "send",.str "fetch"]&&bL (y0::y1::r) [.str "no",.str one])/\Same H H') (fun kk hkk=>?_) (fun v H1 ⟨ev,s1⟩=>?_)
  ·refine⟨Zs,fun t1 H1 s1 g1=>⟨t1,_,rfl,.inr (SqT.of g1),rfl,rfl,?_⟩⟩
   show if cQ (.str wd) [.str "send",.str "fetch"]=true then _ else _
   refine aV (fun hin=>?_) (fun hin=>?_)
   ·have h11:eF xs 1=some (.str one):=by
     cases hw with
     | send=>exact aF (j:=1) rfl
     | fetch=>exact aF (j:=1) rfl
     | _=>exact absurd hin Zk
    refine⟨xs,SqT.of (s1 _ _ gp),.str one,h11,Zs,fun t2 H2 s2 g2=>⟨_,_,s2 _ _ (s1 _ _ ga),g2,aAK ["no",one],fun y hy=>(hys.2 y hy).same (s1.trans s2),hkk _ _ ⟨?_,s1.trans s2⟩⟩⟩
    rw[hin];rfl
   ·exact hkk _ _ ⟨by rw[hin];rfl,s1⟩
  subst ev;refine aV (fun h2=>?_) (fun h2=>?_)
  ·have q':=q H1 s1
   rw[if_pos h2]at q';exact q'
  rw[if_neg (by rw[h2];exact Bool.false_ne_true)]at q
  have ga1:=s1 _ _ ga
  dsimp only [aR];refine iY (t:=jJ _ _) (fun v H'=>v=(decide (wd="move")&&decide (((y0::y1::r).length:Int)=3))/\H1=H') (fun kk hkk=>?_) (fun v H1' ⟨ev,e1⟩=>?_)
  ·show if decide (wd="move")=true then _ else _
   refine aV (fun hm=>?_) (fun hm=>?_)
   ·exact⟨_,.inr (SqT.of ga1),hkk _ _ ⟨by rw[hm,Bool.true_and],rfl⟩⟩
   ·exact hkk _ _ ⟨by rw[hm];rfl,rfl⟩
  subst ev e1;have pc:∀ {H':Hp},Same H H'->∀ {y:V},y∈y0::y1::r->Pc H' y:=fun s' y hy=>(hys.2 y hy).same s'
  refine aV (fun h3=>?_) (fun h3=>?_)
  ·rw[if_pos h3]at q;rw[Bool.and_eq_true]at h3;have h33:=of_decide_eq_true h3.2
   obtain⟨y2,rfl⟩:∃y2,r=[y2]:=by
    match r with
    | []=>simp at h33
    | [y2]=>exact⟨y2,rfl⟩
    | _::_::_=>simp only [fI]at h33;omega
   refine⟨_,SqT.of ga1,y0,aF (j:=0) rfl,pc s1 Zs,?_⟩
   show if cP y0 (.str "is")=true then _ else _
   refine aV (fun h4=>?_) (fun h4=>?_)
   ·refine⟨_,SqT.of ga1,y1,aF (j:=1) rfl,y1,_,_,rfl,(pc s1 Zs).pt,fun H2 s2=>?_⟩
    have s12:=s1.trans s2
    show if aO 0 (1000000000000 - n) y1=true then _ else _
    refine aV (fun h5=>?_) (fun h5=>?_)
    ·refine⟨_,SqT.of (s2 _ _ ga1),y2,aF (j:=2) rfl,y2,_,_,rfl,(pc s12 Zs).pt,fun H3 s3=>?_⟩
     have q':=q H3 (s12.trans s3)
     have e:(cP ([y0,y1,y2].getD 0 .non) (.str "is")&&(aO 0 (1000000000000 - n) ([y0,y1,y2].getD 1 .non)&&aO n 1000000000000 ([y0,y1,y2].getD 2 .non)))=aO n 1000000000000 y2:=by
      show(cP y0 (.str "is")&&(aO 0 (1000000000000 - n) y1&&_))=_
      rw[h4,h5];rfl
     rw[e]at q';exact q'
    ·have q':=q H2 s12
     have e:(cP ([y0,y1,y2].getD 0 .non) (.str "is")&&(aO 0 (1000000000000 - n) ([y0,y1,y2].getD 1 .non)&&aO n 1000000000000 ([y0,y1,y2].getD 2 .non)))=false:=by
      show(cP y0 (.str "is")&&(aO 0 (1000000000000 - n) y1&&_))=_
      rw[h4,h5];rfl
     rw[e]at q';exact q'
   ·have q':=q H1 s1
    have e:(cP ([y0,y1,y2].getD 0 .non) (.str "is")&&(aO 0 (1000000000000 - n) ([y0,y1,y2].getD 1 .non)&&aO n 1000000000000 ([y0,y1,y2].getD 2 .non)))=false:=by
     show(cP y0 (.str "is")&&(aO 0 (1000000000000 - n) y1&&_))=_
     rw[h4];rfl
    rw[e]at q';exact q'
  rw[if_neg (by rw[h3];exact Bool.false_ne_true)]at q
  dsimp only [aR];refine⟨_,.inr (SqT.of ga1),?_⟩
  show if (!decide (((y0::y1::r).length:Int)=2))=true then _ else _
  refine aV (fun h4=>?_) (fun h4=>?_)
  ·have q':=q H1 s1
   rw[if_pos h4]at q';exact q'
  rw[if_neg (by rw[h4];exact Bool.false_ne_true)]at q
  dsimp only [aR];have g0:(y0::y1::r).getD 0 .non=y0:=rfl
  have g1:(y0::y1::r).getD 1 .non=y1:=rfl
  rw[g0,g1]at q;have tst:∀(G:Hp) (u:Str) (zs:List V) (_:zs.all bS=true) (tz:TA) (_:∀ σ G' k,tz σ G' k=k zs G') (_:zs.length<=1000) (o4:Option V) (R:Bool->Hp->Prop),Same H G->(∀v G',v=(cP y0 (.str u)&&cQ (.str wd) zs)/\Same H G'->R v G')->jJ (mT (xE Cz (xE (Eu K) (vr 1) (tC (.int 0))) (tC (.str u)))) (mT (xE (Ta K false) (vr 2) (Jc tz))) [some (.ref p),some (.ref a),some (.str wd),some (.int n),o4] G R:=fun G u zs hf tz htz hzl o4 R sG hR=>by
   refine⟨_,SqT.of (sG _ _ ga),y0,aF (j:=0) rfl,pc sG Zs,?_⟩
   show if cP y0 (.str u)=true then _ else _
   refine aV (fun h5=>?_) (fun h5=>?_)
   ·show tz _ _ _
    rw[htz];refine⟨hzl,fun t2 G2 s2 g2=>⟨t2,zs,rfl,.inr (SqT.of g2),rfl,hf,hR _ _ ⟨by rw[h5];rfl,sG.trans s2⟩⟩⟩
   ·exact hR _ _ ⟨by rw[h5];rfl,sG⟩
  refine iY (t:=jJ _ _) (fun v H'=>v=(cP y0 (.str "is")&&cQ (.str wd) [.str "add",.str "fetch"])/\Same H H') (fun kk hkk=>tst H1 "is" _ rfl _ (fun _ _ _=>rfl) Zs _ _ s1 hkk) (fun v H2 ⟨ev,s2⟩=>?_)
  subst ev;refine aV (fun h5=>?_) (fun h5=>?_)
  ·rw[if_pos h5]at q;refine⟨_,SqT.of (s2 _ _ ga),y1,aF (j:=1) rfl,y1,_,_,rfl,(pc s2 Zs).pt,fun H3 s3=>q H3 (s2.trans s3)⟩
  rw[if_neg (by rw[h5];exact Bool.false_ne_true)]at q
  dsimp only [aR];refine iY (t:=jJ _ _) (fun v H'=>v=(cP y0 (.str "is")&&cQ (.str wd) [.str "take",.str "send"])/\Same H H') (fun kk hkk=>tst H2 "is" _ rfl _ (fun _ _ _=>rfl) Zs _ _ s2 hkk) (fun v H3 ⟨ev,s3⟩=>?_)
  subst ev;refine aV (fun h6=>?_) (fun h6=>?_)
  ·rw[if_pos h6]at q;refine⟨_,SqT.of (s3 _ _ ga),y1,aF (j:=1) rfl,y1,_,_,rfl,(pc s3 Zs).pt,fun H4 s4=>q H4 (s3.trans s4)⟩
  rw[if_neg (by rw[h6];exact Bool.false_ne_true)]at q
  dsimp only [aR];refine iY (t:=jJ _ _) (fun v H'=>v=(cP y0 (.str "full")&&cQ (.str wd) [.str "add",.str "fetch",.str "move"])/\Same H H') (fun kk hkk=>tst H3 "full" _ rfl _ (fun _ _ _=>rfl) Zs _ _ s3 hkk) (fun v H4 ⟨ev,s4⟩=>?_)
  subst ev;refine aV (fun h7=>?_) (fun h7=>?_)
  ·rw[if_pos h7]at q;refine⟨_,SqT.of (s4 _ _ ga),y1,aF (j:=1) rfl,y1,_,_,rfl,(pc s4 Zs).pt,fun H5 s5=>q H5 (s4.trans s5)⟩
  rw[if_neg (by rw[h7];exact Bool.false_ne_true)]at q
  dsimp only [aR];refine⟨_,SqT.of (s4 _ _ ga),y0,aF (j:=0) rfl,pc s4 Zs,?_⟩
  show if cP y0 (.str "short")=true then _ else _
  refine aV (fun h8=>?_) (fun h8=>?_)
  ·rw[h8,Bool.true_and]at q;refine⟨Zs,fun t5 H5 s5 g5=>⟨t5,_,rfl,.inr (SqT.of g5),rfl,rfl,?_⟩⟩
   have s45:=s4.trans s5
   show if cQ (.str wd) [.str "take",.str "send",.str "move"]=true then _ else _
   refine aV (fun h9=>?_) (fun h9=>?_)
   ·rw[h9,Bool.true_and]at q;exact⟨_,SqT.of (s45 _ _ ga),y1,aF (j:=1) rfl,y1,_,_,rfl,(pc s45 Zs).pt,fun H6 s6=>q H6 (s45.trans s6)⟩
   ·have q':=q H5 s45
    rw[h9]at q';exact q'
  ·have q':=q H4 s4
   rw[h8]at q';exact q'
end
end KL
namespace KL
open PySem L2
section
variable {P:Program} {w:World} {K:W.Frag} {mg:Str->Option Value} {base:Heap}
theorem yZ {a b c:Bool} (h:a=true∨b=true↔c=true):(a||b)=c:=by
 cases a <;> cases b <;> cases c <;> simp_all
theorem cE {lo hi:Int} {y:V}:aO lo hi y=true↔∃n,y=.int n/\lo<=n/\n<=hi:=by
 constructor
 ·intro h;obtain⟨n,e,h1,h2⟩:=yO h;exact⟨n,e,h1,h2⟩
 ·rintro⟨n,rfl,h1,h2⟩
  show(decide (lo<=n)&&decide (n<=hi))=true
  rw[decide_eq_true h1,decide_eq_true h2];rfl
theorem Pk {a b c d e f:Int} (h:∀n:Int,(a<=n/\n<=b)∨(c<=n/\n<=d)↔e<=n/\n<=f) (y:V):(aO a b y||aO c d y)=aO e f y:=by
 refine yZ ?_
 rw[cE,cE,cE];constructor
 ·rintro(⟨n,rfl,h1⟩ | ⟨n,rfl,h1⟩)
  ·exact⟨n,rfl,(h n).mp (.inl h1)⟩
  ·exact⟨n,rfl,(h n).mp (.inr h1)⟩
 ·rintro⟨n,rfl,h1⟩
  rcases(h n).mpr h1 with h2 | h2
  ·exact .inl ⟨n,rfl,h2⟩
  ·exact .inr ⟨n,rfl,h2⟩
def iP (u:Str) (r:List V):Bool:=
 if decide (u="ok")=true then decide (((V.str u::r).length:Int)=1)
 else if (decide (u="is")&&decide (((V.str u::r).length:Int)=3))=true then aO 0 999999999999 (r.getD 0 .non)&&aO 1 1000000000000 (r.getD 1 .non)
 else if (!decide (((V.str u::r).length:Int)=2)||!cQ (.str u) [.str "is",.str "no",.str "short",.str "full"])=true then false
 else if decide (u="no")=true then dF (r.getD 0 .non)
 else aO (if decide (u="full")=true then 1 else 0) (1000000000000 - (if decide (u="short")=true then 1 else 0)) (r.getD 0 .non)
theorem tZ (u:Str) (r:List V) (hu:u≠"no"):bH (.str u::r)=(cX [] false (some [(1,1000000000000)]) none (some [(1000000000000,1000000000000)]) u r||(cX [] false (some [(0,999999999999)]) (some [(0,0)]) none u r||(cX [] false (some [(0,999999999999),(1,1000000000000)]) (some [(0,0)]) (some [(1000000000000,1000000000000)]) u r||(cX [] false (some [(0,0),(1000000000000,1000000000000)]) (some [(0,999999999999)]) (some [(1,1000000000000)]) u r||(cX ["a","b"] true none none none u r||false))))):=by
 unfold bH;rw[if_neg (show ¬ kD (V.str u::r)=.str "no" from fun e=>by injection e with e;exact hu e)]
 show(cK "add" (sC "add") 1 (.str u::r)||(cK "take" (sC "take") 1 (.str u::r)||(cK "move" (sC "move") 1 (.str u::r)||(cK "move" (sC "move") 1000000000000 (.str u::r)||(cK "pass" (sC "pass") 1 (.str u::r)||false)))))=_
 have w1:sC "add"=[]:=by unfold sC;rw[if_neg Zk]
 have w2:sC "take"=[]:=by unfold sC;rw[if_neg Zk]
 have w3:sC "move"=[]:=by unfold sC;rw[if_neg Zk]
 have w4:sC "pass"=(["a","b"]:List Str):=by unfold sC;rw[if_pos rfl]
 rw[w1,w2,w3,w4,pR "add" _ _ _ _ (.inl rfl),lH "take" _ _ _ _ (.inl rfl),nF,nF,Bj];rfl
theorem Zh:cQ (.str "is") [.str "is",.str "no",.str "short",.str "full"]=true/\cQ (.str "no") [.str "is",.str "no",.str "short",.str "full"]=true/\cQ (.str "short") [.str "is",.str "no",.str "short",.str "full"]=true/\cQ (.str "full") [.str "is",.str "no",.str "short",.str "full"]=true:=⟨Zk,Zk,Zk,Zk⟩
theorem Gf {x y z:V} {r:List V}:decide (((x::y::z::r).length:Int)=2)=false:=decide_eq_false (by simp only [fI];omega)
theorem Vp {x y z t:V} {r:List V}:decide (((x::y::z::t::r).length:Int)=3)=false:=decide_eq_false (by simp only [fI];omega)
theorem fR (u:Str) (r:List V):bH (.str u::r)=iP u r:=by
 obtain⟨i1,i2,i3,i4⟩:=Zh
 by_cases h1:u="no"
 ·subst h1;unfold bH iP;rw[if_pos (show kD (V.str "no"::r)=.str "no" from rfl),i2];match r with
  | []=>simp [eN,oA]
  | [y]=>simp [eN,oA]
  | y::z::r=>rw[Gf];simp [eN,oA]
 rw[tZ u r h1];unfold iP;by_cases h2:u="ok"
 ·subst h2;unfold cX;cases r with
  | nil=>simp [eN]
  | cons y r=>simp [eN];omega
 by_cases h3:u="is"
 ·subst h3;unfold cX;rw[i1];match r with
  | []=>simp [eN,aQ]
  | [y]=>
   simp only [eN,if_false,aQ (r:=[y]) (bs:=[(0,999999999999),(1,1000000000000)]) Zs,aQ (r:=[y]) (bs:=[(0,0),(1000000000000,1000000000000)]) Zs,eQ]
   simp [eN]
   exact Pk (fun n=>by omega) y
  | [y,z]=>
   simp only [eN,if_false,aQ (r:=[y,z]) (bs:=[(1,1000000000000)]) Zs,aQ (r:=[y,z]) (bs:=[(0,999999999999)]) Zs,Ky]
   simp [eN]
   intro h1 h2;obtain⟨n,e1,a1,a2⟩:=cE.mp h1
   obtain⟨m,e2,b1,b2⟩:=cE.mp h2
   exact⟨cE.mpr ⟨n,e1,Zo,Zo⟩,cE.mpr ⟨m,e2,Zo,Zo⟩⟩
  | y::z::t::r=>
   rw[Vp,Gf];simp [eN,aQ]
 by_cases h4:u="short"
 ·subst h4;unfold cX;rw[i3];match r with
  | []=>simp [eN,aQ]
  | [y]=>
   simp [eN,eQ]
   intro h1;obtain⟨n,e1,a1,a2⟩:=cE.mp h1
   exact cE.mpr ⟨n,e1,Zo,Zo⟩
  | y::z::r=>
   rw[Gf];simp [eN,aQ]
 by_cases h5:u="full"
 ·subst h5;unfold cX;rw[i4];match r with
  | []=>simp [eN,aQ]
  | [y]=>
   simp [eN,eQ]
   intro h1;obtain⟨n,e1,a1,a2⟩:=cE.mp h1
   exact cE.mpr ⟨n,e1,Zo,Zo⟩
  | y::z::r=>
   rw[Gf];simp [eN,aQ]
 have e:cQ (.str u) [.str "is",.str "no",.str "short",.str "full"]=false:=by
  rw[show([V.str "is",.str "no",.str "short",.str "full"]:List V)=(["is","no","short","full"]:List Str).map V.str from rfl,Cq];exact decide_eq_false (by simp [h1,h3,h4,h5])
 rw[e];unfold cX;simp [h1,h2,h3,h4,h5]
theorem Dd {H:Hp} {y:V} {k:Kd} (hk:Kof H y k) (hy:∀u,y≠.str u):xV .str k=false:=by
 cases y with
 | str u=>exact absurd rfl (hy u)
 | _=>cases k <;> first | exact hk.elim | rfl
theorem La (T:Txt K mg) (cLwhole:Callee P w K mg base 1 "_law_whole" ["_law_thing","_law_least","_law_most"] eZ) (cLis_name:Callee P w K mg base 2 "_law_is_name" ["_law_thing"] (iM LET 8)) (D:DefAt K mg "_law_is_some_answer" cD ["_law_thing"]):Callee P w K mg base 3 "_law_is_some_answer" ["_law_thing"] vV:=by
 refine D.go eP (fun vs H Q E h=>?_) (fun f cdv A outer s H vs Q E hr h=>?_)
 ·obtain⟨x,rfl,_⟩:=h;rfl
 ·obtain⟨x,rfl,tg,q⟩:=h
  have hLis_name:=hr
  have hLwhole:Room 1 _:=hr.mono Zd
  have hu64:=hr.units
  have e12:(10:Int) ^ (12:Int).toNat=1000000000000:=by decide
  refine⟨_,(R.ae (R.aj (R.tw (R.bc (R.aw (R.av (R.ba .tup (R.v 0) rfl T.b_isinstance rfl T.b_tuple bT))) (R.bc (R.ah (R.dt hu64) (R.v 0) (R.am R.aa)) (R.bh (R.aw (R.av (R.ba .str (R.ix (R.al (K:=K)) (R.v 0) R.ac) rfl T.b_isinstance rfl T.b_str fT))))))) (R.af (R.ag R.bl)) R.ak) (R.ae (R.ai (i:=1) eP.nd (R.ix (R.al (K:=K)) (R.v 0) R.ac)) (R.ae (R.aj (R.ah R.eq (R.v 1) R.ad) (R.af (R.ag (R.az R.eq (R.ao (R.au (K:=K)) rfl T.b_len aX (R.Z (R.v 0) R.aa)) R.ac))) R.ak) (R.ae (R.aj (R.tw (R.bu (R.ah R.eq (R.v 1) R.ad) (R.bx (R.ah R.eq (R.ao (R.au (K:=K)) rfl T.b_len aX (R.Z (R.v 0) R.aa)) R.ac)))) (R.af (R.ag (R.bj (R.fn cLwhole hLwhole rfl (R.Z (R.ix (R.al (K:=K)) (R.v 0) R.ac) (R.Z R.ac (R.Z (R.op R.bd (R.op R.bq R.ac R.ac) R.ac) R.aa)))) (R.bp (R.fn cLwhole hLwhole rfl (R.Z (R.ix (R.al (K:=K)) (R.v 0) R.ac) (R.Z R.ac (R.Z (R.op R.bq R.ac R.ac) R.aa)))))))) R.ak) (R.ae (R.aj (R.tw (R.bc (R.ah R.ne (R.ao (R.au (K:=K)) rfl T.b_len aX (R.Z (R.v 0) R.aa)) R.ac) (R.bh (R.ah (R.gr (K:=K)) (R.v 1) (R.am (R.Z R.ad (R.Z R.ad (R.Z R.ad (R.Z R.ad R.aa))))))))) (R.af (R.ag R.bl)) R.ak) (R.ae (R.aj (R.ah R.eq (R.v 1) R.ad) (R.af (R.ag (R.fn cLis_name hLis_name rfl (R.Z (R.ix (R.al (K:=K)) (R.v 0) R.ac) R.aa)))) R.ak) (R.af (R.ag (R.fn cLwhole hLwhole rfl (R.Z (R.ix (R.al (K:=K)) (R.v 0) R.ac) (R.Z (R.bn R.cr rfl T.b_int fU (R.Z (R.az R.eq (R.v 1) R.ad) R.aa)) (R.Z (R.op R.bd (R.op R.bq R.ac R.ac) (R.bn R.cr rfl T.b_int fU (R.Z (R.az R.eq (R.v 1) R.ad) R.aa))) R.aa)))))))))))),?_⟩
  obtain⟨k,hk⟩:=tg.1.kd
  refine⟨k,hk,?_⟩
  rcases rQ tg.1 hk with⟨e1,e2⟩ | ⟨a,ys,rfl,ga,rfl⟩
  ·refine kR (c:=!xV .tup k) (by rw[e1];rfl) ?_
   have q':=q H (Same.refl H)
   unfold gB at q';rw[e2]at q';exact q'
  have hys:=tg.2 a ys rfl ga
  have eV:gB H (.ref a)=bH ys:=by unfold gB;rw[cJ ga]
  rw[eV]at q;refine⟨Zs,fun t0 H0 s0 g0=>⟨ys,[],s0 _ _ ga,g0,fun j u v h1 h2=>by simp at h2,?_⟩⟩
  rw[pK];cases ys with
  | nil=>exact q H0 s0
  | cons y r=>
  obtain⟨ky,hky⟩:=((hys.2 y iW).same s0).kd
  refine⟨_,SqT.of (s0 _ _ ga),y,Ku _ _,ky,hky,?_⟩
  by_cases hs:∃u,y=.str u
  case neg=>
   have hy:∀u,y≠.str u:=fun u e=>hs ⟨u,e⟩
   have eB:bH (y::r)=false:=by
    have:kD (y::r)=.non:=by cases y <;> first | rfl | exact absurd rfl (hy _)
    unfold bH;rw[this,if_neg (fun e=>by cases e),List.any_eq_false]
    intro z _;rw[nE fun u r' e=>hy u (List.cons.inj e).1]
    exact Bool.false_ne_true
   rw[eB]at q;have hks:=Dd hky hy
   show if (!xV .str ky)=true then _ else _
   exact kR (by rw[hks];rfl) (q H0 s0)
  obtain⟨u,rfl⟩:=hs
  cases ky <;> first | exact hky.elim | skip
  rw[fR]at q;unfold iP at q;have ga0:=s0 _ _ ga
  refine⟨_,SqT.of ga0,.str u,Ku _ _,?_⟩
  dsimp only [aI];show if decide (u="ok")=true then _ else _
  refine aV (fun h1=>?_) (fun h1=>?_)
  ·rw[if_pos h1]at q;exact⟨_,.inr (SqT.of ga0),q H0 s0⟩
  rw[if_neg (by rw[h1];exact Bool.false_ne_true)]at q
  dsimp only [aR];refine iY (t:=jJ _ _) (fun v H'=>v=(decide (u="is")&&decide (((V.str u::r).length:Int)=3))/\H0=H') (fun kk hkk=>?_) (fun v H1' ⟨ev,e1⟩=>?_)
  ·show if decide (u="is")=true then _ else _
   refine aV (fun hm=>?_) (fun hm=>?_)
   ·exact⟨_,.inr (SqT.of ga0),hkk _ _ ⟨by rw[hm,Bool.true_and],rfl⟩⟩
   ·exact hkk _ _ ⟨by rw[hm];rfl,rfl⟩
  subst ev e1;have pc:∀ {H':Hp},Same H H'->∀ {y:V},y∈r->Pc H' y:=fun s' y hy=>(hys.2 y (gT _ hy)).same s'
  refine aV (fun h2=>?_) (fun h2=>?_)
  ·rw[if_pos h2]at q;rw[Bool.and_eq_true]at h2;have h33:=of_decide_eq_true h2.2
   obtain⟨y1,y2,rfl⟩:∃y1 y2,r=[y1,y2]:=by
    match r with
    | []=>simp at h33
    | [_]=>simp at h33
    | [y1,y2]=>exact⟨y1,y2,rfl⟩
    | _::_::_::_=>simp only [fI]at h33;omega
   refine⟨_,SqT.of ga0,y1,aF (j:=1) rfl,⟨Zd,Zd,Zd⟩,y1,_,_,rfl,(pc s0 Zs).pt,fun H2 s2=>?_⟩
   have s02:=s0.trans s2
   rw[e12];show if aO 0 999999999999 y1=true then _ else _
   refine aV (fun h5=>?_) (fun h5=>?_)
   ·refine⟨_,SqT.of (s2 _ _ ga0),y2,aF (j:=2) rfl,⟨Zd,Zd,Zd⟩,y2,_,_,rfl,(pc s02 Zs).pt,fun H3 s3=>?_⟩
    rw[e12];have q':=q H3 (s02.trans s3)
    have e:(aO 0 999999999999 ([y1,y2].getD 0 .non)&&aO 1 1000000000000 ([y1,y2].getD 1 .non))=aO 1 1000000000000 y2:=by
     show(aO 0 999999999999 y1&&_)=_
     rw[h5];rfl
    rw[e]at q';exact q'
   ·have q':=q H2 s02
    have e:(aO 0 999999999999 ([y1,y2].getD 0 .non)&&aO 1 1000000000000 ([y1,y2].getD 1 .non))=false:=by
     show(aO 0 999999999999 y1&&_)=_
     rw[h5];rfl
    rw[e]at q';exact q'
  rw[if_neg (by rw[h2];exact Bool.false_ne_true)]at q
  dsimp only [aR];refine iY (t:=Wg _ _) (fun v H'=>v=(!decide (((V.str u::r).length:Int)=2)||!cQ (.str u) [.str "is",.str "no",.str "short",.str "full"])/\Same H H') (fun kk hkk=>?_) (fun v H1 ⟨ev,s1⟩=>?_)
  ·refine⟨_,.inr (SqT.of ga0),?_⟩
   show if (!decide (((V.str u::r).length:Int)=2))=true then _ else _
   refine aV (fun hm=>?_) (fun hm=>?_)
   ·exact hkk _ _ ⟨by rw[hm];rfl,s0⟩
   ·refine⟨Zs,fun t1 H1 s1 g1=>⟨t1,_,rfl,.inr (SqT.of g1),rfl,rfl,hkk _ _ ⟨by rw[hm];rfl,s0.trans s1⟩⟩⟩
  subst ev;refine aV (fun h3=>?_) (fun h3=>?_)
  ·have q':=q H1 s1
   rw[if_pos h3]at q';exact q'
  rw[if_neg (by rw[h3];exact Bool.false_ne_true)]at q
  dsimp only [aR];obtain⟨y1,rfl⟩:∃y1,r=[y1]:=by
   rw[Bool.or_eq_false_iff]at h3;have h33:((V.str u::r).length:Int)=2:=by simpa using h3.1
   match r with
   | []=>simp at h33
   | [y1]=>exact⟨y1,rfl⟩
   | _::_::_=>simp only [fI]at h33;omega
  have ga1:=s1 _ _ ga
  have g1:([y1]:List V).getD 0 .non=y1:=rfl
  rw[g1]at q;show if decide (u="no")=true then _ else _
  refine aV (fun h4=>?_) (fun h4=>?_)
  ·rw[if_pos h4]at q;obtain⟨k1,hk1,hz1⟩:=(pc s1 (y:=y1) Zs).pt
   exact⟨_,SqT.of ga1,y1,aF (j:=1) rfl,y1,k1,rfl,hk1,hz1,fun H2 s2=>q H2 (s1.trans s2)⟩
  rw[if_neg (by rw[h4];exact Bool.false_ne_true)]at q
  dsimp only [aR];refine⟨_,SqT.of ga1,y1,aF (j:=1) rfl,⟨Zd,Zd,Zd⟩,y1,_,_,rfl,(pc s1 Zs).pt,fun H2 s2=>?_⟩
  rw[e12];exact q H2 (s1.trans s2)
end
end KL
namespace KL
open PySem L2
section
variable {P:Program} {w:World} {K:W.Frag} {mg:Str->Option Value} {base:Heap}
def wO:List (dQ × V):=gU [] [(.inr "next",.int 3),(.inr "has",.int 3),(.inr "kept",.int 7),(.inr "came",.int 6),(.inr "asked",.int 2),(.inr "done",.int 4)]
theorem Pl:wO=[(.inr "next",.int 3),(.inr "has",.int 3),(.inr "kept",.int 7),(.inr "came",.int 6),(.inr "asked",.int 2),(.inr "done",.int 4)]:=by decide +kernel
theorem Lb (z:Str):dB wO (.inr z)=(PTS.lookup z).map fun ks=>V.int ((ks.length:Int)+1):=by
 rw[Pl];unfold dB PTS;have e:∀x:Str,(decide ((Sum.inr x:dQ)=.inr z))=(z == x):=fun x=>by
  rw[Bool.eq_iff_iff,decide_eq_true_iff,beq_iff_eq];constructor
  ·intro h;injection h with h;exact h.symm
  ·intro h;rw[h]
 simp only [List.find?_cons,List.lookup_cons,List.find?_nil,List.lookup_nil,e]
 repeat' split
 all_goals first | rfl | simp_all
theorem zA {wd:Str} {ks:List V} (h:PTS.lookup wd=some ks):(wd="next"/\ks=[.str "next",.str "turn"])∨(wd="has"/\ks=[.str "name",.str "amount"])∨(wd="kept"/\ks=[.str "number",.str "turn",.str "name",.str "key",.str "deed",.str "answer"])∨(wd="came"/\ks=[.str "number",.str "turn",.str "name",.str "key",.str "deed"])∨(wd="asked"/\ks=[.str "number"])∨(wd="done"/\ks=[.str "number",.str "turn",.str "answer"]):=by
 have m:=kZ h
 unfold PTS at m;simp only [List.mem_cons,List.not_mem_nil,or_false,Prod.mk.injEq]at m
 exact m
theorem dZ {a b c d:Int} {y:V} (h:aO a b y=true) (h1:c<=a) (h2:b<=d):aO c d y=true:=by
 obtain⟨n,e,h3,h4⟩:=cE.mp h
 exact cE.mpr ⟨n,e,Zo,Zo⟩
theorem eE {r:List V} {a b:Int} (h:bN r [(a,b)]=true):∃y,r=[y]/\aO a b y=true:=by
 match r with
 | []=>rw[aQ Zs]at h;cases h
 | [y]=>rw[eQ]at h;exact⟨y,rfl,h⟩
 | _::_::_=>rw[aQ Zs]at h;cases h
theorem zB {r:List V} {a b c d:Int} (h:bN r [(a,b),(c,d)]=true):∃y z,r=[y,z]/\aO a b y=true/\aO c d z=true:=by
 match r with
 | []=>rw[aQ Zs]at h;cases h
 | [_]=>rw[aQ Zs]at h;cases h
 | [y,z]=>rw[Ky,Bool.and_eq_true]at h;exact⟨y,z,rfl,h.1,h.2⟩
 | _::_::_::_=>rw[aQ Zs]at h;cases h
theorem zC {y:V} (h:aO 0 1000000000000 y=true):bH [.str "is",y]=true:=by
 rw[fR];unfold iP;rw[Zh.1];simp [eN,h]
theorem Lc {y z:V} (h:aO 0 999999999999 y=true) (h2:aO 1 1000000000000 z=true):bH [.str "is",y,z]=true:=by
 rw[fR];unfold iP;rw[Zh.1];simp [eN,h,h2]
theorem rR {y:V} (h:aO 0 999999999999 y=true):bH [.str "short",y]=true:=by
 rw[fR];unfold iP;rw[Zh.2.2.1];simp [eN,h]
theorem uA {y:V} (h:aO 1 1000000000000 y=true):bH [.str "full",y]=true:=by
 rw[fR];unfold iP;rw[Zh.2.2.2];simp [eN,h]
theorem wP {hs:List Str} {ps:Bool} {bi bs bf:Option (List (Int × Int))} {u:Str} {r:List V} (hn:∀z∈hs,isNm z)
  (hi:∀b,bi=some b->bN r b=true->bH (.str "is"::r)=true) (hs':∀b,bs=some b->bN r b=true->bH (.str "short"::r)=true) (hf:∀b,bf=some b->bN r b=true->bH (.str "full"::r)=true)
  (h:cX hs ps bi bs bf u r=true):bH (.str u::r)=true:=by
 unfold cX at h;by_cases h1:u="no"
 ·subst h1;rw[if_pos rfl]at h;match r,h with
  | [y],h=>
   unfold mU at h;cases y with
   | str z=>
    have:=hn z (of_decide_eq_true h)
    unfold bH;rw[if_pos (show kD [V.str "no",V.str z]=.str "no" from rfl)];exact fW this
   | _=>cases h
 rw[if_neg h1]at h;by_cases h2:u="ok"
 ·subst h2;rw[if_pos rfl,Bool.and_eq_true]at h;cases r with
  | nil=>rw[fR];unfold iP;simp
  | cons y r=>cases h.2
 rw[if_neg h2]at h;by_cases h3:u="is"
 ·subst h3;rw[if_pos rfl]at h;cases bi with
  | none=>cases h
  | some b=>exact hi b rfl h
 rw[if_neg h3]at h;by_cases h4:u="short"
 ·subst h4;rw[if_pos rfl]at h;cases bs with
  | none=>cases h
  | some b=>exact hs' b rfl h
 rw[if_neg h4]at h;by_cases h5:u="full"
 ·subst h5;rw[if_pos rfl]at h;cases bf with
  | none=>cases h
  | some b=>exact hf b rfl h
 rw[if_neg h5]at h;cases h
theorem Gg {wd:Str} {n:Int} {xs:List V} {as:List (Str × List V)} {ys:List V} (h:DWN wd n xs as) (h1:1<=n) (h2:n<=1000000000000) (ha:cK wd (as.map (·.1)) n ys=true):bH ys=true:=by
 obtain⟨u,r,rfl⟩:∃u r,ys=.str u::r:=by
  by_cases hc:∃u r,ys=.str u::r
  ·exact hc
  ·rw[nE fun u r e=>hc ⟨u,r,e⟩]at ha;cases ha
 have hn:∀z∈as.map (·.1),isNm z:=fun z hz=>by obtain⟨q,hq,e⟩:=Zmm.mp hz;rw[<- e];exact h.nm q hq
 obtain⟨one,other,nm,cs,hw⟩:=h.ex
 have badd:∀ {wd:Str} {hs:List Str},wd="add"∨wd="fetch"->(∀z∈hs,isNm z)->cK wd hs n (.str u::r)=true->bH (.str u::r)=true:=fun {wd hs} hwd hn ha=>by
  rw[pR _ _ _ _ _ hwd]at ha;refine wP hn (fun b e h=>?_) (fun b e h=>by cases e) (fun b e h=>?_) ha
  ·cases e;obtain⟨y,rfl,hy⟩:=eE h;exact zC (dZ hy Zo Zo)
  ·cases e;obtain⟨y,rfl,hy⟩:=eE h;exact uA (dZ hy Zo Zo)
 have btake:∀ {wd:Str} {hs:List Str},wd="take"∨wd="send"->(∀z∈hs,isNm z)->cK wd hs n (.str u::r)=true->bH (.str u::r)=true:=fun {wd hs} hwd hn ha=>by
  rw[lH _ _ _ _ _ hwd]at ha;refine wP hn (fun b e h=>?_) (fun b e h=>?_) (fun b e h=>by cases e) ha
  ·cases e;obtain⟨y,rfl,hy⟩:=eE h;exact zC (dZ hy Zo Zo)
  ·cases e;obtain⟨y,rfl,hy⟩:=eE h;exact rR (dZ hy Zo Zo)
 cases hw with
 | add=>exact badd (.inl rfl) hn ha
 | fetch=>exact badd (.inr rfl) hn ha
 | take=>exact btake (.inl rfl) hn ha
 | send=>exact btake (.inr rfl) hn ha
 | move=>
  rw[nF]at ha;refine wP hn (fun b e h=>?_) (fun b e h=>?_) (fun b e h=>?_) ha
  ·cases e;obtain⟨y,z,rfl,hy,hz⟩:=zB h;exact Lc (dZ hy Zo Zo) (dZ hz Zo Zo)
  ·cases e;obtain⟨y,rfl,hy⟩:=eE h;exact rR (dZ hy Zo Zo)
  ·cases e;obtain⟨y,rfl,hy⟩:=eE h;exact uA (dZ hy Zo Zo)
 | pass=>
  rw[Bj]at ha;exact wP hn (fun b e h=>by cases e) (fun b e h=>by cases e) (fun b e h=>by cases e) ha
theorem Gh {H:Hp} {x y:V} (hd:cC H x=true) (h:mG H x y=true):gB H y=true:=by
 obtain⟨a,xs,wd,n,as,rfl,g,hB,hw⟩:=rH hd
 rw[wE g hw]at h;unfold fX at h;unfold gB;cases hp:aY H y with
 | none=>rw[hp]at h;cases h
 | some ys=>
  rw[hp]at h;unfold bE at hB;rw[Bool.and_eq_true]at hB;obtain⟨m,e,h1,h2⟩:=cE.mp hB.2
  have:m=n:=by
   obtain⟨_,e2,_⟩:=hw.dn
   unfold Zc at e2;cases ha:eF xs (-1) with
   | none=>rw[ha]at e;cases e
   | some v=>
    rw[ha]at e e2;have ev:v=.int m:=e
    rw[ev]at e2;exact e2
  subst this;exact Gg hw h1 h2 h
theorem Pn (T:Txt K mg) (cLwhole:Callee P w K mg base 1 "_law_whole" ["_law_thing","_law_least","_law_most"] eZ) (cLis_word:Callee P w K mg base 1 "_law_is_word" ["_law_thing","_law_signs","_law_most"] mQ) (cLis_name:Callee P w K mg base 2 "_law_is_name" ["_law_thing"] (iM LET 8)) (cLis_deed:Callee P w K mg base 3 "_law_is_deed" ["_law_thing"] kW) (cLis_answer:Callee P w K mg base 2 "_law_is_answer" ["_law_deed_here","_law_thing"] oB) (cLis_some_answer:Callee P w K mg base 3 "_law_is_some_answer" ["_law_thing"] vV) (D:DefAt K mg "_law_is_row" gO ["_law_thing"]):Callee P w K mg base 4 "_law_is_row" ["_law_thing"] lC:=by
 refine D.go mL (fun vs H Q E h=>?_) (fun f cdv A outer s H vs Q E hr h=>?_)
 ·obtain⟨x,rfl,_⟩:=h;rfl
 ·obtain⟨x,rfl,tz,q⟩:=h
  have hLis_deed:=hr
  have hLis_some_answer:=hr
  have hLis_name:Room 2 _:=hr.mono Zd
  have hLis_answer:Room 2 _:=hr.mono Zd
  have hLwhole:Room 1 _:=hr.mono Zd
  have hLis_word:Room 1 _:=hr.mono Zd
  have hu64:=hr.units
  have hu1:=Nat.lt_trans (Nat.add_lt_add_left (show 1<64 by decide) _) hr.units
  have e12:(10:Int) ^ (12:Int).toNat=1000000000000:=by decide
  have e6:(10:Int) ^ (6:Int).toNat=1000000:=by decide
  refine⟨_,(R.ae (R.aj (R.tw (R.bc (R.aw (R.av (R.ba .tup (R.v 0) rfl T.b_isinstance rfl T.b_tuple bT))) (R.bc (R.ah (R.dt hu64) (R.v 0) (R.am R.aa)) (R.bh (R.aw (R.av (R.ba .str (R.ix (R.al (K:=K)) (R.v 0) R.ac) rfl T.b_isinstance rfl T.b_str fT))))))) (R.af (R.ag R.bl)) R.ak) (R.ae (R.ai (i:=1) mL.nd (R.ix (R.al (K:=K)) (R.v 0) R.ac)) (R.ae (R.aj (R.ah R.ne (R.ia hu1 (R.dh (R.be R.ad R.ac (R.be R.ad R.ac (R.be R.ad R.ac (R.be R.ad R.ac (R.be R.ad R.ac (R.be R.ad R.ac R.di))))))) (R.v 1) (R.bt R.ac)) (R.ao (R.au (K:=K)) rfl T.b_len aX (R.Z (R.v 0) R.aa))) (R.af (R.ag R.bl)) R.ak) (R.ae (R.aj (R.ah R.eq (R.v 1) R.ad) (R.af (R.ag (R.bj (R.fn cLis_name hLis_name rfl (R.Z (R.ix (R.al (K:=K)) (R.v 0) R.ac) R.aa)) (R.bp (R.fn cLwhole hLwhole rfl (R.Z (R.ix (R.al (K:=K)) (R.v 0) R.ac) (R.Z R.ac (R.Z (R.op R.bq R.ac R.ac) R.aa)))))))) R.ak) (R.ae (R.aj (R.aw (R.av (R.fn cLwhole hLwhole rfl (R.Z (R.ix (R.al (K:=K)) (R.v 0) R.ac) (R.Z R.ac (R.Z (R.ix (R.aq (K:=K)) (R.ap (R.Z R.ac (R.Z (R.op R.bq R.ac R.ac) R.aa))) (R.bn R.cr rfl T.b_int fU (R.Z (R.az R.eq (R.v 1) R.ad) R.aa))) R.aa)))))) (R.af (R.ag R.bl)) R.ak) (R.ae (R.aj (R.tw (R.bu (R.ah R.ne (R.v 1) R.ad) (R.bx (R.aw (R.av (R.fn cLwhole hLwhole rfl (R.Z (R.ix (R.al (K:=K)) (R.v 0) R.ac) (R.Z R.ac (R.Z (R.op R.bq R.ac R.ac) R.aa))))))))) (R.af (R.ag R.bl)) R.ak) (R.ae (R.aj (R.ah R.eq (R.v 1) R.ad) (R.af (R.ag (R.fn cLis_some_answer hLis_some_answer rfl (R.Z (R.ix (R.al (K:=K)) (R.v 0) R.ac) R.aa)))) R.ak) (R.ae (R.aj (R.ah (R.bz (K:=K)) (R.v 1) (R.am (R.Z R.ad (R.Z R.ad R.aa)))) (R.af (R.ag R.bl)) R.ak) (R.ae (R.aj (R.tw (R.bc (R.aw (R.av (R.fn cLis_name hLis_name rfl (R.Z (R.ix (R.al (K:=K)) (R.v 0) R.ac) R.aa)))) (R.bh (R.aw (R.av (R.fn cLis_word hLis_word rfl (R.Z (R.ix (R.al (K:=K)) (R.v 0) R.ac) (R.Z R.ad (R.Z R.ac R.aa))))))))) (R.af (R.ag R.bl)) R.ak) (R.af (R.ag (R.bj (R.fn cLis_deed hLis_deed rfl (R.Z (R.ix (R.al (K:=K)) (R.v 0) R.ac) R.aa)) (R.bp (R.or (R.az R.eq (R.v 1) R.ad) (R.bp (R.fn cLis_answer hLis_answer rfl (R.Z (R.ix (R.al (K:=K)) (R.v 0) R.ac) (R.Z (R.ix (R.al (K:=K)) (R.v 0) R.ac) R.aa)))))))))))))))))),?_⟩
  obtain⟨k,hk⟩:=tz.1.kd
  refine⟨k,hk,?_⟩
  rcases rQ tz.1 hk with⟨e1,e2⟩ | ⟨a,ys,rfl,ga,rfl⟩
  ·refine kR (c:=!xV .tup k) (by rw[e1];rfl) ?_
   have q':=q H (Same.refl H)
   unfold pX at q';rw[e2]at q';exact q'
  have hys:=tz.2 a ys rfl ga
  have eV:pX H (.ref a)=wC H ys:=by unfold pX;rw[cJ ga]
  rw[eV]at q;refine⟨Zs,fun t0 H0 s0 g0=>⟨ys,[],s0 _ _ ga,g0,fun j u v h1 h2=>by simp at h2,?_⟩⟩
  rw[pK];cases ys with
  | nil=>exact q H0 s0
  | cons y r=>
  obtain⟨ky,hky⟩:=((hys.2 y iW).same s0).1.kd
  refine⟨_,SqT.of (s0 _ _ ga),y,Ku _ _,ky,hky,?_⟩
  by_cases hs:∃u,y=.str u
  case neg=>
   have hy:∀u,y≠.str u:=fun u e=>hs ⟨u,e⟩
   have eB:wC H (y::r)=false:=by
    unfold wC;split
    ·rename_i u r' e;exact absurd (List.cons.inj e).1 (hy u)
    ·rfl
   rw[eB]at q;have hks:=Dd hky hy
   show if (!xV .str ky)=true then _ else _
   exact kR (by rw[hks];rfl) (q H0 s0)
  obtain⟨u,rfl⟩:=hs
  cases ky <;> first | exact hky.elim | skip
  unfold wC at q;dsimp only at q
  have ga0:=s0 _ _ ga
  refine⟨_,SqT.of ga0,.str u,Ku _ _,?_⟩
  dsimp only [aI];refine fun p hpn=>⟨aD,[(.inr "next",.int 3),(.inr "has",.int 3),(.inr "kept",.int 7),(.inr "came",.int 6),(.inr "asked",.int 2),(.inr "done",.int 4)],rfl,Zd,?_⟩
  have s1:Same H (aJ (aJ H0 p (.dK [])) p (.dK wO)):=s0.trans (by
   intro c o e;have:c≠p:=aH e hpn
   rw[aM this,aM this];exact e)
  have gp:aJ (aJ H0 p (.dK [])) p (.dK wO) p=some (.dK wO):=aD
  show ∃a,V.ref p=.ref a/\Zw (aJ (aJ H0 p (.dK [])) p (.dK wO)) a/\_
  refine⟨p,rfl,.inl ⟨_,.inl gp⟩,?_⟩
  show vr 1 _ (aJ (aJ H0 p (.dK [])) p (.dK wO)) _
  generalize aJ (aJ H0 p (.dK [])) p (.dK wO)=H1 at s1 gp;have ga1:=s1 _ _ ga
  refine⟨_,.inl ⟨wO,.inr u,.inl gp,rfl,rfl⟩,?_⟩
  rw[Lb];cases hl:PTS.lookup u with
  | none=>
   rw[hl]at q;dsimp only [Option.map,Option.getD];refine⟨_,.inr (SqT.of ga1),?_⟩
   exact q H1 s1
  | some ks=>
  rw[hl]at q;dsimp only at q
  dsimp only [Option.map,Option.getD];refine⟨_,.inr (SqT.of ga1),?_⟩
  refine aV (fun h6=>?_) (fun h6=>?_)
  ·have h6':¬ ((ks.length:Int)+1=((V.str u::r).length:Int)):=by simpa using h6
   rw[decide_eq_false (by rw[fI]at h6';omega)]at q
   exact q H1 s1
  have h6':(ks.length:Int)+1=((V.str u::r).length:Int):=by simpa using h6
  have hlen:r.length=ks.length:=by rw[fI]at h6';omega
  rw[decide_eq_true hlen,Bool.true_and]at q;dsimp only [aR];have tg:∀ {H':Hp},Same H H'->∀ {y:V},y∈r->Tg H' y:=fun s' y hy=>(hys.2 y (gT _ hy)).same s'
  rcases zA hl with⟨hu,rfl⟩ | ⟨hu,rfl⟩ | ⟨hu,rfl⟩ | ⟨hu,rfl⟩ | ⟨hu,rfl⟩ | ⟨hu,rfl⟩
  ·match r,hlen with
   | [y1,y2],_=>
    have eq:((([.str "next",.str "turn"]:List V).zip [y1,y2]).all (fun q=>gC H q.1 q.2)&&(!decide (u="kept")||mG H ([y1,y2].getD 4 .non) ([y1,y2].getD 5 .non)))=(aO 1 1000000 y1&&aO 0 1000000000000 y2):=by
     have ek:decide (u="kept")=false:=decide_eq_false (by rw[hu];decide +kernel)
     rw[ek,Bool.not_false,Bool.true_or,Bool.and_true];show(bK H "next" y1&&(bK H "turn" y2&&true))=_
     rw[Au,jP,Bool.and_true]
    rw[eq]at q;refine iK (c:=decide (u="has")) (decide_eq_false (by rw[hu];decide +kernel)) ?_
    dsimp only [aR];refine⟨_,SqT.of ga1,y1,aF (j:=1) rfl,⟨Zd,Zd,Zd⟩,dU rfl,fun l hl'=>⟨_,SqL.of aD,.int 1000000,?_,y1,1,1000000,rfl,((tg s1 (y:=y1) Zs).same (aA hl')).1.pt,fun H2 s2'=>?_⟩⟩
    ·rw[hu];rfl
    have s2:=(s1.trans (aA hl')).trans s2'
    have ga2:=s2 _ _ ga
    show if (!aO 1 1000000 y1)=true then _ else _
    refine aV (fun h7=>?_) (fun h7=>?_)
    ·have h7':aO 1 1000000 y1=false:=by simpa using h7
     have q':=q H2 s2
     rw[h7']at q';exact q'
    have h7':aO 1 1000000 y1=true:=by simpa using h7
    rw[h7',Bool.true_and]at q;dsimp only [aR];refine iY (t:=jJ _ _) (fun v H'=>v=!aO 0 1000000000000 y2/\Same H H') (fun kk hkk=>?_) (fun v H3 ⟨ev,s3⟩=>?_)
    ·refine kR (c:=!decide (u="asked")) (by rw[decide_eq_false (by rw[hu];decide +kernel)];rfl) ?_
     refine⟨_,SqT.of ga2,y2,aF (j:=2) rfl,⟨Zd,Zd,Zd⟩,y2,0,_,rfl,(tg s2 (y:=y2) Zs).1.pt,fun H3 s3=>?_⟩
     rw[e12];exact hkk _ _ ⟨rfl,s2.trans s3⟩
    subst ev;have ga3:=s3 _ _ ga
    refine aV (fun h8=>?_) (fun h8=>?_)
    ·have h8':aO 0 1000000000000 y2=false:=by simpa using h8
     have q':=q H3 s3
     rw[h8']at q';exact q'
    have h8':aO 0 1000000000000 y2=true:=by simpa using h8
    rw[h8']at q;dsimp only [aR];refine iK (c:=decide (u="done")) (decide_eq_false (by rw[hu];decide +kernel)) ?_
    dsimp only [aR];refine⟨Zs,fun t4 H4 s4' g4=>⟨t4,_,rfl,.inr (SqT.of g4),rfl,rfl,?_⟩⟩
    have s4:=s3.trans s4'
    have ga4:=s4 _ _ ga
    refine kR (c:=cQ (.str u) [.str "next",.str "asked"]) (by rw[hu];decide +kernel) ?_
    exact q H4 s4
  ·match r,hlen with
   | [y1,y2],_=>
    have eq:((([.str "name",.str "amount"]:List V).zip [y1,y2]).all (fun q=>gC H q.1 q.2)&&(!decide (u="kept")||mG H ([y1,y2].getD 4 .non) ([y1,y2].getD 5 .non)))=(dF y1&&aO 1 1000000000000 y2):=by
     have ek:decide (u="kept")=false:=decide_eq_false (by rw[hu];decide +kernel)
     rw[ek,Bool.not_false,Bool.true_or,Bool.and_true];show(bK H "name" y1&&(bK H "amount" y2&&true))=_
     rw[nC,wD,Bool.and_true]
    rw[eq]at q;refine kR (c:=decide (u="has")) (decide_eq_true (by rw[hu])) ?_
    obtain⟨k1,hk1,hz1⟩:=(tg s1 (y:=y1) Zs).1.pt
    refine⟨_,SqT.of ga1,y1,aF (j:=1) rfl,y1,k1,rfl,hk1,hz1,fun H2 s2=>?_⟩
    have s12:=s1.trans s2
    show if dF y1=true then _ else _
    refine aV (fun h9=>?_) (fun h9=>?_)
    ·rw[h9,Bool.true_and]at q;refine⟨_,SqT.of (s2 _ _ ga1),y2,aF (j:=2) rfl,⟨Zd,Zd,Zd⟩,y2,1,_,rfl,(tg s12 (y:=y2) Zs).1.pt,fun H3 s3=>?_⟩
     rw[e12];exact q H3 (s12.trans s3)
    ·have q':=q H2 s12
     rw[h9]at q';exact q'
  ·match r,hlen with
   | [y1,y2,y3,y4,y5,y6],_=>
    have eq:((([.str "number",.str "turn",.str "name",.str "key",.str "deed",.str "answer"]:List V).zip [y1,y2,y3,y4,y5,y6]).all (fun q=>gC H q.1 q.2)&&(!decide (u="kept")||mG H ([y1,y2,y3,y4,y5,y6].getD 4 .non) ([y1,y2,y3,y4,y5,y6].getD 5 .non)))=(aO 1 999999 y1&&(aO 0 1000000000000 y2&&(dF y3&&(bI y4 (LET++nH) 12&&(cC H y5&&mG H y5 y6))))):=by
     have ek:decide (u="kept")=true:=decide_eq_true (by rw[hu])
     rw[ek,Bool.not_true,Bool.false_or];show((bK H "number" y1&&(bK H "turn" y2&&(bK H "name" y3&&(bK H "key" y4&&(bK H "deed" y5&&(bK H "answer" y6&&true))))))&&mG H y5 y6)=_
     rw[gF,jP,nC,tW,mZ,oF,Bool.and_true];cases h5:cC H y5 with
     | false=>simp
     | true=>
      cases h6:mG H y5 y6 with
      | false=>simp
      | true=>rw[Gh h5 h6];simp
    rw[eq]at q;refine iK (c:=decide (u="has")) (decide_eq_false (by rw[hu];decide +kernel)) ?_
    dsimp only [aR];refine⟨_,SqT.of ga1,y1,aF (j:=1) rfl,⟨Zd,Zd,Zd⟩,dU rfl,fun l hl'=>⟨_,SqL.of aD,.int 999999,?_,y1,1,999999,rfl,((tg s1 (y:=y1) Zs).same (aA hl')).1.pt,fun H2 s2'=>?_⟩⟩
    ·rw[hu];rfl
    have s2:=(s1.trans (aA hl')).trans s2'
    have ga2:=s2 _ _ ga
    show if (!aO 1 999999 y1)=true then _ else _
    refine aV (fun h7=>?_) (fun h7=>?_)
    ·have h7':aO 1 999999 y1=false:=by simpa using h7
     have q':=q H2 s2
     rw[h7']at q';exact q'
    have h7':aO 1 999999 y1=true:=by simpa using h7
    rw[h7',Bool.true_and]at q;dsimp only [aR];refine iY (t:=jJ _ _) (fun v H'=>v=!aO 0 1000000000000 y2/\Same H H') (fun kk hkk=>?_) (fun v H3 ⟨ev,s3⟩=>?_)
    ·refine kR (c:=!decide (u="asked")) (by rw[decide_eq_false (by rw[hu];decide +kernel)];rfl) ?_
     refine⟨_,SqT.of ga2,y2,aF (j:=2) rfl,⟨Zd,Zd,Zd⟩,y2,0,_,rfl,(tg s2 (y:=y2) Zs).1.pt,fun H3 s3=>?_⟩
     rw[e12];exact hkk _ _ ⟨rfl,s2.trans s3⟩
    subst ev;have ga3:=s3 _ _ ga
    refine aV (fun h8=>?_) (fun h8=>?_)
    ·have h8':aO 0 1000000000000 y2=false:=by simpa using h8
     have q':=q H3 s3
     rw[h8']at q';exact q'
    have h8':aO 0 1000000000000 y2=true:=by simpa using h8
    rw[h8',Bool.true_and]at q;dsimp only [aR];refine iK (c:=decide (u="done")) (decide_eq_false (by rw[hu];decide +kernel)) ?_
    dsimp only [aR];refine⟨Zs,fun t4 H4 s4' g4=>⟨t4,_,rfl,.inr (SqT.of g4),rfl,rfl,?_⟩⟩
    have s4:=s3.trans s4'
    have ga4:=s4 _ _ ga
    refine iK (c:=cQ (.str u) [.str "next",.str "asked"]) (by rw[hu];decide +kernel) ?_
    dsimp only [aR];refine iY (t:=Wg _ _) (fun v H'=>v=!(dF y3&&bI y4 (LET++nH) 12)/\Same H H') (fun kk hkk=>?_) (fun v H5 ⟨ev,s5⟩=>?_)
    ·obtain⟨k3,hk3,hz3⟩:=(tg s4 (y:=y3) Zs).1.pt
     refine⟨_,SqT.of ga4,y3,aF (j:=3) rfl,y3,k3,rfl,hk3,hz3,fun H5 s5=>?_⟩
     show if (!dF y3)=true then _ else _
     refine aV (fun h9=>?_) (fun h9=>?_)
     ·have h9':dF y3=false:=by simpa using h9
      exact hkk _ _ ⟨by rw[h9'];rfl,s4.trans s5⟩
     have h9':dF y3=true:=by simpa using h9
     obtain⟨k4,hk4,hz4⟩:=(tg (s4.trans s5) (y:=y4) Zs).1.pt
     refine⟨_,SqT.of (s5 _ _ ga4),y4,aF (j:=4) rfl,y4,_,12,k4,rfl,hk4,hz4,fun H6 s6=>hkk _ _ ⟨?_,(s4.trans s5).trans s6⟩⟩
     rw[h9',Bool.true_and,show(("abcdefghijklmnopqrstuvwxyz0123456789":Str).cps.toList)=LET++nH from vQ]
    subst ev;have ga5:=s5 _ _ ga
    refine aV (fun h9=>?_) (fun h9=>?_)
    ·have h9':(dF y3&&bI y4 (LET++nH) 12)=false:=by rw[Bool.not_eq_true']at h9;exact h9
     have q':=q H5 s5
     rw[<- Bool.and_assoc,h9']at q';exact q'
    have h9':(dF y3&&bI y4 (LET++nH) 12)=true:=by simpa using h9
    rw[<- Bool.and_assoc,h9',Bool.true_and]at q;dsimp only [aR];have tg5:=tg s5 (y:=y5) Zs
    refine⟨_,SqT.of ga5,y5,aF (j:=5) rfl,y5,rfl,tg5.th.1,tg5.th.2,fun H6 s6=>?_⟩
    have s56:=s5.trans s6
    rw[mW s5 (tg (Same.refl H) (y:=y5) Zs).1]
    show if cC H y5=true then _ else _
    refine aV (fun h10=>?_) (fun h10=>?_)
    ·rw[h10,Bool.true_and]at q;obtain⟨b5,xs,wd',n',as,rfl,g5,_,hdw⟩:=rH h10
     refine iK (c:=decide (u="came")) (decide_eq_false (by rw[hu];decide +kernel)) ?_
     have tg6:=tg (Same.refl H) (y:=y6) Zs
     refine⟨_,SqT.of (s6 _ _ ga5),_,aF (j:=5) rfl,_,SqT.of (s6 _ _ ga5),y6,aF (j:=6) rfl,b5,wd',n',xs,as,y6,rfl,s56 _ _ g5,hdw,tg6.same s56,fun H7 s7=>?_⟩
     rw[lL s56 tg6.1,<- wE g5 hdw];exact q H7 (s56.trans s7)
    ·have q':=q H6 s56
     rw[h10]at q';exact q'
  ·match r,hlen with
   | [y1,y2,y3,y4,y5],_=>
    have eq:((([.str "number",.str "turn",.str "name",.str "key",.str "deed"]:List V).zip [y1,y2,y3,y4,y5]).all (fun q=>gC H q.1 q.2)&&(!decide (u="kept")||mG H ([y1,y2,y3,y4,y5].getD 4 .non) ([y1,y2,y3,y4,y5].getD 5 .non)))=(aO 1 999999 y1&&(aO 0 1000000000000 y2&&(dF y3&&(bI y4 (LET++nH) 12&&cC H y5)))):=by
     have ek:decide (u="kept")=false:=decide_eq_false (by rw[hu];decide +kernel)
     rw[ek,Bool.not_false,Bool.true_or,Bool.and_true];show(bK H "number" y1&&(bK H "turn" y2&&(bK H "name" y3&&(bK H "key" y4&&(bK H "deed" y5&&true)))))=_
     rw[gF,jP,nC,tW,mZ,Bool.and_true]
    rw[eq]at q;refine iK (c:=decide (u="has")) (decide_eq_false (by rw[hu];decide +kernel)) ?_
    dsimp only [aR];refine⟨_,SqT.of ga1,y1,aF (j:=1) rfl,⟨Zd,Zd,Zd⟩,dU rfl,fun l hl'=>⟨_,SqL.of aD,.int 999999,?_,y1,1,999999,rfl,((tg s1 (y:=y1) Zs).same (aA hl')).1.pt,fun H2 s2'=>?_⟩⟩
    ·rw[hu];rfl
    have s2:=(s1.trans (aA hl')).trans s2'
    have ga2:=s2 _ _ ga
    show if (!aO 1 999999 y1)=true then _ else _
    refine aV (fun h7=>?_) (fun h7=>?_)
    ·have h7':aO 1 999999 y1=false:=by simpa using h7
     have q':=q H2 s2
     rw[h7']at q';exact q'
    have h7':aO 1 999999 y1=true:=by simpa using h7
    rw[h7',Bool.true_and]at q;dsimp only [aR];refine iY (t:=jJ _ _) (fun v H'=>v=!aO 0 1000000000000 y2/\Same H H') (fun kk hkk=>?_) (fun v H3 ⟨ev,s3⟩=>?_)
    ·refine kR (c:=!decide (u="asked")) (by rw[decide_eq_false (by rw[hu];decide +kernel)];rfl) ?_
     refine⟨_,SqT.of ga2,y2,aF (j:=2) rfl,⟨Zd,Zd,Zd⟩,y2,0,_,rfl,(tg s2 (y:=y2) Zs).1.pt,fun H3 s3=>?_⟩
     rw[e12];exact hkk _ _ ⟨rfl,s2.trans s3⟩
    subst ev;have ga3:=s3 _ _ ga
    refine aV (fun h8=>?_) (fun h8=>?_)
    ·have h8':aO 0 1000000000000 y2=false:=by simpa using h8
     have q':=q H3 s3
     rw[h8']at q';exact q'
    have h8':aO 0 1000000000000 y2=true:=by simpa using h8
    rw[h8',Bool.true_and]at q;dsimp only [aR];refine iK (c:=decide (u="done")) (decide_eq_false (by rw[hu];decide +kernel)) ?_
    dsimp only [aR];refine⟨Zs,fun t4 H4 s4' g4=>⟨t4,_,rfl,.inr (SqT.of g4),rfl,rfl,?_⟩⟩
    have s4:=s3.trans s4'
    have ga4:=s4 _ _ ga
    refine iK (c:=cQ (.str u) [.str "next",.str "asked"]) (by rw[hu];decide +kernel) ?_
    dsimp only [aR];refine iY (t:=Wg _ _) (fun v H'=>v=!(dF y3&&bI y4 (LET++nH) 12)/\Same H H') (fun kk hkk=>?_) (fun v H5 ⟨ev,s5⟩=>?_)
    ·obtain⟨k3,hk3,hz3⟩:=(tg s4 (y:=y3) Zs).1.pt
     refine⟨_,SqT.of ga4,y3,aF (j:=3) rfl,y3,k3,rfl,hk3,hz3,fun H5 s5=>?_⟩
     show if (!dF y3)=true then _ else _
     refine aV (fun h9=>?_) (fun h9=>?_)
     ·have h9':dF y3=false:=by simpa using h9
      exact hkk _ _ ⟨by rw[h9'];rfl,s4.trans s5⟩
     have h9':dF y3=true:=by simpa using h9
     obtain⟨k4,hk4,hz4⟩:=(tg (s4.trans s5) (y:=y4) Zs).1.pt
     refine⟨_,SqT.of (s5 _ _ ga4),y4,aF (j:=4) rfl,y4,_,12,k4,rfl,hk4,hz4,fun H6 s6=>hkk _ _ ⟨?_,(s4.trans s5).trans s6⟩⟩
     rw[h9',Bool.true_and,show(("abcdefghijklmnopqrstuvwxyz0123456789":Str).cps.toList)=LET++nH from vQ]
    subst ev;have ga5:=s5 _ _ ga
    refine aV (fun h9=>?_) (fun h9=>?_)
    ·have h9':(dF y3&&bI y4 (LET++nH) 12)=false:=by rw[Bool.not_eq_true']at h9;exact h9
     have q':=q H5 s5
     rw[<- Bool.and_assoc,h9']at q';exact q'
    have h9':(dF y3&&bI y4 (LET++nH) 12)=true:=by simpa using h9
    rw[<- Bool.and_assoc,h9',Bool.true_and]at q;dsimp only [aR];have tg5:=tg s5 (y:=y5) Zs
    refine⟨_,SqT.of ga5,y5,aF (j:=5) rfl,y5,rfl,tg5.th.1,tg5.th.2,fun H6 s6=>?_⟩
    have s56:=s5.trans s6
    rw[mW s5 (tg (Same.refl H) (y:=y5) Zs).1]
    show if cC H y5=true then _ else _
    refine aV (fun h10=>?_) (fun h10=>?_)
    ·rw[h10]at q;refine kR (c:=decide (u="came")) (decide_eq_true hu) ?_
     exact q H6 s56
    ·have q':=q H6 s56
     rw[h10]at q';exact q'
  ·match r,hlen with
   | [y1],_=>
    have eq:((([.str "number"]:List V).zip [y1]).all (fun q=>gC H q.1 q.2)&&(!decide (u="kept")||mG H ([y1].getD 4 .non) ([y1].getD 5 .non)))=(aO 1 999999 y1):=by
     have ek:decide (u="kept")=false:=decide_eq_false (by rw[hu];decide +kernel)
     rw[ek,Bool.not_false,Bool.true_or,Bool.and_true];show(bK H "number" y1&&true)=_
     rw[gF,Bool.and_true]
    rw[eq]at q;refine iK (c:=decide (u="has")) (decide_eq_false (by rw[hu];decide +kernel)) ?_
    dsimp only [aR];refine⟨_,SqT.of ga1,y1,aF (j:=1) rfl,⟨Zd,Zd,Zd⟩,dU rfl,fun l hl'=>⟨_,SqL.of aD,.int 999999,?_,y1,1,999999,rfl,((tg s1 (y:=y1) Zs).same (aA hl')).1.pt,fun H2 s2'=>?_⟩⟩
    ·rw[hu];rfl
    have s2:=(s1.trans (aA hl')).trans s2'
    have ga2:=s2 _ _ ga
    show if (!aO 1 999999 y1)=true then _ else _
    refine aV (fun h7=>?_) (fun h7=>?_)
    ·have h7':aO 1 999999 y1=false:=by simpa using h7
     have q':=q H2 s2
     rw[h7']at q';exact q'
    have h7':aO 1 999999 y1=true:=by simpa using h7
    rw[h7']at q;dsimp only [aR];refine iK (c:=!decide (u="asked")) (by rw[decide_eq_true hu];rfl) ?_
    dsimp only [aR];refine iK (c:=decide (u="done")) (decide_eq_false (by rw[hu];decide +kernel)) ?_
    dsimp only [aR];refine⟨Zs,fun t4 H4 s4' g4=>⟨t4,_,rfl,.inr (SqT.of g4),rfl,rfl,?_⟩⟩
    have s4:=s2.trans s4'
    have ga4:=s4 _ _ ga
    refine kR (c:=cQ (.str u) [.str "next",.str "asked"]) (by rw[hu];decide +kernel) ?_
    exact q H4 s4
  ·match r,hlen with
   | [y1,y2,y3],_=>
    have eq:((([.str "number",.str "turn",.str "answer"]:List V).zip [y1,y2,y3]).all (fun q=>gC H q.1 q.2)&&(!decide (u="kept")||mG H ([y1,y2,y3].getD 4 .non) ([y1,y2,y3].getD 5 .non)))=(aO 1 999999 y1&&(aO 0 1000000000000 y2&&gB H y3)):=by
     have ek:decide (u="kept")=false:=decide_eq_false (by rw[hu];decide +kernel)
     rw[ek,Bool.not_false,Bool.true_or,Bool.and_true];show(bK H "number" y1&&(bK H "turn" y2&&(bK H "answer" y3&&true)))=_
     rw[gF,jP,oF,Bool.and_true]
    rw[eq]at q;refine iK (c:=decide (u="has")) (decide_eq_false (by rw[hu];decide +kernel)) ?_
    dsimp only [aR];refine⟨_,SqT.of ga1,y1,aF (j:=1) rfl,⟨Zd,Zd,Zd⟩,dU rfl,fun l hl'=>⟨_,SqL.of aD,.int 999999,?_,y1,1,999999,rfl,((tg s1 (y:=y1) Zs).same (aA hl')).1.pt,fun H2 s2'=>?_⟩⟩
    ·rw[hu];rfl
    have s2:=(s1.trans (aA hl')).trans s2'
    have ga2:=s2 _ _ ga
    show if (!aO 1 999999 y1)=true then _ else _
    refine aV (fun h7=>?_) (fun h7=>?_)
    ·have h7':aO 1 999999 y1=false:=by simpa using h7
     have q':=q H2 s2
     rw[h7']at q';exact q'
    have h7':aO 1 999999 y1=true:=by simpa using h7
    rw[h7',Bool.true_and]at q;dsimp only [aR];refine iY (t:=jJ _ _) (fun v H'=>v=!aO 0 1000000000000 y2/\Same H H') (fun kk hkk=>?_) (fun v H3 ⟨ev,s3⟩=>?_)
    ·refine kR (c:=!decide (u="asked")) (by rw[decide_eq_false (by rw[hu];decide +kernel)];rfl) ?_
     refine⟨_,SqT.of ga2,y2,aF (j:=2) rfl,⟨Zd,Zd,Zd⟩,y2,0,_,rfl,(tg s2 (y:=y2) Zs).1.pt,fun H3 s3=>?_⟩
     rw[e12];exact hkk _ _ ⟨rfl,s2.trans s3⟩
    subst ev;have ga3:=s3 _ _ ga
    refine aV (fun h8=>?_) (fun h8=>?_)
    ·have h8':aO 0 1000000000000 y2=false:=by simpa using h8
     have q':=q H3 s3
     rw[h8']at q';exact q'
    have h8':aO 0 1000000000000 y2=true:=by simpa using h8
    rw[h8',Bool.true_and]at q;dsimp only [aR];refine kR (c:=decide (u="done")) (decide_eq_true (by rw[hu])) ?_
    have tg3:=tg (Same.refl H) (y:=y3) Zs
    refine⟨_,SqT.of ga3,y3,aF (j:=3) rfl,y3,rfl,tg3.same s3,fun H4 s4=>?_⟩
    rw[rE s3 tg3.1];exact q H4 (s3.trans s4)
end
end KL
namespace KL
open PySem L2
section
variable {P:Program} {w:World} {K:W.Frag} {mg:Str->Option Value} {base:Heap}
theorem Ld:∀z∈([("add":Str),"take","move","send","fetch","pass"]:List Str),isNm z:=by
 intro z hz;simp only [List.mem_cons,List.not_mem_nil,or_false]at hz
 rcases hz with rfl | rfl | rfl | rfl | rfl | rfl <;> exact⟨Zk,Zk,Zk⟩
theorem Vq {z a:Str} {n:Int} (hz:z="add"∨z="take") (ha:isNm a) (h1:1<=n) (h2:n<=1000000000000):bE [.str z,.str a,.int n]=true:=(DeedIs.one z a n hz ha h1 h2).ok
theorem Vr {z a b:Str} {n:Int} (hz:z="send"∨z="fetch") (ha:isNm a) (hb:isNm b) (h1:1<=n) (h2:n<=1000000000000):bE [.str z,.str a,.str b,.int n]=true:=by
 show(bJ (.str z) [.str a,.str b]&&aO 1 1000000000000 (.int n))=true
 have e:bJ (.str z) [.str a,.str b]=true:=by
  rcases hz with rfl | rfl
  all_goals
   show(true&&(dF (.str a)&&(dF (.str b)&&true))&&(true||_))=true
   rw[fW ha,fW hb];rfl
 rw[e];show(decide (1<=n)&&decide (n<=1000000000000))=true
 rw[decide_eq_true h1,decide_eq_true h2];rfl
theorem oK {ns:List Str} {m:Nat} (h2:2<=ns.length) (h4:ns.length<=4) (hn:∀z∈ns,isNm z) (h1:1<=m) (hm:m<=1000000000000):Qr (ns.map V.str++[.int (m:Int)]) ns m:=
 ⟨rfl,h2,h4,fun z hz=>(hn z hz).2.1,fun z hz=>(Cy (hn z hz)).1,h1,hm⟩
theorem qH {ns:List Str} {m:Nat} (hn:∀z∈ns,isNm z) (hm:m<=1000000000000):∀y∈ns.map V.str++[.int (m:Int)],FlatW y:=fun y hy=>by
 rcases Zma.mp hy with h | h
 ·obtain⟨z,hz,rfl⟩:=Zmm.mp h
  exact .nm (hn z hz)
 ·rw[Zms.mp h];exact .num hm
theorem Zi {zs:List Str} {xs:List V} (hz:∀z∈zs,isNm z) (h:mM zs xs):DeedG xs:=by
 have dn:=Ld
 cases h with
 | one z a n hw ha h1 h2=>
  obtain⟨m,rfl⟩:=oR (show 0<=n by omega)
  have nz:isNm z:=dn z (by rcases hw with rfl | rfl <;> simp)
  have nn:∀y∈[z,a],isNm y:=Zfm.mpr ⟨nz,Zfm.mpr ⟨hz a ha,fun _ h=>nomatch h⟩⟩
  refine⟨Vq hw (hz a ha) h1 h2,⟨_,_,oK (ns:=[z,a]) Zs Zs nn Zo Zo⟩,?_,qH (ns:=[z,a]) nn Zo,Zs⟩
  rcases hw with rfl | rfl
  ·exact⟨_,_,_,⟨⟨a,a,a,_,.add⟩,fun _ h=>nomatch h⟩⟩
  ·exact⟨_,_,_,⟨⟨a,a,a,_,.take⟩,fun _ h=>nomatch h⟩⟩
 | move a b n ha hb hne h1 h2=>
  obtain⟨m,rfl⟩:=oR (show 0<=n by omega)
  have nn:∀y∈[("move":Str),a,b],isNm y:=Zfm.mpr ⟨dn _ Zs,Zfm.mpr ⟨hz a ha,Zfm.mpr ⟨hz b hb,fun _ h=>nomatch h⟩⟩⟩
  exact⟨(DeedIs.two "move" a b m (.inl rfl) (hz a ha) (hz b hb) hne h1 h2).ok,⟨_,_,oK (ns:=["move",a,b]) Zs Zs nn Zo Zo⟩,⟨_,_,_,⟨⟨a,b,a,_,.move⟩,fun _ h=>nomatch h⟩⟩,qH (ns:=["move",a,b]) nn Zo,Zs⟩
 | two z a b n hw ha hb h1 h2=>
  obtain⟨m,rfl⟩:=oR (show 0<=n by omega)
  have nz:isNm z:=dn z (by rcases hw with rfl | rfl <;> simp)
  have nn:∀y∈[z,a,b],isNm y:=Zfm.mpr ⟨nz,Zfm.mpr ⟨hz a ha,Zfm.mpr ⟨hz b hb,fun _ h=>nomatch h⟩⟩⟩
  refine⟨Vr hw (hz a ha) (hz b hb) h1 h2,⟨_,_,oK (ns:=[z,a,b]) Zs Zs nn Zo Zo⟩,?_,qH (ns:=[z,a,b]) nn Zo,Zs⟩
  rcases hw with rfl | rfl
  ·exact⟨_,_,_,⟨⟨a,a,b,_,.send⟩,Zfm.mpr ⟨hz a ha,fun _ h=>nomatch h⟩⟩⟩
  ·exact⟨_,_,_,⟨⟨a,a,b,_,.fetch⟩,Zfm.mpr ⟨hz a ha,fun _ h=>nomatch h⟩⟩⟩
 | pass a b c n ha hb hc hne h1 h2=>
  obtain⟨m,rfl⟩:=oR (show 0<=n by omega)
  have nn:∀y∈[("pass":Str),a,b,c],isNm y:=Zfm.mpr ⟨dn _ Zs,Zfm.mpr ⟨hz a ha,Zfm.mpr ⟨hz b hb,Zfm.mpr ⟨hz c hc,fun _ h=>nomatch h⟩⟩⟩⟩
  exact⟨(DeedIs.three a b c m (hz a ha) (hz b hb) (hz c hc) hne h1 h2).ok,⟨_,_,oK (ns:=["pass",a,b,c]) Zs Zs nn Zo Zo⟩,⟨_,_,_,⟨⟨a,b,c,_,.pass⟩,Zfm.mpr ⟨hz a ha,Zfm.mpr ⟨hz b hb,fun _ h=>nomatch h⟩⟩⟩⟩,qH (ns:=["pass",a,b,c]) nn Zo,Zs⟩
theorem Vs {lo hi:Int} {a:Int} (h1:lo<=a) (h2:a<=hi):aO lo hi (.int a)=true:=by
 show(decide (lo<=a)&&decide (a<=hi))=true
 rw[decide_eq_true h1,decide_eq_true h2];rfl
theorem iJ {lo hi a:Int} (h1:lo<=a) (h2:a<=hi):bN [.int a] [(lo,hi)]=true:=by
 show(true&&(aO lo hi (.int a)&&true))=true
 rw[Vs h1 h2];rfl
theorem De {lo hi a lo' hi' b:Int} (h1:lo<=a) (h2:a<=hi) (h3:lo'<=b) (h4:b<=hi'):bN [.int a,.int b] [(lo,hi),(lo',hi')]=true:=by
 show(true&&(aO lo hi (.int a)&&(aO lo' hi' (.int b)&&true)))=true
 rw[Vs h1 h2,Vs h3 h4];rfl
theorem iQ {wd u:Str} {hs:List Str} {n:Int} {r:List V} {bs:List (Int × Int)} (hu:u="is"∨u="short"∨u="full") (hb:(jB wd n).lookup u=some bs) (hw:bN r bs=true):cK wd hs n (.str u::r)=true:=by
 rw[jE];have h1:u≠"no":=by rcases hu with rfl | rfl | rfl <;> decide +kernel
 have h2:u≠"ok":=by rcases hu with rfl | rfl | rfl <;> decide +kernel
 rw[if_neg h1,if_neg h2,hb];exact hw
theorem lV {u:Str} {r:List V} (hu:u≠"no") (q:Str × Int × List V) (hq:q∈WID) (h:cK q.1 (sC q.1) q.2.1 (.str u::r)=true):bH (.str u::r)=true:=by
 unfold bH;rw[if_neg (fun e=>hu (by injection e))]
 exact List.any_eq_true.mpr ⟨q,hq,h⟩
theorem aAL {zs:List Str} {xs:List V} {w:Str} {n:Int} {hs:List Str} (hz:∀z∈zs,isNm z) (hD:mM zs xs) (hS:lG xs w n hs):∃as,DWN w n xs as/\as.map (·.1)=hs/\1<=n/\n<=1000000000000/\∀h∈hs,isNm h:=by
 have no1:¬ (("move":Str)="send"∨("move":Str)="fetch"):=by decide +kernel
 cases hD with
 | one z a n' hw ha h1 h2=>
  cases hS with
  | one _ _ _ hw'=>
   rcases hw with rfl | rfl
   ·exact⟨[],⟨⟨a,a,a,_,.add⟩,fun _ h=>nomatch h⟩,rfl,h1,h2,fun _ h=>nomatch h⟩
   ·exact⟨[],⟨⟨a,a,a,_,.take⟩,fun _ h=>nomatch h⟩,rfl,h1,h2,fun _ h=>nomatch h⟩
 | move a b n' ha hb hne h1 h2=>
  generalize ew:("move":Str)=wm at hS;cases hS with
  | move _ _ _=>exact⟨[],⟨⟨a,b,a,_,.move⟩,fun _ h=>nomatch h⟩,rfl,h1,h2,fun _ h=>nomatch h⟩
  | two _ _ _ _ hw'=>rw[<- ew]at hw';exact absurd hw' no1
 | two z a b n' hw ha hb h1 h2=>
  cases hS with
  | move _ _ _=>exact absurd hw no1
  | two _ _ _ _ hw'=>
   rcases hw with rfl | rfl
   ·exact⟨_,⟨⟨a,a,b,_,.send⟩,Zfm.mpr ⟨hz a ha,fun _ h=>nomatch h⟩⟩,rfl,h1,h2,Zfm.mpr ⟨hz a ha,fun _ h=>nomatch h⟩⟩
   ·exact⟨_,⟨⟨a,a,b,_,.fetch⟩,Zfm.mpr ⟨hz a ha,fun _ h=>nomatch h⟩⟩,rfl,h1,h2,Zfm.mpr ⟨hz a ha,fun _ h=>nomatch h⟩⟩
 | pass a b c n' ha hb hc hne h1 h2=>
  cases hS with
  | pass _ _ _ _=>exact⟨_,⟨⟨a,b,c,_,.pass⟩,Zfm.mpr ⟨hz a ha,Zfm.mpr ⟨hz b hb,fun _ h=>nomatch h⟩⟩⟩,rfl,h1,h2,Zfm.mpr ⟨hz a ha,Zfm.mpr ⟨hz b hb,fun _ h=>nomatch h⟩⟩⟩
theorem aAM {zs:List Str} {xs ys:List V} {w:Str} {n:Int} {hs:List Str} (hz:∀z∈zs,isNm z) (hD:mM zs xs) (hS:lG xs w n hs) (hA:oJ w n hs ys):Vg xs ys:=by
 obtain⟨as,hd,ha,n1,n2,hh⟩:=aAL hz hD hS
 have wi:∀i,i<5->∀q,WID[i]?=some q->q∈WID:=fun i _ q h=>sN h
 cases hA with
 | short a hw h1 h2=>
  obtain⟨m,rfl⟩:=oR h1
  refine⟨.nums "short" [m] Zs Zs (by simp;omega),lV Zk _ (wi 3 Zd _ rfl) (iQ (.inr (.inl rfl)) rfl (iJ h1 (by dsimp only;omega))),⟨w,n,as,hd,?_⟩⟩
  rcases hw with rfl | rfl | rfl <;> exact iQ (.inr (.inl rfl)) rfl (iJ h1 h2)
 | full a hw h1 h2=>
  obtain⟨m,rfl⟩:=oR (show 0<=a by omega)
  refine⟨.nums "full" [m] Zs Zs (by simp;omega),lV Zk _ (wi 3 Zd _ rfl) (iQ (.inr (.inr rfl)) rfl (iJ (by dsimp only;omega) h2)),⟨w,n,as,hd,?_⟩⟩
  rcases hw with rfl | rfl | rfl <;> exact iQ (.inr (.inr rfl)) rfl (iJ h1 h2)
 | more a hw h1 h2=>
  obtain⟨m,rfl⟩:=oR (show 0<=a by omega)
  refine⟨.nums "is" [m] Zs Zs (by simp;omega),lV Zk _ (wi 0 Zd _ rfl) (iQ (.inl rfl) rfl (iJ (by dsimp only;omega) h2)),⟨w,n,as,hd,?_⟩⟩
  rcases hw with rfl | rfl <;> exact iQ (.inl rfl) rfl (iJ h1 h2)
 | less a hw h1 h2=>
  obtain⟨m,rfl⟩:=oR h1
  refine⟨.nums "is" [m] Zs Zs (by simp;omega),lV Zk _ (wi 1 Zd _ rfl) (iQ (.inl rfl) rfl (iJ h1 (by dsimp only;omega))),⟨w,n,as,hd,?_⟩⟩
  rcases hw with rfl | rfl <;> exact iQ (.inl rfl) rfl (iJ h1 h2)
 | both a b hw h1 h2 h3 h4=>
  obtain⟨m,rfl⟩:=oR h1
  obtain⟨k,rfl⟩:=oR (show 0<=b by omega)
  refine⟨.nums "is" [m,k] Zs Zs (by simp;omega),lV Zk _ (wi 2 Zd _ rfl) (iQ (.inl rfl) rfl (De h1 (by dsimp only;omega) (by dsimp only;omega) h4)),⟨w,n,as,hd,?_⟩⟩
  subst hw;exact iQ (.inl rfl) rfl (De h1 h2 h3 h4)
 | no h hw hm=>
  refine⟨.no h (hh h hm),?_,⟨w,n,as,hd,?_⟩⟩
  ·unfold bH;rw[if_pos (show kD [V.str "no",.str h]=.str "no" from rfl)];exact fW (hh h hm)
  ·rw[jE,if_pos rfl,ha];show decide (h∈hs)=true
   exact decide_eq_true hm
 | ok hw=>
  refine⟨.nums "ok" [] Zs Zs Zs,lV Zk _ (wi 4 Zd _ rfl) (by rw[jE,if_neg Zk,if_pos rfl];rfl),⟨w,n,as,hd,?_⟩⟩
  subst hw;rw[jE,if_neg Zk,if_pos rfl]
  rfl
end
end KL
namespace KL
open PySem L2
section
variable {P:Program} {w:World} {K:W.Frag} {mg:Str->Option Value} {base:Heap}
def Le:Sp:=fun vs H Q _=>∃(p ln lk:Addr) (zs ks:List Str),vs=[.ref p,.ref ln,.ref lk]/\PenAt H p/\H ln=some (.lst (zs.map V.str))/\H lk=some (.lst (ks.map V.str))/\zs.Nodup/\(2<=zs.length/\zs.length<=100)/\(∀z∈zs,isNm z)/\(1<=ks.length/\ks.length<=100)/\(∀z∈ks,yH z)/\∀t ps H',RowIs ps->RowAt H' t ps->PenAt H' p->K1 p H H'->Q (.ref t) H'
theorem Po (T:Txt K mg) (cLtake:Callee P w K mg base 1 "_law_take" ["_law_pen_here","_law_most"] gX) (cLnumber:Callee P w K mg base 2 "_law_number" ["_law_pen_here","_law_least","_law_most"] jN) (cLdeed:Callee P w K mg base 3 "_law_deed" ["_law_pen_here","_law_names_here"] yW) (cLanswer:Callee P w K mg base 3 "_law_answer" ["_law_pen_here","_law_deed_here"] rP) (D:DefAt K mg "_law_row" lU ["_law_pen_here","_law_names_here","_law_keys_here"]):Callee P w K mg base 4 "_law_row" ["_law_pen_here","_law_names_here","_law_keys_here"] Le:=by
 refine D.go cY (fun vs H Q E h=>?_) (fun f cdv A outer s H vs Q E hr h=>?_)
 ·obtain⟨p,ln,lk,zs,ks,rfl,_⟩:=h;rfl
 ·obtain⟨p,ln,lk,zs,ks,rfl,pn,hln,hlk,hnd,hzl,hzn,hkl,hky,q⟩:=h
  have hLtake:Room 1 _:=hr.mono Zd
  have hLnumber:Room 2 _:=hr.mono Zd
  have hLdeed:=hr
  have hLanswer:=hr
  refine⟨_,(R.ae (R.ai (i:=3) cY.nd (R.ix (R.aq (K:=K)) (R.ap (R.Z R.ad (R.Z R.ad (R.Z R.ad (R.Z R.ad (R.Z R.ad (R.Z R.ad R.aa))))))) (R.fn cLtake hLtake rfl (R.Z (R.v 0) (R.Z R.ac R.aa))))) (R.ae (R.ai (i:=4) cY.nd (R.fn cLnumber hLnumber rfl (R.Z (R.v 0) (R.Z R.ac (R.Z (R.op R.ar R.ac (R.bn R.cr rfl T.b_int fU (R.Z (R.az R.eq (R.v 3) R.ad) R.aa))) R.aa))))) (R.ae (R.ai (i:=5) cY.nd (R.fn cLnumber hLnumber rfl (R.Z (R.v 0) (R.Z R.ac (R.Z (R.op R.bq R.ac R.ac) R.aa))))) (R.ae (R.ai (i:=6) cY.nd (R.fn cLdeed hLdeed rfl (R.Z (R.v 0) (R.Z (R.v 1) R.aa)))) (R.ae (R.ai (i:=7) cY.nd (R.fn cLanswer hLanswer rfl (R.Z (R.v 0) (R.Z (R.v 6) R.aa)))) (R.ae (R.ai (i:=8) cY.nd (R.ix (R.aq (K:=K)) (R.v 1) (R.fn cLtake hLtake rfl (R.Z (R.v 0) (R.Z (R.ao (R.au (K:=K)) rfl T.b_len aX (R.Z (R.v 1) R.aa)) R.aa))))) (R.ae (R.ai (i:=9) cY.nd (R.ix (R.aq (K:=K)) (R.v 2) (R.fn cLtake hLtake rfl (R.Z (R.v 0) (R.Z (R.ao (R.au (K:=K)) rfl T.b_len aX (R.Z (R.v 2) R.aa)) R.aa))))) (R.ae (R.aj (R.ah R.eq (R.v 3) R.ad) (R.af (R.ag (R.am (R.Z (R.v 3) (R.Z (R.v 4) (R.Z (R.v 5) R.aa)))))) R.ak) (R.ae (R.aj (R.ah R.eq (R.v 3) R.ad) (R.af (R.ag (R.am (R.Z (R.v 3) (R.Z (R.v 8) (R.Z (R.ao (R.fe rfl) rfl T.b_max Ad (R.Z R.ac (R.Z (R.v 5) R.aa))) R.aa)))))) R.ak) (R.ae (R.aj (R.ah R.eq (R.v 3) R.ad) (R.af (R.ag (R.am (R.Z (R.v 3) (R.Z (R.v 4) R.aa))))) R.ak) (R.ae (R.aj (R.ah R.eq (R.v 3) R.ad) (R.af (R.ag (R.am (R.Z (R.v 3) (R.Z (R.v 4) (R.Z (R.v 5) (R.Z (R.v 7) R.aa))))))) R.ak) (R.af (R.ag (R.op R.eh (R.am (R.Z (R.v 3) (R.Z (R.v 4) (R.Z (R.v 5) (R.Z (R.v 8) (R.Z (R.v 9) (R.Z (R.v 6) R.aa))))))) (R.op R.fq (R.am (R.Z (R.v 7) R.aa)) (R.bn R.cr rfl T.b_int fU (R.Z (R.az R.eq (R.v 3) R.ad) R.aa))))))))))))))))),?_⟩
  have hzn0:zs≠[]:=fun e=>by rw[e]at hzl;exact absurd hzl.1 Zd
  have hkn0:ks≠[]:=fun e=>by rw[e]at hkl;exact absurd hkl.1 Zd
  have npl:=PenAt.neS pn hln hzn0
  have npk:=PenAt.neS pn hlk hkn0
  have e12:(10:Int) ^ (12:Int).toNat=1000000000000:=by decide
  refine⟨dU rfl,fun l0 h0=>⟨p,6,rfl,pn.same (aA h0),Zd,Zd,fun r G1 r0 r1 pn1 k1=>⟨_,SqL.of (k1 _ _ aD (pn.ne h0)),?_⟩⟩⟩
  obtain⟨wd,hwd,hat⟩:∃wd:Str,(wd="came"∨wd="done"∨wd="asked"∨wd="kept"∨wd="has"∨wd="next")/\eF [V.str "came",.str "done",.str "asked",.str "kept",.str "has",.str "next"] r=some (.str wd):=by
   rcases Zz r0 r1 with rfl | rfl | rfl | rfl | rfl | rfl
   ·exact⟨_,.inl rfl,rfl⟩
   ·exact⟨_,.inr (.inl rfl),rfl⟩
   ·exact⟨_,.inr (.inr (.inl rfl)),rfl⟩
   ·exact⟨_,.inr (.inr (.inr (.inl rfl))),rfl⟩
   ·exact⟨_,.inr (.inr (.inr (.inr (.inl rfl)))),rfl⟩
   ·exact⟨_,.inr (.inr (.inr (.inr (.inr rfl)))),rfl⟩
  refine⟨_,hat,?_⟩
  dsimp only [aI];have k01:K1 p H G1:=(K1.of (aA h0)).trans k1
  refine⟨p,1,_,rfl,pn1,by split <;> omega,by split <;> omega,fun n' G2 n0 n1 pn2 k2=>?_⟩
  dsimp only [aI];obtain⟨n,rfl⟩:=oR (show 0<=n' by omega)
  refine⟨⟨Zd,Zd,Zd⟩,p,0,_,rfl,pn2,Zd,Zd,fun t' G3 t0 t1 pn3 k3=>?_⟩
  dsimp only [aI];obtain⟨t,rfl⟩:=oR t0
  rw[e12]at t1;have k03:=(k01.trans k2).trans k3
  refine⟨p,ln,zs,rfl,pn3,k03 _ _ hln npl,hnd,hzl.1,hzl.2,fun td xs G4 hD gD pn4 k4=>?_⟩
  dsimp only [aI];refine⟨p,td,zs,xs,rfl,pn4,gD,hD,fun ta ys G5 w' n' hs hS hA gA pn5 k5=>?_⟩
  dsimp only [aI];have k05:=(k03.trans k4).trans k5
  have gD5:=k5 _ _ gD (PenAt.tup pn4 gD)
  refine⟨_,.inl (SqL.of (k05 _ _ hln npl)),p,_,rfl,pn5,by rw[aZ];omega,by rw[aZ];omega,fun i' G6 i0 i1 pn6 k6=>?_⟩
  obtain⟨i,rfl⟩:=oR i0
  rw[aZ]at i1;have hi:i<zs.length:=by omega
  have k06:=k05.trans k6
  refine⟨_,SqL.of (k06 _ _ hln npl),.str zs[i],aF (by rw[kH,jH hi];rfl),?_⟩
  dsimp only [aI];refine⟨_,.inl (SqL.of (k06 _ _ hlk npk)),p,_,rfl,pn6,by rw[aZ];omega,by rw[aZ];omega,fun j' G7 j0 j1 pn7 k7=>?_⟩
  obtain⟨j,rfl⟩:=oR j0
  rw[aZ]at j1;have hj:j<ks.length:=by omega
  have k07:=k06.trans k7
  refine⟨_,SqL.of (k07 _ _ hlk npk),.str ks[j],aF (by rw[kH,jH hj];rfl),?_⟩
  dsimp only [aI];have gD7:=k7 _ _ (k6 _ _ gD5 (PenAt.tup pn5 gD5)) (PenAt.tup pn6 (k6 _ _ gD5 (PenAt.tup pn5 gD5)))
  have gA7:=k7 _ _ (k6 _ _ gA (PenAt.tup pn5 gA)) (PenAt.tup pn6 (k6 _ _ gA (PenAt.tup pn5 gA)))
  have nmi:=hzn _ (List.getElem_mem hi)
  have kyj:=hky _ (List.getElem_mem hj)
  have dG:=Zi hzn hD
  have aG:=aAM hzn hD hS hA
  have fin:∀ {G:Hp} {a:Addr} {ps:List RP} {vs:List V},Same G7 G->G a=some (.tup vs)->RowIs ps->Paired (PAt G) ps vs->Q (.ref a) G:=fun sG g ri pv=>q _ _ _ ri ⟨_,g,pv⟩ (pn7.same sG) (k07.trans (K1.of sG))
  have n999:wd≠"next"->n<=999999:=fun hw=>by
   rw[if_neg (by rw[decide_eq_false hw];exact Bool.false_ne_true)]at n1
   omega
  have nmil:n<=1000000:=by
   have:(if decide (wd="next")=true then (1:Int) else 0)<=1:=by split <;> omega
   omega
  show if decide (wd="next")=true then _ else _
  refine aV (fun hw=>?_) (fun hw=>?_)
  ·have hw':=of_decide_eq_true hw
   subst hw';exact⟨Zs,fun a G sG g=>fin sG g (.next n t Zo nmil Zo) (.cons rfl (.cons rfl (.cons rfl .nil)))⟩
  have hnx:=of_decide_eq_false hw
  have n9:=n999 hnx
  dsimp only [aR];show if decide (wd="has")=true then _ else _
  refine aV (fun hw=>?_) (fun hw=>?_)
  ·have hw':=of_decide_eq_true hw
   subst hw';refine⟨Zs,fun a G sG g=>?_⟩
   have em:(if (t:Int) > 1 then (t:Int) else 1)=((max 1 t:Nat):Int):=by split <;> omega
   rw[em]at g;exact fin sG g (.has zs[i] (max 1 t) nmi Zo Zo) (.cons rfl (.cons rfl (.cons rfl .nil)))
  have hhas:=of_decide_eq_false hw
  dsimp only [aR];show if decide (wd="asked")=true then _ else _
  refine aV (fun hw=>?_) (fun hw=>?_)
  ·have hw':=of_decide_eq_true hw
   subst hw';exact⟨Zs,fun a G sG g=>fin sG g (.asked n Zo n9) (.cons rfl (.cons rfl .nil))⟩
  have hask:=of_decide_eq_false hw
  dsimp only [aR];show if decide (wd="done")=true then _ else _
  refine aV (fun hw=>?_) (fun hw=>?_)
  ·have hw':=of_decide_eq_true hw
   subst hw';exact⟨Zs,fun a G sG g=>fin sG g (.done n t xs ys Zo n9 Zo aG) (.cons rfl (.cons rfl (.cons rfl (.cons ⟨ta,rfl,sG _ _ gA7⟩ .nil))))⟩
  have hdo:=of_decide_eq_false hw
  dsimp only [aR];refine⟨Zs,fun a1 E1 sE1 gE1=>⟨Zs,fun a2 E2 sE2 gE2=>⟨_,gE2,Zs,?_,fun a3 E3 sE3 gE3=>?_⟩⟩⟩
  ·cases hb:decide (wd="kept") <;> simp
  refine⟨_,_,sE3 _ _ (sE2 _ _ gE1),gE3,by simp;split <;> simp,fun a4 E4 sE4 gE4=>?_⟩
  have sE:=((sE1.trans sE2).trans sE3).trans sE4
  have hck:wd="came"∨wd="kept":=by
   rcases hwd with h | h | h | h | h | h
   ·exact .inl h
   ·exact absurd h hdo
   ·exact absurd h hask
   ·exact .inr h
   ·exact absurd h hhas
   ·exact absurd h hnx
  rcases hck with rfl | rfl
  ·have:decide (("came":Str)="kept")=false:=by decide +kernel
   rw[this]at gE4;exact fin sE gE4 (.came n t zs[i] ks[j] xs Zo n9 Zo nmi kyj dG) (.cons rfl (.cons rfl (.cons rfl (.cons rfl (.cons rfl (.cons ⟨td,rfl,sE _ _ gD7⟩ .nil))))))
  ·have:decide (("kept":Str)="kept")=true:=by decide +kernel
   rw[this]at gE4;exact fin sE gE4 (.kept n t zs[i] ks[j] xs ys Zo n9 Zo nmi kyj dG aG) (.cons rfl (.cons rfl (.cons rfl (.cons rfl (.cons rfl (.cons ⟨td,rfl,sE _ _ gD7⟩ (.cons ⟨ta,rfl,sE _ _ gA7⟩ .nil)))))))
end
end KL
namespace KL
open PySem L2
section
variable {P:Program} {w:World} {K:W.Frag} {mg:Str->Option Value} {base:Heap}
def bB (z:Str):V:=match aK z with | some n=>.int (n:Int) | none=>.str z
theorem jG {z:Str} {n:Nat} (h:aK z=some n):bB z=.int (n:Int):=by unfold bB;rw[h]
theorem hV {z:Str} (h:aK z=none):bB z=.str z:=by unfold bB;rw[h]
theorem fF (lo hi:Int) (z:Str):aO lo hi (bB z)=aO lo hi (bA (aK z))/\(aO lo hi (bA (aK z))=true->bB z=bA (aK z)):=by
 cases h:aK z with
 | none=>rw[hV h];exact⟨rfl,fun e=>by cases e⟩
 | some n=>rw[jG h];exact⟨rfl,fun _=>rfl⟩
theorem Pp {z:Str} {n:Nat} (h:aK z=some n):∃c∈z.cps.toList,c∈nH:=by
 unfold aK at h;split at h
 ·rename_i hm
  rw[bW,Bool.and_eq_true,Bool.and_eq_true]at hm;have h1:=of_decide_eq_true hm.1.1
  cases hc:z.cps.toList with
  | nil=>
   have:z.length=0:=by
    have:z.length=z.cps.toList.length:=by simp [Str.length]
    rw[this,hc];rfl
   rw[this]at h1;exact absurd h1 Zd
  | cons c r=>exact⟨c,Zs,of_decide_eq_true (List.all_eq_true.mp hm.2 c (by rw[hc];simp))⟩
 ·cases h
theorem rS (z:Str):dF (bB z)=dF (.str z)/\(dF (.str z)=true->bB z=.str z):=by
 cases h:aK z with
 | none=>rw[hV h];exact⟨rfl,fun _=>rfl⟩
 | some n=>
  obtain⟨c,hc,hf⟩:=Pp h
  have e:dF (.str z)=false:=by
   cases hv:dF (.str z) with
   | false=>rfl
   | true=>
    obtain⟨z',e',hz'⟩:=jO hv
    cases e'
    have h1:=hz'.2.2 c hc
    have h2:=(Cn c).mp hf
    have:∀c,c∈LET->97<=c:=by decide
    have:=this c h1
    omega
  rw[jG h,e];exact⟨rfl,fun e=>by cases e⟩
def Zj:List Str:=["no","ok","is","short","full","add","take","move","send","fetch","pass","next","has","kept","came","asked","done","=",""]
theorem Df:∀z∈Zj,aK z=none:=by decide +kernel
theorem qI {z:Str} (h:z∈Zj):bB z=.str z:=hV (Df z h)
def eW (ws:List Str):List V:=match ws with
 | []=>[]
 | u::r=>if u="no" then V.str u::r.map V.str else V.str u::r.map fun z=>bA (aK z)
theorem uB {u:Str} {r:List V} (h:bH (.str u::r)=true):u="no"∨u="ok"∨u="is"∨u="short"∨u="full":=by
 refine Classical.byContradiction fun hc=>?_
 simp only [not_or]at hc
 obtain⟨h1,h2,h3,h4,h5⟩:=hc
 rw[tZ u r h1]at h;unfold cX at h;simp [h1,h2,h3,h4,h5]at h
theorem Bl {y:V} {r:List V} (hy:∀u,y≠.str u):bH (y::r)=false:=by
 have:kD (y::r)=.non:=by cases y <;> first | rfl | exact absurd rfl (hy _)
 unfold bH;rw[this,if_neg (fun e=>by cases e),List.any_eq_false]
 intro z _;rw[nE fun u r' e=>hy u (List.cons.inj e).1]
 exact Bool.false_ne_true
theorem Dg (ws:List Str):bH (ws.map bB)=bH (eW ws)/\(bH (eW ws)=true->ws.map bB=eW ws):=by
 cases ws with
 | nil=>exact⟨rfl,fun _=>rfl⟩
 | cons u r=>
  unfold eW;dsimp only;by_cases h1:u="no"
  ·rw[if_pos h1];have hu:bB u=.str u:=qI (by rw[h1];decide +kernel)
   rw[List.map_cons,hu];have e:∀r:List V,bH (.str u::r)=oA (.str u::r):=fun r=>by unfold bH;rw[if_pos (show kD (V.str u::r)=.str "no" by rw[h1];rfl)]
   rw[e,e];match r with
   | []=>exact⟨rfl,fun _=>rfl⟩
   | [y]=>
    obtain⟨a,b⟩:=rS y
    exact⟨a,fun h=>by show [_,_]=[_,_];rw[b h]⟩
   | _::_::_=>exact⟨rfl,fun h=>by cases h⟩
  rw[if_neg h1];cases hn:aK u with
  | some n=>
   rw[List.map_cons,jG hn,Bl (fun _ e=>by cases e)]
   have e:bH (.str u::r.map fun z=>bA (aK z))=false:=by
    cases h:bH (.str u::r.map fun z=>bA (aK z)) with
    | false=>rfl
    | true=>
     have hw:u∈Zj:=by rcases uB h with rfl | rfl | rfl | rfl | rfl <;> decide +kernel
     rw[Df u hw]at hn;cases hn
   rw[e];exact⟨rfl,fun e=>by cases e⟩
  | none=>
   rw[List.map_cons,hV hn,fR,fR];unfold iP;match r with
   | []=>exact⟨rfl,fun _=>rfl⟩
   | [a]=>
    have hl:(([V.str u,bB a].length:Nat):Int)=(([V.str u,bA (aK a)].length:Nat):Int):=rfl
    refine⟨?_,fun h=>?_⟩
    ·show(if _ then _ else _)=(if _ then _ else _)
     simp only [List.map_cons,List.map_nil,fI,List.length_nil,List.getD_cons_zero]
     rw[show decide (u="no")=false from decide_eq_false h1];simp only [(fF _ _ a).1]
     rfl
    ·simp only [List.map_cons,List.map_nil,fI,List.length_nil,List.getD_cons_zero]at h
     rw[show decide (u="no")=false from decide_eq_false h1]at h;have:∃lo hi,aO lo hi (bA (aK a))=true:=by
      refine Classical.byContradiction fun hc=>?_
      have hf:∀lo hi,aO lo hi (bA (aK a))=false:=fun lo hi=>by
       cases e:aO lo hi (bA (aK a)) with
       | false=>rfl
       | true=>exact absurd ⟨lo,hi,e⟩ hc
      simp [hf]at h
     obtain⟨lo,hi,hv⟩:=this
     show [_,bB a]=[_,bA (aK a)]
     rw[(fF lo hi a).2 hv]
   | [a,b]=>
    refine⟨?_,fun h=>?_⟩
    ·simp only [List.map_cons,List.map_nil,fI,List.length_nil,List.getD_cons_zero,List.getD_cons_succ]
     simp only [(fF _ _ a).1,(fF _ _ b).1]
     simp
    ·simp only [List.map_cons,List.map_nil,fI,List.length_nil,List.getD_cons_zero,List.getD_cons_succ]at h
     have:aO 0 999999999999 (bA (aK a))=true/\aO 1 1000000000000 (bA (aK b))=true:=by
      refine Classical.byContradiction fun hc=>?_
      have:(aO 0 999999999999 (bA (aK a))&&aO 1 1000000000000 (bA (aK b)))=false:=by
       cases h1:aO 0 999999999999 (bA (aK a)) with
       | false=>rfl
       | true=>cases h2:aO 1 1000000000000 (bA (aK b)) with
        | false=>rfl
        | true=>exact absurd ⟨h1,h2⟩ hc
      rw[this]at h;simp at h
     show [_,bB a,bB b]=[_,bA (aK a),bA (aK b)]
     rw[(fF _ _ a).2 this.1,(fF _ _ b).2 this.2]
   | a::b::c::r=>
    refine⟨?_,fun h=>?_⟩
    ·simp only [List.map_cons,Gf,Vp]
     simp
    ·simp only [List.map_cons,Gf,Vp]at h
     exfalso
     revert h
     by_cases ho:u="ok"
     ·simp [ho];omega
     ·simp [ho]
theorem Vt {ws:List Str} (h:("=":Str)∈ws):bH (eW ws)=false:=by
 cases hs:bH (eW ws) with
 | false=>rfl
 | true=>
  exfalso
  have e:=(Dg ws).2 hs
  have hm:V.str "="∈eW ws:=by
   rw[<- e];have:=List.mem_map_of_mem (f:=bB) h
   rw[qI (show("=":Str)∈Zj by decide +kernel)]at this
   exact this
  cases ws with
  | nil=>cases h
  | cons u r=>
   unfold eW at hs hm;dsimp only at hs hm
   have hu:u="no"∨u="ok"∨u="is"∨u="short"∨u="full":=by
    split at hs <;> exact uB hs
   have hne:V.str "="≠V.str u:=fun e=>by
    injection e with e
    rcases hu with rfl | rfl | rfl | rfl | rfl <;> exact absurd e Zk
   by_cases h1:u="no"
   ·rw[if_pos h1]at hs hm;have e:bH (.str u::r.map V.str)=oA (.str u::r.map V.str):=by unfold bH;rw[if_pos (show kD (V.str u::r.map V.str)=.str "no" by rw[h1];rfl)]
    rw[e]at hs;match r,hs,hm with
    | [y],hs,hm=>
     rcases List.mem_cons.mp hm with h2 | h2
     ·exact hne h2
     ·have h3:V.str "="=V.str y:=Zms.mp h2
      injection h3 with h3
      rw[<- h3]at hs;exact absurd hs (show ¬ dF (.str "=")=true by decide +kernel)
   ·rw[if_neg h1]at hm;rcases List.mem_cons.mp hm with h2 | h2
    ·exact hne h2
    ·obtain⟨z,_,ez⟩:=Zmm.mp h2
     cases hz:aK z with
     | none=>rw[hz]at ez;cases ez
     | some n=>rw[hz]at ez;cases ez
theorem cF {xs:List V} (h:bE xs=true):3<=xs.length/\xs.length<=5:=by
 unfold bE at h;rw[Bool.and_eq_true,Bool.and_eq_true]at h;have h3:=of_decide_eq_true h.1.1
 obtain⟨z,i,_,hl,hlen,_,_⟩:=jD h.1.2
 have:=vG hl
 rw[lK h3]at hlen;omega
theorem Gi {xs:List V} {z:Str} {i:Int} (hl:WS.lookup z=some i):bB z=.str z:=by
 rcases vX hl with⟨rfl,_⟩ | ⟨rfl,_⟩ | ⟨rfl,_⟩ | ⟨rfl,_⟩ | ⟨rfl,_⟩ | ⟨rfl,_⟩ <;> exact qI Zk
theorem Bm {ws:List Str} {lw:Str} (h:∀p∈ws++[lw],32∉p.cps.toList):jA (jw (ws++[lw]))=ws.map V.str++[bA (aK lw)]:=vK (jC Zs h)
theorem Pq {z y:Str} (h:bB z=.str y):bB z=.str z:=by
 cases e:aK z with
 | none=>exact hV e
 | some n=>rw[jG e]at h;cases h
theorem zD (ws:List Str) (hw:∀p∈ws,32∉p.cps.toList):bE (ws.map bB)=bE (jA (jw ws))/\(bE (jA (jw ws))=true->ws.map bB=jA (jw ws)):=by
 have key:∀A B:List V,(bE A=true->A=B)->(bE B=true->A=B)->bE A=bE B/\(bE B=true->A=B):=fun A B h1 h2=>by
  refine⟨?_,h2⟩
  cases e1:bE A with
  | true=>rw[<- h1 e1,e1]
  | false=>cases e2:bE B with
   | false=>rfl
   | true=>rw[h2 e2]at e1;rw[e1]at e2;cases e2
 rcases List.eq_nil_or_concat ws with rfl | ⟨ws',lw,rfl⟩
 ·have e:jA (jw [])=[bA (aK "")]:=by
   have:Txt.split (jw []) (tx [32])=[]++[("":Str)]:=by decide +kernel
   exact vK this
  rw[e];exact key _ _ (fun h=>by have:=(cF h).1;simp at this) (fun h=>by have:=(cF h).1;simp at this)
 rw[List.concat_eq_append]at hw ⊢;rw[Bm hw,hW];have hd:∀ {x:V} {ns:List V} {z:Str} {f:Str->V},bJ x ns=true->x=f z->True:=fun _ _=>trivial
 have fits1:∀ {z:Str} {ns:List V},bJ (bB z) ns=true->bB z=.str z:=fun h=>by
  obtain⟨y,_,e,_⟩:=jD h
  exact Pq e
 have fits2:∀ {z:Str} {ns:List V},bJ (.str z) ns=true->bB z=.str z:=fun h=>by
  obtain⟨y,i,e,hl,_⟩:=jD h
  injection e with e
  rw[<- e]at hl;exact Gi (xs:=[]) hl
 have nm1:∀ {x:V} {ns:List V},bJ x ns=true->∀y∈ns,dF y=true:=fun h y hy=>by
  obtain⟨_,_,_,_,_,hn,_⟩:=jD h
  exact hn y hy
 have c1:∀ {z:Str},dF (bB z)=true->bB z=.str z:=fun {z} h=>(rS z).2 (by rw[<- (rS z).1];exact h)
 have c2:∀ {z:Str},dF (.str z)=true->bB z=.str z:=fun {z} h=>(rS z).2 h
 have l1:aO 1 1000000000000 (bB lw)=true->bB lw=bA (aK lw):=fun h=>(fF _ _ lw).2 (by rw[<- (fF _ _ lw).1];exact h)
 have l2:aO 1 1000000000000 (bA (aK lw))=true->bB lw=bA (aK lw):=fun h=>(fF _ _ lw).2 h
 match ws' with
 | []=>exact key _ _ (fun h=>by have:=(cF h).1;simp at this) (fun h=>by have:=(cF h).1;simp at this)
 | [_]=>exact key _ _ (fun h=>by have:=(cF h).1;simp at this) (fun h=>by have:=(cF h).1;simp at this)
 | [a,b]=>
  refine key _ _ (fun h=>?_) (fun h=>?_)
  ·have h':(bJ (bB a) [bB b]&&aO 1 1000000000000 (bB lw))=true:=h
   rw[Bool.and_eq_true]at h';show [bB a,bB b,bB lw]=[.str a,.str b,bA (aK lw)]
   rw[fits1 h'.1,c1 (nm1 h'.1 (bB b) Zs),l1 h'.2]
  ·have h':(bJ (.str a) [.str b]&&aO 1 1000000000000 (bA (aK lw)))=true:=h
   rw[Bool.and_eq_true]at h';show [bB a,bB b,bB lw]=[.str a,.str b,bA (aK lw)]
   rw[fits2 h'.1,c2 (nm1 h'.1 (.str b) Zs),l2 h'.2]
 | [a,b,c]=>
  refine key _ _ (fun h=>?_) (fun h=>?_)
  ·have h':(bJ (bB a) [bB b,bB c]&&aO 1 1000000000000 (bB lw))=true:=h
   rw[Bool.and_eq_true]at h';show [bB a,bB b,bB c,bB lw]=[.str a,.str b,.str c,bA (aK lw)]
   rw[fits1 h'.1,c1 (nm1 h'.1 (bB b) Zs),c1 (nm1 h'.1 (bB c) Zs),l1 h'.2]
  ·have h':(bJ (.str a) [.str b,.str c]&&aO 1 1000000000000 (bA (aK lw)))=true:=h
   rw[Bool.and_eq_true]at h';show [bB a,bB b,bB c,bB lw]=[.str a,.str b,.str c,bA (aK lw)]
   rw[fits2 h'.1,c2 (nm1 h'.1 (.str b) Zs),c2 (nm1 h'.1 (.str c) Zs),l2 h'.2]
 | [a,b,c,d]=>
  refine key _ _ (fun h=>?_) (fun h=>?_)
  ·have h':(bJ (bB a) [bB b,bB c,bB d]&&aO 1 1000000000000 (bB lw))=true:=h
   rw[Bool.and_eq_true]at h';show [bB a,bB b,bB c,bB d,bB lw]=[.str a,.str b,.str c,.str d,bA (aK lw)]
   rw[fits1 h'.1,c1 (nm1 h'.1 (bB b) Zs),c1 (nm1 h'.1 (bB c) Zs),c1 (nm1 h'.1 (bB d) Zs),l1 h'.2]
  ·have h':(bJ (.str a) [.str b,.str c,.str d]&&aO 1 1000000000000 (bA (aK lw)))=true:=h
   rw[Bool.and_eq_true]at h';show [bB a,bB b,bB c,bB d,bB lw]=[.str a,.str b,.str c,.str d,bA (aK lw)]
   rw[fits2 h'.1,c2 (nm1 h'.1 (.str b) Zs),c2 (nm1 h'.1 (.str c) Zs),c2 (nm1 h'.1 (.str d) Zs),l2 h'.2]
 | _::_::_::_::_::r=>exact key _ _ (fun h=>by have:=(cF h).2;simp at this <;> omega) (fun h=>by have:=(cF h).2;simp at this <;> omega)
end
end KL
namespace KL
open PySem L2
section
variable {P:Program} {w:World} {K:W.Frag} {mg:Str->Option Value} {base:Heap}
def pS:RP->Prop
 | .sc v=>bS v=true/\∀z,v=.str z->z.length<=1000
 | .tp xs=>xs.length<=1000/\∀y∈xs,bS y=true/\∀z,y=.str z->z.length<=1000
def cV (k:V) (p:RP):Bool:=match k with
 | .str kd=>(match p with
  | .sc v=>(match BDS.lookup kd with
   | some [.int lo,.int hi]=>aO lo hi v
   | some _=>false
   | none=>if kd="name" then dF v else if kd="key" then bI v (LET++nH) 12 else false)
  | .tp xs=>(match BDS.lookup kd with
   | some _=>false
   | none=>if kd="name" then false else if kd="key" then false else if kd="deed" then bE xs else bH xs))
 | _=>false
def Lf:RP->RP->Bool
 | .tp xs,.tp ys=>cK (dnW xs) (dnH xs) (Zc xs) ys
 | _,_=>false
def dP (ps:List RP):Bool:=match ps with
 | .sc (.str wd)::r=>(match PTS.lookup wd with
  | some ks=>decide (r.length=ks.length)&&(ks.zip r).all (fun q=>cV q.1 q.2)&&(!decide (wd="kept")||Lf (r.getD 4 (.sc .non)) (r.getD 5 (.sc .non)))
  | none=>false)
 | _=>false
theorem nG {H:Hp} {v:V} (h:bS v=true):aY H v=none:=by cases v <;> first | rfl | cases h
theorem Vu {H:Hp} {p:RP} {x k:V} (h:PAt H p x) (hf:pS p):gC H k x=cV k p:=by
 cases k with
 | str kd=>
  show bK H kd x=_
  unfold bK cV;cases p with
  | sc v=>
   cases (show x=v from h)
   dsimp only;cases hl:BDS.lookup kd with
   | some xs=>obtain⟨lo,hi,rfl⟩:=vU hl;rfl
   | none=>
    dsimp only;split
    ·rfl
    ·split
     ·rfl
     ·split
      ·unfold cC;cases x <;> first | rfl | exact absurd hf.1 Bool.false_ne_true
      ·unfold gB;rw[nG hf.1]
  | tp xs=>
   obtain⟨b,rfl,g⟩:=h
   dsimp only;cases hl:BDS.lookup kd with
   | some xs=>obtain⟨lo,hi,rfl⟩:=vU hl;rfl
   | none=>
    dsimp only;split
    ·rfl
    ·split
     ·rfl
     ·split
      ·unfold cC;dsimp only;rw[g]
      ·unfold gB;rw[cJ g]
 | _=>rfl
theorem Vv {H:Hp} {p q:RP} {x y:V} (h:PAt H p x) (h':PAt H q y) (hf:pS p) (hf':pS q):mG H x y=Lf p q:=by
 unfold mG Lf;cases p with
 | sc v=>cases (show x=v from h);rw[nG hf.1]
 | tp xs=>
  obtain⟨b,rfl,g⟩:=h
  rw[cJ g];dsimp only;unfold fX;cases q with
  | sc v=>cases (show y=v from h');rw[nG hf'.1]
  | tp ys=>
   obtain⟨b',rfl,g'⟩:=h'
   rw[cJ g']
theorem Dh {H:Hp} {r:List RP} {vs:List V} (h:Paired (PAt H) r vs) (i:Nat):PAt H (r.getD i (.sc .non)) (vs.getD i .non):=by
 induction h generalizing i with
 | nil=>exact rfl
 | cons h t ih=>cases i with
  | zero=>exact h
  | succ i=>simpa using ih i
theorem Di {r:List RP} (h:∀p∈r,pS p) (i:Nat):pS (r.getD i (.sc .non)):=by
 rw[List.getD_eq_getElem?_getD];cases e:r[i]? with
 | none=>exact⟨rfl,fun _ e=>by cases e⟩
 | some p=>exact h p (sN e)
theorem Ra {H:Hp} {a:Addr} {ps:List RP} (ra:RowAt H a ps) (hf:∀p∈ps,pS p):pX H (.ref a)=dP ps:=by
 obtain⟨vs,g,pv⟩:=ra
 unfold pX;rw[cJ g];show wC H vs=dP ps
 cases pv with
 | nil=>rfl
 | cons h t=>
  rename_i p v r vs
  have hr:∀q∈r,pS q:=fun q hq=>hf q (gT _ hq)
  cases p with
  | sc w=>
   cases (show v=w from h)
   unfold wC dP;cases v with
   | str wd=>
    dsimp only;cases hl:PTS.lookup wd with
    | none=>rfl
    | some ks=>
     dsimp only;rw[t.length,Vv (Dh t 4) (Dh t 5) (Di hr 4) (Di hr 5)];congr 2
     have key:∀(ks:List V) {r:List RP} {vs:List V},Paired (PAt H) r vs->(∀q∈r,pS q)->((ks.zip vs).all fun q=>gC H q.1 q.2)=(ks.zip r).all fun q=>cV q.1 q.2:=fun ks=>by
      induction ks with
      | nil=>intro r vs _ _;rfl
      | cons k ks ih=>
       intro r vs t hr;cases t with
       | nil=>rfl
       | cons h t=>
        rw[List.zip_cons_cons,List.zip_cons_cons,List.all_cons,List.all_cons,ih t fun q hq=>hr q (gT _ hq),Vu h (hr _ iW)]
     exact key ks t hr
   | _=>rfl
  | tp xs=>
   obtain⟨b,rfl,_⟩:=h
   rfl
def mO (k:V) (p q:RP):Prop:=cV k q=cV k p/\(cV k p=true->p=q)
def Ag:List V->List RP->List RP->Prop
 | [],[],[]=>True
 | k::ks,p::P,q::L=>mO k p q/\Ag ks P L
 | _,_,_=>False
theorem Ag.len:∀ {ks:List V} {P L:List RP},Ag ks P L->P.length=ks.length/\L.length=ks.length
 | [],[],[],_=>⟨rfl,rfl⟩
 | _::_,_::_,_::_,h=>by have:=Ag.len h.2;simp only [fI];omega
theorem Ag.all:∀ {ks:List V} {P L:List RP},Ag ks P L->((ks.zip L).all fun q=>cV q.1 q.2)=((ks.zip P).all fun q=>cV q.1 q.2)/\(((ks.zip P).all fun q=>cV q.1 q.2)=true->P=L)
 | [],[],[],_=>⟨rfl,fun _=>rfl⟩
 | _::_,_::_,_::_,h=>by
  have ih:=Ag.all h.2
  rw[List.zip_cons_cons,List.zip_cons_cons,List.all_cons,List.all_cons,ih.1,h.1.1];refine⟨rfl,fun e=>?_⟩
  rw[Bool.and_eq_true]at e;rw[h.1.2 e.1,ih.2 e.2]
theorem Ag.row {wd:Str} {ks:List V} {P L:List RP} (hl:PTS.lookup wd=some ks) (h:Ag ks P L):dP (.sc (.str wd)::L)=dP (.sc (.str wd)::P)/\(dP (.sc (.str wd)::P)=true->P=L):=by
 obtain⟨l1,l2⟩:=h.len
 obtain⟨a1,a2⟩:=h.all
 unfold dP;dsimp only;rw[hl];dsimp only;rw[l1,l2,a1];cases e:(ks.zip P).all fun q=>cV q.1 q.2 with
 | false=>simp
 | true=>rw[a2 e];exact⟨rfl,fun _=>rfl⟩
theorem lX {wd:Str} {ks:List V} {P:List RP} (hl:PTS.lookup wd=some ks) (h:P.length≠ks.length):dP (.sc (.str wd)::P)=false:=by
 unfold dP;dsimp only;rw[hl];dsimp only;rw[decide_eq_false h];rfl
theorem oM {wd:Str} {ks:List V} {P:List RP} (hl:PTS.lookup wd=some ks) (i:Nat) {k:V} {p:RP} (hk:ks[i]?=some k) (hp:P[i]?=some p) (h:cV k p=false):dP (.sc (.str wd)::P)=false:=by
 unfold dP;dsimp only;rw[hl];dsimp only;have:((ks.zip P).all fun q=>cV q.1 q.2)=false:=by
  rw[List.all_eq_false];refine⟨(k,p),sN (i:=i) (by rw[List.getElem?_zip_eq_some];exact⟨hk,hp⟩),?_⟩
  dsimp only;rw[h];exact Bool.false_ne_true
 rw[this,Bool.and_false,Bool.false_and]
theorem qJ (k:V) (p:RP):mO k p p:=⟨rfl,fun _=>rfl⟩
theorem uC {kd:Str} {lo hi:Int} (h:BDS.lookup kd=some [.int lo,.int hi]) (v:V):cV (.str kd) (.sc v)=aO lo hi v:=by
 unfold cV;dsimp only;rw[h]
theorem iR {kd:Str} {lo hi:Int} (h:BDS.lookup kd=some [.int lo,.int hi]) (z:Str):mO (.str kd) (.sc (bA (aK z))) (.sc (bB z)):=by
 unfold mO;rw[uC h,uC h];obtain⟨h1,h2⟩:=fF lo hi z
 exact⟨h1,fun e=>by rw[h2 e]⟩
theorem rT (v:V):cV (.str "name") (.sc v)=dF v:=by
 unfold cV;dsimp only;rw[show BDS.lookup ("name":Str)=none by decide +kernel];dsimp only;rw[if_pos rfl]
theorem Pr (z:Str):mO (.str "name") (.sc (.str z)) (.sc (bB z)):=by
 unfold mO;rw[rT,rT];obtain⟨h1,h2⟩:=rS z
 exact⟨h1,fun e=>by rw[h2 e]⟩
theorem jZ (xs:List V):cV (.str "deed") (.tp xs)=bE xs:=by
 unfold cV;dsimp only;rw[show BDS.lookup ("deed":Str)=none by decide +kernel];dsimp only;rw[if_neg Zk,if_neg Zk,if_pos rfl]
theorem pT (v:V):cV (.str "deed") (.sc v)=false:=by
 unfold cV;dsimp only;rw[show BDS.lookup ("deed":Str)=none by decide +kernel];dsimp only;rw[if_neg Zk,if_neg Zk]
theorem lY (xs:List V):cV (.str "answer") (.tp xs)=bH xs:=by
 unfold cV;dsimp only;rw[show BDS.lookup ("answer":Str)=none by decide +kernel];dsimp only;rw[if_neg Zk,if_neg Zk,if_neg Zk]
def eS (ws:List Str):RP:=if bE (jA (jw ws))=true then .tp (jA (jw ws)) else .sc .non
theorem Dj (ws:List Str) (hw:∀p∈ws,32∉p.cps.toList):mO (.str "deed") (eS ws) (.tp (ws.map bB)):=by
 obtain⟨h1,h2⟩:=zD ws hw
 unfold mO eS;cases e:bE (jA (jw ws)) with
 | true=>rw[if_pos rfl,jZ,jZ,h1,e];exact⟨rfl,fun _=>by rw[h2 e]⟩
 | false=>rw[if_neg Bool.false_ne_true,jZ,pT,h1,e];exact⟨rfl,fun e=>by cases e⟩
theorem Lg (ws:List Str):mO (.str "answer") (.tp (eW ws)) (.tp (ws.map bB)):=by
 obtain⟨h1,h2⟩:=Dg ws
 unfold mO;rw[lY,lY];exact⟨h1,fun e=>by rw[h2 e]⟩
end
end KL
namespace KL
open PySem L2
section
variable {P:Program} {w:World} {K:W.Frag} {mg:Str->Option Value} {base:Heap}
def scs (zs:List Str):List RP:=zs.map fun z=>.sc (.str z)
def kK (zs:List Str):List RP:=zs.map fun z=>.sc (bB z)
def aW (zs:List Str):List V:=(PTS.lookup (zs.headD "")).getD []
def kL (k:V) (p:RP):RP:=match k,p with
 | .str kd,.sc (.str z)=>if (BDS.lookup kd).isSome=true then .sc (bA (aK z)) else .sc (.str z)
 | _,p=>p
def cW (zs:List Str):List Str × List Str:=match brk zs.tail with
 | some (A,B)=>(zs.headD ""::A,B)
 | none=>(zs,[""])
def bC (zs:List Str):List RP:=
 if zs.headD ""="kept" then scs ((cW zs).1.take 5)++[eS ((cW zs).1.drop 5),.tp (eW (cW zs).2)]
 else if zs.headD ""="came" then scs (zs.take 5)++[eS (zs.drop 5)]
 else if zs.headD ""="done" then scs (zs.take 3)++[.tp (eW (zs.drop 3))]
 else scs zs
def cO (zs:List Str):List RP:=(bC zs).take 1++((aW zs).zip ((bC zs).drop 1)).map fun q=>kL q.1 q.2
def kG (zs:List Str):Option (List RP):=if (bC zs).length=(aW zs).length+1/\dP (cO zs)=true then some (cO zs) else none
def lI (zs:List Str):List RP:=
 if zs.headD ""="done" then kK (zs.take 3)++[.tp ((zs.drop 3).map bB)]
 else if zs.headD ""="came"/\4<zs.length then kK (zs.take 3)++[.sc (.str (zs.getD 3 "")),.sc (.str (zs.getD 4 "")),.tp ((zs.drop 5).map bB)]
 else if zs.headD ""="kept"/\4<zs.length/\zs.count ("=":Str)=1 then kK (zs.take 3)++[.sc (.str (zs.getD 3 "")),.sc (.str (zs.getD 4 "")),.tp (((zs.take (zs.idxOf ("=":Str))).drop 5).map bB),.tp ((zs.drop (zs.idxOf ("=":Str)+1)).map bB)]
 else kK zs
def sK (zs:List Str):Option (List RP):=if dP (lI zs)=true then some (lI zs) else none
theorem cU {zs:List Str} (h1:(bC zs).length=(aW zs).length+1->dP (cO zs)=false) (h2:dP (lI zs)=false):kG zs=sK zs:=by
 unfold kG sK;rw[h2,if_neg Bool.false_ne_true,if_neg];rintro⟨a,b⟩
 rw[h1 a]at b;cases b
theorem lZ {zs:List Str} {wd:Str} {ks:List V} {P L:List RP} (hl:PTS.lookup wd=some ks) (hk:aW zs=ks) (h0:(bC zs).length=ks.length+1) (h1:cO zs=.sc (.str wd)::P) (h2:lI zs=.sc (.str wd)::L) (h:Ag ks P L):kG zs=sK zs:=by
 unfold kG sK;obtain⟨a,b⟩:=h.row hl
 rw[h1,h2,hk,a];cases e:dP (.sc (.str wd)::P) with
 | false=>rw[if_neg (fun h=>by cases h.2),if_neg Bool.false_ne_true]
 | true=>rw[if_pos ⟨h0,rfl⟩,if_pos rfl,b e]
theorem fG {kd:Str} {bs:List V} (h:BDS.lookup kd=some bs) (z:Str):kL (.str kd) (.sc (.str z))=.sc (bA (aK z)):=by
 unfold kL;dsimp only;rw[h];rfl
theorem fH {kd:Str} (h:BDS.lookup kd=none) (p:RP):kL (.str kd) p=p:=by
 unfold kL;split
 ·rename_i kd' z e;cases e;rw[h];rfl
 ·rfl
theorem bd1:BDS.lookup ("next":Str)=some [.int 1,.int 1000000]:=rfl
theorem Rb:BDS.lookup ("number":Str)=some [.int 1,.int 999999]:=rfl
theorem Rc:BDS.lookup ("turn":Str)=some [.int 0,.int 1000000000000]:=rfl
theorem bd4:BDS.lookup ("amount":Str)=some [.int 1,.int 1000000000000]:=rfl
theorem bd5:BDS.lookup ("name":Str)=none:=by decide +kernel
theorem bd6:BDS.lookup ("key":Str)=none:=by decide +kernel
theorem bd7:BDS.lookup ("deed":Str)=none:=by decide +kernel
theorem bd8:BDS.lookup ("answer":Str)=none:=by decide +kernel
theorem Ps:PTS.lookup ("kept":Str)=some [.str "number",.str "turn",.str "name",.str "key",.str "deed",.str "answer"]:=rfl
theorem pt4:PTS.lookup ("came":Str)=some [.str "number",.str "turn",.str "name",.str "key",.str "deed"]:=rfl
theorem pt6:PTS.lookup ("done":Str)=some [.str "number",.str "turn",.str "answer"]:=rfl
theorem Gj {z0:Str} {r:List Str} (h:PTS.lookup z0=none):dP (kK (z0::r))=false:=by
 show dP (.sc (bB z0)::kK r)=false
 cases e:aK z0 with
 | some n=>rw[jG e];rfl
 | none=>rw[hV e];unfold dP;dsimp only;rw[h]
theorem cw (z:Str) (h:z∈Zj):(RP.sc (bB z))=.sc (.str z):=by rw[qI h]
theorem Lh {r:List RP} (h:∀v,r[4]?=some v->cV (.str "deed") v=false):dP (.sc (.str "kept")::r)=false:=by
 by_cases hl:r.length=6
 ·cases e:r[4]? with
  | none=>rw[List.getElem?_eq_none_iff]at e;omega
  | some v=>exact oM Ps 4 rfl e (h v e)
 ·exact lX Ps (by simpa using hl)
theorem Pu {zs:List Str} {i:Nat} {v:RP} (h:(kK zs)[i]?=some v):∃z,v=.sc (bB z):=by
 unfold kK at h;rw[kH]at h;cases e:zs[i]? with
 | none=>rw[e]at h;cases h
 | some z=>rw[e]at h;cases h;exact⟨z,rfl⟩
theorem eX {zs A B:List Str} (hh:zs.headD ""="kept") (es:cW zs=(A,B)):bC zs=scs (A.take 5)++[eS (A.drop 5),.tp (eW B)]:=by
 unfold bC;rw[if_pos hh,es]
theorem zE {zs A B:List Str} {k a b c d:Str} (hh:zs.headD ""="kept") (es:cW zs=(k::a::b::c::d::A,B)):cO zs=.sc (.str k)::[.sc (bA (aK a)),.sc (bA (aK b)),.sc (.str c),.sc (.str d),eS A,.tp (eW B)]:=by
 have ek:aW zs=[.str "number",.str "turn",.str "name",.str "key",.str "deed",.str "answer"]:=by unfold aW;rw[hh,Ps];rfl
 unfold cO;rw[eX hh es,ek]
 show [RP.sc (.str k),kL (.str "number") (.sc (.str a)),kL (.str "turn") (.sc (.str b)),kL (.str "name") (.sc (.str c)),kL (.str "key") (.sc (.str d)),kL (.str "deed") (eS A),kL (.str "answer") (.tp (eW B))]=_
 rw[fG Rb,fG Rc,fH bd5,fH bd6,fH bd7,fH bd8]
theorem uD {zs A B:List Str} (hh:zs.headD ""="kept") (es:cW zs=(("kept":Str)::A,B)) (h:bH (eW B)=false):(bC zs).length=(aW zs).length+1->dP (cO zs)=false:=by
 have ek:aW zs=[.str "number",.str "turn",.str "name",.str "key",.str "deed",.str "answer"]:=by unfold aW;rw[hh,Ps];rfl
 intro hl;rw[eX hh es,ek]at hl;unfold scs at hl;rw[eG,aZ,fS]at hl;simp only [fI,List.length_nil]at hl
 match A,hl,es with
 | a::b::c::d::A',_,es=>
  rw[zE hh es];exact oM Ps 5 rfl rfl (by rw[lY];exact h)
 | [],hl,_=>simp at hl
 | [_],hl,_=>simp at hl
 | [_,_],hl,_=>simp at hl
 | [_,_,_],hl,_=>simp at hl
theorem Bn {zs:List Str} {r:List Str} (e:zs=("kept":Str)::r) (h:lI zs=kK zs):dP (lI zs)=false:=by
 rw[h,e];show dP (.sc (bB "kept")::kK r)=false
 rw[cw _ Zk]
 exact Lh fun v hv=>by obtain⟨z,rfl⟩:=Pu hv;exact pT _
theorem wQ {E:List Str}:∀ {C:List Str},("=":Str)∉C->(C++("=":Str)::E).idxOf ("=":Str)=C.length
 | [],_=>by simp [List.idxOf_cons]
 | c::C,h=>by
  have h1:c≠("=":Str):=fun e=>h (by rw[e];exact iW)
  have ih:=wQ (E:=E) (C:=C) fun hm=>h (gT _ hm)
  rw[List.cons_append,List.idxOf_cons,beq_eq_false_iff_ne.mpr h1];show List.idxOf _ _+1=_
  rw[ih];rfl
theorem Li {zs:List Str} {j:Nat} (hc:zs.count ("=":Str)=1) (hj:zs[j]?=some ("=":Str)):∃C E,zs=C++("=":Str)::E/\("=":Str)∉C/\("=":Str)∉E/\j=C.length/\zs.idxOf ("=":Str)=j:=by
 obtain⟨hl,e⟩:=Zgs.mp hj
 have e1:zs=zs.take j++("=":Str)::zs.drop (j+1):=by
  rw[<- e,<- List.drop_eq_getElem_cons hl,List.take_append_drop]
 have hl':(zs.take j).length=j:=by rw[fS];omega
 generalize zs.take j=C at e1 hl';generalize zs.drop (j+1)=E at e1;rw[e1,List.count_append,List.count_cons_self]at hc;have c1:("=":Str)∉C:=fun h=>by have:=List.count_pos_iff.mpr h;omega
 have c2:("=":Str)∉E:=fun h=>by have:=List.count_pos_iff.mpr h;omega
 refine⟨C,E,e1,c1,c2,hl'.symm,?_⟩
 rw[e1,wQ c1,hl']
theorem Vw {zs:List Str} (h0:zs≠[]) (hw:∀p∈zs,32∉p.cps.toList):kG zs=sK zs:=by
 obtain⟨z0,r,rfl⟩:=List.exists_cons_of_ne_nil h0
 have hd:(z0::r).headD ""=z0:=rfl
 have hwr:∀p∈r,32∉p.cps.toList:=fun p hp=>hw p (gT _ hp)
 cases hl:PTS.lookup z0 with
 | none=>
  have n1:z0≠"kept":=fun e=>by rw[e,Ps]at hl;cases hl
  have n2:z0≠"came":=fun e=>by rw[e,pt4]at hl;cases hl
  have n3:z0≠"done":=fun e=>by rw[e,pt6]at hl;cases hl
  have ek:aW (z0::r)=[]:=by unfold aW;rw[hd,hl];rfl
  have ep:bC (z0::r)=scs (z0::r):=by unfold bC;rw[hd,if_neg n1,if_neg n2,if_neg n3]
  have el:lI (z0::r)=kK (z0::r):=by unfold lI;rw[hd,if_neg n3,if_neg (fun h=>n2 h.1),if_neg (fun h=>n1 h.1)]
  refine cU (fun _=>?_) (by rw[el];exact Gj hl)
  unfold cO;rw[ep,ek];show dP [.sc (.str z0)]=false
  unfold dP;dsimp only;rw[hl]
 | some ks=>
 have ek:aW (z0::r)=ks:=by unfold aW;rw[hd,hl];rfl
 rcases zA hl with⟨rfl,rfl⟩ | ⟨rfl,rfl⟩ | ⟨rfl,rfl⟩ | ⟨rfl,rfl⟩ | ⟨rfl,rfl⟩ | ⟨rfl,rfl⟩
 ·have ep:bC (("next":Str)::r)=scs ("next"::r):=by unfold bC;rw[hd,if_neg Zk,if_neg Zk,if_neg Zk]
  have el:lI (("next":Str)::r)=.sc (.str "next")::kK r:=by
   unfold lI;rw[hd,if_neg Zk,if_neg (fun h=>absurd h.1 Zk),if_neg (fun h=>absurd h.1 Zk)]
   show RP.sc (bB "next")::kK r=_
   rw[cw _ Zk]
  by_cases h2:r.length=2
  ·match r,h2 with
   | [a,b],_=>
    refine lZ hl ek (by rw[ep];rfl) (P:=[.sc (bA (aK a)),.sc (bA (aK b))]) ?_ el ⟨iR bd1 a,iR Rc b,trivial⟩
    unfold cO;rw[ep,ek]
    show [RP.sc (.str "next"),kL (.str "next") (.sc (.str a)),kL (.str "turn") (.sc (.str b))]=_
    rw[fG bd1,fG Rc]
  ·refine cU (fun h=>absurd h ?_) (by rw[el];exact lX hl (by unfold kK;rw[aZ];simpa using h2))
   rw[ep,ek];unfold scs;rw[aZ];simpa using h2
 ·have ep:bC (("has":Str)::r)=scs ("has"::r):=by unfold bC;rw[hd,if_neg Zk,if_neg Zk,if_neg Zk]
  have el:lI (("has":Str)::r)=.sc (.str "has")::kK r:=by
   unfold lI;rw[hd,if_neg Zk,if_neg (fun h=>absurd h.1 Zk),if_neg (fun h=>absurd h.1 Zk)]
   show RP.sc (bB "has")::kK r=_
   rw[cw _ Zk]
  by_cases h2:r.length=2
  ·match r,h2 with
   | [a,b],_=>
    refine lZ hl ek (by rw[ep];rfl) (P:=[.sc (.str a),.sc (bA (aK b))]) ?_ el ⟨Pr a,iR bd4 b,trivial⟩
    unfold cO;rw[ep,ek]
    show [RP.sc (.str "has"),kL (.str "name") (.sc (.str a)),kL (.str "amount") (.sc (.str b))]=_
    rw[fH bd5,fG bd4]
  ·refine cU (fun h=>absurd h ?_) (by rw[el];exact lX hl (by unfold kK;rw[aZ];simpa using h2))
   rw[ep,ek];unfold scs;rw[aZ];simpa using h2
 ·have hh:(("kept":Str)::r).headD ""="kept":=rfl
  have n1:¬ (("kept":Str)="done"):=by decide +kernel
  have n2:¬ (("kept":Str)="came"):=by decide +kernel
  have plain:¬ (4<(("kept":Str)::r).length/\(("kept":Str)::r).count ("=":Str)=1)->dP (lI (("kept":Str)::r))=false:=fun h=>Bn rfl (by
   unfold lI;rw[hd,if_neg n1,if_neg (fun h=>n2 h.1),if_neg (fun h'=>h h'.2)])
  have elp:4<(("kept":Str)::r).length->(("kept":Str)::r).count ("=":Str)=1->∀ {a b c d:Str} {r':List Str},r=a::b::c::d::r'->lI (("kept":Str)::r)=.sc (.str "kept")::[.sc (bB a),.sc (bB b),.sc (.str c),.sc (.str d),.tp ((((("kept":Str)::r).take ((("kept":Str)::r).idxOf ("=":Str))).drop 5).map bB),.tp (((("kept":Str)::r).drop ((("kept":Str)::r).idxOf ("=":Str)+1)).map bB)]:=fun h4 hc {a b c d r'} e=>by
   unfold lI;rw[hd,if_neg n1,if_neg (fun h=>n2 h.1),if_pos ⟨rfl,h4,hc⟩]
   rw[e];show RP.sc (bB "kept")::_=_
   rw[cw _ Zk];rfl
  have four:4<(("kept":Str)::r).length->∃a b c d r',r=a::b::c::d::r':=fun h5=>by
   match r,h5 with
   | a::b::c::d::r',_=>exact⟨a,b,c,d,r',rfl⟩
  cases hb:brk r with
  | some AB=>
   obtain⟨A,B⟩:=AB
   obtain⟨er,hB,hA⟩:=lD hb
   have es:cW (("kept":Str)::r)=(("kept":Str)::A,B):=by unfold cW;rw[show(("kept":Str)::r).tail=r from rfl,hb];rfl
   have ez:("kept":Str)::r=(("kept":Str)::A)++("=":Str)::B:=by rw[er];rfl
   have hA':("=":Str)∉("kept":Str)::A:=fun h=>by
    rcases List.mem_cons.mp h with h | h
    ·exact absurd h Zk
    ·exact hA _ h rfl
   have cA:(("kept":Str)::A).count ("=":Str)=0:=List.count_eq_zero.mpr hA'
   have hcnt:(("kept":Str)::r).count ("=":Str)=1+B.count ("=":Str):=by rw[ez,List.count_append,cA,List.count_cons_self];omega
   by_cases hq:("=":Str)∈B
   ·refine cU (uD hh es (Vt hq)) (plain fun h=>?_)
    have:=List.count_pos_iff.mpr hq
    omega
   ·have cB:B.count ("=":Str)=0:=List.count_eq_zero.mpr hq
    have hc:(("kept":Str)::r).count ("=":Str)=1:=by omega
    have hix:(("kept":Str)::r).idxOf ("=":Str)=A.length+1:=by rw[ez,wQ hA'];rfl
    by_cases h4:4<(("kept":Str)::r).length
    ·obtain⟨a,b,c,d,r',e4⟩:=four h4
     have el:=elp h4 hc e4
     have t1:(("kept":Str)::r).take (A.length+1)=("kept":Str)::A:=by rw[ez];exact List.take_left' rfl
     have t2:(("kept":Str)::r).drop (A.length+1+1)=B:=by
      rw[ez,<- List.drop_drop];show List.drop 1 (List.drop ((("kept":Str)::A).length) ((("kept":Str)::A)++("=":Str)::B))=B
      rw[List.drop_left' rfl];rfl
     rw[hix,t1,t2]at el;by_cases h5:4<=A.length
     ·match A,h5 with
      | a'::b'::c'::d'::A',_=>
       have e5:a'::b'::c'::d'::(A'++("=":Str)::B)=a::b::c::d::r':=by rw[<- e4,er];rfl
       simp only [List.cons.injEq]at e5
       obtain⟨rfl,rfl,rfl,rfl,e6⟩:=e5
       refine lZ hl ek (by rw[eX hh es];rfl) (zE hh es) el ⟨iR Rb _,iR Rc _,qJ _ _,qJ _ _,Dj A' (fun p hp=>hwr p (by rw[er];simp [hp])),Lg B,trivial⟩
     ·refine cU (fun h=>absurd h ?_) ?_
      ·rw[eX hh es,ek];unfold scs;rw[eG,aZ,fS];simp;omega
      ·rw[el];have:(("kept":Str)::A).drop 5=[]:=List.drop_eq_nil_of_le (by rw[fI];omega)
       rw[this];exact oM Ps 4 rfl rfl (by rw[jZ];rfl)
    ·refine cU (fun h=>absurd h ?_) (plain fun h=>h4 h.1)
     rw[eX hh es,ek];unfold scs;rw[eG,aZ,fS];rw[ez,eG]at h4;simp at h4 ⊢;omega
  | none=>
   have es:cW (("kept":Str)::r)=(("kept":Str)::r,[("":Str)]):=by unfold cW;rw[show(("kept":Str)::r).tail=r from rfl,hb]
   refine cU (uD hh es Zk) ?_
   by_cases hc:4<(("kept":Str)::r).length/\(("kept":Str)::r).count ("=":Str)=1
   ·obtain⟨a,b,c,d,r',e4⟩:=four hc.1
    have el:=elp hc.1 hc.2 e4
    have hm:("=":Str)∈("kept":Str)::r:=List.count_pos_iff.mp Zo
    obtain⟨j,hj⟩:=List.getElem?_of_mem hm
    obtain⟨C,E,e1,c1,c2,ej,ei⟩:=Li hc.2 hj
    cases C with
    | nil=>exact absurd (List.cons.inj e1).1 Zk
    | cons c0 C=>
     have hE:E=[]:=rJ hb C E (List.cons.inj e1).2
     have t2:(("kept":Str)::r).drop ((("kept":Str)::r).idxOf ("=":Str)+1)=[]:=by
      rw[ei,ej];refine List.drop_eq_nil_of_le ?_
      rw[e1,hE,eG];simp
     rw[el,t2];exact oM Ps 5 rfl rfl (by rw[lY];rfl)
   ·exact plain hc
 ·-- came
  have ep:bC (("came":Str)::r)=scs ((("came":Str)::r).take 5)++[eS ((("came":Str)::r).drop 5)]:=by unfold bC;rw[hd,if_neg Zk,if_pos rfl]
  by_cases h5:4<(("came":Str)::r).length
  ·obtain⟨a,b,c,d,r',rfl⟩:∃a b c d r',r=a::b::c::d::r':=by
    match r,h5 with
    | a::b::c::d::r',_=>exact⟨a,b,c,d,r',rfl⟩
   have el:lI (("came":Str)::a::b::c::d::r')=.sc (.str "came")::[.sc (bB a),.sc (bB b),.sc (.str c),.sc (.str d),.tp (r'.map bB)]:=by
    unfold lI;rw[hd,if_neg Zk,if_pos ⟨rfl,h5⟩]
    show RP.sc (bB "came")::_=_
    rw[cw _ Zk];rfl
   refine lZ hl ek (by rw[ep];rfl) (P:=[.sc (bA (aK a)),.sc (bA (aK b)),.sc (.str c),.sc (.str d),eS r']) ?_ el ⟨iR Rb a,iR Rc b,qJ _ _,qJ _ _,Dj r' (fun p hp=>hwr p (by simp [hp])),trivial⟩
   unfold cO;rw[ep,ek]
   show [RP.sc (.str "came"),kL (.str "number") (.sc (.str a)),kL (.str "turn") (.sc (.str b)),kL (.str "name") (.sc (.str c)),kL (.str "key") (.sc (.str d)),kL (.str "deed") (eS r')]=_
   rw[fG Rb,fG Rc,fH bd5,fH bd6,fH bd7]
  ·have el:lI (("came":Str)::r)=.sc (.str "came")::kK r:=by
    unfold lI;rw[hd,if_neg Zk,if_neg (fun h=>h5 h.2),if_neg (fun h=>absurd h.1 Zk)]
    show RP.sc (bB "came")::kK r=_
    rw[cw _ Zk]
   rw[fI]at h5;refine cU (fun h=>absurd h ?_) (by rw[el];exact lX hl (by unfold kK;rw[aZ];simp;omega))
   rw[ep,ek];unfold scs;rw[eG,aZ,fS];simp;omega
 ·have ep:bC (("asked":Str)::r)=scs ("asked"::r):=by unfold bC;rw[hd,if_neg Zk,if_neg Zk,if_neg Zk]
  have el:lI (("asked":Str)::r)=.sc (.str "asked")::kK r:=by
   unfold lI;rw[hd,if_neg Zk,if_neg (fun h=>absurd h.1 Zk),if_neg (fun h=>absurd h.1 Zk)]
   show RP.sc (bB "asked")::kK r=_
   rw[cw _ Zk]
  by_cases h2:r.length=1
  ·match r,h2 with
   | [a],_=>
    refine lZ hl ek (by rw[ep];rfl) (P:=[.sc (bA (aK a))]) ?_ el ⟨iR Rb a,trivial⟩
    unfold cO;rw[ep,ek]
    show [RP.sc (.str "asked"),kL (.str "number") (.sc (.str a))]=_
    rw[fG Rb]
  ·refine cU (fun h=>absurd h ?_) (by rw[el];exact lX hl (by unfold kK;rw[aZ];simpa using h2))
   rw[ep,ek];unfold scs;rw[aZ];simpa using h2
 ·have ep:bC (("done":Str)::r)=scs ((("done":Str)::r).take 3)++[.tp (eW ((("done":Str)::r).drop 3))]:=by unfold bC;rw[hd,if_neg Zk,if_neg Zk,if_pos rfl]
  have el:lI (("done":Str)::r)=.sc (.str "done")::(kK (r.take 2)++[.tp ((r.drop 2).map bB)]):=by
   unfold lI;rw[hd,if_pos rfl]
   show RP.sc (bB "done")::_=_
   rw[cw _ Zk];rfl
  by_cases h3:2<=r.length
  ·match r,h3 with
   | a::b::r',_=>
    refine lZ hl ek (by rw[ep];rfl) (P:=[.sc (bA (aK a)),.sc (bA (aK b)),.tp (eW r')]) ?_ el ⟨iR Rb a,iR Rc b,Lg r',trivial⟩
    unfold cO;rw[ep,ek]
    show [RP.sc (.str "done"),kL (.str "number") (.sc (.str a)),kL (.str "turn") (.sc (.str b)),kL (.str "answer") (.tp (eW r'))]=_
    rw[fG Rb,fG Rc,fH bd8]
  ·refine cU (fun h=>absurd h ?_) (by rw[el];exact lX hl (by unfold kK;rw[eG,aZ,fS];simp;omega))
   rw[ep,ek];unfold scs;rw[eG,aZ,fS];simp;omega
end
end KL
namespace KL
open PySem L2
section
variable {P:Program} {w:World} {K:W.Frag} {mg:Str->Option Value} {base:Heap}
theorem wR {C:Addr} (T:Txt K mg) (X_NoDeed:XCls K mg "NoDeed" C) (c_number_of:Callee P w K mg base 2 "number_of" ["text"] pN) (c_is_deed:Callee P w K mg base 4 "is_deed" ["thing"] kW) (D:DefAt K mg "read_deed" iC ["text"]):jM P w K mg base 5 "read_deed" ["text"] (Cu C):=by
 refine D.goX jW (fun vs H Q E h=>?_) (fun f cdv A outer s H vs Q E hr h=>?_)
 ·obtain⟨z,rfl,_⟩:=h;rfl
 ·obtain⟨z,rfl,hz,qy,qn⟩:=h
  have hr_number_of:Room 2 _:=hr.mono Zd
  have hr_is_deed:=hr
  refine⟨_,(R.ae (R.ai (i:=1) jW.nd (R.bb (K:=K) PySem.F.plainAttrs_str PySem.F.slot_str_split PySem.F.type_str_split R.ck (R.v 0) (R.Z R.ad R.aa))) (R.ae (R.ai (i:=2) jW.nd (R.bn (R.dk (K:=K)) rfl T.b_tuple bT (R.Z (R.op R.ay (R.sl (R.ax (K:=K)) (R.v 1) R.pn (R.ps (R.bt R.ac))) (R.ap (R.Z (R.fn c_number_of hr_number_of rfl (R.Z (R.ix (R.aq (K:=K)) (R.v 1) (R.bt R.ac)) R.aa)) R.aa))) R.aa))) (R.ae (R.aj (R.aw (R.av (R.fn c_is_deed hr_is_deed rfl (R.Z (R.v 2) R.aa)))) (R.af (R.fh X_NoDeed pH rfl (R.Z R.ad R.aa))) R.ak) (R.af (R.ag (R.v 2)))))),?_⟩
  refine⟨rfl,Zk,Zo,fun l hl=>?_⟩
  rw[iZ];obtain⟨ws,lw,hws⟩:∃ws lw,Txt.split z (tx [32])=ws++[lw]:=by
   have h1:=PyProof.Rows.split_pos z (tx [32])
   have h2:Txt.split z (tx [32])≠[]:=fun e=>by rw[e]at h1;exact absurd h1 Zd
   exact⟨_,_,(List.dropLast_concat_getLast h2).symm⟩
  have short:∀y∈ws++[lw],y.length<=900:=fun y hy=>kB (PyProof.Rows.part_short (by rw[hws];exact hy)) hz
  have hn:=PyProof.Rows.split_le z (tx [32])
  rw[hws]at hn;have hn':ws.length+1<=z.length+2:=by simpa using hn
  have er:=vK hws
  have em:(ws++[lw]).map V.str=ws.map V.str++[.str lw]:=by rw[hW];rfl
  rw[hws,em];rw[er]at qy qn;have s1:Same H (aJ H l (.lst (ws.map V.str++[.str lw]))):=aA hl
  have g1:aJ H l (.lst (ws.map V.str++[.str lw])) l=some (.lst (ws.map V.str++[.str lw])):=aD
  dsimp only [aI];generalize aJ H l (.lst (ws.map V.str++[.str lw]))=H1 at s1 g1;refine⟨_,SqL.of g1,fun p2 h2=>?_⟩
  rw[yA];have s2:=aA (o:=.lst (ws.map V.str)) h2
  have g2:aJ H1 p2 (.lst (ws.map V.str)) p2=some (.lst (ws.map V.str)):=aD
  dsimp only;generalize aJ H1 p2 (.lst (ws.map V.str))=H2 at s2 g2;refine⟨_,SqL.of (s2 _ _ g1),_,xN _ _,⟨lw,rfl,kB (short lw Zs) Zd,fun H3 s3=>?_⟩⟩
  refine⟨dU rfl,fun p4 h4=>⟨_,_,aA h4 _ _ (s3 _ _ g2),aD,?_,fun p5 h5=>⟨_,SqL.of aD,fun p6 h6=>?_⟩⟩⟩
  ·rw[aZ];refine cH ?_
   simp
   omega
  have s6:Same H3 (aJ (aJ (aJ H3 p4 (.lst [bA (aK lw)])) p5 (.lst (ws.map V.str++[bA (aK lw)]))) p6 (.tup (ws.map V.str++[bA (aK lw)]))):=((aA h4).trans (aA h5)).trans (aA h6)
  have g6:aJ (aJ (aJ H3 p4 (.lst [bA (aK lw)])) p5 (.lst (ws.map V.str++[bA (aK lw)]))) p6 (.tup (ws.map V.str++[bA (aK lw)])) p6=some (.tup (ws.map V.str++[bA (aK lw)])):=aD
  dsimp only [aI];generalize aJ (aJ (aJ H3 p4 (.lst [bA (aK lw)])) p5 (.lst (ws.map V.str++[bA (aK lw)]))) p6 (.tup (ws.map V.str++[bA (aK lw)]))=H6 at s6 g6;have sA:=((s1.trans s2).trans s3).trans s6
  have eV:cC H6 (.ref p6)=bE (ws.map V.str++[bA (aK lw)]):=by unfold cC;simp only [g6]
  refine⟨.ref p6,rfl,⟨⟨.tup,⟨_,g6⟩,fun _ e=>nomatch e⟩,fun a xs e g y hy=>?_⟩,fun a xs e g=>?_,fun H7 s7=>?_⟩
  ·injection e with e
   rw[<- e,g6]at g;cases g
   rcases Zma.mp hy with m | m
   ·obtain⟨w',hw,rfl⟩:=Zmm.mp m
    exact⟨.str,trivial,fun z' e=>by injection e with e;rw[<- e];exact kB (short w' (List.mem_append_left _ hw)) Zd⟩
   ·rw[Zms.mp m];cases aK lw with
    | none=>exact⟨.non,trivial,fun _ e=>nomatch e⟩
    | some k=>exact⟨.int,trivial,fun _ e=>nomatch e⟩
  ·injection e with e
   rw[<- e,g6]at g;cases g
   simp
   omega
  ·rw[eV];refine aV (fun hb=>?_) (fun hb=>?_)
   ·have hb':bE (ws.map V.str++[bA (aK lw)])=false:=by simpa using hb
    exact⟨dU rfl,qn hb' H7 (sA.trans s7)⟩
   ·have hb':bE (ws.map V.str++[bA (aK lw)])=true:=by simpa using hb
    exact qy hb' p6 H7 (sA.trans s7) (s7 _ _ g6)
def Dk:Sp:=fun vs H Q _=>∃l ws,vs=[.ref l]/\H l=some (.lst (ws.map V.str))/\(ws.map Str.length).sum+ws.length<=900/\∀v H',Same H H'->PAt H' (eS ws) v->Q v H'
theorem zF (T:Txt K mg) {C:Addr} (M_NoDeed:mg "NoDeed"=some (.ref C)) (xm:W.exmOne K (.ref C) (.ref C)=some true) (c_read_deed:jM P w K mg base 5 "read_deed" ["text"] (Cu C)) (D:DefAt K mg "deed_of" lS ["words"]):Callee P w K mg base 6 "deed_of" ["words"] Dk:=by
 refine D.go Ba (fun vs H Q E h=>?_) (fun f cdv A outer s H vs Q E hr h=>?_)
 ·obtain⟨l,xs,rfl,_⟩:=h;rfl
 ·obtain⟨l,ws,rfl,gl,hs,q⟩:=h
  have hr_read_deed:=hr
  refine⟨_,(R.af (R.gc (K:=K) M_NoDeed rfl (fun pn Ex=>(R.af (R.ag (R.ic c_read_deed hr_read_deed rfl nW (R.Z (R.bb (K:=K) PySem.F.plainAttrs_str PySem.F.slot_str_join PySem.F.type_str_join (R.cj (K:=K)) R.ad (R.Z (R.v 0) R.aa)) R.aa))))) (fun a=>(R.af (R.ag R.bw))))),?_⟩
  refine⟨rfl,_,l,ws,rfl,rfl,SqL.of gl,?_,?_⟩
  ·have e3:(" ":Str).length=1:=by decide +kernel
   rw[e3];have e:(ws.map fun x=>x.length)=ws.map Str.length:=rfl
   rw[e];omega
  ·rw[iZ];have h9:(jw ws).length<=900:=by
    by_cases h:ws=[]
    ·subst h;exact kB (show(jw []).length<=0 by decide +kernel) Zd
    ·have:=gY h;omega
   refine⟨jw ws,rfl,h9,fun hb p3 H3 s3 g3=>q _ _ s3 ?_,fun hb H3 s3=>⟨xm,q _ _ s3 ?_⟩⟩
   ·unfold eS;rw[if_pos hb];exact⟨p3,rfl,g3⟩
   ·unfold eS;rw[hb,if_neg Bool.false_ne_true];rfl
def Lj:Sp:=fun vs H Q _=>∃l ws,vs=[.ref l]/\H l=some (.lst (ws.map V.str))/\ws.length<=990/\(∀p∈ws,p.length<=990)/\∀t H',Same H H'->H' t=some (.tup (eW ws))->Q (.ref t) H'
theorem Vx (u:Str):gW [V.str u] [.str "no"]=decide (u="no"):=by
 unfold gW;show((uR (.str u) (.str "no")&&true)&&true)=_
 rw[Bool.and_true,Bool.and_true];rfl
theorem Bo (T:Txt K mg) (c_number_of:Callee P w K mg base 2 "number_of" ["text"] pN) (D:DefAt K mg "answer_of" fM ["words"]):Callee P w K mg base 3 "answer_of" ["words"] Lj:=by
 refine D.go wI (fun vs H Q E h=>?_) (fun f cdv A outer s H vs Q E hr h=>?_)
 ·obtain⟨l,ys,rfl,_⟩:=h;rfl
 ·obtain⟨l,ws,rfl,gl,hn,hz,q⟩:=h
  have hr_number_of:=hr
  have hu64:=hr.units
  refine⟨_,(R.ae (R.aj (R.ah (R.gk hu64) (R.sl (R.ax (K:=K)) (R.v 0) R.pn (R.ps R.ac)) (R.ap (R.Z R.ad R.aa))) (R.af (R.ag (R.bn (R.dk (K:=K)) rfl T.b_tuple bT (R.Z (R.v 0) R.aa)))) R.ak) (R.af (R.ag (R.bn (R.dk (K:=K)) rfl T.b_tuple bT (R.Z (R.op R.ay (R.sl (R.ax (K:=K)) (R.v 0) R.pn (R.ps R.ac)) (R.bo rfl (js:=[none]) (N:=["word"]) (CompScope.by (aE fM) ["words"] rfl rfl Zk) (bF rfl) (R.dm (K:=K) (R.sl (R.ax (K:=K)) (R.v 0) (R.ps R.ac) R.pn)) (fun C s₂ H₂ fp=>⟨(R.gn (i:=0) (show(["word"]:List Str).Nodup by decide +kernel)),R.br,(R.fn c_number_of hr_number_of rfl (R.Z (R.v 0) R.aa))⟩))) R.aa))))),?_⟩
  have c1:∀xs:List V,dS xs none (some (1:Int))=xs.take 1:=fun xs=>gV xs 1
  have c2:∀xs:List V,dS xs (some (1:Int)) none=xs.drop 1:=fun xs=>L2.eK xs 1
  refine⟨_,SqL.of gl,fun p1 h1=>⟨dU rfl,fun p2 h2=>?_⟩⟩
  rw[c1]at h2 ⊢;refine⟨_,_,aA h2 _ _ aD,aD,?_,?_⟩
  ·intro j a b ha hb;have ha':=List.mem_of_mem_take (sN ha)
   obtain⟨z,_,rfl⟩:=Zmm.mp ha'
   have hb':=Zms.mp (sN hb)
   subst hb';exact⟨rfl,rfl⟩
  have sx:Same H (aJ (aJ H p1 (.lst ((ws.map V.str).take 1))) p2 (.lst [.str "no"])):=(aA h1).trans (aA h2)
  show if gW ((ws.map V.str).take 1) [.str "no"]=true then _ else _
  generalize aJ (aJ H p1 (.lst ((ws.map V.str).take 1))) p2 (.lst [.str "no"])=H2 at sx ⊢;have gl2:=sx _ _ gl
  have rest:(∀t H',Same H H'->H' t=some (.tup ((ws.take 1).map V.str++(ws.drop 1).map fun z=>bA (aK z)))->Q (.ref t) H')->(Dv (Sv (fun vs H Q=>match vs with | [V.ref p]=>∃ys,SqL K H p ys/\∀l,H l=none->Q (V.ref l) (aJ H l (HO.tup ys)) | x=>False) (kC (xE Uo (Zu (Ev K) (vr 0) pY (tI (tC (V.int 1)))) (Ia (Bu K (Zu (Ev K) (vr 0) (tI (tC (V.int 1))) pY)) [none] (aI 0) Hz (Qo pN (kC (vr 0) xK)))) xK))) {nx:=fun x H'=>Q V.non H',rt:=Q } (L2.start ["words"] [V.ref l]) H2:=fun q=>by
   refine⟨_,SqL.of gl2,fun p3 h3=>⟨_,SqL.of (aA h3 _ _ gl2),fun p4 h4=>?_⟩⟩
   rw[c1]at h4 ⊢;rw[c2,<- List.map_take,<- List.map_drop]at *;have s4:=(aA (o:=.lst ((ws.take 1).map V.str)) h3).trans (aA (o:=.lst ((ws.drop 1).map V.str)) h4)
   have g3:(aJ (aJ H2 p3 (.lst ((ws.take 1).map V.str))) p4 (.lst ((ws.drop 1).map V.str))) p3=some (.lst ((ws.take 1).map V.str)):=cI aD h4
   have g4:(aJ (aJ H2 p3 (.lst ((ws.take 1).map V.str))) p4 (.lst ((ws.drop 1).map V.str))) p4=some (.lst ((ws.drop 1).map V.str)):=aD
   generalize aJ (aJ H2 p3 (.lst ((ws.take 1).map V.str))) p4 (.lst ((ws.drop 1).map V.str))=H4 at s4 g3 g4 ⊢;refine⟨p4,rfl,⟨_,SqL.of g4⟩,?_⟩
   have hdl:(ws.drop 1).length<=990:=by rw[List.length_drop];omega
   refine bV (kS K p4 ((ws.drop 1).map V.str)) (by rw[aZ];omega) (fun j zs H'=>zs=(((ws.drop 1).take j).map fun z=>bA (aK z))/\Same H4 H') (fun j zs H' ⟨e,s'⟩=>⟨SqL.of (s' _ _ g4),by rw[e,aZ,fS];omega⟩) ⟨rfl,Same.refl _⟩ (fun j y zs H' hy ⟨e,s'⟩=>?_) (fun zs H' ⟨e,s'⟩=>?_)
   ·rw[kH]at hy;cases hm':(ws.drop 1)[j]? with
    | none=>rw[hm']at hy;cases hy
    | some m=>
     rw[hm']at hy;cases hy
     have hmm:=hz m (List.mem_of_mem_drop (sN hm'))
     refine⟨m,rfl,Zo,fun H5 s5=>⟨?_,s'.trans s5⟩⟩
     rw[Mj,hm',hW,e];rfl
   rw[aZ,rV (cL _)]at e;subst e;intro p5 h5;refine⟨_,_,aA h5 _ _ (s' _ _ g3),aD,cH (by rw[aZ,aZ,fS];omega),fun p6 h6=>⟨_,SqL.of aD,fun t ht=>q t _ ?_ (by rw[aD])⟩⟩
   exact((((sx.trans s4).trans s').trans (aA h5)).trans (aA h6)).trans (aA ht)
  cases ws with
  | nil=>
   refine iK (c:=gW [] [.str "no"]) rfl ?_
   dsimp only [aR];exact rest q
  | cons u r=>
   rw[show((u::r).map V.str).take 1=[.str u] from rfl,Vx];refine aV (fun hn=>?_) (fun hn=>?_)
   ·have hn':=of_decide_eq_true hn
    refine⟨_,SqL.of gl2,fun t ht=>q t _ (sx.trans (aA ht)) ?_⟩
    rw[aD];unfold eW;dsimp only;rw[if_pos hn'];rfl
   ·dsimp only [aR];refine rest ?_
    have e:eW (u::r)=((u::r).take 1).map V.str++((u::r).drop 1).map fun z=>bA (aK z):=by
     unfold eW;dsimp only;rw[if_neg (of_decide_eq_false hn)];rfl
    rw[<- e];exact q
end
end KL
namespace KL
open PySem L2
section
variable {P:Program} {w:World} {K:W.Frag} {mg:Str->Option Value} {base:Heap}
theorem eY {α β:Type} {R:α->β->Prop} {a c:List α} {b d:List β} (h:Paired R a b) (h2:Paired R c d):Paired R (a++c) (b++d):=by
 induction h with
 | nil=>exact h2
 | cons h t ih=>exact .cons h ih
def zG:Sp:=fun vs H Q _=>∃zs,vs=[.str (jw zs)]/\zs≠[]/\(∀p∈zs,32∉p.cps.toList)/\(jw zs).length<=890/\∀l us H',Same H H'->H' l=some (.lst us)->Paired (PAt H') (bC zs) us->Q (.ref l) H'
theorem zH (ws:List Str) (k:Nat):dS (ws.map V.str) none (some (k:Int))=(ws.take k).map V.str/\dS (ws.map V.str) (some (k:Int)) none=(ws.drop k).map V.str:=by
 constructor
 ·rw[gV,List.map_take]
 ·rw[eK,List.map_drop]
theorem wU {H:Hp} (ws:List Str):Paired (PAt H) (scs ws) (ws.map V.str):=by
 induction ws with
 | nil=>exact .nil
 | cons w ws ih=>exact .cons rfl ih
theorem oN (ws:List Str) (k:Nat):((ws.drop k).map Str.length).sum+(ws.drop k).length<=(ws.map Str.length).sum+ws.length:=by
 have e:ws=ws.take k++ws.drop k:=(List.take_append_drop k ws).symm
 have h1:=gH (ws.take k) (ws.drop k)
 rw[<- e]at h1;have h2:=congrArg List.length e
 rw[eG]at h2;omega
theorem Bp (T:Txt K mg) (c_deed_of:Callee P w K mg base 6 "deed_of" ["words"] Dk) (c_answer_of:Callee P w K mg base 3 "answer_of" ["words"] Lj) (D:DefAt K mg "line_parts" gJ ["text"]):Callee P w K mg base 7 "line_parts" ["text"] zG:=by
 refine D.go fE (fun vs H Q E h=>?_) (fun f cdv A outer s H vs Q E hr h=>?_)
 ·obtain⟨ps,rfl,_⟩:=h;rfl
 ·obtain⟨zs,rfl,h0,hw,hz,q⟩:=h
  have hr_deed_of:=hr
  have hr_answer_of:Room 3 _:=hr.mono Zd
  refine⟨_,(R.ae (R.ai (i:=1) fE.nd (R.bb (K:=K) PySem.F.plainAttrs_str PySem.F.slot_str_split PySem.F.type_str_split R.ck (R.v 0) (R.Z R.ad R.aa))) (R.ae (R.aj (R.ah R.eq (R.ix (R.aq (K:=K)) (R.v 1) R.ac) R.ad) (R.ae (R.ai (i:=2) fE.nd (R.bb (K:=K) PySem.F.plainAttrs_str PySem.F.slot_str_partition PySem.F.type_str_partition R.fw (R.v 0) (R.Z R.ad R.aa))) (R.ae (R.ai (i:=1) fE.nd (R.bb (K:=K) PySem.F.plainAttrs_str PySem.F.slot_str_split PySem.F.type_str_split R.ck (R.ix (R.al (K:=K)) (R.v 2) R.ac) (R.Z R.ad R.aa))) (R.af (R.ag (R.op R.ay (R.sl (R.ax (K:=K)) (R.v 1) R.pn (R.ps R.ac)) (R.ap (R.Z (R.fn c_deed_of hr_deed_of rfl (R.Z (R.sl (R.ax (K:=K)) (R.v 1) (R.ps R.ac) R.pn) R.aa)) (R.Z (R.fn c_answer_of hr_answer_of rfl (R.Z (R.bb (K:=K) PySem.F.plainAttrs_str PySem.F.slot_str_split PySem.F.type_str_split R.ck (R.ix (R.al (K:=K)) (R.v 2) R.ac) (R.Z R.ad R.aa)) R.aa)) R.aa)))))))) R.ak) (R.ae (R.aj (R.ah R.eq (R.ix (R.aq (K:=K)) (R.v 1) R.ac) R.ad) (R.af (R.ag (R.op R.ay (R.sl (R.ax (K:=K)) (R.v 1) R.pn (R.ps R.ac)) (R.ap (R.Z (R.fn c_deed_of hr_deed_of rfl (R.Z (R.sl (R.ax (K:=K)) (R.v 1) (R.ps R.ac) R.pn) R.aa)) R.aa))))) R.ak) (R.ae (R.aj (R.ah R.eq (R.ix (R.aq (K:=K)) (R.v 1) R.ac) R.ad) (R.af (R.ag (R.op R.ay (R.sl (R.ax (K:=K)) (R.v 1) R.pn (R.ps R.ac)) (R.ap (R.Z (R.fn c_answer_of hr_answer_of rfl (R.Z (R.sl (R.ax (K:=K)) (R.v 1) (R.ps R.ac) R.pn) R.aa)) R.aa))))) R.ak) (R.af (R.ag (R.v 1))))))),?_⟩
  have hsum:=gY h0
  refine⟨rfl,Zk,Zo,fun l1 h1=>?_⟩
  rw[iZ,jC h0 hw];dsimp only [aI];have s1:=aA (o:=.lst (zs.map V.str)) h1
  have g1:(aJ H l1 (.lst (zs.map V.str))) l1=some (.lst (zs.map V.str)):=aD
  generalize aJ H l1 (.lst (zs.map V.str))=H1 at s1 g1 ⊢;obtain⟨z0,r,ez⟩:=List.exists_cons_of_ne_nil h0
  have hd:zs.headD ""=z0:=by rw[ez];rfl
  have hw0:eF (zs.map V.str) ((0:Nat):Int)=some (.str z0):=aF (by rw[ez];rfl)
  refine⟨_,SqL.of g1,_,hw0,?_⟩
  have hlw:∀p∈zs,p.length<=890:=fun p hp=>by have:=lM hp;have:1<=zs.length:=List.length_pos_iff.mpr h0;omega
  show if decide (z0="kept")=true then _ else _
  refine aV (fun hk=>?_) (fun hk=>?_)
  ·have hk':=of_decide_eq_true hk
   have hp:∃A B:List Str,cW zs=(A,B)/\A≠[]/\(∀p∈A,32∉p.cps.toList)/\B≠[]/\(∀p∈B,32∉p.cps.toList)/\(jw A).length<=890/\(jw B).length<=890/\(Txt.partition (jw zs) (" = ":Str)).1=jw A/\(Txt.partition (jw zs) (" = ":Str)).2.2=jw B:=by
    rw[show(" = ":Str)=tx [32,61,32] by decide +kernel]
    unfold cW;rw[ez]at hw hz ⊢;cases hb:brk r with
    | none=>
     refine⟨z0::r,[""],by rw[show(z0::r).tail=r from rfl,hb],Zs,hw,Zs,Zk,hz,Zk,?_,?_⟩
     ·rw[rL hw hb]
     ·rw[rL hw hb];show Str.empty=jw [""];decide +kernel
    | some AB=>
     obtain⟨A,B⟩:=AB
     obtain⟨er,hB,hA⟩:=lD hb
     have e:z0::r=(z0::A)++("=":Str)::B:=by rw[er];rfl
     have s0:=gY (ws:=z0::r) Zs
     have e3:((z0::r).map Str.length).sum=((z0::A).map Str.length).sum+(("=":Str).length+(B.map Str.length).sum):=by rw[e,gH];rfl
     have e4:(z0::r).length=(z0::A).length+(B.length+1):=by rw[e,eG];rfl
     have s1:=gY (ws:=z0::A) Zs
     have s2:=gY hB
     refine⟨z0::A,B,by rw[show(z0::r).tail=r from rfl,hb];rfl,Zs,fun p hp=>hw p (by rw[e];exact List.mem_append_left _ hp),hB,fun p hp=>hw p (by rw[e];exact List.mem_append_right _ (gT _ hp)),Zo,Zo,?_,?_⟩
     ·rw[rK hw hb]
     ·rw[rK hw hb]
   obtain⟨A,B,es,nA,wA,nB,wB,lA,lB,e1,e2⟩:=hp
   have ep:=eX (by rw[hd,hk']) es
   have sA:=gY nA
   have sB:=gY nB
   refine⟨rfl,jw zs," = ",rfl,rfl,Zk,Zo,fun p2 h2=>?_⟩
   dsimp only [aI];rw[e1,e2];refine⟨_,SqT.of aD,.str (jw A),aF (j:=0) rfl,rfl,Zk,Zo,fun l3 h3=>?_⟩
   rw[jC nA wA];dsimp only [aI];generalize hmid:(Txt.partition (jw zs) (" = ":Str)).2.1=mid at *;have s2:=aA (o:=.tup [.str (jw A),.str mid,.str (jw B)]) h2
   have s3:=aA (o:=.lst (A.map V.str)) h3
   have g3:(aJ (aJ H1 p2 (.tup [.str (jw A),.str mid,.str (jw B)])) l3 (.lst (A.map V.str))) l3=some (.lst (A.map V.str)):=aD
   have gt:(aJ (aJ H1 p2 (.tup [.str (jw A),.str mid,.str (jw B)])) l3 (.lst (A.map V.str))) p2=some (.tup [.str (jw A),.str mid,.str (jw B)]):=cI aD h3
   have s13:=(s1.trans s2).trans s3
   generalize aJ (aJ H1 p2 (.tup [.str (jw A),.str mid,.str (jw B)])) l3 (.lst (A.map V.str))=H3 at s3 g3 gt s13 ⊢;refine⟨_,SqL.of g3,fun l4 h4=>⟨_,SqL.of (aA h4 _ _ g3),fun l5 h5=>?_⟩⟩
   rw[show dS (A.map V.str) none (some (5:Int))=(A.take 5).map V.str from(zH A 5).1]at h5 ⊢;rw[show dS (A.map V.str) (some (5:Int)) none=(A.drop 5).map V.str from(zH A 5).2];have s5:=(aA (o:=.lst ((A.take 5).map V.str)) h4).trans (aA (o:=.lst ((A.drop 5).map V.str)) h5)
   have g4:(aJ (aJ H3 l4 (.lst ((A.take 5).map V.str))) l5 (.lst ((A.drop 5).map V.str))) l4=some (.lst ((A.take 5).map V.str)):=cI aD h5
   have g5:(aJ (aJ H3 l4 (.lst ((A.take 5).map V.str))) l5 (.lst ((A.drop 5).map V.str))) l5=some (.lst ((A.drop 5).map V.str)):=aD
   generalize aJ (aJ H3 l4 (.lst ((A.take 5).map V.str))) l5 (.lst ((A.drop 5).map V.str))=H5 at s5 g4 g5 ⊢;have hdA:=oN A 5
   refine⟨l5,A.drop 5,rfl,g5,Zo,fun v6 H6 s6 pv=>?_⟩
   refine⟨_,SqT.of (s6 _ _ (s5 _ _ gt)),.str (jw B),aF (j:=2) rfl,rfl,Zk,Zo,fun l7 h7=>?_⟩
   rw[jC nB wB];have s7:=aA (o:=.lst (B.map V.str)) h7
   have g7:(aJ H6 l7 (.lst (B.map V.str))) l7=some (.lst (B.map V.str)):=aD
   generalize aJ H6 l7 (.lst (B.map V.str))=H7 at s7 g7 ⊢;refine⟨l7,B,rfl,g7,Zo,fun p hp=>by have:=lM hp;omega,fun t8 H8 s8 g8=>?_⟩
   have s58:=(s6.trans s7).trans s8
   refine⟨dU rfl,fun l9 h9=>⟨_,_,aA h9 _ _ (s58 _ _ g4),aD,cH (by rw[aZ,fS];simp;omega),fun l10 h10=>?_⟩⟩
   have sE:=(aA (o:=.lst [v6,.ref t8]) h9).trans (aA (o:=.lst ((A.take 5).map V.str++[v6,.ref t8])) h10)
   refine q l10 _ _ (((s13.trans s5).trans s58).trans sE) aD ?_
   rw[ep];exact eY (wU _) (.cons ((pv.same (s7.trans s8)).same sE) (.cons ⟨t8,rfl,sE _ _ g8⟩ .nil))
  have n1:¬ zs.headD ""="kept":=by rw[hd];exact of_decide_eq_false hk
  dsimp only [aR];refine⟨_,SqL.of g1,_,hw0,?_⟩
  show if decide (z0="came")=true then _ else _
  refine aV (fun hk2=>?_) (fun hk2=>?_)
  ·have ep:bC zs=scs (zs.take 5)++[eS (zs.drop 5)]:=by unfold bC;rw[if_neg n1,if_pos (by rw[hd];exact of_decide_eq_true hk2)]
   refine⟨_,SqL.of g1,fun l4 h4=>⟨_,SqL.of (aA h4 _ _ g1),fun l5 h5=>?_⟩⟩
   rw[show dS (zs.map V.str) none (some (5:Int))=(zs.take 5).map V.str from(zH zs 5).1]at h5 ⊢;rw[show dS (zs.map V.str) (some (5:Int)) none=(zs.drop 5).map V.str from(zH zs 5).2];have s5:=(aA (o:=.lst ((zs.take 5).map V.str)) h4).trans (aA (o:=.lst ((zs.drop 5).map V.str)) h5)
   have g4:(aJ (aJ H1 l4 (.lst ((zs.take 5).map V.str))) l5 (.lst ((zs.drop 5).map V.str))) l4=some (.lst ((zs.take 5).map V.str)):=cI aD h5
   have g5:(aJ (aJ H1 l4 (.lst ((zs.take 5).map V.str))) l5 (.lst ((zs.drop 5).map V.str))) l5=some (.lst ((zs.drop 5).map V.str)):=aD
   generalize aJ (aJ H1 l4 (.lst ((zs.take 5).map V.str))) l5 (.lst ((zs.drop 5).map V.str))=H5 at s5 g4 g5 ⊢;have hdA:=oN zs 5
   refine⟨l5,zs.drop 5,rfl,g5,Zo,fun v6 H6 s6 pv=>?_⟩
   refine⟨dU rfl,fun l9 h9=>⟨_,_,aA h9 _ _ (s6 _ _ g4),aD,cH (by rw[aZ,fS];simp;omega),fun l10 h10=>?_⟩⟩
   have sE:=(aA (o:=.lst [v6]) h9).trans (aA (o:=.lst ((zs.take 5).map V.str++[v6])) h10)
   refine q l10 _ _ (((s1.trans s5).trans s6).trans sE) aD ?_
   rw[ep];exact eY (wU _) (.cons (pv.same sE) .nil)
  have n2:¬ zs.headD ""="came":=by rw[hd];exact of_decide_eq_false hk2
  dsimp only [aR];refine⟨_,SqL.of g1,_,hw0,?_⟩
  show if decide (z0="done")=true then _ else _
  refine aV (fun hk3=>?_) (fun hk3=>?_)
  ·have ep:bC zs=scs (zs.take 3)++[.tp (eW (zs.drop 3))]:=by unfold bC;rw[if_neg n1,if_neg n2,if_pos (by rw[hd];exact of_decide_eq_true hk3)]
   refine⟨_,SqL.of g1,fun l4 h4=>⟨_,SqL.of (aA h4 _ _ g1),fun l5 h5=>?_⟩⟩
   rw[show dS (zs.map V.str) none (some (3:Int))=(zs.take 3).map V.str from(zH zs 3).1]at h5 ⊢;rw[show dS (zs.map V.str) (some (3:Int)) none=(zs.drop 3).map V.str from(zH zs 3).2];have s5:=(aA (o:=.lst ((zs.take 3).map V.str)) h4).trans (aA (o:=.lst ((zs.drop 3).map V.str)) h5)
   have g4:(aJ (aJ H1 l4 (.lst ((zs.take 3).map V.str))) l5 (.lst ((zs.drop 3).map V.str))) l4=some (.lst ((zs.take 3).map V.str)):=cI aD h5
   have g5:(aJ (aJ H1 l4 (.lst ((zs.take 3).map V.str))) l5 (.lst ((zs.drop 3).map V.str))) l5=some (.lst ((zs.drop 3).map V.str)):=aD
   generalize aJ (aJ H1 l4 (.lst ((zs.take 3).map V.str))) l5 (.lst ((zs.drop 3).map V.str))=H5 at s5 g4 g5 ⊢;refine⟨l5,zs.drop 3,rfl,g5,by rw[List.length_drop];omega,fun p hp=>by have:=hlw p (List.mem_of_mem_drop hp);omega,fun t6 H6 s6 g6=>?_⟩
   refine⟨dU rfl,fun l9 h9=>⟨_,_,aA h9 _ _ (s6 _ _ g4),aD,cH (by rw[aZ,fS];simp;omega),fun l10 h10=>?_⟩⟩
   have sE:=(aA (o:=.lst [.ref t6]) h9).trans (aA (o:=.lst ((zs.take 3).map V.str++[.ref t6])) h10)
   refine q l10 _ _ (((s1.trans s5).trans s6).trans sE) aD ?_
   rw[ep];exact eY (wU _) (.cons ⟨t6,rfl,sE _ _ g6⟩ .nil)
  have n3:¬ zs.headD ""="done":=by rw[hd];exact of_decide_eq_false hk3
  dsimp only [aR];refine q l1 _ _ s1 g1 ?_
  have ep:bC zs=scs zs:=by unfold bC;rw[if_neg n1,if_neg n2,if_neg n3]
  rw[ep];exact wU _
end
end KL
namespace KL
open PySem L2
section
variable {P:Program} {w:World} {K:W.Frag} {mg:Str->Option Value} {base:Heap}
def okK (k:V) (p:RP):Prop:=∃kd,k=.str kd/\((BDS.lookup kd).isSome=true->∃z,p=.sc (.str z)/\z.length<=1000)
def okR:List V->List RP->Prop
 | [],[]=>True
 | k::ks,p::ps=>okK k p/\okR ks ps
 | _,_=>False
theorem okR.get:∀ {ks:List V} {ps:List RP},okR ks ps->∀ {i:Nat} {k:V} {p:RP},ks[i]?=some k->ps[i]?=some p->okK k p
 | [],[],_,i,k,p,h,_=>by simp at h
 | k::ks,p::ps,h,0,_,_,h1,h2=>by cases h1;cases h2;exact h.1
 | k::ks,p::ps,h,i+1,_,_,h1,h2=>okR.get h.2 (by simpa using h1) (by simpa using h2)
theorem Dl:∀ {ks:List V} {r:List Str},vZ ks->ks.length=r.length->(∀p∈r,p.length<=1000)->okR ks (scs r)
 | [],[],_,_,_=>trivial
 | k::ks,z::r,ht,hl,hz=>by
  obtain⟨kd,rfl⟩:=ht k iW
  exact⟨⟨kd,rfl,fun _=>⟨z,rfl,hz z iW⟩⟩,Dl (fun y hy=>ht y (gT _ hy)) (by simpa using hl) fun p hp=>hz p (gT _ hp)⟩
theorem wV {kd:Str} (h:BDS.lookup kd=none) (p:RP):okK (.str kd) p:=⟨kd,rfl,fun e=>by rw[h]at e;cases e⟩
theorem iU (kd:Str) {z:Str} (h:z.length<=1000):okK (.str kd) (.sc (.str z)):=⟨kd,rfl,fun _=>⟨z,rfl,h⟩⟩
theorem Lk {z0:Str} {r:List Str}:∃A B,cW (z0::r)=(z0::A,B)/\(∀p∈A,p∈r)/\((∀p∈B,p∈r)/\B.length<=r.length∨B=[("":Str)]):=by
 unfold cW;rw[show(z0::r).tail=r from rfl];cases hb:brk r with
 | none=>exact⟨r,[("":Str)],rfl,fun p h=>h,.inr rfl⟩
 | some AB=>
  obtain⟨A,B⟩:=AB
  obtain⟨er,_,_⟩:=lD hb
  refine⟨A,B,rfl,fun p h=>by rw[er];exact List.mem_append_left _ h,.inl ⟨fun p h=>by rw[er];exact List.mem_append_right _ (gT _ h),?_⟩⟩
  rw[er,eG,fI];omega
theorem qK {ws:List Str} (h:∀p∈ws,p.length<=1000):∀p∈scs ws,pS p:=fun p hp=>by
 obtain⟨z,hz,rfl⟩:=Zmm.mp hp
 exact⟨rfl,fun z' e=>by cases e;exact h z hz⟩
theorem zI (o:Option Nat):bS (bA o)=true/\∀z,bA o=.str z->z.length<=1000:=by
 cases o <;> exact⟨rfl,fun z e=>by cases e⟩
theorem Dm {ws:List Str} (h:∀p∈ws,p.length<=1000) (hl:ws.length<=1000):pS (.tp (eW ws)):=by
 cases ws with
 | nil=>exact⟨Zd,fun _ h=>nomatch h⟩
 | cons u r=>
  have hs:∀z∈u::r,bS (V.str z)=true/\∀z',V.str z=.str z'->z'.length<=1000:=fun z hz=>⟨rfl,fun z' e=>by cases e;exact h z hz⟩
  unfold eW;dsimp only;split
  ·refine⟨by rw[fI,aZ];simpa using hl,Zfm.mpr ⟨hs u iW,fun y hy=>?_⟩⟩
   obtain⟨z,hz,rfl⟩:=Zmm.mp hy
   exact hs z (gT _ hz)
  ·refine⟨by rw[fI,aZ];simpa using hl,Zfm.mpr ⟨hs u iW,fun y hy=>?_⟩⟩
   obtain⟨z,hz,rfl⟩:=Zmm.mp hy
   exact zI _
theorem zJ {ws:List Str} (hw:∀p∈ws,32∉p.cps.toList) (h:∀p∈ws,p.length<=1000):pS (eS ws):=by
 unfold eS;split
 ·rename_i hb
  have e:=(zD ws hw).2 hb
  have hl:=cF hb
  refine⟨Zo,?_⟩
  rw[<- e];intro y hy;obtain⟨z,hz,rfl⟩:=Zmm.mp hy
  unfold bB;split
  ·exact⟨rfl,fun z e=>by cases e⟩
  ·exact⟨rfl,fun z' e=>by cases e;exact h z hz⟩
 ·exact⟨rfl,fun z e=>by cases e⟩
theorem Ll {z0:Str} {r:List Str} (hw:∀p∈z0::r,32∉p.cps.toList) (hz:∀p∈z0::r,p.length<=1000) (hn:(z0::r).length<=1000):∃rest,bC (z0::r)=.sc (.str z0)::rest/\(∀p∈bC (z0::r),pS p)/\(bC (z0::r)).length<=1000/\((bC (z0::r)).length=(aW (z0::r)).length+1->okR (aW (z0::r)) rest):=by
 have hd:(z0::r).headD ""=z0:=rfl
 obtain⟨A,B,es,hA,hB⟩:=Lk (z0:=z0) (r:=r)
 have hA1:∀p∈z0::A,p∈z0::r:=fun p hp=>by
  rcases List.mem_cons.mp hp with h | h
  ·rw[h];exact iW
  ·exact gT _ (hA p h)
 have hBl:(∀p∈B,p.length<=1000)/\B.length<=1000:=by
  rcases hB with⟨h1,h2⟩ | rfl
  ·exact⟨fun p hp=>hz p (gT _ (h1 p hp)),by rw[fI]at hn;omega⟩
  ·exact⟨Zk,Zd⟩
 unfold aW bC;rw[hd,es];by_cases h1:z0="kept"
 ·rw[if_pos h1];refine⟨scs (A.take 4)++[eS ((z0::A).drop 5),.tp (eW B)],rfl,?_,?_,fun hl=>?_⟩
  ·refine List.forall_mem_append.mpr ⟨qK fun p hp=>hz p (hA1 p (List.mem_of_mem_take hp)),Zfm.mpr ⟨zJ (fun p hp=>hw p (hA1 p (List.mem_of_mem_drop hp))) fun p hp=>hz p (hA1 p (List.mem_of_mem_drop hp)),Zfm.mpr ⟨Dm hBl.1 hBl.2,fun _ h=>nomatch h⟩⟩⟩
  ·unfold scs;rw[eG,aZ,fS];simp;omega
  ·rw[h1,Ps]at hl ⊢;unfold scs at hl;rw[eG,aZ,fS]at hl;have hl4:4<=A.length:=by simp at hl;omega
   match A,hl4,hA1 with
   | a::b::c::d::A',_,hA1=>
    have hh:∀p∈[a,b,c,d],p.length<=1000:=fun p hp=>hz p (hA1 p (by simp at hp ⊢;rcases hp with h | h | h | h <;> simp [h]))
    exact⟨iU _ (hh a Zs),iU _ (hh b Zs),iU _ (hh c Zs),iU _ (hh d Zs),wV bd7 _,wV bd8 _,trivial⟩
 rw[if_neg h1];by_cases h2:z0="came"
 ·rw[if_pos h2];refine⟨scs (r.take 4)++[eS ((z0::r).drop 5)],rfl,?_,?_,fun hl=>?_⟩
  ·refine List.forall_mem_append.mpr ⟨qK fun p hp=>hz p (List.mem_of_mem_take hp),Zfm.mpr ⟨zJ (fun p hp=>hw p (List.mem_of_mem_drop hp)) fun p hp=>hz p (List.mem_of_mem_drop hp),fun _ h=>nomatch h⟩⟩
  ·unfold scs;rw[eG,aZ,fS];simp;omega
  ·rw[h2,pt4]at hl ⊢;unfold scs at hl;rw[eG,aZ,fS]at hl;have hl4:4<=r.length:=by simp at hl;omega
   match r,hl4,hz with
   | a::b::c::d::A',_,hz=>
    have hh:∀p∈[a,b,c,d],p.length<=1000:=fun p hp=>hz p (by simp at hp ⊢;rcases hp with h | h | h | h <;> simp [h])
    exact⟨iU _ (hh a Zs),iU _ (hh b Zs),iU _ (hh c Zs),iU _ (hh d Zs),wV bd7 _,trivial⟩
 rw[if_neg h2];by_cases h3:z0="done"
 ·rw[if_pos h3];refine⟨scs (r.take 2)++[.tp (eW ((z0::r).drop 3))],rfl,?_,?_,fun hl=>?_⟩
  ·refine List.forall_mem_append.mpr ⟨qK fun p hp=>hz p (List.mem_of_mem_take hp),Zfm.mpr ⟨Dm (fun p hp=>hz p (List.mem_of_mem_drop hp)) (by rw[List.length_drop];omega),fun _ h=>nomatch h⟩⟩
  ·unfold scs;rw[eG,aZ,fS];simp;omega
  ·rw[h3,pt6]at hl ⊢;unfold scs at hl;rw[eG,aZ,fS]at hl;have hl4:2<=r.length:=by simp at hl;omega
   match r,hl4,hz with
   | a::b::A',_,hz=>
    exact⟨iU _ (hz a Zs),iU _ (hz b Zs),wV bd8 _,trivial⟩
 rw[if_neg h3];refine⟨scs r,rfl,qK hz,by unfold scs;rw[aZ];exact hn,fun hl=>?_⟩
 have hl':((PTS.lookup z0).getD []).length=r.length:=by
  unfold scs at hl;rw[aZ,fI]at hl;omega
 refine Dl ?_ hl' fun p hp=>hz p (gT _ hp)
 cases e:PTS.lookup z0 with
 | none=>exact fun y hy=>nomatch hy
 | some ks=>exact(tV e).1
theorem Pw {k:V} {p:RP} (h:pS p):pS (kL k p):=by
 unfold kL;split
 ·split
  ·exact zI _
  ·exact h
 ·exact h
theorem Lm {H:Hp} {a:Addr} {ps:List RP} (ra:RowAt H a ps) (hf:∀p∈ps,pS p) (hl:ps.length<=1000):Tz H (.ref a):=by
 obtain⟨vs,g,pv⟩:=ra
 refine⟨.tup g,fun b xs e g'=>?_⟩
 cases e
 rw[g]at g';cases g'
 refine⟨by rw[<- pv.length];exact hl,fun y hy=>?_⟩
 obtain⟨j,hj,e⟩:=List.mem_iff_getElem.mp hy
 obtain⟨h1,q1⟩:=Paired.get' (j:=j) pv hj
 rw[e]at q1;have hp:=hf _ (List.getElem_mem h1)
 generalize ps[j]=p at q1 hp;cases p with
 | sc v=>cases (show y=v from q1);exact .flat (.inl hp) fun b xs e g=>by rw[e]at hp;cases hp.1
 | tp xs=>
  obtain⟨b,rfl,gb⟩:=q1
  exact .tup gb hp.1 fun y hy=>.inl (hp.2 y hy)
def zK (C:Addr):Sp:=fun vs H Q E=>∃zs,vs=[.str (jw zs)]/\zs≠[]/\(∀p∈zs,32∉p.cps.toList)/\(jw zs).length<=890/\(∀ps,kG zs=some ps->(∀p∈ps,pS p)->ps.length<=1000->∀a H',Same H H'->RowAt H' a ps->Q (.ref a) H')/\(kG zs=none->∀H',Same H H'->E (.ref C) none H')
theorem wW {C:Addr} (T:Txt K mg) (U:Ze w.params K mg) (X_NoRow:XCls K mg "NoRow" C) (c_line_parts:Callee P w K mg base 7 "line_parts" ["text"] zG) (c_number_of:Callee P w K mg base 2 "number_of" ["text"] pN) (c_is_row:Callee P w K mg base 7 "is_row" ["thing"] lC) (D:DefAt K mg "read_row" hG ["text"]):jM P w K mg base 8 "read_row" ["text"] (zK C):=by
 refine D.goX fO (fun vs H Q E h=>?_) (fun f cdv A outer s H vs Q E hr h=>?_)
 ·obtain⟨zs,rfl,_⟩:=h;rfl
 ·obtain⟨zs,rfl,h0,hw,hz,qy,qn⟩:=h
  have hr_line_parts:=hr
  have hr_is_row:=hr
  have hr_number_of:Room 2 _:=hr.mono Zd
  obtain⟨aP,m_PARTS,tP⟩:=U.g_PARTS
  obtain⟨aB,m_BOUNDS,tB⟩:=U.g_BOUNDS
  refine⟨_,(R.ae (R.ai (i:=1) fO.nd (R.fn c_line_parts hr_line_parts rfl (R.Z (R.v 0) R.aa))) (R.ae (R.ai (i:=2) fO.nd (R.fz (K:=K) (P:=w.params) (R.gR rfl m_PARTS) (R.ix (R.aq (K:=K)) (R.v 1) R.ac) (R.am R.aa))) (R.ae (R.aj (R.ah R.ne (R.ao (R.au (K:=K)) rfl T.b_len aX (R.Z (R.v 1) R.aa)) (R.op R.ar (R.ao (R.au (K:=K)) rfl T.b_len aX (R.Z (R.v 2) R.aa)) R.ac)) (R.af (R.fh X_NoRow pH rfl (R.Z R.ad R.aa))) R.ak) (R.ae (R.en (i:=3) fO.nd rfl (Or.inl rfl) rfl (js:=[none,none]) (N:=["kind","part"]) (CompScope.by (aE hG) ["text","parts","kinds","read","row"] rfl rfl Zk) (kP (cG rfl (cG rfl iX))) (R.de (K:=K) rfl T.b_zip (R.v 2) (R.sl (R.ax (K:=K)) (R.v 1) (R.ps R.ac) R.pn)) (fun C s₂ H₂ fp=>⟨(R.cv (K:=K) (n:=2) rfl (R.bv (R.gn (i:=0) (show(["kind","part"]:List Str).Nodup by decide +kernel)) (R.bv (R.gn (i:=1) (show(["kind","part"]:List Str).Nodup by decide +kernel)) R.cy))),R.br,(R.ir (R.ah (R.fc (K:=K) (P:=w.params)) (R.v 0) (R.gR rfl m_BOUNDS)) (R.fn c_number_of hr_number_of rfl (R.Z (R.v 1) R.aa)) (R.v 1))⟩) rfl) (R.ae (R.ai (i:=4) fO.nd (R.bn (R.dk (K:=K)) rfl T.b_tuple bT (R.Z (R.op R.ay (R.sl (R.ax (K:=K)) (R.v 1) R.pn (R.ps R.ac)) (R.v 3)) R.aa))) (R.ae (R.aj (R.aw (R.av (R.fn c_is_row hr_is_row rfl (R.Z (R.v 4) R.aa)))) (R.af (R.fh X_NoRow pH rfl (R.Z R.ad R.aa))) R.ak) (R.af (R.ag (R.v 4))))))))),?_⟩
  have hsum:=gY h0
  have hlw:∀p∈zs,p.length<=1000:=fun p hp=>by have:=lM hp;omega
  have hn:zs.length<=1000:=by omega
  refine⟨zs,rfl,h0,hw,hz,fun l us H1 s1 g1 pv=>?_⟩
  obtain⟨z0,r,ez⟩:=List.exists_cons_of_ne_nil h0
  obtain⟨rest,er,hrp,hpl,hok⟩:=Ll (by rw[<- ez];exact hw) (by rw[<- ez];exact hlw) (by rw[<- ez];exact hn)
  rw[<- ez]at er hrp hpl hok;have ekd:aW zs=(PTS.lookup z0).getD []:=by unfold aW;rw[ez];rfl
  rw[er]at pv;cases pv with
  | cons p0 pv=>
   rename_i y us
   have:y=.str z0:=p0
   subst this;have e6:rest.length=us.length:=pv.length
   have epl:(bC zs).length=us.length+1:=by rw[er,fI,e6]
   dsimp only [aI];refine Uf (t:=Hd _ _) (fun σ' H'=>∃b,σ'=[some (.str (jw zs)),some (.ref l),some (.ref b),none,none]/\(∀H'',Same H' H''->SqT K H'' b (aW zs))/\Same H1 H') (fun nx hnx=>?_) (fun σ' H2 ⟨b,e',hb,s2⟩=>?_)
   ·refine⟨_,tP,_,SqL.of g1,_,(show eF (V.str z0::us) ((0:Nat):Int)=some (.str z0) from aF rfl),Zs,fun t0 H2 s2 g2=>⟨fun xs b hx hb=>?_,fun hn=>?_⟩⟩
    ·refine hnx _ _ ⟨b,rfl,fun H'' _=>?_,s2⟩
     rw[ekd,hx];exact hb _
    ·refine hnx _ _ ⟨t0,rfl,fun H'' s''=>?_,s2⟩
     rw[ekd,hn];exact SqT.of (s'' _ _ g2)
   subst e';dsimp only [nK];have g12:=s2 _ _ g1
   refine⟨_,.inl (SqL.of g12),_,.inr (hb _ (Same.refl _)),?_⟩
   show if (!decide ((((V.str z0::us).length:Nat):Int)=(((aW zs).length:Nat):Int)+1))=true then _ else _
   refine aV (fun hl=>?_) (fun hl=>?_)
   ·have hl':¬ (bC zs).length=(aW zs).length+1:=fun e=>by
     have:((((V.str z0::us).length:Nat):Int)=(((aW zs).length:Nat):Int)+1):=by rw[fI];omega
     rw[decide_eq_true this]at hl;cases hl
    refine⟨dU rfl,qn ?_ _ (s1.trans s2)⟩
    unfold kG;rw[if_neg (fun h=>hl' h.1)]
   have hl':(bC zs).length=(aW zs).length+1:=by
    have h1:((((V.str z0::us).length:Nat):Int)=(((aW zs).length:Nat):Int)+1):=by
     have:decide ((((V.str z0::us).length:Nat):Int)=(((aW zs).length:Nat):Int)+1)=true:=by simpa using hl
     exact of_decide_eq_true this
    rw[fI]at h1;omega
   have hR:=hok hl'
   have lk:(aW zs).length=us.length:=by omega
   dsimp only [aR];refine⟨_,SqL.of g12,fun p1 h1=>?_⟩
   have ec:dS (V.str z0::us) (some 1) none=us:=L2.eK _ 1
   rw[ec];have s3:=aA (o:=.lst us) h1
   have g3:(aJ H2 p1 (.lst us)) p1=some (.lst us):=aD
   generalize aJ H2 p1 (.lst us)=H3 at s3 g3 ⊢;refine⟨false,true,_,_,hb _ s3,SqL.of g3,?_⟩
   have l6:us.length<=1000:=by omega
   refine kX Zo (fun i ys H'=>Paired (PAt H') ((((aW zs).zip rest).map fun q=>kL q.1 q.2).take i) ys/\Same H3 H') (fun i ys H' ⟨e,s'⟩=>⟨hb _ (s3.trans s'),SqL.of (s' _ _ g3),by rw[<- e.length,fS];exact Nat.min_le_left _ _⟩) ⟨.nil,Same.refl _⟩ (fun i x y ys H' t' hx' hy' ⟨e,s'⟩ ht'=>?_) (fun ys H' ⟨e,s'⟩=>?_)
   ·obtain⟨hi,ei⟩:=Zgs.mp hy'
    obtain⟨h1',q1⟩:=Paired.get' (j:=i) pv hi
    rw[ei]at q1;have hrest:rest[i]?=some rest[i]:=jH h1'
    obtain⟨kd,rfl,hkb⟩:=hR.get hx' hrest
    have s4:=aA (o:=.tup [.str kd,y]) ht'
    have et:(((aW zs).zip rest).map fun q=>kL q.1 q.2).take (i+1)=(((aW zs).zip rest).map fun q=>kL q.1 q.2).take i++[kL (.str kd) rest[i]]:=by
     have ez:((aW zs).zip rest)[i]?=some (.str kd,rest[i]):=by rw[List.getElem?_zip_eq_some];exact⟨hx',hrest⟩
     rw[Mj,kH,ez];rfl
    generalize rest[i]=pj at q1 hkb et;have q1':=PAt.same (((s2.trans s3).trans s').trans s4) q1
    refine⟨t',_,rfl,SqT.of aD,rfl,_,_,rfl,_,_,rfl,rfl,_,tB,?_⟩
    have fin:∀ {G:Hp} {v:V},Same (aJ H' t' (.tup [.str kd,y])) G->PAt G (kL (.str kd) pj) v->Paired (PAt G) ((((aW zs).zip rest).map fun q=>kL q.1 q.2).take (i+1)) (ys++[v])/\Same H3 G:=fun sG hp=>by
     rw[et];exact⟨Paired.snoc (Paired.map' (fun _ _=>PAt.same (s4.trans sG)) e) hp,(s'.trans s4).trans sG⟩
    show if (BDS.lookup kd).isSome=true then _ else _
    refine aV (fun hk=>?_) (fun hk=>?_)
    ·obtain⟨z,rfl,hzl⟩:=hkb hk
     have ey:y=.str z:=q1'
     subst ey;refine⟨z,rfl,hzl,fun G sG=>fin sG ?_⟩
     unfold kL;dsimp only;rw[if_pos hk];rfl
    ·refine fin (Same.refl _) ?_
     have:kL (.str kd) pj=pj:=fH (by cases e:BDS.lookup kd with | none=>rfl | some v=>rw[e]at hk;cases hk) pj
     rw[this];exact q1'
   have lz:(((aW zs).zip rest).map fun q=>kL q.1 q.2).length=us.length:=by rw[aZ,List.length_zip];omega
   rw[lk,Nat.min_self,rV (by rw[lz];exact cL _)]at e
   intro p2 h2;dsimp only [aI];have s5:=aA (o:=.lst ys) h2
   have g5:(aJ H' p2 (.lst ys)) p2=some (.lst ys):=aD
   generalize aJ H' p2 (.lst ys)=H5 at s5 g5 ⊢;have g15:=s5 _ _ (s' _ _ (s3 _ _ g12))
   have yl:ys.length=us.length:=by rw[<- e.length,lz]
   refine⟨_,SqL.of g15,fun p3 h3=>?_⟩
   have ec1:dS (V.str z0::us) none (some 1)=[.str z0]:=L2.gV _ 1
   rw[ec1];refine⟨_,_,aD,aA h3 _ _ g5,cH (by simp;omega),fun p4 h4=>⟨_,SqL.of aD,fun p5 h5=>?_⟩⟩
   have sE:=((aA (o:=.lst [V.str z0]) h3).trans (aA (o:=.lst ([V.str z0]++ys)) h4)).trans (aA (o:=.tup ([V.str z0]++ys)) h5)
   have gE:(aJ (aJ (aJ H5 p3 (.lst [V.str z0])) p4 (.lst ([V.str z0]++ys))) p5 (.tup ([V.str z0]++ys))) p5=some (.tup (V.str z0::ys)):=aD
   dsimp only [aI];generalize aJ (aJ (aJ H5 p3 (.lst [V.str z0])) p4 (.lst ([V.str z0]++ys))) p5 (.tup ([V.str z0]++ys))=H6 at sE gE ⊢;have s06:=((((s1.trans s2).trans s3).trans s').trans s5).trans sE
   have eRow:cO zs=.sc (.str z0)::((aW zs).zip rest).map fun q=>kL q.1 q.2:=by unfold cO;rw[er];rfl
   have ra:RowAt H6 p5 (cO zs):=by
    rw[eRow];exact⟨_,gE,.cons rfl (Paired.map' (fun _ _=>PAt.same (s5.trans sE)) e)⟩
   have hf:∀p∈cO zs,pS p:=by
    rw[eRow];refine Zfm.mpr ⟨hrp _ (by rw[er];exact iW),fun p hp=>?_⟩
    obtain⟨q,hq,rfl⟩:=Zmm.mp hp
    exact Pw (hrp _ (by rw[er];exact gT _ (List.of_mem_zip hq).2))
   have hrl:(cO zs).length<=1000:=by rw[eRow,fI,lz];omega
   refine⟨.ref p5,rfl,Lm ra hf hrl,fun H7 s7=>?_⟩
   rw[Ra ra hf];refine aV (fun hb=>?_) (fun hb=>?_)
   ·have hb':dP (cO zs)=false:=by simpa using hb
    refine⟨dU rfl,qn ?_ H7 (s06.trans s7)⟩
    unfold kG;rw[if_neg (fun h=>by rw[hb']at h;cases h.2)]
   ·have hb':dP (cO zs)=true:=by simpa using hb
    refine qy _ ?_ hf hrl p5 H7 (s06.trans s7) (ra.same s7)
    unfold kG;rw[if_pos ⟨hl',hb'⟩]
end
end KL
namespace KL
open PySem L2
section
variable {P:Program} {w:World} {K:W.Frag} {mg:Str->Option Value} {base:Heap}
theorem Ln (T:Txt K mg) (D:DefAt K mg "_law_count" fN ["_law_word"]):Callee P w K mg base 1 "_law_count" ["_law_word"] pN:=by
 refine D.go wK (fun vs H Q E h=>?_) (fun f cdv A outer s H vs Q E hr h=>?_)
 ·obtain⟨z,rfl,_⟩:=h;rfl
 ·obtain⟨z,rfl,hz,q⟩:=h
  have hu:=hr.units0
  refine⟨_,(R.ae (R.aj (R.tw (R.bc (R.aw (R.fg R.le R.le R.ac (R.ao R.dy rfl T.b_len aX (R.Z (R.v 0) R.aa)) R.ac)) (R.bh (R.ah (R.ib (K:=K) hu) (R.bo rfl (js:=[none]) (N:=["_law_sign"]) (CompScope.by (aE fN) ["_law_word"] rfl rfl Zk) (bF rfl) (R.wS (R.v 0)) (fun C s₂ H₂ fp=>⟨(R.gn (i:=0) (show(["_law_sign"]:List Str).Nodup by decide +kernel)),(R.dj (R.ah R.gy (R.v 0) R.ad)),(R.v 0)⟩)) (R.ap R.aa))))) (R.af (R.ag R.bw)) R.ak) (R.ae (R.aj (R.tw (R.bu (R.ah R.eq (R.ix R.iS (R.v 0) R.ac) R.ad) (R.bx (R.ah R.ne (R.v 0) R.ad)))) (R.af (R.ag R.bw)) R.ak) (R.af (R.ag (R.bn R.gu rfl T.b_int fU (R.Z (R.v 0) R.aa)))))),?_⟩
  refine iY (t:=Wg _ _) (fun v H'=>v=!bI (.str z) nH 13/\Same H H') (fun kk hkk=>?_) (fun v H1 ⟨ev,s1⟩=>?_)
  ·have e:bI (.str z) nH 13=(decide (1<=(z.length:Int))&&decide ((z.length:Int)<=13)&&z.cps.toList.all (fun c=>decide (c∈nH))):=bW _ _ _
   refine⟨cH hz,?_⟩
   show if decide (1<=(z.length:Int))=true then _ else _
   refine aV (fun h1=>?_) (fun h1=>?_)
   ·show if (!decide ((z.length:Int)<=13))=true then _ else _
    refine aV (fun h2=>?_) (fun h2=>?_)
    ·have h2':decide ((z.length:Int)<=13)=false:=by simpa using h2
     exact hkk _ _ ⟨by rw[e,h2',Bool.and_false,Bool.false_and];rfl,Same.refl _⟩
    ·have h2':decide ((z.length:Int)<=13)=true:=by simpa using h2
     refine⟨z,rfl,xW (kB hz Zd) (fun c=>!decide (c∈nH)) (fun c=>.str (tx [c])) (fun c ys N hv ht hf=>?_) ?_⟩
     ·refine⟨c,rfl,?_⟩
      show if (!decide (c∈("0123456789":Str).cps.toList))=true then _ else _
      rw[Ah];exact aV (fun h=>ht h) (fun h=>hf h)
     ·intro p hp;refine⟨dU rfl,fun p2 hp2=>⟨p,p2,_,rfl,rfl,SqL.of (cI aD hp2),SqL.of aD,hkk _ _ ⟨?_,(aA hp).trans (aA hp2)⟩⟩⟩
      rw[e,h1,h2',<- jL];show(!(List.map _ _).isEmpty)=_
      rw[List.isEmpty_map];rfl
   ·exact hkk _ _ ⟨by rw[e,h1];rfl,Same.refl _⟩
  subst ev;have hq:=q H1 s1
  refine aV (fun hm=>?_) (fun hm=>?_)
  ·have hm':bI (.str z) nH 13=false:=by simpa using hm
   have e:aK z=none:=by unfold aK;rw[if_neg (by rw[hm'];exact Bool.false_ne_true)]
   rw[e]at hq;exact hq
  ·have hm':bI (.str z) nH 13=true:=by simpa using hm
   have hm2:=hm'
   rw[bW,Bool.and_eq_true,Bool.and_eq_true]at hm2;obtain⟨⟨h1,h2⟩,h3⟩:=hm2
   have h1':1<=(z.length:Int):=of_decide_eq_true h1
   have h2':(z.length:Int)<=13:=of_decide_eq_true h2
   have hl:z.cps.toList.length=z.length:=by simp [Str.length]
   obtain⟨c,r,hcr⟩:∃c r,z.cps.toList=c::r:=by
    cases e:z.cps.toList with
    | nil=>rw[e]at hl;simp at hl;omega
    | cons c r=>exact⟨c,r,rfl⟩
   have fin:¬ (z.cps.toList.head?=some 48/\z≠tx [48])->NumText.AllDigits z.cps.toList/\z.cps.toList≠[]/\z.length<=640/\Q (.int (NumText.digitsVal z.cps.toList:Nat)) H1:=fun hn=>by
    have e:aK z=some (NumText.digitsVal z.cps.toList):=by unfold aK;rw[if_pos hm',if_neg hn]
    rw[e]at hq;exact⟨rA h3,by rw[hcr];simp,Zo,hq⟩
   dsimp only [aR];refine⟨cH Zo,c,by rw[hcr];exact aF (j:=0) rfl,?_⟩
   refine aV (fun hc=>?_) (fun hc=>?_)
   ·refine aV (fun hn=>?_) (fun hn=>?_)
    ·have hc':tx [c]=("0":Str):=of_decide_eq_true hc
     rw[iI,uZ]at hc';have hn':¬ z=("0":Str):=by simpa using hn
     rw[iI]at hn';have e:aK z=none:=by
      unfold aK;rw[if_pos hm',if_pos];exact⟨by rw[hcr];injection hc' with hc';rw[hc'];rfl,hn'⟩
     rw[e]at hq;exact hq
    ·have hn':z=("0":Str):=by simpa using hn
     rw[iI]at hn';exact fin fun⟨_,h⟩=>h hn'
   ·have hc':¬ tx [c]=("0":Str):=of_decide_eq_false hc
    rw[iI,uZ]at hc';refine fin fun⟨h,_⟩=>hc' ?_
    rw[hcr]at h;have:c=48:=by simpa using h
    rw[this]
def zL:Sp:=fun vs H Q _=>∃(l:Addr) (ws:List Str),vs=[.ref l]/\H l=some (.lst (ws.map V.str))/\ws.length<=1000/\(∀p∈ws,p.length<=1000)/\∀t H',Same H H'->H' t=some (.tup (ws.map bB))->Q (.ref t) H'
theorem Bq (T:Txt K mg) (cLcount:Callee P w K mg base 1 "_law_count" ["_law_word"] pN) (D:DefAt K mg "_law_parts" iG ["_law_words_here"]):Callee P w K mg base 2 "_law_parts" ["_law_words_here"] zL:=by
 refine D.go gP (fun vs H Q E h=>?_) (fun f cdv A outer s H vs Q E hr h=>?_)
 ·obtain⟨l,ws,rfl,_⟩:=h;rfl
 ·obtain⟨l,ws,rfl,gl,hn,hz,q⟩:=h
  have hLcount:=hr
  refine⟨_,(R.ae (R.ai (i:=1) gP.nd (R.ap R.aa)) (R.ae (R.cm PassesOwn.never rfl (R.dm (K:=K) (R.v 0)) (R.gn (i:=2) gP.nd) (R.ae (R.ai (i:=3) gP.nd (R.fn cLcount hLcount rfl (R.Z (R.v 2) R.aa))) (R.af (R.ee (R.bb (K:=K) PySem.F.plainAttrs_list PySem.F.slot_list_append PySem.F.type_list_append R.eg (R.v 1) (R.Z (R.ix (R.aq (K:=K)) (R.ap (R.Z (R.v 3) (R.Z (R.v 2) R.aa))) (R.bn R.cr rfl T.b_int fU (R.Z (R.az R.dz (R.v 3) R.bw) R.aa))) R.aa)))))) (R.af (R.ag (R.bn (R.dk (K:=K)) rfl T.b_tuple bT (R.Z (R.v 1) R.aa)))))),?_⟩
  refine⟨dU rfl,fun p1 h1=>?_⟩
  dsimp only [aI];have np:l≠p1:=aH gl h1
  refine⟨l,rfl,⟨_,SqL.of (aA h1 _ _ gl)⟩,?_⟩
  refine qB (kS K l (ws.map V.str)) (fun j σ H'=>∃o2 o3,σ=[some (.ref l),some (.ref p1),o2,o3]/\H' p1=some (.lst ((ws.take j).map bB))/\Same H H') (fun j σ H' ⟨_,_,_,_,s'⟩=>SqL.of (s' _ _ gl)) ⟨_,_,rfl,aD,aA h1⟩ ?_ ?_
  ·rintro j x σ H' hx ⟨o2,o3,rfl,gp,s'⟩
   rw[kH]at hx;cases hj:ws[j]? with
   | none=>rw[hj]at hx;cases hx
   | some z=>
    rw[hj]at hx;cases hx
    dsimp only [aI];refine⟨z,rfl,hz z (sN hj),fun H2 s2=>?_⟩
    dsimp only [aI];have gp2:=s2 _ _ gp
    refine⟨.inl ⟨rfl,_,SqL.of gp2⟩,dU rfl,fun l3 h3=>?_⟩
    have gp3:=aA (o:=.lst [bA (aK z),.str z]) h3 _ _ gp2
    have hlen:((ws.take j).map bB).length+1<=1000:=by
     have:=(Zgs.mp hj).1
     rw[aZ,fS];omega
    have fin:∀ σ',σ'=[some (.ref l),some (.ref p1),some (.str z),some (bA (aK z))]->(∃o2 o3,σ'=[some (.ref l),some (.ref p1),o2,o3]/\(aJ (aJ H2 l3 (.lst [bA (aK z),.str z])) p1 (.lst ((ws.take j).map bB++[bB z]))) p1=some (.lst ((ws.take (j+1)).map bB))/\Same H (aJ (aJ H2 l3 (.lst [bA (aK z),.str z])) p1 (.lst ((ws.take j).map bB++[bB z])))):=fun σ' e=>by
     refine⟨_,_,e,?_,fun c o ec=>?_⟩
     ·rw[aD,Mj,hj,hW];rfl
     ·rw[aM (aH ec h1)];exact aA h3 _ _ (s2 _ _ (s' _ _ ec))
    cases e:aK z with
    | none=>
     have ec:=hV e
     rw[e,ec]at fin;refine⟨_,SqL.of aD,.str z,aF (j:=1) rfl,p1,_,.str z,rfl,rfl,by rw[e]at gp3;exact gp3,cH hlen,fin _ ?_⟩
     rfl
    | some n=>
     have ec:=jG e
     rw[e,ec]at fin;refine⟨_,SqL.of aD,.int (n:Int),aF (j:=0) rfl,p1,_,.int (n:Int),rfl,rfl,by rw[e]at gp3;exact gp3,cH hlen,fin _ ?_⟩
     rfl
  ·rintro σ H' ⟨o2,o3,rfl,gp,s'⟩
   rw[aZ,rV (cL _)]at gp;exact⟨_,SqL.of gp,fun t ht=>q t _ (s'.trans (aA ht)) aD⟩
def Dn:Sp:=fun vs H Q _=>∃zs,vs=[.str (jw zs)]/\zs≠[]/\(∀p∈zs,32∉p.cps.toList)/\(jw zs).length<=890/\(∀ps,sK zs=some ps->(∀p∈ps,pS p)->ps.length<=1000->∀a H',Same H H'->RowAt H' a ps->Q (.ref a) H')/\(sK zs=none->∀H',Same H H'->Q .non H')
theorem zM {z:Str} (h:z.length<=1000):bS (bB z)=true/\∀y,bB z=.str y->y.length<=1000:=by
 unfold bB;split
 ·exact⟨rfl,fun y e=>by cases e⟩
 ·exact⟨rfl,fun y e=>by cases e;exact h⟩
theorem wX {H:Hp} (ws:List Str):Paired (PAt H) (kK ws) (ws.map bB):=by
 induction ws with
 | nil=>exact .nil
 | cons w ws ih=>exact .cons rfl ih
theorem qL {ws:List Str} (h:∀p∈ws,p.length<=1000):∀p∈kK ws,pS p:=fun p hp=>by
 obtain⟨z,hz,rfl⟩:=Zmm.mp hp
 exact zM (h z hz)
theorem qM {ws:List Str} (h:∀p∈ws,p.length<=1000) (hl:ws.length<=1000):pS (.tp (ws.map bB)):=⟨by rw[aZ];exact hl,fun y hy=>by obtain⟨z,hz,rfl⟩:=Zmm.mp hy;exact zM (h z hz)⟩
theorem Lo (ws:List Str) (k:Nat):dS (ws.map bB) none (some (k:Int))=(ws.take k).map bB/\dS (ws.map bB) (some (k:Int)) none=(ws.drop k).map bB:=by
 constructor
 ·rw[gV,List.map_take]
 ·rw[eK,List.map_drop]
theorem Lp {α:Type} (xs:List α) (i j:Nat):dS xs (some (i:Int)) (some (j:Int))=(xs.take j).drop i:=by
 unfold dS;rw[HT.sIx_nat,HT.sIx_nat,List.drop_take];by_cases h:i<=xs.length
 ·rw[Nat.min_eq_left h];by_cases h2:j<=xs.length
  ·rw[Nat.min_eq_left h2]
  ·rw[Nat.min_eq_right Zo,rV (by rw[List.length_drop];exact cL _),rV (by rw[List.length_drop];omega)]
 ·rw[Nat.min_eq_right (by omega:xs.length<=i),List.drop_of_length_le (cL _),List.drop_of_length_le (by omega:xs.length<=i),List.take_nil,List.take_nil]
theorem aAO {α β:Type} (f:α->β) (xs:List α) (i j:Nat):dS (xs.map f) (some (i:Int)) (some (j:Int))=((xs.take j).drop i).map f:=by
 have h:=Lp (xs.map f) i j
 rw[h,List.map_drop,List.map_take]
theorem Gk (T:Txt K mg) (cLparts:Callee P w K mg base 2 "_law_parts" ["_law_words_here"] zL) (cLis_row:Callee P w K mg base 4 "_law_is_row" ["_law_thing"] lC) (D:DefAt K mg "_law_read" jT ["_law_text"]):Callee P w K mg base 5 "_law_read" ["_law_text"] Dn:=by
 refine D.go cZ (fun vs H Q E h=>?_) (fun f cdv A outer s H vs Q E hr h=>?_)
 ·obtain⟨zs,rfl,_⟩:=h;rfl
 ·obtain⟨zs,rfl,h0,hw,hz,qy,qn⟩:=h
  have hLparts:Room 2 _:=hr.mono Zd
  have hLis_row:=hr
  refine⟨_,(R.ae (R.ai (i:=1) cZ.nd (R.bb (K:=K) PySem.F.plainAttrs_str PySem.F.slot_str_split PySem.F.type_str_split R.ck (R.v 0) (R.Z R.ad R.aa))) (R.ae (R.ai (i:=2) cZ.nd (R.fn cLparts hLparts rfl (R.Z (R.v 1) R.aa))) (R.ae (R.aj (R.ah R.eq (R.ix (R.aq (K:=K)) (R.v 1) R.ac) R.ad) (R.af (R.ai (i:=2) cZ.nd (R.op R.eh (R.sl R.sT (R.v 2) R.pn (R.ps R.ac)) (R.am (R.Z (R.sl R.sT (R.v 2) (R.ps R.ac) R.pn) R.aa))))) R.ak) (R.ae (R.aj (R.tw (R.bu (R.ah R.eq (R.ix (R.aq (K:=K)) (R.v 1) R.ac) R.ad) (R.bx (R.ah R.gt (R.ao (R.au (K:=K)) rfl T.b_len aX (R.Z (R.v 1) R.aa)) R.ac)))) (R.af (R.ai (i:=2) cZ.nd (R.op R.eh (R.sl R.sT (R.v 2) R.pn (R.ps R.ac)) (R.am (R.Z (R.ix (R.aq (K:=K)) (R.v 1) R.ac) (R.Z (R.ix (R.aq (K:=K)) (R.v 1) R.ac) (R.Z (R.sl R.sT (R.v 2) (R.ps R.ac) R.pn) R.aa))))))) R.ak) (R.ae (R.aj (R.tw (R.bu (R.ah R.eq (R.ix (R.aq (K:=K)) (R.v 1) R.ac) R.ad) (R.bu (R.ah R.gt (R.ao (R.au (K:=K)) rfl T.b_len aX (R.Z (R.v 1) R.aa)) R.ac) (R.bx (R.ah R.eq (R.bb (K:=K) PySem.F.plainAttrs_list PySem.F.slot_list_count PySem.F.type_list_count R.gh (R.v 1) (R.Z R.ad R.aa)) R.ac))))) (R.ae (R.ai (i:=3) cZ.nd (R.bb (K:=K) PySem.F.plainAttrs_list PySem.F.slot_list_index PySem.F.type_list_index R.fm (R.v 1) (R.Z R.ad R.aa))) (R.af (R.ai (i:=2) cZ.nd (R.op R.eh (R.sl R.sT (R.v 2) R.pn (R.ps R.ac)) (R.am (R.Z (R.ix (R.aq (K:=K)) (R.v 1) R.ac) (R.Z (R.ix (R.aq (K:=K)) (R.v 1) R.ac) (R.Z (R.sl R.sT (R.v 2) (R.ps R.ac) (R.ps (R.v 3))) (R.Z (R.sl R.sT (R.v 2) (R.ps (R.op R.ar (R.v 3) R.ac)) R.pn) R.aa))))))))) R.ak) (R.ae (R.aj (R.aw (R.av (R.fn cLis_row hLis_row rfl (R.Z (R.v 2) R.aa)))) (R.af (R.ag R.bw)) R.ak) (R.af (R.ag (R.v 2))))))))),?_⟩
  have hsum:=gY h0
  have hlw:∀p∈zs,p.length<=1000:=fun p hp=>by have:=lM hp;omega
  have hn:zs.length<=891:=by omega
  refine⟨rfl,Zk,Zo,fun l1 h1=>?_⟩
  rw[iZ,jC h0 hw];dsimp only [aI];have s1:=aA (o:=.lst (zs.map V.str)) h1
  have g1:(aJ H l1 (.lst (zs.map V.str))) l1=some (.lst (zs.map V.str)):=aD
  generalize aJ H l1 (.lst (zs.map V.str))=H1 at s1 g1 ⊢;refine⟨l1,zs,rfl,g1,Zo,hlw,fun t2 H2 s2 g2=>?_⟩
  dsimp only [aI];have g12:=s2 _ _ g1
  obtain⟨z0,r,ez⟩:=List.exists_cons_of_ne_nil h0
  have hd:zs.headD ""=z0:=by rw[ez];rfl
  have hw0:eF (zs.map V.str) ((0:Nat):Int)=some (.str z0):=aF (by rw[ez];rfl)
  have nth:∀i,i<zs.length->eF (zs.map V.str) ((i:Nat):Int)=some (.str (zs.getD i "")):=fun i hi=>aF (by rw[kH,jH hi];simp [hi])
  have hgd:∀i,i<zs.length->(zs.getD i "").length<=1000:=fun i hi=>hlw _ (by rw[List.getD_eq_getElem?_getD,jH hi];exact List.getElem_mem hi)
  have fin:∀(ps:List RP) (a:Addr) (o3:Option V) (G:Hp),ps=lI zs->(∀p∈ps,pS p)->ps.length<=1000->Same H G->RowAt G a ps->(nK (Gy (Rp (mT (Qo lC (kC (vr 2) xK)))) (Dv (tC .non)) aR) (Dv (vr 2))) {nx:=fun _ H'=>Q .non H',rt:=Q } [some (.str (jw zs)),some (.ref l1),some (.ref a),o3] G:=fun ps a o3 G e hf hl sG ra=>by
   refine⟨.ref a,rfl,Lm ra hf hl,fun G2 s2=>?_⟩
   rw[Ra ra hf];show if (!dP ps)=true then _ else _
   refine aV (fun hb=>?_) (fun hb=>?_)
   ·have hb':dP ps=false:=by simpa using hb
    refine qn ?_ G2 (sG.trans s2)
    unfold sK;rw[<- e,hb',if_neg Bool.false_ne_true]
   ·have hb':dP ps=true:=by simpa using hb
    refine qy ps ?_ hf hl a G2 (sG.trans s2) (ra.same s2)
    unfold sK;rw[<- e,hb',if_pos rfl]
  refine⟨_,SqL.of g12,_,hw0,?_⟩
  show if decide (z0="done")=true then _ else _
  have lm:(zs.map V.str).length=zs.length:=aZ _
  have lc:(zs.map bB).length=zs.length:=aZ _
  refine aV (fun hdn=>?_) (fun hdn=>?_)
  ·have hdn':=of_decide_eq_true hdn
   have e:lI zs=kK (zs.take 3)++[.tp ((zs.drop 3).map bB)]:=by unfold lI;rw[if_pos (by rw[hd];exact hdn')]
   have c3:=Lo zs 3
   refine⟨_,g2,fun p1 G1 r1 f1=>⟨_,r1 _ _ g2,fun p2 G2 r2 f2=>⟨Zs,fun p3 G3 r3 f3=>⟨_,_,r3 _ _ (r2 _ _ f1),f3,?_,fun p4 G4 r4 f4=>?_⟩⟩⟩⟩
   ·have:=qA (zs.map bB) none (some (3:Int));rw[List.length_singleton];omega
   rw[show dS (zs.map bB) none (some (3:Int))=(zs.take 3).map bB from c3.1]at f4;rw[show dS (zs.map bB) (some (3:Int)) none=(zs.drop 3).map bB from c3.2]at f2;have sG:=(((s1.trans s2).trans r1).trans r2).trans (r3.trans r4)
   have gG:=r4 _ _ (r3 _ _ (r2 _ _ (r1 _ _ g12)))
   dsimp only [aI];refine iY (t:=jJ _ _) (fun v H'=>v=(decide (z0="came")&&decide ((4:Int)<(((zs.map V.str).length:Nat):Int)))/\G4=H') (fun kk hkk=>?_) (fun v H' ⟨ev,eH⟩=>?_)
   ·refine⟨_,SqL.of gG,_,hw0,?_⟩
    show if decide (z0="came")=true then _ else _
    refine aV (fun hc=>?_) (fun hc=>?_)
    ·exact⟨_,.inl (SqL.of gG),hkk _ _ ⟨by rw[hc,Bool.true_and],rfl⟩⟩
    ·exact hkk _ _ ⟨by rw[hc];rfl,rfl⟩
   subst ev eH;refine iK (c:=decide (z0="came")&&decide ((4:Int)<(((zs.map V.str).length:Nat):Int))) (by rw[decide_eq_false (by rw[hdn'];decide +kernel)];rfl) ?_
   dsimp only [aR];refine iY (t:=jJ _ _) (fun v H'=>v=(decide (z0="kept")&&(decide ((4:Int)<(((zs.map V.str).length:Nat):Int))&&decide (((zs.count ("=":Str):Nat):Int)=1)))/\G4=H') (fun kk hkk=>?_) (fun v H' ⟨ev,eH⟩=>?_)
   ·refine⟨_,SqL.of gG,_,hw0,?_⟩
    show if decide (z0="kept")=true then _ else _
    refine aV (fun hc=>?_) (fun hc=>?_)
    ·refine⟨_,.inl (SqL.of gG),?_⟩
     show if decide ((4:Int)<(((zs.map V.str).length:Nat):Int))=true then _ else _
     refine aV (fun hc2=>?_) (fun hc2=>?_)
     ·exact⟨.inl ⟨rfl,_,SqL.of gG⟩,zs,gG,hkk _ _ ⟨by rw[hc,hc2,Bool.true_and,Bool.true_and],rfl⟩⟩
     ·exact hkk _ _ ⟨by rw[hc,hc2];rfl,rfl⟩
    ·exact hkk _ _ ⟨by rw[hc];rfl,rfl⟩
   subst ev eH;refine iK (c:=decide (z0="kept")&&(decide ((4:Int)<(((zs.map V.str).length:Nat):Int))&&decide (((zs.count ("=":Str):Nat):Int)=1))) (by rw[decide_eq_false (by rw[hdn'];decide +kernel)];rfl) ?_
   dsimp only [aR];refine fin _ p4 _ G4 e.symm ?_ ?_ sG ⟨_,f4,eY (wX _) (.cons ⟨p2,rfl,r4 _ _ (r3 _ _ f2)⟩ .nil)⟩
   ·exact List.forall_mem_append.mpr ⟨qL fun p hp=>hlw p (List.mem_of_mem_take hp),Zfm.mpr ⟨qM (fun p hp=>hlw p (List.mem_of_mem_drop hp)) (by rw[List.length_drop];omega),fun _ h=>nomatch h⟩⟩
   ·unfold kK;rw[eG,aZ,fS];simp;omega
  have n1:¬ zs.headD ""="done":=by rw[hd];exact of_decide_eq_false hdn
  dsimp only [aR];refine iY (t:=jJ _ _) (fun v H'=>v=(decide (z0="came")&&decide ((4:Int)<(((zs.map V.str).length:Nat):Int)))/\H2=H') (fun kk hkk=>?_) (fun v H' ⟨ev,eH⟩=>?_)
  ·refine⟨_,SqL.of g12,_,hw0,?_⟩
   show if decide (z0="came")=true then _ else _
   refine aV (fun hc=>?_) (fun hc=>?_)
   ·exact⟨_,.inl (SqL.of g12),hkk _ _ ⟨by rw[hc,Bool.true_and],rfl⟩⟩
   ·exact hkk _ _ ⟨by rw[hc];rfl,rfl⟩
  subst ev eH;refine aV (fun hcm=>?_) (fun hcm=>?_)
  ·rw[Bool.and_eq_true]at hcm;have hcm':=of_decide_eq_true hcm.1
   have h4:4<zs.length:=by have:=of_decide_eq_true hcm.2;omega
   have e:lI zs=kK (zs.take 3)++[.sc (.str (zs.getD 3 "")),.sc (.str (zs.getD 4 "")),.tp ((zs.drop 5).map bB)]:=by unfold lI;rw[if_neg n1,if_pos ⟨by rw[hd];exact hcm',h4⟩]
   refine⟨_,g2,fun p1 G1 r1 f1=>⟨_,SqL.of (r1 _ _ g12),_,nth 3 Zo,_,SqL.of (r1 _ _ g12),_,nth 4 Zo,_,r1 _ _ g2,fun p2 G2 r2 f2=>⟨Zs,fun p3 G3 r3 f3=>⟨_,_,r3 _ _ (r2 _ _ f1),f3,?_,fun p4 G4 r4 f4=>?_⟩⟩⟩⟩
   ·have:=qA (zs.map bB) none (some (3:Int));simp;omega
   rw[show dS (zs.map bB) none (some (3:Int))=(zs.take 3).map bB from(Lo zs 3).1]at f4;rw[show dS (zs.map bB) (some (5:Int)) none=(zs.drop 5).map bB from(Lo zs 5).2]at f2;have sG:=(((s1.trans s2).trans r1).trans r2).trans (r3.trans r4)
   have gG:=r4 _ _ (r3 _ _ (r2 _ _ (r1 _ _ g12)))
   dsimp only [aI];refine iY (t:=jJ _ _) (fun v H'=>v=(decide (z0="kept")&&(decide ((4:Int)<(((zs.map V.str).length:Nat):Int))&&decide (((zs.count ("=":Str):Nat):Int)=1)))/\G4=H') (fun kk hkk=>?_) (fun v H' ⟨ev,eH⟩=>?_)
   ·refine⟨_,SqL.of gG,_,hw0,?_⟩
    show if decide (z0="kept")=true then _ else _
    refine aV (fun hc=>?_) (fun hc=>?_)
    ·refine⟨_,.inl (SqL.of gG),?_⟩
     show if decide ((4:Int)<(((zs.map V.str).length:Nat):Int))=true then _ else _
     refine aV (fun hc2=>?_) (fun hc2=>?_)
     ·exact⟨.inl ⟨rfl,_,SqL.of gG⟩,zs,gG,hkk _ _ ⟨by rw[hc,hc2,Bool.true_and,Bool.true_and],rfl⟩⟩
     ·exact hkk _ _ ⟨by rw[hc,hc2];rfl,rfl⟩
    ·exact hkk _ _ ⟨by rw[hc];rfl,rfl⟩
   subst ev eH;refine iK (c:=decide (z0="kept")&&(decide ((4:Int)<(((zs.map V.str).length:Nat):Int))&&decide (((zs.count ("=":Str):Nat):Int)=1))) (by rw[decide_eq_false (by rw[hcm'];decide +kernel)];rfl) ?_
   dsimp only [aR];refine fin _ p4 _ G4 e.symm ?_ ?_ sG ⟨_,f4,eY (wX _) (.cons rfl (.cons rfl (.cons ⟨p2,rfl,r4 _ _ (r3 _ _ f2)⟩ .nil)))⟩
   ·exact List.forall_mem_append.mpr ⟨qL fun p hp=>hlw p (List.mem_of_mem_take hp),Zfm.mpr ⟨⟨rfl,fun z e=>by cases e;exact hgd 3 Zo⟩,Zfm.mpr ⟨⟨rfl,fun z e=>by cases e;exact hgd 4 Zo⟩,Zfm.mpr ⟨qM (fun p hp=>hlw p (List.mem_of_mem_drop hp)) (by rw[List.length_drop];omega),fun _ h=>nomatch h⟩⟩⟩⟩
   ·unfold kK;rw[eG,aZ,fS];simp;omega
  have n2:¬ (zs.headD ""="came"/\4<zs.length):=fun h=>by
   rw[hd]at h;rw[decide_eq_true h.1,decide_eq_true Zo]at hcm
   cases hcm
  dsimp only [aR];refine iY (t:=jJ _ _) (fun v H'=>v=(decide (z0="kept")&&(decide ((4:Int)<(((zs.map V.str).length:Nat):Int))&&decide (((zs.count ("=":Str):Nat):Int)=1)))/\H2=H') (fun kk hkk=>?_) (fun v H' ⟨ev,eH⟩=>?_)
  ·refine⟨_,SqL.of g12,_,hw0,?_⟩
   show if decide (z0="kept")=true then _ else _
   refine aV (fun hc=>?_) (fun hc=>?_)
   ·refine⟨_,.inl (SqL.of g12),?_⟩
    show if decide ((4:Int)<(((zs.map V.str).length:Nat):Int))=true then _ else _
    refine aV (fun hc2=>?_) (fun hc2=>?_)
    ·exact⟨.inl ⟨rfl,_,SqL.of g12⟩,zs,g12,hkk _ _ ⟨by rw[hc,hc2,Bool.true_and,Bool.true_and],rfl⟩⟩
    ·exact hkk _ _ ⟨by rw[hc,hc2];rfl,rfl⟩
   ·exact hkk _ _ ⟨by rw[hc];rfl,rfl⟩
  subst ev eH;refine aV (fun hkp=>?_) (fun hkp=>?_)
  ·rw[Bool.and_eq_true,Bool.and_eq_true]at hkp;have hkp':=of_decide_eq_true hkp.1
   have h4:4<zs.length:=by have:=of_decide_eq_true hkp.2.1;omega
   have hc:zs.count ("=":Str)=1:=by have:=of_decide_eq_true hkp.2.2;omega
   have e:lI zs=kK (zs.take 3)++[.sc (.str (zs.getD 3 "")),.sc (.str (zs.getD 4 "")),.tp (((zs.take (zs.idxOf ("=":Str))).drop 5).map bB),.tp ((zs.drop (zs.idxOf ("=":Str)+1)).map bB)]:=by unfold lI;rw[if_neg n1,if_neg n2,if_pos ⟨by rw[hd];exact hkp',h4,hc⟩]
   refine⟨.inl ⟨rfl,_,SqL.of g12⟩,zs,g12,List.count_pos_iff.mp Zo,fun j hj=>?_⟩
   obtain⟨C,E',e1,c1,c2,ej,ei⟩:=Li hc hj
   dsimp only [aI];refine⟨_,g2,fun p1 G1 r1 f1=>⟨_,SqL.of (r1 _ _ g12),_,nth 3 Zo,_,SqL.of (r1 _ _ g12),_,nth 4 Zo,_,r1 _ _ g2,fun p2 G2 r2 f2=>⟨_,r2 _ _ (r1 _ _ g2),fun p5 G5 r5 f5=>⟨Zs,fun p3 G3 r3 f3=>⟨_,_,r3 _ _ (r5 _ _ (r2 _ _ f1)),f3,?_,fun p4 G4 r4 f4=>?_⟩⟩⟩⟩⟩
   ·have:=qA (zs.map bB) none (some (3:Int));simp;omega
   rw[show dS (zs.map bB) none (some (3:Int))=(zs.take 3).map bB from(Lo zs 3).1]at f4;have ef2:dS (zs.map bB) (some (5:Int)) (some (j:Int))=((zs.take (zs.idxOf ("=":Str))).drop 5).map bB:=by
    rw[ei];exact aAO bB zs 5 j
   rw[ef2]at f2;rw[show dS (zs.map bB) (some ((j:Int)+1)) none=(zs.drop (zs.idxOf ("=":Str)+1)).map bB by rw[ei];exact(Lo zs (j+1)).2]at f5
   have sG:=((((s1.trans s2).trans r1).trans r2).trans r5).trans (r3.trans r4)
   dsimp only [aI];refine fin _ p4 _ G4 e.symm ?_ ?_ sG ⟨_,f4,eY (wX _) (.cons rfl (.cons rfl (.cons ⟨p2,rfl,r4 _ _ (r3 _ _ (r5 _ _ f2))⟩ (.cons ⟨p5,rfl,r4 _ _ (r3 _ _ f5)⟩ .nil))))⟩
   ·exact List.forall_mem_append.mpr ⟨qL fun p hp=>hlw p (List.mem_of_mem_take hp),Zfm.mpr ⟨⟨rfl,fun z e=>by cases e;exact hgd 3 Zo⟩,Zfm.mpr ⟨⟨rfl,fun z e=>by cases e;exact hgd 4 Zo⟩,Zfm.mpr ⟨qM (fun p hp=>hlw p (List.mem_of_mem_take (List.mem_of_mem_drop hp))) (by rw[List.length_drop,fS];omega),Zfm.mpr ⟨qM (fun p hp=>hlw p (List.mem_of_mem_drop hp)) (by rw[List.length_drop];omega),fun _ h=>nomatch h⟩⟩⟩⟩⟩
   ·unfold kK;rw[eG,aZ,fS];simp;omega
  have n3:¬ (zs.headD ""="kept"/\4<zs.length/\zs.count ("=":Str)=1):=fun h=>by
   rw[hd]at h;rw[decide_eq_true h.1,decide_eq_true Zo,decide_eq_true Zo]at hkp
   cases hkp
  dsimp only [aR];have e:lI zs=kK zs:=by unfold lI;rw[if_neg n1,if_neg n2,if_neg n3]
  exact fin _ t2 _ H2 e.symm (qL hlw) (by unfold kK;rw[aZ];omega) (s1.trans s2) ⟨_,g2,wX _⟩
end
end KL
namespace KL
open PySem L2
section
variable {P:Program} {w:World} {K:W.Frag} {mg:Str->Option Value} {base:Heap}
structure Zl (K:W.Frag) (mg:Str->Option Value) (C a0 a1 a2 a3 a4 a5 a6 a7 a8 a9 a10 a11 a12 a13 a14 a15 a16 a17:Addr) (ix:Nat):Prop where
 m_NoDeed:mg "NoDeed"=some (.ref a0)
 m_NoKey:mg "NoKey"=some (.ref a1)
 m_Other:mg "Other"=some (.ref a2)
 m_NoRow:mg "NoRow"=some (.ref a3)
 m_NoAsk:mg "NoAsk"=some (.ref a4)
 m_NoJournal:mg "NoJournal"=some (.ref a5)
 m_Busy:mg "Busy"=some (.ref a6)
 m_NoName:mg "NoName"=some (.ref a7)
 m_Late:mg "Late"=some (.ref a8)
 m_Down:mg "Down"=some (.ref a9)
 m_Up:mg "Up"=some (.ref a10)
 m_Unsafe:mg "Unsafe"=some (.ref a11)
 m_NoNumber:mg "NoNumber"=some (.ref a12)
 m_NoWay:mg "NoWay"=some (.ref a13)
 m_NoLine:mg "NoLine"=some (.ref a14)
 m_NoChange:mg "NoChange"=some (.ref a15)
 m_NoHouse:mg "NoHouse"=some (.ref a16)
 m_NoRows:mg "NoRows"=some (.ref a17)
 xk:tK K C
 k_NoDeed:W.kitOne K (.ref C) (.ref a0)=some (decide (0=ix))
 k_NoKey:W.kitOne K (.ref C) (.ref a1)=some (decide (1=ix))
 k_Other:W.kitOne K (.ref C) (.ref a2)=some (decide (2=ix))
 k_NoRow:W.kitOne K (.ref C) (.ref a3)=some (decide (3=ix))
 k_NoAsk:W.kitOne K (.ref C) (.ref a4)=some (decide (4=ix))
 k_NoJournal:W.kitOne K (.ref C) (.ref a5)=some (decide (5=ix))
 k_Busy:W.kitOne K (.ref C) (.ref a6)=some (decide (6=ix))
 k_NoName:W.kitOne K (.ref C) (.ref a7)=some (decide (7=ix))
 k_Late:W.kitOne K (.ref C) (.ref a8)=some (decide (8=ix))
 k_Down:W.kitOne K (.ref C) (.ref a9)=some (decide (9=ix))
 k_Up:W.kitOne K (.ref C) (.ref a10)=some (decide (10=ix))
 k_Unsafe:W.kitOne K (.ref C) (.ref a11)=some (decide (11=ix))
 k_NoNumber:W.kitOne K (.ref C) (.ref a12)=some (decide (12=ix))
 k_NoWay:W.kitOne K (.ref C) (.ref a13)=some (decide (13=ix))
 k_NoLine:W.kitOne K (.ref C) (.ref a14)=some (decide (14=ix))
 k_NoChange:W.kitOne K (.ref C) (.ref a15)=some (decide (15=ix))
 k_NoHouse:W.kitOne K (.ref C) (.ref a16)=some (decide (16=ix))
 k_NoRows:W.kitOne K (.ref C) (.ref a17)=some (decide (17=ix))
 k_VE:W.kitOne K (.ref C) (.type "ValueError")=some true
def Lq (C:Addr) (wd:Str):Sp:=fun vs H Q _=>∃(a:Addr) (od:Option Addr),vs=[.ref a]/\H a=some (.ext (rY a (.ref C) od))/\∀p H',Same H H'->H' p=some (.tup [.str "refused",.str wd])->Q (.ref p) H'
theorem Px {C a0 a1 a2 a3 a4 a5 a6 a7 a8 a9 a10 a11 a12 a13 a14 a15 a16 a17:Addr} (T:Txt K mg) (M:Zl K mg C a0 a1 a2 a3 a4 a5 a6 a7 a8 a9 a10 a11 a12 a13 a14 a15 a16 a17 3) (D:DefAt K mg "_law_mark" hJ ["_law_error"]):oD P w K mg base 1 "_law_mark" ["_law_error"] (Lq C "row"):=by
 have M_NoDeed:=M.m_NoDeed
 have M_NoKey:=M.m_NoKey
 have M_Other:=M.m_Other
 have M_NoRow:=M.m_NoRow
 have M_NoAsk:=M.m_NoAsk
 have M_NoJournal:=M.m_NoJournal
 have M_Busy:=M.m_Busy
 have M_NoName:=M.m_NoName
 have M_Late:=M.m_Late
 have M_Down:=M.m_Down
 have M_Up:=M.m_Up
 have M_Unsafe:=M.m_Unsafe
 have M_NoNumber:=M.m_NoNumber
 have M_NoWay:=M.m_NoWay
 have M_NoLine:=M.m_NoLine
 have M_NoChange:=M.m_NoChange
 have M_NoHouse:=M.m_NoHouse
 have M_NoRows:=M.m_NoRows
 refine D.goH dA (fun vs H Q E h=>?_) (fun f cdv A outer s H vs Q hr h=>?_)
 ·obtain⟨a,od,rfl,_⟩:=h;rfl
 ·obtain⟨a,od,rfl,ga,q⟩:=h
  have hu:A.units+3<cLine:=by have:=hr.2;have e:(A.deeper (PyProof.Rows.envOfC "_law_mark" (aE hJ) s.heap.objs.size f cdv)).units=A.units+3:=rfl;omega
  refine⟨_,(R.ae (R.ai (i:=1) dA.nd (R.ap (R.Z (R.ao (R.bg (K:=K)) rfl T.b_isinstance aS (R.Z (R.v 0) (R.Z (R.gR rfl M_NoDeed) R.aa))) (R.Z (R.ao (R.bg (K:=K)) rfl T.b_isinstance aS (R.Z (R.v 0) (R.Z (R.gR rfl M_NoKey) R.aa))) (R.Z (R.ao (R.bg (K:=K)) rfl T.b_isinstance aS (R.Z (R.v 0) (R.Z (R.gR rfl M_Other) R.aa))) (R.Z (R.ao (R.bg (K:=K)) rfl T.b_isinstance aS (R.Z (R.v 0) (R.Z (R.gR rfl M_NoRow) R.aa))) R.aa)))))) (R.ae (R.ai (i:=1) dA.nd (R.op R.ay (R.v 1) (R.ap (R.Z (R.ao (R.bg (K:=K)) rfl T.b_isinstance aS (R.Z (R.v 0) (R.Z (R.gR rfl M_NoAsk) R.aa))) (R.Z (R.ao (R.bg (K:=K)) rfl T.b_isinstance aS (R.Z (R.v 0) (R.Z (R.gR rfl M_NoJournal) R.aa))) (R.Z (R.ao (R.bg (K:=K)) rfl T.b_isinstance aS (R.Z (R.v 0) (R.Z (R.gR rfl M_Busy) R.aa))) R.aa)))))) (R.ae (R.ai (i:=1) dA.nd (R.op R.ay (R.v 1) (R.ap (R.Z (R.ao (R.bg (K:=K)) rfl T.b_isinstance aS (R.Z (R.v 0) (R.Z (R.gR rfl M_NoName) R.aa))) (R.Z (R.ao (R.bg (K:=K)) rfl T.b_isinstance aS (R.Z (R.v 0) (R.Z (R.gR rfl M_Late) R.aa))) (R.Z (R.ao (R.bg (K:=K)) rfl T.b_isinstance aS (R.Z (R.v 0) (R.Z (R.gR rfl M_Down) R.aa))) (R.Z (R.ao (R.bg (K:=K)) rfl T.b_isinstance aS (R.Z (R.v 0) (R.Z (R.gR rfl M_Up) R.aa))) R.aa))))))) (R.ae (R.ai (i:=1) dA.nd (R.op R.ay (R.v 1) (R.ap (R.Z (R.ao (R.bg (K:=K)) rfl T.b_isinstance aS (R.Z (R.v 0) (R.Z (R.gR rfl M_Unsafe) R.aa))) (R.Z (R.ao (R.bg (K:=K)) rfl T.b_isinstance aS (R.Z (R.v 0) (R.Z (R.gR rfl M_NoNumber) R.aa))) (R.Z (R.ao (R.bg (K:=K)) rfl T.b_isinstance aS (R.Z (R.v 0) (R.Z (R.gR rfl M_NoWay) R.aa))) R.aa)))))) (R.ae (R.ai (i:=1) dA.nd (R.op R.ay (R.v 1) (R.ap (R.Z (R.ao (R.bg (K:=K)) rfl T.b_isinstance aS (R.Z (R.v 0) (R.Z (R.gR rfl M_NoLine) R.aa))) (R.Z (R.ao (R.bg (K:=K)) rfl T.b_isinstance aS (R.Z (R.v 0) (R.Z (R.gR rfl M_NoChange) R.aa))) (R.Z (R.ao (R.bg (K:=K)) rfl T.b_isinstance aS (R.Z (R.v 0) (R.Z (R.gR rfl M_NoHouse) R.aa))) R.aa)))))) (R.ae (R.ai (i:=1) dA.nd (R.op R.ay (R.v 1) (R.ap (R.Z (R.ao (R.bg (K:=K)) rfl T.b_isinstance aS (R.Z (R.v 0) (R.Z (R.gR rfl M_NoRows) R.aa))) R.aa)))) (R.ae (R.aj (R.tw (R.bc (R.aw (R.av (R.ao (R.bg (K:=K)) rfl T.b_isinstance aS (R.Z (R.v 0) (R.Z (R.dq rfl T.b_ValueError rZ) R.aa))))) (R.bh (R.ah R.ne (R.bb (K:=K) PySem.F.plainAttrs_list PySem.F.slot_list_count PySem.F.type_list_count R.iu (R.v 1) (R.Z R.bl R.aa)) R.ac)))) (R.af (R.ag (R.am (R.Z R.ad (R.Z R.ad R.aa))))) R.ak) (R.af (R.ag (R.am (R.Z R.ad (R.Z (R.ix (R.aq (K:=K)) (R.op R.ay (R.ap (R.Z R.ad (R.Z R.ad (R.Z R.ad (R.Z R.ad (R.Z R.ad (R.Z R.ad (R.Z R.ad R.aa)))))))) (R.op R.eo (R.ap (R.Z R.ad R.aa)) R.ac)) (R.bb (K:=K) PySem.F.plainAttrs_list PySem.F.slot_list_index PySem.F.type_list_index R.iw (R.v 1) (R.Z R.bl R.aa))) R.aa)))))))))))),?_⟩
  refine⟨C,false,od,ga,M.xk,.inr M.k_NoDeed,C,false,od,ga,M.xk,.inr M.k_NoKey,C,false,od,ga,M.xk,.inr M.k_Other,C,true,od,ga,M.xk,.inr M.k_NoRow,dU rfl,fun l0 h0=>?_⟩
  have s0:Same H (aJ H l0 (.lst [.bl false,.bl false,.bl false,.bl true])):=aA h0
  have g0:(aJ H l0 (.lst [.bl false,.bl false,.bl false,.bl true])) l0=some (.lst [.bl false,.bl false,.bl false,.bl true]):=aD
  dsimp only [aI];generalize aJ H l0 (.lst [.bl false,.bl false,.bl false,.bl true])=H0 at s0 g0;have ga0:=s0 _ _ ga
  refine⟨C,false,od,ga0,M.xk,.inr M.k_NoAsk,C,false,od,ga0,M.xk,.inr M.k_NoJournal,C,false,od,ga0,M.xk,.inr M.k_Busy,dU rfl,fun m1 hm1=>⟨_,_,aA hm1 _ _ g0,aD,dU rfl,fun l1 h1=>?_⟩⟩
  have s1:Same H (aJ (aJ H0 m1 (.lst [.bl false,.bl false,.bl false])) l1 (.lst [.bl false,.bl false,.bl false,.bl true,.bl false,.bl false,.bl false])):=s0.trans ((aA hm1).trans (aA h1))
  have g1:(aJ (aJ H0 m1 (.lst [.bl false,.bl false,.bl false])) l1 (.lst [.bl false,.bl false,.bl false,.bl true,.bl false,.bl false,.bl false])) l1=some (.lst [.bl false,.bl false,.bl false,.bl true,.bl false,.bl false,.bl false]):=aD
  dsimp only [aI,List.cons_append,List.nil_append];generalize aJ (aJ H0 m1 (.lst [.bl false,.bl false,.bl false])) l1 (.lst [.bl false,.bl false,.bl false,.bl true,.bl false,.bl false,.bl false])=H1 at s1 g1;have ga1:=s1 _ _ ga
  refine⟨C,false,od,ga1,M.xk,.inr M.k_NoName,C,false,od,ga1,M.xk,.inr M.k_Late,C,false,od,ga1,M.xk,.inr M.k_Down,C,false,od,ga1,M.xk,.inr M.k_Up,dU rfl,fun m2 hm2=>⟨_,_,aA hm2 _ _ g1,aD,dU rfl,fun l2 h2=>?_⟩⟩
  have s2:Same H (aJ (aJ H1 m2 (.lst [.bl false,.bl false,.bl false,.bl false])) l2 (.lst [.bl false,.bl false,.bl false,.bl true,.bl false,.bl false,.bl false,.bl false,.bl false,.bl false,.bl false])):=s1.trans ((aA hm2).trans (aA h2))
  have g2:(aJ (aJ H1 m2 (.lst [.bl false,.bl false,.bl false,.bl false])) l2 (.lst [.bl false,.bl false,.bl false,.bl true,.bl false,.bl false,.bl false,.bl false,.bl false,.bl false,.bl false])) l2=some (.lst [.bl false,.bl false,.bl false,.bl true,.bl false,.bl false,.bl false,.bl false,.bl false,.bl false,.bl false]):=aD
  dsimp only [aI,List.cons_append,List.nil_append];generalize aJ (aJ H1 m2 (.lst [.bl false,.bl false,.bl false,.bl false])) l2 (.lst [.bl false,.bl false,.bl false,.bl true,.bl false,.bl false,.bl false,.bl false,.bl false,.bl false,.bl false])=H2 at s2 g2;have ga2:=s2 _ _ ga
  refine⟨C,false,od,ga2,M.xk,.inr M.k_Unsafe,C,false,od,ga2,M.xk,.inr M.k_NoNumber,C,false,od,ga2,M.xk,.inr M.k_NoWay,dU rfl,fun m3 hm3=>⟨_,_,aA hm3 _ _ g2,aD,dU rfl,fun l3 h3=>?_⟩⟩
  have s3:Same H (aJ (aJ H2 m3 (.lst [.bl false,.bl false,.bl false])) l3 (.lst [.bl false,.bl false,.bl false,.bl true,.bl false,.bl false,.bl false,.bl false,.bl false,.bl false,.bl false,.bl false,.bl false,.bl false])):=s2.trans ((aA hm3).trans (aA h3))
  have g3:(aJ (aJ H2 m3 (.lst [.bl false,.bl false,.bl false])) l3 (.lst [.bl false,.bl false,.bl false,.bl true,.bl false,.bl false,.bl false,.bl false,.bl false,.bl false,.bl false,.bl false,.bl false,.bl false])) l3=some (.lst [.bl false,.bl false,.bl false,.bl true,.bl false,.bl false,.bl false,.bl false,.bl false,.bl false,.bl false,.bl false,.bl false,.bl false]):=aD
  dsimp only [aI,List.cons_append,List.nil_append];generalize aJ (aJ H2 m3 (.lst [.bl false,.bl false,.bl false])) l3 (.lst [.bl false,.bl false,.bl false,.bl true,.bl false,.bl false,.bl false,.bl false,.bl false,.bl false,.bl false,.bl false,.bl false,.bl false])=H3 at s3 g3;have ga3:=s3 _ _ ga
  refine⟨C,false,od,ga3,M.xk,.inr M.k_NoLine,C,false,od,ga3,M.xk,.inr M.k_NoChange,C,false,od,ga3,M.xk,.inr M.k_NoHouse,dU rfl,fun m4 hm4=>⟨_,_,aA hm4 _ _ g3,aD,dU rfl,fun l4 h4=>?_⟩⟩
  have s4:Same H (aJ (aJ H3 m4 (.lst [.bl false,.bl false,.bl false])) l4 (.lst [.bl false,.bl false,.bl false,.bl true,.bl false,.bl false,.bl false,.bl false,.bl false,.bl false,.bl false,.bl false,.bl false,.bl false,.bl false,.bl false,.bl false])):=s3.trans ((aA hm4).trans (aA h4))
  have g4:(aJ (aJ H3 m4 (.lst [.bl false,.bl false,.bl false])) l4 (.lst [.bl false,.bl false,.bl false,.bl true,.bl false,.bl false,.bl false,.bl false,.bl false,.bl false,.bl false,.bl false,.bl false,.bl false,.bl false,.bl false,.bl false])) l4=some (.lst [.bl false,.bl false,.bl false,.bl true,.bl false,.bl false,.bl false,.bl false,.bl false,.bl false,.bl false,.bl false,.bl false,.bl false,.bl false,.bl false,.bl false]):=aD
  dsimp only [aI,List.cons_append,List.nil_append];generalize aJ (aJ H3 m4 (.lst [.bl false,.bl false,.bl false])) l4 (.lst [.bl false,.bl false,.bl false,.bl true,.bl false,.bl false,.bl false,.bl false,.bl false,.bl false,.bl false,.bl false,.bl false,.bl false,.bl false,.bl false,.bl false])=H4 at s4 g4;have ga4:=s4 _ _ ga
  refine⟨C,false,od,ga4,M.xk,.inr M.k_NoRows,dU rfl,fun m5 hm5=>⟨_,_,aA hm5 _ _ g4,aD,dU rfl,fun l5 h5=>?_⟩⟩
  have s5:Same H (aJ (aJ H4 m5 (.lst [.bl false])) l5 (.lst [.bl false,.bl false,.bl false,.bl true,.bl false,.bl false,.bl false,.bl false,.bl false,.bl false,.bl false,.bl false,.bl false,.bl false,.bl false,.bl false,.bl false,.bl false])):=s4.trans ((aA hm5).trans (aA h5))
  have g5:(aJ (aJ H4 m5 (.lst [.bl false])) l5 (.lst [.bl false,.bl false,.bl false,.bl true,.bl false,.bl false,.bl false,.bl false,.bl false,.bl false,.bl false,.bl false,.bl false,.bl false,.bl false,.bl false,.bl false,.bl false])) l5=some (.lst [.bl false,.bl false,.bl false,.bl true,.bl false,.bl false,.bl false,.bl false,.bl false,.bl false,.bl false,.bl false,.bl false,.bl false,.bl false,.bl false,.bl false,.bl false]):=aD
  dsimp only [aI,List.cons_append,List.nil_append];generalize aJ (aJ H4 m5 (.lst [.bl false])) l5 (.lst [.bl false,.bl false,.bl false,.bl true,.bl false,.bl false,.bl false,.bl false,.bl false,.bl false,.bl false,.bl false,.bl false,.bl false,.bl false,.bl false,.bl false,.bl false])=H5 at s5 g5;have ga5:=s5 _ _ ga
  refine⟨C,true,od,ga5,M.xk,M.k_VE,?_⟩
  refine⟨.inl ⟨rfl,_,SqL.of g5⟩,[false,false,false,true,false,false,false,false,false,false,false,false,false,false,false,false,false,false],g5,?_⟩
  refine⟨dU rfl,fun l6 h6=>⟨dU rfl,fun l7 h7=>⟨_,aD,Zd,Zd,Zd,fun l8 h8=>⟨_,_,cI (cI aD h7) h8,aD,cH Zd,fun l9 h9=>?_⟩⟩⟩⟩
  have s9:=((aA (o:=.lst [.str "deed",.str "key",.str "other",.str "row",.str "ask",.str "journal",.str "busy"]) h6).trans (aA (o:=.lst [.str "else"]) h7)).trans ((aA (o:=.lst (List.replicate (11:Int).toNat [V.str "else"]).flatten) h8).trans (aA (o:=.lst ([V.str "deed",.str "key",.str "other",.str "row",.str "ask",.str "journal",.str "busy"]++(List.replicate (11:Int).toNat [V.str "else"]).flatten)) h9))
  refine⟨.inl ⟨rfl,_,SqL.of (s9 _ _ g5)⟩,[false,false,false,true,false,false,false,false,false,false,false,false,false,false,false,false,false,false],3,s9 _ _ g5,rfl,(fun m hm=>?_),?_⟩
  ·have:m=0∨m=1∨m=2:=by omega
   rcases this with rfl | rfl | rfl <;> simp
  refine⟨_,SqL.of aD,.str "row",rfl,?_⟩
  exact⟨Zs,fun p H' s' g'=>q p H' ((s5.trans s9).trans s') g'⟩
def zN:Sp:=fun vs H Q _=>∃zs,vs=[.str (jw zs)]/\zs≠[]/\(∀p∈zs,32∉p.cps.toList)/\(jw zs).length<=890/\(∀ps,kG zs=some ps->(∀p∈ps,pS p)->ps.length<=1000->∀a H',Same H H'->RowAt H' a ps->Q (.ref a) H')/\(kG zs=none->∀l m H',Same H H'->H' l=some (.lst [.ref m])->H' m=some (.tup [.str "refused",.str "row"])->Q (.ref l) H')
theorem Gm {C CD:Addr} (T:Txt K mg) (M_DoorError:mg "DoorError"=some (.ref CD)) (xm:W.exmOne K (.ref C) (.ref CD)=some true) (c_read_row:jM P w K mg base 8 "read_row" ["text"] (zK C)) (cLmark:oD P w K mg base 1 "_law_mark" ["_law_error"] (Lq C "row")) (D:DefAt K mg "_law_told" jV ["_law_text"]):Callee P w K mg base 9 "_law_told" ["_law_text"] zN:=by
 refine D.go fQ (fun vs H Q E h=>?_) (fun f cdv A outer s H vs Q E hr h=>?_)
 ·obtain⟨z,rfl,_⟩:=h;rfl
 ·obtain⟨zs,rfl,h0,hw,hz,qy,qn⟩:=h
  have hr_read_row:=hr
  have hLmark:rC 1 _:=(hr.mono (by decide:1<=8)).toH
  refine⟨_,(R.ae (R.ai (i:=1) fQ.nd R.bw) (R.ae (R.iy (K:=K) (i:=2) M_DoorError rfl fQ.nd (fun pn Ex=>(R.af (R.ai (i:=1) fQ.nd (R.ic c_read_row hr_read_row rfl nW (R.Z (R.v 0) R.aa))))) (fun a=>(R.af (R.ai (i:=1) fQ.nd (R.ap (R.Z (R.iz cLmark hLmark rfl (R.Z (R.v 2) R.aa)) R.aa)))))) (R.af (R.ag (R.v 1))))),?_⟩
  refine⟨zs,rfl,h0,hw,hz,fun ps hp hf hl a H' s' ra=>qy ps hp hf hl a H' s' ra,fun hp G sG=>⟨xm,fun e he=>?_⟩⟩
  have s1:=aA (o:=.ext (rY e (.ref C) none)) he
  have ge:(aJ G e (.ext (rY e (.ref C) none))) e=some (.ext (rY e (.ref C) none)):=aD
  have sG1:=sG.trans s1
  generalize aJ G e (.ext (rY e (.ref C) none))=G1 at s1 ge sG1 ⊢;refine⟨e,none,rfl,ge,fun v G2 s2 g2=>⟨dU rfl,fun l hl=>?_⟩⟩
  exact qn hp l v _ ((sG1.trans s2).trans (aA hl)) aD (aA hl _ _ g2)
end
end KL
namespace KL
open PySem L2
section
variable {P:Program} {w:World} {K:W.Frag} {mg:Str->Option Value} {base:Heap}
def zO:Sp:=fun vs H Q _=>∃(p:Addr) (z:Str),vs=[.ref p,.str z]/\PenAt H p/\z.length<=440/\∀(z':Str) H',z'.length<=2*z.length+20->PenAt H' p->K1 p H H'->Q (.str z') H'
def BS1:List Str:=["0","1","00","01","999999","1000000","1000001","1000000000000","1000000000001","9999999999999"]
def BS2:List Str:=["10000000000000","-1","+1","1_0","","a","A","abcdefghi","0123456789abc","=","ok","no"]
def BS3:List Str:=["is","short","full","add","move","pass","next","has","kept","came","asked","done","None"]
theorem wY:(BS1++BS2++BS3).length=35/\∀z∈BS1++BS2++BS3,z.length<=14:=by decide +kernel
theorem Py:("0159azAZ =-+_.\n":Str).cps.toList.length=15:=by decide +kernel
theorem Zm (us:List Str):(jw us).length<=(us.map Str.length).sum+us.length:=by
 by_cases h:us=[]
 ·subst h;exact kB (show(jw []).length<=0 by decide +kernel) (Nat.zero_le _)
 ·have:=gY h;omega
theorem uE (ws:List Str) (i j:Nat) (h:i<=j):((ws.take i).map Str.length).sum+(ws.take i).length+(((ws.drop j).map Str.length).sum+(ws.drop j).length)<=(ws.map Str.length).sum+ws.length:=by
 have h1:=gH (ws.take i) (ws.drop i)
 rw[List.take_append_drop]at h1;have h2:=oN (ws.drop i) (j - i)
 rw[List.drop_drop,show i+(j - i)=j by omega]at h2
 have h3:(ws.take i).length+(ws.drop i).length=ws.length:=by rw[<- eG,List.take_append_drop]
 omega
theorem Pz (ws:List Str) (i:Nat):((ws.take i).map Str.length).sum+(ws.take i).length<=(ws.map Str.length).sum+ws.length:=by
 have:=uE ws i (max i ws.length) (Nat.le_max_left _ _)
 omega
theorem kA (x y:Str):(x++y).length=x.length+y.length:=by
 have e:∀z:Str,z.length=z.cps.toList.length:=fun z=>by simp [Str.length]
 rw[e,pZ,eG,<- e,<- e]
theorem oO (z:Str) (lo hi:Option Int):(tx (dS z.cps.toList lo hi)).length<=z.length:=by
 rw[dM];have:=qA z.cps.toList lo hi
 have e:z.length=z.cps.toList.length:=by simp [Str.length]
 omega
theorem mD (c:Nat):(tx [c]).length=1:=by rw[dM];rfl
theorem Gn (a:List Str) (u:Str) (b:List Str):(((a++[u]++b).map Str.length).sum+(a++[u]++b).length)=(a.map Str.length).sum+a.length+((b.map Str.length).sum+b.length)+(u.length+1):=by
 rw[gH,gH,eG,eG,show([u].map Str.length).sum=u.length by simp,List.length_singleton];omega
theorem Lr {z:Str} {m:Nat} (h:aK z=some m):m<10 ^ 13:=by
 unfold aK at h;split at h
 ·rename_i hm
  split at h
  ·cases h
  ·have h':=Option.some.inj h
   rw[bW,Bool.and_eq_true,Bool.and_eq_true]at hm;have h2:=of_decide_eq_true hm.1.2
   have hl:z.cps.toList.length=z.length:=by simp [Str.length]
   have:=Ui z.cps.toList (rA hm.2)
   rw[h',hl]at this;exact Nat.lt_of_lt_of_le this (Nat.pow_le_pow_right Zd Zo)
 ·cases h
theorem Go (T:Txt K mg) (cLtake:Callee P w K mg base 1 "_law_take" ["_law_pen_here","_law_most"] gX) (cLcount:Callee P w K mg base 1 "_law_count" ["_law_word"] pN) (D:DefAt K mg "_law_bent" jU ["_law_pen_here","_law_text"]):Callee P w K mg base 2 "_law_bent" ["_law_pen_here","_law_text"] zO:=by
 refine D.go bU (fun vs H Q E h=>?_) (fun f cdv A outer s H vs Q E hr h=>?_)
 ·obtain⟨p,z,rfl,_⟩:=h;rfl
 ·obtain⟨p,z,rfl,pn,hz,q⟩:=h
  have hLtake:=hr
  have hLcount:=hr
  refine⟨_,(R.ae (R.ai (i:=2) bU.nd (R.bb (K:=K) PySem.F.plainAttrs_str PySem.F.slot_str_split PySem.F.type_str_split R.ck (R.v 1) (R.Z R.ad R.aa))) (R.ae (R.ai (i:=3) bU.nd (R.fn cLtake hLtake rfl (R.Z (R.v 0) (R.Z (R.ao (R.au (K:=K)) rfl T.b_len aX (R.Z (R.v 2) R.aa)) R.aa)))) (R.ae (R.ai (i:=4) bU.nd (R.fn cLtake hLtake rfl (R.Z (R.v 0) (R.Z (R.op R.ar (R.ao R.dy rfl T.b_len aX (R.Z (R.v 1) R.aa)) R.ac) R.aa)))) (R.ae (R.ai (i:=5) bU.nd (R.ix R.iS R.ad (R.fn cLtake hLtake rfl (R.Z (R.v 0) (R.Z R.ac R.aa))))) (R.ae (R.ai (i:=6) bU.nd (R.ap (R.Z R.ad (R.Z R.ad (R.Z R.ad (R.Z R.ad (R.Z R.ad (R.Z R.ad (R.Z R.ad (R.Z R.ad (R.Z R.ad (R.Z R.ad R.aa)))))))))))) (R.ae (R.ai (i:=6) bU.nd (R.op R.ay (R.v 6) (R.ap (R.Z R.ad (R.Z R.ad (R.Z R.ad (R.Z R.ad (R.Z R.ad (R.Z R.ad (R.Z R.ad (R.Z R.ad (R.Z R.ad (R.Z R.ad (R.Z R.ad (R.Z R.ad R.aa))))))))))))))) (R.ae (R.ai (i:=6) bU.nd (R.op R.ay (R.v 6) (R.ap (R.Z R.ad (R.Z R.ad (R.Z R.ad (R.Z R.ad (R.Z R.ad (R.Z R.ad (R.Z R.ad (R.Z R.ad (R.Z R.ad (R.Z R.ad (R.Z R.ad (R.Z R.ad (R.Z R.ad R.aa)))))))))))))))) (R.ae (R.ai (i:=7) bU.nd (R.fn cLtake hLtake rfl (R.Z (R.v 0) (R.Z R.ac R.aa)))) (R.ae (R.aj (R.ah R.eq (R.v 7) R.ac) (R.af (R.ag (R.bb (K:=K) PySem.F.plainAttrs_str PySem.F.slot_str_join PySem.F.type_str_join (R.cj (K:=K)) R.ad (R.Z (R.op R.ay (R.sl (R.ax (K:=K)) (R.v 2) R.pn (R.ps (R.v 3))) (R.sl (R.ax (K:=K)) (R.v 2) (R.ps (R.op R.ar (R.v 3) R.ac)) R.pn)) R.aa)))) R.ak) (R.ae (R.aj (R.ah R.eq (R.v 7) R.ac) (R.af (R.ag (R.bb (K:=K) PySem.F.plainAttrs_str PySem.F.slot_str_join PySem.F.type_str_join (R.cj (K:=K)) R.ad (R.Z (R.op R.ay (R.sl (R.ax (K:=K)) (R.v 2) R.pn (R.ps (R.op R.ar (R.v 3) R.ac))) (R.sl (R.ax (K:=K)) (R.v 2) (R.ps (R.v 3)) R.pn)) R.aa)))) R.ak) (R.ae (R.aj (R.ah R.eq (R.v 7) R.ac) (R.af (R.ag (R.op R.db (R.op R.db (R.sl R.sS (R.v 1) R.pn (R.ps (R.v 4))) (R.v 5)) (R.sl R.sS (R.v 1) (R.ps (R.v 4)) R.pn)))) R.ak) (R.ae (R.aj (R.ah R.eq (R.v 7) R.ac) (R.af (R.ag (R.op R.db (R.sl R.sS (R.v 1) R.pn (R.ps (R.v 4))) (R.sl R.sS (R.v 1) (R.ps (R.op R.ar (R.v 4) R.ac)) R.pn)))) R.ak) (R.ae (R.aj (R.ah R.eq (R.v 7) R.ac) (R.af (R.ag (R.op R.db (R.op R.db (R.sl R.sS (R.v 1) R.pn (R.ps (R.v 4))) (R.v 5)) (R.sl R.sS (R.v 1) (R.ps (R.op R.ar (R.v 4) R.ac)) R.pn)))) R.ak) (R.ae (R.aj (R.ah R.eq (R.v 7) R.ac) (R.af (R.ag (R.bb (K:=K) PySem.F.plainAttrs_str PySem.F.slot_str_join PySem.F.type_str_join (R.cj (K:=K)) R.ad (R.Z (R.op R.ay (R.op R.ay (R.sl (R.ax (K:=K)) (R.v 2) R.pn (R.ps (R.v 3))) (R.ap (R.Z (R.ix (R.aq (K:=K)) (R.v 2) (R.fn cLtake hLtake rfl (R.Z (R.v 0) (R.Z (R.ao (R.au (K:=K)) rfl T.b_len aX (R.Z (R.v 2) R.aa)) R.aa)))) R.aa))) (R.sl (R.ax (K:=K)) (R.v 2) (R.ps (R.op R.ar (R.v 3) R.ac)) R.pn)) R.aa)))) R.ak) (R.ae (R.ai (i:=8) bU.nd (R.fn cLcount hLcount rfl (R.Z (R.ix (R.aq (K:=K)) (R.v 2) (R.v 3)) R.aa))) (R.ae (R.aj (R.tw (R.bu (R.ah R.eq (R.v 7) R.ac) (R.bx (R.ah R.ja (R.v 8) R.bw)))) (R.af (R.ag (R.bb (K:=K) PySem.F.plainAttrs_str PySem.F.slot_str_join PySem.F.type_str_join (R.cj (K:=K)) R.ad (R.Z (R.op R.ay (R.op R.ay (R.sl (R.ax (K:=K)) (R.v 2) R.pn (R.ps (R.v 3))) (R.ap (R.Z (R.bn R.fi rfl T.b_str fT (R.Z (R.op R.ar (R.v 8) R.ac) R.aa)) R.aa))) (R.sl (R.ax (K:=K)) (R.v 2) (R.ps (R.op R.ar (R.v 3) R.ac)) R.pn)) R.aa)))) R.ak) (R.af (R.ag (R.bb (K:=K) PySem.F.plainAttrs_str PySem.F.slot_str_join PySem.F.type_str_join (R.cj (K:=K)) R.ad (R.Z (R.op R.ay (R.op R.ay (R.sl (R.ax (K:=K)) (R.v 2) R.pn (R.ps (R.v 3))) (R.ap (R.Z (R.ix (R.aq (K:=K)) (R.v 6) (R.fn cLtake hLtake rfl (R.Z (R.v 0) (R.Z (R.ao (R.au (K:=K)) rfl T.b_len aX (R.Z (R.v 6) R.aa)) R.aa)))) R.aa))) (R.sl (R.ax (K:=K)) (R.v 2) (R.ps (R.op R.ar (R.v 3) R.ac)) R.pn)) R.aa)))))))))))))))))))),?_⟩
  obtain⟨ws,h0,hw,rfl⟩:=yT z
  have hsum:=gY h0
  have hpos:0<ws.length:=List.length_pos_iff.mpr h0
  refine⟨rfl,Zk,Zo,fun l hl=>?_⟩
  rw[iZ,jC h0 hw];have nl:l≠p:=pn.ne hl
  have s0:=aA (o:=.lst (ws.map V.str)) hl
  have g0:(aJ H l (.lst (ws.map V.str))) l=some (.lst (ws.map V.str)):=aD
  have lm:(ws.map V.str).length=ws.length:=aZ _
  dsimp only [aI];generalize aJ H l (.lst (ws.map V.str))=H0 at s0 g0 ⊢;show nK _ _ _ [some (.ref p),some (.str (jw ws)),some (.ref l),none,none,none,none,none,none] H0
  have pn0:=pn.same s0
  refine⟨_,.inl (SqL.of g0),p,_,rfl,pn0,by rw[lm];omega,by rw[lm];omega,fun r1 H1 r10 r11 pn1 k1=>?_⟩
  obtain⟨i,rfl⟩:=oR r10
  have hi:i<ws.length:=by rw[lm]at r11;omega
  dsimp only [aI];show nK _ _ _ [some (.ref p),some (.str (jw ws)),some (.ref l),some (.int (i:Int)),none,none,none,none,none] H1
  refine⟨cH Zo,p,_,rfl,pn1,Zo,Zo,fun r2 H2 r20 r21 pn2 k2=>?_⟩
  obtain⟨sp,rfl⟩:=oR r20
  dsimp only [aI];show nK _ _ _ [some (.ref p),some (.str (jw ws)),some (.ref l),some (.int (i:Int)),some (.int (sp:Int)),none,none,none,none] H2
  refine⟨p,15,rfl,pn2,Zd,Zd,fun r3 H3 r30 r31 pn3 k3=>⟨Zk,?_⟩⟩
  obtain⟨c,hc⟩:∃c,eF ("0159azAZ =-+_.\n":Str).cps.toList r3=some c:=by
   obtain⟨v,hv,_⟩:=kT (xs:=("0159azAZ =-+_.\n":Str).cps.toList) (i:=r3) r30 (by rw[Py];exact r31)
   exact⟨v,hv⟩
  refine⟨c,hc,?_⟩
  dsimp only [aI];show nK _ _ _ [some (.ref p),some (.str (jw ws)),some (.ref l),some (.int (i:Int)),some (.int (sp:Int)),some (.str (tx [c])),none,none,none] H3
  have k03:=((K1.of s0).trans k1).trans (k2.trans k3)
  have g3:=k3 _ _ (k2 _ _ (k1 _ _ g0 nl) nl) nl
  refine⟨dU rfl,fun m1 n1=>?_⟩
  dsimp only [aI];show nK _ _ _ [some (.ref p),some (.str (jw ws)),some (.ref l),some (.int (i:Int)),some (.int (sp:Int)),some (.str (tx [c])),some (.ref m1),none,none] (aJ H3 m1 (.lst (BS1.map V.str)))
  refine⟨dU rfl,fun m2 n2=>⟨_,_,cI aD n2,aD,dU rfl,fun m3 n3=>?_⟩⟩
  dsimp only [aI];show nK _ _ _ [some (.ref p),some (.str (jw ws)),some (.ref l),some (.int (i:Int)),some (.int (sp:Int)),some (.str (tx [c])),some (.ref m3),none,none] (aJ (aJ (aJ H3 m1 (.lst (BS1.map V.str))) m2 (.lst (BS2.map V.str))) m3 (.lst (BS1.map V.str++BS2.map V.str)))
  refine⟨dU rfl,fun m4 n4=>⟨_,_,cI aD n4,aD,dU rfl,fun m5 n5=>?_⟩⟩
  dsimp only [aI];have sM:Same H3 (aJ (aJ (aJ (aJ (aJ H3 m1 (.lst (BS1.map V.str))) m2 (.lst (BS2.map V.str))) m3 (.lst (BS1.map V.str++BS2.map V.str))) m4 (.lst (BS3.map V.str))) m5 (.lst (BS1.map V.str++BS2.map V.str++BS3.map V.str))):=((aA (o:=.lst (BS1.map V.str)) n1).trans (aA (o:=.lst (BS2.map V.str)) n2)).trans ((aA (o:=.lst (BS1.map V.str++BS2.map V.str)) n3).trans ((aA (o:=.lst (BS3.map V.str)) n4).trans (aA (o:=.lst (BS1.map V.str++BS2.map V.str++BS3.map V.str)) n5)))
  have gM:(aJ (aJ (aJ (aJ (aJ H3 m1 (.lst (BS1.map V.str))) m2 (.lst (BS2.map V.str))) m3 (.lst (BS1.map V.str++BS2.map V.str))) m4 (.lst (BS3.map V.str))) m5 (.lst (BS1.map V.str++BS2.map V.str++BS3.map V.str))) m5=some (.lst ((BS1++BS2++BS3).map V.str)):=by rw[aD,hW,hW]
  have nM:m5≠p:=((((pn3.same (aA n1)).same (aA n2)).same (aA n3)).same (aA n4)).ne n5
  show nK _ _ _ [some (.ref p),some (.str (jw ws)),some (.ref l),some (.int (i:Int)),some (.int (sp:Int)),some (.str (tx [c])),some (.ref m5),none,none] (aJ (aJ (aJ (aJ (aJ H3 m1 (.lst (BS1.map V.str))) m2 (.lst (BS2.map V.str))) m3 (.lst (BS1.map V.str++BS2.map V.str))) m4 (.lst (BS3.map V.str))) m5 (.lst (BS1.map V.str++BS2.map V.str++BS3.map V.str)))
  generalize aJ (aJ (aJ (aJ (aJ H3 m1 (.lst (BS1.map V.str))) m2 (.lst (BS2.map V.str))) m3 (.lst (BS1.map V.str++BS2.map V.str))) m4 (.lst (BS3.map V.str))) m5 (.lst (BS1.map V.str++BS2.map V.str++BS3.map V.str))=H4 at sM gM ⊢;have pn4:=pn3.same sM
  have g4:=sM _ _ g3
  refine⟨p,9,rfl,pn4,Zd,Zd,fun way H5 w0 w1 pn5 k5=>?_⟩
  dsimp only [aI];show nK _ _ _ [some (.ref p),some (.str (jw ws)),some (.ref l),some (.int (i:Int)),some (.int (sp:Int)),some (.str (tx [c])),some (.ref m5),some (.int way),none] H5
  have g5:=k5 _ _ g4 nl
  have gM5:=k5 _ _ gM nM
  have k05:=(k03.trans (K1.of sM)).trans k5
  have hwi:ws[i].length+1<=(jw ws).length+1:=by have:=lM (List.getElem_mem hi);omega
  have jq:∀(us:List Str) (G:Hp),(us.map Str.length).sum+us.length<=2*(jw ws).length+20->PenAt G p->K1 p H G->Q (.str (Txt.join (tx [32]) us)) G:=fun us G h1 h2 h3=>q _ _ (kB (Zm us) h1) h2 h3
  have jb:∀(us:List Str),(us.map Str.length).sum+us.length<=2*(jw ws).length+20->(us.map fun x=>x.length).sum+us.length*(tx [32]).length<=16777216:=fun us h=>by
   have e3:(tx [32]).length=1:=by decide +kernel
   have e:(us.map fun x=>x.length)=us.map Str.length:=rfl
   rw[e3,e];omega
  have c1:∀k:Nat,dS (ws.map V.str) none (some (k:Int))=(ws.take k).map V.str:=fun k=>(zH ws k).1
  have c2:∀k:Nat,dS (ws.map V.str) (some (k:Int)) none=(ws.drop k).map V.str:=fun k=>(zH ws k).2
  have ei:((i:Int)+1)=((i+1:Nat):Int):=by omega
  have es:((sp:Int)+1)=((sp+1:Nat):Int):=by omega
  have tl:=Pz ws
  have dl:=oN ws
  have tp:=uE ws i (i+1) Zo
  show if decide (way=0)=true then _ else _
  refine aV (fun hw0=>?_) (fun hw0=>?_)
  ·refine⟨rfl,_,SqL.of g5,fun p1 h1=>⟨_,SqL.of (aA h1 _ _ g5),fun p2 h2=>?_⟩⟩
   rw[c1]at h2 ⊢;rw[ei,c2];refine⟨_,_,cI aD h2,aD,cH (by rw[aZ,aZ];have:=tl i;have:=dl (i+1);omega),fun p3 h3=>⟨tx [32],p3,ws.take i++ws.drop (i+1),rfl,rfl,?_,jb _ ?_,jq _ _ ?_ ?_ ?_⟩⟩
   ·rw[hW];exact SqL.of aD
   ·rw[gH,eG];omega
   ·rw[gH,eG];omega
   ·exact pn5.same (((aA h1).trans (aA h2)).trans (aA h3))
   ·exact k05.trans (K1.of (((aA h1).trans (aA h2)).trans (aA h3)))
  dsimp only [aR];show if decide (way=1)=true then _ else _
  refine aV (fun hw1=>?_) (fun hw1=>?_)
  ·refine⟨rfl,_,SqL.of g5,fun p1 h1=>⟨_,SqL.of (aA h1 _ _ g5),fun p2 h2=>?_⟩⟩
   rw[ei,c1]at h2 ⊢;rw[c2];refine⟨_,_,cI aD h2,aD,cH (by rw[aZ,aZ];have:=tl (i+1);have:=dl i;omega),fun p3 h3=>⟨tx [32],p3,ws.take (i+1)++ws.drop i,rfl,rfl,?_,jb _ ?_,jq _ _ ?_ ?_ ?_⟩⟩
   ·rw[hW];exact SqL.of aD
   ·rw[gH,eG];have:=tl (i+1);have:=dl i;omega
   ·rw[gH,eG];have:=tl (i+1);have:=dl i;omega
   ·exact pn5.same (((aA h1).trans (aA h2)).trans (aA h3))
   ·exact k05.trans (K1.of (((aA h1).trans (aA h2)).trans (aA h3)))
  dsimp only [aR];show if decide (way=2)=true then _ else _
  refine aV (fun hw2=>?_) (fun hw2=>?_)
  ·refine⟨cH Zo,?_,cH Zo,?_,q _ _ ?_ pn5 k05⟩
   ·rw[mD];have:=oO (jw ws) none (some (sp:Int));exact cH Zo
   ·rw[kA,mD];have:=oO (jw ws) none (some (sp:Int));have:=oO (jw ws) (some (sp:Int)) none;exact cH Zo
   ·rw[kA,kA,mD];have:=oO (jw ws) none (some (sp:Int));have:=oO (jw ws) (some (sp:Int)) none;omega
  dsimp only [aR];show if decide (way=3)=true then _ else _
  refine aV (fun hw3=>?_) (fun hw3=>?_)
  ·refine⟨cH Zo,cH Zo,?_,q _ _ ?_ pn5 k05⟩
   ·have:=oO (jw ws) none (some (sp:Int));have:=oO (jw ws) (some ((sp:Int)+1)) none;exact cH Zo
   ·rw[kA];have:=oO (jw ws) none (some (sp:Int));have:=oO (jw ws) (some ((sp:Int)+1)) none;omega
  dsimp only [aR];show if decide (way=4)=true then _ else _
  refine aV (fun hw4=>?_) (fun hw4=>?_)
  ·refine⟨cH Zo,?_,cH Zo,?_,q _ _ ?_ pn5 k05⟩
   ·rw[mD];have:=oO (jw ws) none (some (sp:Int));exact cH Zo
   ·rw[kA,mD];have:=oO (jw ws) none (some (sp:Int));have:=oO (jw ws) (some ((sp:Int)+1)) none;exact cH Zo
   ·rw[kA,kA,mD];have:=oO (jw ws) none (some (sp:Int));have:=oO (jw ws) (some ((sp:Int)+1)) none;omega
  dsimp only [aR];show if decide (way=5)=true then _ else _
  refine aV (fun hw5=>?_) (fun hw5=>?_)
  ·refine⟨rfl,_,SqL.of g5,fun p1 h1=>?_⟩
   rw[c1];have n1:p1≠p:=pn5.ne h1
   refine⟨_,.inl (SqL.of (aA h1 _ _ g5)),p,_,rfl,pn5.same (aA h1),by rw[lm];omega,by rw[lm];omega,fun r4 H6 r40 r41 pn6 k6=>?_⟩
   obtain⟨j,rfl⟩:=oR r40
   have hj:j<ws.length:=by rw[lm]at r41;omega
   have g6:=k6 _ _ (aA h1 _ _ g5) nl
   refine⟨_,SqL.of g6,.str ws[j],aF (by rw[kH,jH hj];rfl),dU rfl,fun p2 h2=>?_⟩
   have s2:=aA (o:=.lst [V.str ws[j]]) h2
   refine⟨_,_,s2 _ _ (k6 _ _ aD n1),aD,cH (by rw[aZ];have:=tl i;simp;omega),fun p3 h3=>⟨_,SqL.of (aA h3 _ _ (s2 _ _ g6)),fun p4 h4=>?_⟩⟩
   rw[ei,c2];have hu:(ws[j]).length<=(jw ws).length+15:=by have:=lM (List.getElem_mem hj);omega
   refine⟨_,_,cI aD h4,aD,cH (by rw[eG,aZ,aZ];have:=tl i;have:=dl (i+1);simp;omega),fun p5 h5=>⟨tx [32],p5,ws.take i++[ws[j]]++ws.drop (i+1),rfl,rfl,?_,jb _ ?_,jq _ _ ?_ ?_ ?_⟩⟩
   ·rw[hW,hW];exact SqL.of aD
   ·rw[Gn];omega
   ·rw[Gn];omega
   ·exact(pn6.same s2).same (((aA h3).trans (aA h4)).trans (aA h5))
   ·exact((k05.trans (K1.of (aA h1))).trans (k6.trans (K1.of s2))).trans (K1.of (((aA h3).trans (aA h4)).trans (aA h5)))
  dsimp only [aR];refine⟨_,SqL.of g5,.str ws[i],aF (by rw[kH,jH hi];rfl),ws[i],rfl,Zo,fun H6 s6=>?_⟩
  dsimp only [aI];show nK _ _ _ [some (.ref p),some (.str (jw ws)),some (.ref l),some (.int (i:Int)),some (.int (sp:Int)),some (.str (tx [c])),some (.ref m5),some (.int way),some (bA (aK ws[i]))] H6
  have g6:=s6 _ _ g5
  have gM6:=s6 _ _ gM5
  have pn6:=pn5.same s6
  have k06:=k05.trans (K1.of s6)
  refine iY (t:=jJ _ _) (fun v H'=>(v=true->∃n,aK ws[i]=some n)/\H6=H') (fun kk hkk=>?_) (fun v H' ⟨ev,eH⟩=>?_)
  ·show if decide (way=6)=true then _ else _
   refine aV (fun hw6=>?_) (fun hw6=>hkk _ _ ⟨(fun e=>by cases e),rfl⟩)
   cases hn:aK ws[i]with
   | none=>exact hkk _ _ ⟨(fun e=>by cases e),rfl⟩
   | some n=>exact hkk _ _ ⟨fun _=>⟨n,hn⟩,rfl⟩
  subst eH;refine aV (fun hv=>?_) (fun hv=>?_)
  ·obtain⟨n,hn⟩:=ev hv
   rw[hn];refine⟨rfl,_,SqL.of g6,fun p1 h1=>?_⟩
   rw[c1];have n1:p1≠p:=pn6.ne h1
   have hn13:n+1<10 ^ 14:=by
    have:=Lr hn
    omega
   have hu14:(pF (n+1)).length<=14:=Cp (k:=13) hn13
   refine⟨⟨Zo,Zo⟩,dU rfl,fun p2 h2=>?_⟩
   have e1:Str.ofString (toString ((n:Int)+1))=pF (n+1):=rfl
   rw[e1];have s2:=aA (o:=.lst [V.str (pF (n+1))]) h2
   refine⟨_,_,s2 _ _ aD,aD,cH (by rw[aZ];have:=tl i;simp;omega),fun p3 h3=>⟨_,SqL.of (aA h3 _ _ (s2 _ _ (aA h1 _ _ g6))),fun p4 h4=>?_⟩⟩
   rw[ei,c2];have hu:(pF (n+1)).length<=(jw ws).length+15:=by omega
   refine⟨_,_,cI aD h4,aD,cH (by rw[eG,aZ,aZ];have:=tl i;have:=dl (i+1);simp;omega),fun p5 h5=>⟨tx [32],p5,ws.take i++[pF (n+1)]++ws.drop (i+1),rfl,rfl,?_,jb _ ?_,jq _ _ ?_ ?_ ?_⟩⟩
   ·rw[hW,hW];exact SqL.of aD
   ·rw[Gn];omega
   ·rw[Gn];omega
   ·exact((pn6.same (aA h1)).same s2).same (((aA h3).trans (aA h4)).trans (aA h5))
   ·exact((k06.trans (K1.of (aA h1))).trans (K1.of s2)).trans (K1.of (((aA h3).trans (aA h4)).trans (aA h5)))
  ·dsimp only [aR];refine⟨rfl,_,SqL.of g6,fun p1 h1=>?_⟩
   rw[c1];have n1:p1≠p:=pn6.ne h1
   have lb:((BS1++BS2++BS3).map V.str).length=35:=by rw[aZ];exact wY.1
   refine⟨_,.inl (SqL.of (aA h1 _ _ gM6)),p,_,rfl,pn6.same (aA h1),by rw[lb];omega,by rw[lb];omega,fun r4 H7 r40 r41 pn7 k7=>?_⟩
   obtain⟨j,rfl⟩:=oR r40
   have hj:j<(BS1++BS2++BS3).length:=by rw[lb]at r41;rw[wY.1];omega
   have g7:=k7 _ _ (aA h1 _ _ g6) nl
   have gM7:=k7 _ _ (aA h1 _ _ gM6) nM
   refine⟨_,SqL.of gM7,.str (BS1++BS2++BS3)[j],aF (by rw[kH,jH hj];rfl),dU rfl,fun p2 h2=>?_⟩
   have s2:=aA (o:=.lst [V.str (BS1++BS2++BS3)[j]]) h2
   refine⟨_,_,s2 _ _ (k7 _ _ aD n1),aD,cH (by rw[aZ];have:=tl i;simp;omega),fun p3 h3=>⟨_,SqL.of (aA h3 _ _ (s2 _ _ g7)),fun p4 h4=>?_⟩⟩
   rw[ei,c2];have hu:((BS1++BS2++BS3)[j]).length<=(jw ws).length+15:=by have:=wY.2 _ (List.getElem_mem hj);omega
   refine⟨_,_,cI aD h4,aD,cH (by rw[eG,aZ,aZ];have:=tl i;have:=dl (i+1);simp;omega),fun p5 h5=>⟨tx [32],p5,ws.take i++[(BS1++BS2++BS3)[j]]++ws.drop (i+1),rfl,rfl,?_,jb _ ?_,jq _ _ ?_ ?_ ?_⟩⟩
   ·rw[hW,hW];exact SqL.of aD
   ·rw[Gn];omega
   ·rw[Gn];omega
   ·exact(pn7.same s2).same (((aA h3).trans (aA h4)).trans (aA h5))
   ·exact((k06.trans (K1.of (aA h1))).trans (k7.trans (K1.of s2))).trans (K1.of (((aA h3).trans (aA h4)).trans (aA h5)))
end
end KL
namespace KL
open PySem L2
section
variable {P:Program} {w:World} {K:W.Frag} {mg:Str->Option Value} {base:Heap}
def FlatS (v:V):Prop:=(∃z,v=.str z/\z.length<=12)∨∃m:Nat,v=.int (m:Int)/\m<=1000000000000
theorem FlatS.of {v:V} (h:FlatW v):FlatS v:=by
 rcases h with⟨z,rfl,h,_⟩ | ⟨m,rfl,h⟩
 ·exact .inl ⟨z,rfl,h⟩
 ·exact .inr ⟨m,rfl,h⟩
theorem Ls {k:Nat}:∀(ws:List Str),(∀p∈ws,p.length<=k)->(ws.map (·.length)).sum<=k*ws.length
 | [],_=>cL _
 | p::r,h=>by
  have h1:=h p iW
  have h2:=Ls (k:=k) r fun z m=>h z (gT _ m)
  rw[List.map_cons,List.sum_cons,fI,Nat.mul_add];omega
def aAP (p:RP):Prop:=match p with | .sc v=>FlatS v | .tp xs=>(1<=xs.length/\xs.length<=5)/\∀y∈xs,FlatS y
def Lu:Sp:=fun vs H Q _=>∃a ps,vs=[.ref a]/\RowAt H a ps/\RowIs ps/\∀H',Same H H'->Q (.str (rG ps)) H'
theorem RowS.ok {ps:List RP} {scs:List V} {tts:List (List V)} (S:RowS ps scs tts):∀p∈ps,aAP p:=fun p hp=>by
 rw[S.eq]at hp;rcases Zma.mp hp with h | h
 ·obtain⟨v,hv,rfl⟩:=Zmm.mp h
  exact FlatS.of (S.fl v hv)
 ·obtain⟨t,ht,rfl⟩:=Zmm.mp h
  exact⟨(S.ft t ht).1,fun y hy=>FlatS.of ((S.ft t ht).2 y hy)⟩
def zP:List RP->List Str
 | []=>[]
 | .sc v::r=>dH v::zP r
 | .tp _::r=>zP r
def xG:List RP->List (List V)
 | []=>[]
 | .sc _::r=>xG r
 | .tp xs::r=>xs::xG r
theorem oP:∀(p q:List RP),zP (p++q)=zP p++zP q
 | [],q=>rfl
 | .sc v::r,q=>by show dH v::zP (r++q)=_;rw[oP r q];rfl
 | .tp _::r,q=>by show zP (r++q)=_;rw[oP r q];rfl
theorem oQ:∀(p q:List RP),xG (p++q)=xG p++xG q
 | [],q=>rfl
 | .sc v::r,q=>by show xG (r++q)=_;rw[oQ r q];rfl
 | .tp xs::r,q=>by show xs::xG (r++q)=_;rw[oQ r q];rfl
theorem Lv:∀(vs:List V),zP (vs.map RP.sc)=vs.map dH
 | []=>rfl
 | v::r=>by show dH v::zP (r.map RP.sc)=_;rw[Lv r];rfl
theorem Lw:∀(ts:List (List V)),zP (ts.map RP.tp)=[]
 | []=>rfl
 | v::r=>Lw r
theorem Lx:∀(vs:List V),xG (vs.map RP.sc)=[]
 | []=>rfl
 | v::r=>Lx r
theorem Ly:∀(ts:List (List V)),xG (ts.map RP.tp)=ts
 | []=>rfl
 | v::r=>by show v::xG (r.map RP.tp)=_;rw[Ly r]
theorem wZ:∀(p:List RP),(zP p).length<=p.length
 | []=>cL _
 | .sc v::r=>by have:=wZ r;show(zP r).length+1<=r.length+1;omega
 | .tp _::r=>by have:=wZ r;show(zP r).length<=r.length+1;omega
theorem xA:∀(p:List RP),(xG p).length<=p.length
 | []=>cL _
 | .sc v::r=>by have:=xA r;show(xG r).length<=r.length+1;omega
 | .tp _::r=>by have:=xA r;show(xG r).length+1<=r.length+1;omega
def TAt (H:Hp) (t:List V) (v:V):Prop:=∃b,v=.ref b/\H b=some (.tup t)
theorem Paired.snoc {α β:Type} {R:α->β->Prop}:∀ {xs:List α} {ys:List β} {a:α} {b:β},Paired R xs ys->R a b->Paired R (xs++[a]) (ys++[b])
 | _,_,_,_,.nil,h=>.cons h .nil
 | _,_,_,_,.cons h t,h'=>.cons h (Paired.snoc t h')
theorem Qa (T:Txt K mg) (D:DefAt K mg "_law_line" dO ["_law_row_here"]):Callee P w K mg base 1 "_law_line" ["_law_row_here"] Lu:=by
 refine D.go fP (fun vs H Q E h=>?_) (fun f cdv A outer s H vs Q E hr h=>?_)
 ·obtain⟨a,ps,rfl,_⟩:=h;rfl
 ·obtain⟨a,ps,rfl,ra,ri,q⟩:=h
  refine⟨_,(R.ae (R.en (i:=1) fP.nd rfl (Or.inl rfl) rfl (js:=[none]) (N:=["_law_part"]) (CompScope.by (aE dO) ["_law_row_here","_law_words_here","_law_k","_law_part"] rfl rfl Zk) (bF rfl) (R.cu (K:=K) (R.v 0)) (fun C s₂ H₂ fp=>⟨(R.gn (i:=0) (show(["_law_part"]:List Str).Nodup by decide +kernel)),(R.dj (R.aw (R.av (R.ba .tup (R.v 0) rfl T.b_isinstance rfl T.b_tuple bT)))),(R.bn R.fi rfl T.b_str fT (R.Z (R.v 0) R.aa))⟩) rfl) (R.ae (R.cm PassesOwn.never rfl (R.fb (K:=K) rfl T.b_enumerate (R.bo rfl (js:=[none]) (N:=["_law_part"]) (CompScope.by (aE dO) ["_law_row_here","_law_words_here","_law_k","_law_part"] rfl rfl Zk) (bF rfl) (R.cu (K:=K) (R.v 0)) (fun C s₂ H₂ fp=>⟨(R.gn (i:=0) (show(["_law_part"]:List Str).Nodup by decide +kernel)),(R.dj (R.av (R.ba .tup (R.v 0) rfl T.b_isinstance rfl T.b_tuple bT))),(R.v 0)⟩))) (R.cv (K:=K) (n:=2) rfl (R.bv (R.gn (i:=2) fP.nd) (R.bv (R.gn (i:=3) fP.nd) R.cy))) (R.af (R.ai (i:=1) fP.nd (R.op R.ay (R.op R.ay (R.v 1) (R.op R.eo (R.ap (R.Z R.ad R.aa)) (R.v 2))) (R.bo rfl (js:=[none]) (N:=["_law_one"]) (CompScope.by (aE dO) ["_law_row_here","_law_words_here","_law_k","_law_part"] rfl rfl Zk) (bF rfl) (R.cu (K:=K) (R.v 3)) (fun C s₂ H₂ fp=>⟨(R.gn (i:=0) (show(["_law_one"]:List Str).Nodup by decide +kernel)),R.br,(R.bn R.fi rfl T.b_str fT (R.Z (R.v 0) R.aa))⟩)))))) (R.af (R.ag (R.bb (K:=K) PySem.F.plainAttrs_str PySem.F.slot_str_join PySem.F.type_str_join (R.cj (K:=K)) R.ad (R.Z (R.v 1) R.aa)))))),?_⟩
  obtain⟨scs,tts,S⟩:=ri.split
  obtain⟨us,ga,pv⟩:=ra
  have elen:ps.length=us.length:=pv.length
  have hok:=RowS.ok S
  have l7:ps.length<=7:=by rw[S.eq,eG,aZ,aZ];have:=S.l2;have:=S.l5.2;omega
  have esc:zP ps=scs.map dH:=by rw[S.eq,oP,Lv,Lw,List.append_nil]
  have etp:xG ps=tts:=by rw[S.eq,oQ,Lx,Ly,List.nil_append]
  refine⟨a,rfl,⟨_,SqT.of ga⟩,?_⟩
  refine bV (hX K a us) Zo (fun j ys H'=>ys=(zP (ps.take j)).map V.str/\H'=H) (fun j ys H' ⟨e,e2⟩=>⟨by rw[e2];exact SqT.of ga,by rw[e,aZ];have:=wZ (ps.take j);rw[fS]at this;omega⟩) ⟨rfl,rfl⟩ (fun j y ys H' hy ⟨e,e2⟩=>?_) (fun ys H' ⟨e,e2⟩=>?_)
  ·subst e2;obtain⟨hj,ey⟩:=Zgs.mp hy
   obtain⟨hj',qj⟩:=Paired.get' (j:=j) pv hj
   rw[ey]at qj;have hm:=hok _ (List.getElem_mem hj')
   have et:ps.take (j+1)=ps.take j++[ps[j]]:=by rw[Mj,jH hj'];rfl
   generalize hpj:ps[j]=pj at qj hm et;cases pj with
   | sc v=>
    have:y=v:=qj
    subst this;have key:(zP (ps.take (j+1))).map V.str=ys++[.str (dH y)]:=by rw[et,oP,hW,e];rfl
    rcases hm with⟨z,rfl,hz⟩ | ⟨m,rfl,hm'⟩
    ·refine⟨.str,trivial,?_⟩
     exact⟨key.symm,rfl⟩
    ·refine⟨.int,trivial,?_⟩
     exact⟨⟨Zo,Int.lt_of_le_of_lt (b:=1000000000000) Zo Zd⟩,key.symm,rfl⟩
   | tp xs=>
    obtain⟨b,rfl,gb⟩:=qj
    refine⟨.tup,⟨_,gb⟩,?_⟩
    exact⟨by rw[e,et,oP];simp [zP],rfl⟩
  subst e2;rw[<- elen,rV (cL _),esc]at e;subst e;intro l1 hl1;dsimp only [aI];have s1:=aA (o:=.lst ((scs.map dH).map V.str)) hl1
  have g1:(aJ H' l1 (.lst ((scs.map dH).map V.str))) l1=some (.lst ((scs.map dH).map V.str)):=aD
  generalize aJ H' l1 (.lst ((scs.map dH).map V.str))=H1 at s1 g1 ⊢;refine⟨a,rfl,⟨_,SqT.of (s1 _ _ ga)⟩,?_⟩
  refine bV (hX K a us) Zo (fun j ys H'=>Paired (TAt H1) (xG (ps.take j)) ys/\H'=H1) (fun j ys H' ⟨e,e2⟩=>⟨by rw[e2];exact SqT.of (s1 _ _ ga),by rw[<- e.length];have:=xA (ps.take j);rw[fS]at this;omega⟩) ⟨.nil,rfl⟩ (fun j y ys H2 hy ⟨e,e2⟩=>?_) (fun ys H2 ⟨e,e2⟩=>?_)
  ·subst e2;obtain⟨hj,ey⟩:=Zgs.mp hy
   obtain⟨hj',qj⟩:=Paired.get' (j:=j) pv hj
   rw[ey]at qj;have hm:=hok _ (List.getElem_mem hj')
   have et:ps.take (j+1)=ps.take j++[ps[j]]:=by rw[Mj,jH hj'];rfl
   generalize hpj:ps[j]=pj at qj hm et;cases pj with
   | sc v=>
    have:y=v:=qj
    subst this;have key:xG (ps.take (j+1))=xG (ps.take j):=by rw[et,oQ];simp [xG]
    rcases hm with⟨z,rfl,hz⟩ | ⟨m,rfl,hm'⟩
    ·refine⟨.str,trivial,?_⟩
     exact⟨by rw[key];exact e,rfl⟩
    ·refine⟨.int,trivial,?_⟩
     exact⟨by rw[key];exact e,rfl⟩
   | tp xs=>
    obtain⟨b,rfl,gb⟩:=qj
    refine⟨.tup,⟨_,s1 _ _ gb⟩,?_⟩
    exact⟨by rw[et,oQ];exact Paired.snoc e ⟨b,rfl,s1 _ _ gb⟩,rfl⟩
  subst e2;rw[<- elen,rV (cL _),etp]at e;intro l2 hl2;have ely:tts.length=ys.length:=e.length
  have s2:=aA (o:=.lst ys) hl2
  have g2:(aJ H2 l2 (.lst ys)) l2=some (.lst ys):=aD
  have e':Paired (TAt (aJ H2 l2 (.lst ys))) tts ys:=Paired.map' (fun _ _ ⟨b,e1,e2⟩=>⟨b,e1,s2 _ _ e2⟩) e
  have g1':=s2 _ _ g1
  generalize aJ H2 l2 (.lst ys)=H3 at s2 g2 e' g1' ⊢;refine⟨ys,SqL.of g2,?_⟩
  refine yJ (fun i σ H'=>∃(lw:Addr) (o2 o3:Option V),σ=[some (.ref a),some (.ref lw),o2,o3]/\H' lw=some (.lst ((scs.map dH++oU 0 (tts.take i)).map V.str))/\Same H3 H') (fun i σ H' ⟨_,_,_,_,_,s'⟩=>SqL.of (s' _ _ g2)) ⟨l1,_,_,rfl,by simpa [oU]using g1',Same.refl _⟩ ?_ ?_
  ·rintro i x σ G t hx ⟨lw,o2,o3,rfl,gw,sG⟩ ht
   obtain⟨hi,ex⟩:=Zgs.mp hx
   obtain⟨hi',b,eb,gb⟩:=Paired.get' (j:=i) e' hi
   rw[ex]at eb;subst eb;have hi2:i<2:=by have:=S.l2;omega
   have hft:=S.ft _ (List.getElem_mem hi')
   have s3:=aA (o:=.tup [.int (i:Int),.ref b]) ht
   have gb3:=s3 _ _ (sG _ _ gb)
   have gw3:=s3 _ _ gw
   have sG3:=sG.trans s3
   refine⟨t,_,rfl,SqT.of aD,rfl,_,_,rfl,_,_,rfl,rfl,?_⟩
   dsimp only [aI];generalize aJ G t (.tup [.int (i:Int),.ref b])=G3 at gb3 gw3 sG3 ⊢;have lW:(scs.map dH++oU 0 (tts.take i)).length<=20:=by
    rw[eG,aZ];have h5:=S.l5.2
    have:(oU 0 (tts.take i)).length<=5:=by
     match i,hi2 with
     | 0,_=>simp [oU]
     | 1,_=>
      match tts,S.ft with
      | [],_=>simp [oU]
      | t0::r,ft=>have:=(ft t0 Zs).1.2;simp [oU];omega
    omega
   refine⟨dU rfl,fun p1 h1=>⟨_,aD,Zo,Zo,by simp;omega,fun p2 h2=>⟨_,_,cI (cI gw3 h1) h2,aD,?_,fun p3 h3=>?_⟩⟩⟩
   ·have e9:(List.replicate ((i:Int).toNat) [V.str "="]).flatten.length=i:=by rw[Cc];simp
    rw[aZ,e9];exact cH Zo
   have e1:(List.replicate ((i:Int).toNat) [V.str "="]).flatten=(List.replicate i ("=":Str)).map V.str:=by
    have:(i:Int).toNat=i:=by simp
    rw[this];match i,hi2 with
    | 0,_=>rfl
    | 1,_=>rfl
   rw[e1,<- hW];have s4:Same G3 (aJ (aJ (aJ G3 p1 (.lst [V.str "="])) p2 (.lst ((List.replicate i ("=":Str)).map V.str))) p3 (.lst (((scs.map dH++oU 0 (tts.take i))++List.replicate i ("=":Str)).map V.str))):=by
    rw[e1]at h3;exact((aA h1).trans (aA h2)).trans (aA h3)
   have g4:(aJ (aJ (aJ G3 p1 (.lst [V.str "="])) p2 (.lst ((List.replicate i ("=":Str)).map V.str))) p3 (.lst (((scs.map dH++oU 0 (tts.take i))++List.replicate i ("=":Str)).map V.str))) p3=some (.lst (((scs.map dH++oU 0 (tts.take i))++List.replicate i ("=":Str)).map V.str)):=aD
   generalize aJ (aJ (aJ G3 p1 (.lst [V.str "="])) p2 (.lst ((List.replicate i ("=":Str)).map V.str))) p3 (.lst (((scs.map dH++oU 0 (tts.take i))++List.replicate i ("=":Str)).map V.str))=G4 at s4 g4 ⊢;have gb4:=s4 _ _ gb3
   refine⟨b,rfl,⟨_,SqT.of gb4⟩,?_⟩
   refine bV (hX K b tts[i]) (by have:=hft.1.2;omega) (fun j zs H'=>zs=((tts[i].take j).map dH).map V.str/\H'=G4) (fun j zs H' ⟨e,e2⟩=>⟨by rw[e2];exact SqT.of gb4,by rw[e,aZ,aZ,fS];omega⟩) ⟨rfl,rfl⟩ (fun j y zs H' hy ⟨e,e2⟩=>?_) (fun zs H' ⟨e,e2⟩=>?_)
   ·subst e2;have key:((tts[i].take (j+1)).map dH).map V.str=zs++[.str (dH y)]:=by rw[Mj,hy,hW,hW,e];rfl
    rcases FlatS.of (hft.2 y (sN hy)) with⟨z,rfl,hz⟩ | ⟨m,rfl,hm'⟩
    ·exact⟨key.symm,rfl⟩
    ·exact⟨⟨Zo,Int.lt_of_le_of_lt (b:=1000000000000) Zo Zd⟩,key.symm,rfl⟩
   subst e2;rw[rV (cL _)]at e;subst e;intro p5 h5;refine⟨_,_,aA h5 _ _ g4,aD,?_,fun p6 h6=>?_⟩
   ·rw[aZ,eG,aZ,aZ,List.length_replicate];have:=hft.1.2
    exact cH Zo
   rw[<- hW];refine⟨p6,_,_,rfl,?_,?_⟩
   ·rw[aD,Mj,jH hi'];show _=some (HO.lst ((scs.map dH++oU 0 (tts.take i++[tts[i]])).map V.str))
    rw[yM,fS,Nat.min_eq_left (Nat.le_of_lt hi'),Nat.zero_add,List.append_assoc,List.append_assoc]
   ·exact((sG3.trans s4).trans (aA h5)).trans (aA h6)
  ·rintro σ G ⟨lw,o2,o3,rfl,gw,sG⟩
   rw[<- ely,rV (cL _),<- S.ln]at gw;refine⟨rfl,_,lw,eO ps,rfl,rfl,SqL.of gw,?_,?_⟩
   ·have h1:=Ls (k:=13) (eO ps) fun z hz=>(S.fine.2 z hz).1
    have h2:=S.fine.1.2
    have e3:(" ":Str).length=1:=by decide +kernel
    rw[e3];omega
   ·have h:=q G ((s1.trans s2).trans sG)
    unfold rG jw at h;rw[<- iZ]at h;exact h
end
end KL
namespace KL
open PySem L2
section
variable {P:Program} {w:World} {K:W.Frag} {mg:Str->Option Value} {base:Heap}
def WDS:List Str:=["is","no","ok","short","full","has","kept","came","add","take"]
theorem Lz:∀z∈WDS,isNm z:=by
 intro z hz;unfold WDS at hz;simp only [List.mem_cons,List.not_mem_nil,or_false]at hz
 rcases hz with rfl | rfl | rfl | rfl | rfl | rfl | rfl | rfl | rfl | rfl <;> exact⟨Zk,Zk,Zk⟩
theorem Vy:∀r:Nat,r<10->(WDS.drop r++WDS.take r).Nodup:=by decide +kernel
theorem Qb {r:Nat} (h:r<10):(WDS.drop r++WDS.take r).length=10:=by
 rw[eG,List.length_drop,fS];show 10 - r+min r 10=10
 omega
theorem isNm.ky {z:Str} (h:isNm z):yH z:=⟨h.1,kB h.2.1 Zd,fun c hc=>by
 have:∀c∈LET,c∈KLET:=by decide +kernel
 exact this c (h.2.2 c hc)⟩
def xB:Sp:=fun vs H Q _=>∃(p:Addr) (m:Nat),vs=[.ref p,.int m]/\PenAt H p/\m<=10/\∀(l:Addr) (zs:List Str) (H':Hp),zs.length=m->(∀z∈zs,isNm z)->zs.Nodup->H l=none->H' l=some (.lst (zs.map V.str))->PenAt H' p->K1 p H H'->Q (.ref l) H'
theorem eK {α:Type} (xs:List α) (k:Nat):dS xs (some (k:Int)) none=xs.drop k:=by
 unfold dS HT.sIx;have h0:¬ ((k:Int)<0):=by omega
 simp only [h0,if_false]
 have e:(k:Int).toNat=k:=by simp
 rw[e];by_cases hk:k<=xs.length
 ·rw[Nat.min_eq_left hk];exact rV Zs
 ·rw[Nat.min_eq_right Zo]
  rw[List.drop_eq_nil_of_le (cL _),List.drop_eq_nil_of_le Zo]
  simp
theorem Ma (T:Txt K mg) (cLtake:Callee P w K mg base 1 "_law_take" ["_law_pen_here","_law_most"] gX) (D:DefAt K mg "_law_words" iE ["_law_pen_here","_law_many"]):Callee P w K mg base 2 "_law_words" ["_law_pen_here","_law_many"] xB:=by
 refine D.go jY (fun vs H Q E h=>?_) (fun f cdv A outer s H vs Q E hr h=>?_)
 ·obtain⟨p,m,rfl,_⟩:=h;rfl
 ·obtain⟨p,m,rfl,pn,hm,q⟩:=h
  have hLtake:=hr
  refine⟨_,(R.ae (R.ai (i:=2) jY.nd (R.ap (R.Z R.ad (R.Z R.ad (R.Z R.ad (R.Z R.ad (R.Z R.ad (R.Z R.ad (R.Z R.ad (R.Z R.ad (R.Z R.ad (R.Z R.ad R.aa)))))))))))) (R.ae (R.ai (i:=3) jY.nd (R.fn cLtake hLtake rfl (R.Z (R.v 0) (R.Z R.ac R.aa)))) (R.af (R.ag (R.sl (R.ax (K:=K)) (R.op R.ay (R.sl (R.ax (K:=K)) (R.v 2) (R.ps (R.v 3)) R.pn) (R.sl (R.ax (K:=K)) (R.v 2) R.pn (R.ps (R.v 3)))) R.pn (R.ps (R.v 1))))))),?_⟩
  refine⟨dU rfl,fun l hl=>?_⟩
  dsimp only [aI];have el:([V.str "is",.str "no",.str "ok",.str "short",.str "full",.str "has",.str "kept",.str "came",.str "add",.str "take"]:List V)=WDS.map V.str:=rfl
  rw[el];have g1:(aJ H l (.lst (WDS.map V.str))) l=some (.lst (WDS.map V.str)):=aD
  have s1:Same H (aJ H l (.lst (WDS.map V.str))):=aA hl
  have nl:l≠p:=pn.ne hl
  generalize aJ H l (.lst (WDS.map V.str))=H1 at g1 s1 ⊢;refine⟨p,10,rfl,pn.same s1,Zd,Zd,fun r' H2 r0 r1 p2 k2=>?_⟩
  obtain⟨r,rfl⟩:=oR r0
  have g2:=k2 _ _ g1 nl
  have hr10:r<10:=by omega
  dsimp only [aI];refine⟨_,SqL.of g2,fun a1 h1=>⟨_,SqL.of (aA h1 _ _ g2),fun a2 h2=>?_⟩⟩
  rw[eK,<- List.map_drop]at h2;rw[eK,gV,<- List.map_drop,<- List.map_take];have e1:(aJ (aJ H2 a1 (.lst ((WDS.drop r).map V.str))) a2 (.lst ((WDS.take r).map V.str))) a1=some (.lst ((WDS.drop r).map V.str)):=cI aD h2
  have e2:(aJ (aJ H2 a1 (.lst ((WDS.drop r).map V.str))) a2 (.lst ((WDS.take r).map V.str))) a2=some (.lst ((WDS.take r).map V.str)):=aD
  have s3:Same H2 (aJ (aJ H2 a1 (.lst ((WDS.drop r).map V.str))) a2 (.lst ((WDS.take r).map V.str))):=(aA h1).trans (aA h2)
  generalize aJ (aJ H2 a1 (.lst ((WDS.drop r).map V.str))) a2 (.lst ((WDS.take r).map V.str))=H3 at e1 e2 s3 ⊢;have hlen:=Qb hr10
  refine⟨_,_,e1,e2,cH (by rw[aZ,aZ,<- eG,hlen];decide),fun a3 h3=>⟨_,SqL.of aD,fun a4 h4=>?_⟩⟩
  rw[<- hW]at h4;rw[<- hW,gV,<- List.map_take];have k3:K1 p H (aJ H3 a3 (.lst ((WDS.drop r++WDS.take r).map V.str))):=((K1.of s1).trans k2).trans (K1.of (s3.trans (aA h3)))
  have p3:PenAt (aJ H3 a3 (.lst ((WDS.drop r++WDS.take r).map V.str))) p:=(p2.same s3).same (aA h3)
  refine q a4 ((WDS.drop r++WDS.take r).take m) _ (by rw[fS,hlen];omega) (fun z hz=>?_) ((Vy r hr10).sublist (List.take_sublist _ _)) (k3.free p3 h4) aD (p3.same (aA h4)) (k3.trans (.of (aA h4)))
  have hz':=List.mem_of_mem_take hz
  rcases Zma.mp hz' with h | h
  ·exact Lz z (List.mem_of_mem_drop h)
  ·exact Lz z (List.mem_of_mem_take h)
theorem Br (T:Txt K mg) (cLwords:Callee P w K mg base 2 "_law_words" ["_law_pen_here","_law_many"] xB) (cLtake:Callee P w K mg base 1 "_law_take" ["_law_pen_here","_law_most"] gX) (D:DefAt K mg "_law_names" dW ["_law_pen_here","_law_many"]):Callee P w K mg base 3 "_law_names" ["_law_pen_here","_law_many"] tO:=by
 refine D.go bO (fun vs H Q E h=>?_) (fun f cdv A outer s H vs Q E hr h=>?_)
 ·obtain⟨p,m,rfl,_⟩:=h;rfl
 ·obtain⟨p,m,rfl,pn,hm,q⟩:=h
  have hLtake:Room 1 _:=hr.mono Zd
  have hLwords:=hr
  refine⟨_,(R.ae (R.ai (i:=2) bO.nd R.ad) (R.ae (R.aj (R.ah R.eq (R.fn cLtake hLtake rfl (R.Z (R.v 0) (R.Z R.ac R.aa))) R.ac) (R.af (R.ag (R.fn cLwords hLwords rfl (R.Z (R.v 0) (R.Z (R.v 1) R.aa))))) R.ak) (R.ae (R.ai (i:=3) bO.nd (R.op R.ar R.ac (R.fn cLtake hLtake rfl (R.Z (R.v 0) (R.Z R.ac R.aa))))) (R.ae (R.ai (i:=4) bO.nd (R.fn cLtake hLtake rfl (R.Z (R.v 0) (R.Z (R.v 3) R.aa)))) (R.ae (R.ai (i:=5) bO.nd (R.ix (R.aq (K:=K)) (R.ap (R.Z R.ac (R.Z R.ac (R.Z R.ac (R.Z R.ac (R.Z R.ac (R.Z R.ac R.aa))))))) (R.fn cLtake hLtake rfl (R.Z (R.v 0) (R.Z R.ac R.aa))))) (R.ae (R.en (i:=6) bO.nd rfl (Or.inl rfl) rfl (js:=[none,some 0]) (N:=["_law_j","_law_pen_here"]) (CompScope.by (aE dW) ["_law_pen_here","_law_many","_law_letters","_law_size","_law_at","_law_step","_law_base","_law_names_here","_law_k","_law_long","_law_signs"] rfl rfl Zk) (bF rfl) (R.cq rfl T.b_range (R.Z (R.v 3) R.aa)) (fun C s₂ H₂ fp=>⟨(R.gn (i:=0) (show(["_law_j","_law_pen_here"]:List Str).Nodup by decide +kernel)),R.br,(R.fn cLtake hLtake rfl (R.Z (R.v 1) (R.Z R.ac R.aa)))⟩) rfl) (R.ae (R.ai (i:=7) bO.nd (R.ap R.aa)) (R.ae (R.cm PassesOwn.never rfl (R.cq rfl T.b_range (R.Z (R.v 1) R.aa)) (R.gn (i:=8) bO.nd) (R.ae (R.ai (i:=9) bO.nd (R.op R.ar (R.op R.ar (R.v 4) R.ac) (R.fn cLtake hLtake rfl (R.Z (R.v 0) (R.Z (R.op R.bd (R.v 3) (R.v 4)) R.aa))))) (R.ae (R.ai (i:=10) bO.nd (R.sl (R.ax (K:=K)) (R.v 6) R.pn (R.ps (R.v 9)))) (R.ae (R.du (R.op R.cf (R.op R.ar (R.ix (R.aq (K:=K)) (R.v 6) (R.v 4)) (R.op R.cg (R.v 5) (R.v 8))) R.ac) (R.dv (R.v 10) (R.v 4) R.dw)) (R.af (R.ee (R.bb (K:=K) PySem.F.plainAttrs_list PySem.F.slot_list_append PySem.F.type_list_append R.eg (R.v 7) (R.Z (R.bb (K:=K) PySem.F.plainAttrs_str PySem.F.slot_str_join PySem.F.type_str_join (R.cj (K:=K)) R.ad (R.Z (R.bo rfl (js:=[none,some 2]) (N:=["_law_sign","_law_letters"]) (CompScope.by (aE dW) ["_law_pen_here","_law_many","_law_letters","_law_size","_law_at","_law_step","_law_base","_law_names_here","_law_k","_law_long","_law_signs"] rfl rfl Zk) (bF rfl) (R.dm (K:=K) (R.v 10)) (fun C s₂ H₂ fp=>⟨(R.gn (i:=0) (show(["_law_sign","_law_letters"]:List Str).Nodup by decide +kernel)),R.br,(R.ix R.iS (R.v 1) (R.v 0))⟩)) R.aa)) R.aa)))))))) (R.af (R.ag (R.v 7))))))))))),?_⟩
  refine⟨p,4,rfl,pn,Zd,Zd,fun r0 H1 a0 a1 p1 k1=>?_⟩
  refine aV (fun _=>?_) (fun _=>?_)
  ·exact⟨p,m,rfl,p1,Zo,fun l zs H' h1 h2 h3 h4 h5 h6 h7=>q l zs H' h1 h2 h3 (k1.free p1 h4) h5 h6 (k1.trans h7)⟩
  dsimp only [aR];refine⟨p,8,rfl,p1,Zd,Zd,fun r1 H2 b0 b1 p2 k2=>?_⟩
  dsimp only [aI];refine⟨p,_,rfl,p2,Zo,Zo,fun a' H3 c0 c1 p3 k3=>?_⟩
  dsimp only [aI];obtain⟨a,rfl⟩:=oR c0
  refine⟨dU rfl,fun ls hls=>⟨p,6,rfl,p3.same (aA hls),Zd,Zd,fun r2 H4 d0 d1 p4 k4=>⟨_,SqL.of (k4 _ _ aD (p3.ne hls)),?_⟩⟩⟩
  have hst:∃s:Int,eF ([V.int 1,.int 3,.int 5,.int 7,.int 9,.int 11]:List V) r2=some (.int s)/\Jr s:=by
   rcases Zz d0 d1 with rfl | rfl | rfl | rfl | rfl | rfl
   ·exact⟨_,rfl,.inl rfl⟩
   ·exact⟨_,rfl,.inr (.inl rfl)⟩
   ·exact⟨_,rfl,.inr (.inr (.inl rfl))⟩
   ·exact⟨_,rfl,.inr (.inr (.inr (.inl rfl)))⟩
   ·exact⟨_,rfl,.inr (.inr (.inr (.inr (.inl rfl))))⟩
   ·exact⟨_,rfl,.inr (.inr (.inr (.inr (.inr rfl))))⟩
  obtain⟨st,hst,hok⟩:=hst
  refine⟨_,hst,?_⟩
  dsimp only [aI];have k14:K1 p H H4:=((k1.trans k2).trans (k3.trans (.of (aA hls)))).trans k4
  refine⟨1+r1,rfl,Zo,Zo,?_⟩
  refine bV (gQ 0 (1+r1).toNat) (by simp [dE];omega) (fun i ys H'=>∃bs:List Int,ys=bs.map V.int/\bs.length=i/\(∀x∈bs,0<=x/\x<26)/\PenAt H' p/\K1 p H H') (fun i ys H' ⟨bs,e,e2,_⟩=>⟨trivial,by rw[e,aZ,e2];exact cL _⟩) ⟨[],rfl,rfl,(fun _ h=>nomatch h),p4,k14⟩ (fun i x ys H' hx ⟨bs,e,e2,e3,pi,ki⟩=>?_) (fun ys H' ⟨bs,e,e2,e3,pi,ki⟩=>?_)
  ·refine⟨p,26,rfl,pi,Zd,Zd,fun r H'' f0 f1 pj kj=>⟨bs++[r],by rw[e,hW];rfl,by rw[eG,e2];rfl,fun x hx=>?_,pj,ki.trans kj⟩⟩
   rcases Zma.mp hx with h | h
   ·exact e3 x h
   ·rw[Zms.mp h];exact⟨f0,f1⟩
  intro lb hlb;subst e;have hbl:bs.length=(1+r1).toNat:=by rw[e2];simp [dE]
  have ha:a<bs.length:=by omega
  have gb:(aJ H' lb (.lst (bs.map V.int))) lb=some (.lst (bs.map V.int)):=aD
  have p5:=pi.same (aA (o:=.lst (bs.map V.int)) hlb)
  have k5:K1 p H (aJ H' lb (.lst (bs.map V.int))):=ki.trans (.of (aA hlb))
  generalize aJ H' lb (.lst (bs.map V.int))=H5 at gb p5 k5 ⊢;refine⟨dU rfl,fun l hl=>?_⟩
  dsimp only [aI];have nlb:lb≠l:=aH gb hl
  have npb:lb≠p:=pi.ne hlb
  have npl:l≠p:=p5.ne hl
  have hl0:H l=none:=k5.free p5 hl
  refine⟨m,rfl,Zo,Zo,?_⟩
  refine qB (gQ 0 (m:Int).toNat) (fun i σ H'=>∃(zs:List Str) (o8 o9 o10:Option V),σ=[some (.ref p),some (.int m),some (.str "abcdefghijklmnopqrstuvwxyz"),some (.int (1+r1)),some (.int a),some (.int st),some (.ref lb),some (.ref l),o8,o9,o10]/\zs.length=i/\(∀z∈zs,isNm z)/\(∀(j:Nat) (z:Str),zs[j]?=some z->z.cps.toList[a]?=some (oC LET ((bs[a]+st*(j:Int)) % 26)))/\H' l=some (.lst (zs.map V.str))/\H' lb=some (.lst (bs.map V.int))/\PenAt H' p/\K1 p H H')
   (fun _ _ _ _=>trivial) ⟨[],_,_,_,rfl,rfl,(fun _ h=>nomatch h),(fun _ _ h=>by cases h),aD,aA hl _ _ gb,p5.same (aA hl),k5.trans (.of (aA hl))⟩ ?_ ?_
  ·rintro i x σ G1 hx ⟨zs,o8,o9,o10,rfl,hzl,hnm,hat,gl,glb,q1,j1⟩
   have hi:i<m:=by
    have:=(Zgs.mp hx).1
    simp [dE]at this
    omega
   have ex:x=.int (i:Int):=by
    unfold dE at hx;rw[kH,List.getElem?_range Zo]at hx
    have:=Option.some.inj hx
    rw[<- this];show V.int (0+(i:Int))=_
    rw[Int.zero_add]
   subst ex;dsimp only [aI];refine⟨p,_,rfl,q1,Zo,Zo,fun t' G2 t0 t1 q2 j2=>?_⟩
   dsimp only [aI];obtain⟨t,rfl⟩:=oR t0
   have glb2:=j2 _ _ glb npb
   have gl2:=j2 _ _ gl npl
   refine⟨_,SqL.of glb2,fun lg hlg=>?_⟩
   have ec:dS (bs.map V.int) none (some ((a:Int)+1+t))=(bs.take (a+1+t)).map V.int:=by
    rw[show((a:Int)+1+t)=((a+1+t:Nat):Int) by omega,gV,List.map_take]
   rw[ec];dsimp only [aI];have htl:(bs.take (a+1+t)).length=a+1+t:=by rw[fS];omega
   refine⟨_,SqL.of (aA hlg _ _ glb2),.int bs[a],aF (by rw[kH,jH ha];rfl),.inl (by rcases hok with rfl | rfl | rfl | rfl | rfl | rfl <;> exact⟨Zd,Zd⟩),by show(0:Int)<_;decide,lg,_,_,a,rfl,rfl,aD,?_,?_⟩
   ·unfold Ej;rw[aZ,htl,if_pos Zo,if_pos Zo]
    rfl
   dsimp only;generalize hv:(bs[a]+st*(i:Int)) % 26=v;have v0:0<=v:=by rw[<- hv];exact Int.emod_nonneg _ Zd
   have v1:v<26:=by rw[<- hv];exact Int.emod_lt_of_pos _ Zd
   rw[show((bs.take (a+1+t)).map V.int).set a (V.int v)=((bs.take (a+1+t)).set a v).map V.int by rw[List.map_set]]
   generalize hss:(bs.take (a+1+t)).set a v=ss;have hsl:ss.length=a+1+t:=by rw[<- hss,List.length_set,htl]
   have hsb:∀x∈ss,0<=x/\x<26:=fun x hx=>by
    rw[<- hss]at hx;rcases List.mem_or_eq_of_mem_set hx with h | h
    ·exact e3 x (List.mem_of_mem_take h)
    ·rw[h];exact⟨v0,v1⟩
   have hsa:ss[a]?=some v:=by rw[<- hss,List.getElem?_set_self Zo]
   have sg:Same G2 (aJ (aJ G2 lg (.lst ((bs.take (a+1+t)).map V.int))) lg (.lst (ss.map V.int))):=fun c o e=>by
    rw[aM (aH e hlg),aM (aH e hlg)];exact e
   have gg:(aJ (aJ G2 lg (.lst ((bs.take (a+1+t)).map V.int))) lg (.lst (ss.map V.int))) lg=some (.lst (ss.map V.int)):=aD
   generalize aJ (aJ G2 lg (.lst ((bs.take (a+1+t)).map V.int))) lg (.lst (ss.map V.int))=G3 at sg gg ⊢;have el:(("abcdefghijklmnopqrstuvwxyz":Str).cps.toList)=LET:=vF
   refine⟨.inl ⟨rfl,_,SqL.of (sg _ _ gl2)⟩,rfl,lg,rfl,⟨_,SqL.of gg⟩,?_⟩
   refine pE (kS K lg (ss.map V.int)) (by rw[aZ];omega) (fun _=>true) (fun v=>match v with | .int i=>.str (tx [oC LET i]) | _=>v) (SqL.of gg) (fun y ys N hy ht hf=>?_) ?_
   ·obtain⟨i',hi',rfl⟩:=Zmm.mp hy
    have hb:=hsb i' hi'
    exact⟨Zk,_,(by rw[el];exact(vO (cs:=LET) hb.1 (show i'<26 from hb.2)).1),ht rfl⟩
   intro l3 h3;have ef:((ss.map V.int).filter (fun _=>true)).map (fun v=>match v with | .int i=>.str (tx [oC LET i]) | _=>v)=((ss.map (oC LET)).map (fun c=>tx [c])).map V.str:=by
    rw[List.filter_eq_self.mpr (fun _ _=>rfl),List.map_map,List.map_map,List.map_map]
    rfl
   rw[ef];have hz:isNm (tx (ss.map (oC LET))):=⟨by rw[dM,aZ];omega,by rw[dM,aZ];omega,fun c hc=>by
    rw[vP]at hc;obtain⟨i',hi',rfl⟩:=Zmm.mp hc
    have hb:=hsb i' hi'
    exact(vO (cs:=LET) hb.1 (show i'<26 from hb.2)).2⟩
   have hza:(tx (ss.map (oC LET))).cps.toList[a]?=some (oC LET ((bs[a]+st*(i:Int)) % 26)):=by
    rw[vP,kH,hsa,hv];rfl
   refine⟨_,l3,(ss.map (oC LET)).map (fun c=>tx [c]),rfl,rfl,SqL.of aD,?_,?_⟩
   ·rw[qZ,aZ,aZ,vE,dM];simp;omega
   rw[vE,qY];have gl3:=aA (o:=.lst (((ss.map (oC LET)).map (fun c=>tx [c])).map V.str)) h3 _ _ (sg _ _ gl2)
   refine⟨l,_,_,rfl,rfl,gl3,Wf (m:=60) (by rw[aZ];omega) Zd,?_⟩
   have sz:K1 p G2 (aJ G3 l3 (.lst (((ss.map (oC LET)).map (fun c=>tx [c])).map V.str))):=.of (sg.trans (aA h3))
   refine⟨zs++[tx (ss.map (oC LET))],_,_,_,rfl,by rw[eG,hzl];rfl,fun y hy=>?_,fun j z hj=>?_,by rw[aD,hW];rfl,?_,?_,fun c o e n=>?_⟩
   ·rcases Zma.mp hy with h | h
    ·exact hnm y h
    ·rw[Zms.mp h];exact hz
   ·by_cases hji:j<zs.length
    ·rw[List.getElem?_append_left hji]at hj;exact hat j z hj
    ·have hj':=(Zgs.mp hj).1
     rw[eG]at hj';have:j=zs.length:=by simp at hj';omega
     subst this;rw[List.getElem?_append_right (cL _),Nat.sub_self]at hj;cases hj
     rw[hzl];exact hza
   ·rw[aM nlb];exact sz _ _ glb2 npb
   ·obtain⟨i',j',g',r'⟩:=q2
    exact⟨i',j',by rw[aM npl.symm];exact(sg.trans (aA h3)) _ _ g',r'⟩
   ·rw[aM (aH e hl0)];exact(j1.trans (j2.trans sz)) c o e n
  ·rintro σ G1 ⟨zs,o8,o9,o10,rfl,hzl,hnm,hat,gl,glb,q1,j1⟩
   have hzm:zs.length=m:=by rw[hzl];simp [dE]
   exact q l zs G1 hzm hnm (Qw a (fun j=>oC LET ((bs[a]+st*(j:Int)) % 26)) hat fun j j' h h'=>Of hok h Zo) hl0 gl q1 j1
theorem Gp (T:Txt K mg) (cLwords:Callee P w K mg base 2 "_law_words" ["_law_pen_here","_law_many"] xB) (cLtake:Callee P w K mg base 1 "_law_take" ["_law_pen_here","_law_most"] gX) (D:DefAt K mg "_law_keys" dN ["_law_pen_here","_law_many"]):Callee P w K mg base 3 "_law_keys" ["_law_pen_here","_law_many"] yI:=by
 refine D.go bR (fun vs H Q E h=>?_) (fun f cdv A outer s H vs Q E hr h=>?_)
 ·obtain⟨p,m,rfl,_⟩:=h;rfl
 ·obtain⟨p,m,rfl,pn,hm,q⟩:=h
  have hLtake:Room 1 _:=hr.mono Zd
  have hLwords:=hr
  refine⟨_,(R.ae (R.ai (i:=2) bR.nd R.ad) (R.ae (R.ai (i:=3) bR.nd (R.op R.ar R.ac (R.fn cLtake hLtake rfl (R.Z (R.v 0) (R.Z R.ac R.aa))))) (R.ae (R.ai (i:=4) bR.nd (R.fn cLtake hLtake rfl (R.Z (R.v 0) (R.Z (R.v 3) R.aa)))) (R.ae (R.ai (i:=5) bR.nd (R.ix (R.aq (K:=K)) (R.ap (R.Z R.ac (R.Z R.ac (R.Z R.ac (R.Z R.ac (R.Z R.ac (R.Z R.ac R.aa))))))) (R.fn cLtake hLtake rfl (R.Z (R.v 0) (R.Z R.ac R.aa))))) (R.ae (R.ai (i:=6) bR.nd (R.bo rfl (js:=[none,some 0]) (N:=["_law_j","_law_pen_here"]) (CompScope.by (aE dN) ["_law_pen_here","_law_many","_law_signs","_law_size","_law_at","_law_step","_law_base","_law_rows","_law_way","_law_k","_law_row_here"] rfl rfl Zk) (bF rfl) (R.cq rfl T.b_range (R.Z R.ac R.aa)) (fun C s₂ H₂ fp=>⟨(R.gn (i:=0) (show(["_law_j","_law_pen_here"]:List Str).Nodup by decide +kernel)),R.br,(R.fn cLtake hLtake rfl (R.Z (R.v 1) (R.Z R.ac R.aa)))⟩))) (R.ae (R.en (i:=7) bR.nd rfl (Or.inl rfl) rfl (js:=[none,some 6]) (N:=["_law_k","_law_base"]) (CompScope.by (aE dN) ["_law_pen_here","_law_many","_law_signs","_law_size","_law_at","_law_step","_law_base","_law_rows","_law_way","_law_k","_law_row_here"] rfl rfl Zk) (bF rfl) (R.cq rfl T.b_range (R.Z (R.v 1) R.aa)) (fun C s₂ H₂ fp=>⟨(R.gn (i:=0) (show(["_law_k","_law_base"]:List Str).Nodup by decide +kernel)),R.br,(R.sl (R.ax (K:=K)) (R.v 1) R.pn (R.ps (R.op R.bd R.ac (R.v 0))))⟩) rfl) (R.ae (R.ai (i:=8) bR.nd (R.fn cLtake hLtake rfl (R.Z (R.v 0) (R.Z R.ac R.aa)))) (R.ae (R.aj (R.ah R.eq (R.v 8) R.ac) (R.af (R.ag (R.fn cLwords hLwords rfl (R.Z (R.v 0) (R.Z (R.v 1) R.aa))))) R.ak) (R.ae (R.aj (R.ah R.gt (R.v 8) R.ac) (R.ae (R.ai (i:=7) bR.nd (R.ap R.aa)) (R.af (R.cm PassesOwn.never rfl (R.cq rfl T.b_range (R.Z (R.v 1) R.aa)) (R.gn (i:=9) bR.nd) (R.ae (R.ai (i:=10) bR.nd (R.sl (R.ax (K:=K)) (R.v 6) R.pn (R.ps (R.op R.ar (R.op R.ar (R.v 4) R.ac) (R.fn cLtake hLtake rfl (R.Z (R.v 0) (R.Z (R.op R.bd (R.v 3) (R.v 4)) R.aa))))))) (R.ae (R.du (R.op R.cf (R.op R.ar (R.ix (R.aq (K:=K)) (R.v 6) (R.v 4)) (R.op R.cg (R.v 5) (R.v 9))) R.ac) (R.dv (R.v 10) (R.v 4) R.dw)) (R.af (R.ee (R.bb (K:=K) PySem.F.plainAttrs_list PySem.F.slot_list_append PySem.F.type_list_append R.eg (R.v 7) (R.Z (R.v 10) R.aa))))))))) R.ak) (R.af (R.ag (R.bo rfl (js:=[none,some 2]) (N:=["_law_row_here","_law_signs"]) (CompScope.by (aE dN) ["_law_pen_here","_law_many","_law_signs","_law_size","_law_at","_law_step","_law_base","_law_rows","_law_way","_law_k","_law_row_here"] rfl rfl Zk) (bF rfl) (R.dm (K:=K) (R.v 7)) (fun C s₂ H₂ fp=>⟨(R.gn (i:=0) (show(["_law_row_here","_law_signs"]:List Str).Nodup by decide +kernel)),R.br,(R.bb (K:=K) PySem.F.plainAttrs_str PySem.F.slot_str_join PySem.F.type_str_join (R.cj (K:=K)) R.ad (R.Z (R.bo rfl (js:=[none,some 1]) (N:=["_law_sign","_law_signs"]) (CompScope.by ({kind:=ScopeKind.function,names:=[(".0",NameKind.local),("_law_row_here",NameKind.local),("_law_signs",NameKind.cell)],isGenerator:=false,isCoroutine:=false }:Scope) ["_law_row_here","_law_signs"] rfl rfl Zk) (bF rfl) (R.dm (K:=K) (R.v 0)) (fun C s₂ H₂ fp=>⟨(R.gn (i:=0) (show(["_law_sign","_law_signs"]:List Str).Nodup by decide +kernel)),R.br,(R.ix R.iS (R.v 1) (R.v 0))⟩)) R.aa))⟩))))))))))))),?_⟩
  refine⟨p,12,rfl,pn,Zd,Zd,fun r1 H2 b0 b1 p2 k2=>?_⟩
  dsimp only [aI];refine⟨p,_,rfl,p2,Zo,Zo,fun a' H3 c0 c1 p3 k3=>?_⟩
  dsimp only [aI];obtain⟨a,rfl⟩:=oR c0
  refine⟨dU rfl,fun ls hls=>⟨p,6,rfl,p3.same (aA hls),Zd,Zd,fun r2 H4 d0 d1 p4 k4=>⟨_,SqL.of (k4 _ _ aD (p3.ne hls)),?_⟩⟩⟩
  have hst:∃s:Int,eF ([V.int 1,.int 5,.int 7,.int 11,.int 13,.int 17]:List V) r2=some (.int s)/\Cv s:=by
   rcases Zz d0 d1 with rfl | rfl | rfl | rfl | rfl | rfl
   ·exact⟨_,rfl,.inl rfl⟩
   ·exact⟨_,rfl,.inr (.inl rfl)⟩
   ·exact⟨_,rfl,.inr (.inr (.inl rfl))⟩
   ·exact⟨_,rfl,.inr (.inr (.inr (.inl rfl)))⟩
   ·exact⟨_,rfl,.inr (.inr (.inr (.inr (.inl rfl))))⟩
   ·exact⟨_,rfl,.inr (.inr (.inr (.inr (.inr rfl))))⟩
  obtain⟨st,hst,hok⟩:=hst
  refine⟨_,hst,?_⟩
  dsimp only [aI];have k14:K1 p H H4:=(k2.trans (k3.trans (.of (aA hls)))).trans k4
  refine⟨12,rfl,Zd,Zd,?_⟩
  refine bV (gQ 0 (12:Int).toNat) Zd (fun i ys H'=>∃bs:List Int,ys=bs.map V.int/\bs.length=i/\(∀x∈bs,0<=x/\x<36)/\PenAt H' p/\K1 p H H') (fun i ys H' ⟨bs,e,e2,_⟩=>⟨trivial,by rw[e,aZ,e2];exact cL _⟩) ⟨[],rfl,rfl,(fun _ h=>nomatch h),p4,k14⟩ (fun i x ys H' hx ⟨bs,e,e2,e3,pi,ki⟩=>?_) (fun ys H' ⟨bs,e,e2,e3,pi,ki⟩=>?_)
  ·refine⟨p,36,rfl,pi,Zd,Zd,fun r H'' f0 f1 pj kj=>⟨bs++[r],by rw[e,hW];rfl,by rw[eG,e2];rfl,fun x hx=>?_,pj,ki.trans kj⟩⟩
   rcases Zma.mp hx with h | h
   ·exact e3 x h
   ·rw[Zms.mp h];exact⟨f0,f1⟩
  intro lb hlb;subst e;have hbl:bs.length=12:=by rw[e2];decide
  have ha:a<bs.length:=by omega
  have gb:(aJ H' lb (.lst (bs.map V.int))) lb=some (.lst (bs.map V.int)):=aD
  have p5:=pi.same (aA (o:=.lst (bs.map V.int)) hlb)
  have k5:K1 p H (aJ H' lb (.lst (bs.map V.int))):=ki.trans (.of (aA hlb))
  have npb:lb≠p:=pi.ne hlb
  dsimp only [aI];generalize aJ H' lb (.lst (bs.map V.int))=H5 at gb p5 k5 ⊢;refine⟨m,rfl,Zo,Zo,?_⟩
  refine bV (gQ 0 (m:Int).toNat) (by simp [dE];omega) (fun i ys H'=>∃rs:List (Addr × List Int),ys=rs.map (fun q=>V.ref q.1)/\rs.length=i/\(∀(j:Nat) (q:Addr × List Int),rs[j]?=some q->q.2=bs.take (12 - j))/\RowsOk H' rs/\(∀q∈rs,q.1≠p)/\Same H5 H') (fun i ys H' ⟨rs,e,e2,_⟩=>⟨trivial,by rw[e,aZ,e2];exact cL _⟩) ⟨[],rfl,rfl,(fun _ _ h=>by cases h),(fun _ h=>nomatch h),(fun _ h=>nomatch h),Same.refl _⟩ (fun i x ys G hx ⟨rs,e,e4,e5,ro,rp,sG⟩=>?_) (fun ys G ⟨rs,e,e4,e5,ro,rp,sG⟩=>?_)
  ·have hi:i<m:=by
    have:=(Zgs.mp hx).1
    simp [dE]at this
    omega
   have ex:x=.int (i:Int):=by
    unfold dE at hx;rw[kH,List.getElem?_range Zo]at hx
    have:=Option.some.inj hx
    rw[<- this];show V.int (0+(i:Int))=_
    rw[Int.zero_add]
   subst ex;refine⟨_,SqL.of (sG _ _ gb),fun lg hlg=>?_⟩
   have ec:dS (bs.map V.int) none (some ((12:Int) - i))=(bs.take (12 - i)).map V.int:=by
    rw[show((12:Int) - i)=((12 - i:Nat):Int) by omega,gV,List.map_take]
   dsimp only;rw[ec];refine⟨rs++[(lg,bs.take (12 - i))],by rw[e,hW];rfl,by rw[eG,e4];rfl,fun j q' hj=>?_,fun q' hq'=>?_,fun q' hq'=>?_,sG.trans (aA hlg)⟩
   ·by_cases hji:j<rs.length
    ·rw[List.getElem?_append_left hji]at hj;exact e5 j q' hj
    ·have hj':=(Zgs.mp hj).1
     rw[eG]at hj';have:j=rs.length:=by simp at hj';omega
     subst this;rw[List.getElem?_append_right (cL _),Nat.sub_self]at hj;cases hj
     rw[e4]
   ·rcases Zma.mp hq' with h | h
    ·exact(ro.same (aA hlg)) q' h
    ·rw[Zms.mp h];exact⟨aD,by rw[fS];omega,by rw[fS];omega,fun x hx=>e3 x (List.mem_of_mem_take hx)⟩
   ·rcases Zma.mp hq' with h | h
    ·exact rp q' h
    ·rw[Zms.mp h];exact(p5.same sG).ne hlg
  intro lr hlr;subst e;have hrl:rs.length=m:=by rw[e4];simp [dE]
  dsimp only [aI];have glr:(aJ G lr (.lst (rs.map fun q=>V.ref q.1))) lr=some (.lst (rs.map fun q=>V.ref q.1)):=aD
  have s6:Same H5 (aJ G lr (.lst (rs.map fun q=>V.ref q.1))):=sG.trans (aA hlr)
  have ro6:=ro.same (aA (o:=.lst (rs.map fun q=>V.ref q.1)) hlr)
  have nlr:lr≠p:=(p5.same sG).ne hlr
  generalize aJ G lr (.lst (rs.map fun q=>V.ref q.1))=H6 at glr s6 ro6 ⊢
  have p6:=p5.same s6
  have k6:K1 p H H6:=k5.trans (.of s6)
  have gb6:=s6 _ _ gb
  refine⟨p,4,rfl,p6,Zd,Zd,fun rw H6' f0' f1' p6' k6'=>?_⟩
  dsimp only [aI];refine aV (fun _=>?_) (fun _=>?_)
  ·exact⟨p,m,rfl,p6',Zo,fun l zs H' h1 h2 h3 h4 h5 h6 h7=>q l zs H' h1 (fun z hz=>isNm.ky (h2 z hz)) h3 ((k6.trans k6').free p6' h4) h5 h6 ((k6.trans k6').trans h7)⟩
  dsimp only [aR];refine Uf (t:=Gy _ _ _) (fun σ' H'=>∃(lr:Addr) (rs:List (Addr × List Int)) (o9 o10:Option V),σ'=[some (.ref p),some (.int m),some (.str "abcdefghijklmnopqrstuvwxyz0123456789"),some (.int (1+r1)),some (.int a),some (.int st),some (.ref lb),some (.ref lr),some (.int rw),o9,o10]/\H' lr=some (.lst (rs.map fun q=>V.ref q.1))/\rs.length=m/\RowsOk H' rs/\(rs.map pO).Nodup/\PenAt H' p/\K1 p H H') (fun nx hnx=>?_) ?_
  ·have k7:=k6'
   have p7:=p6'
   generalize H6'=H7 at k7 p7 ⊢;refine aV (fun _=>?_) (fun _=>?_)
   rotate_left
   ·refine hnx _ _ ⟨lr,rs,_,_,rfl,k7 _ _ glr nlr,hrl,ro6.k1 k7 rp,?_,p7,k6.trans k7⟩
    refine List.pairwise_map.mpr (List.pairwise_iff_getElem.mpr fun i j hi hj hij e=>?_)
    have e1:=e5 i _ (jH hi)
    have e6:=e5 j _ (jH hj)
    have el:=congrArg Str.length e
    unfold pO at el;rw[dM,dM,aZ,aZ,e1,e6,fS,fS]at el;omega
   have gb7:=k7 _ _ gb6 npb
   have k07:=k6.trans k7
   refine⟨dU rfl,fun l hl=>?_⟩
   dsimp only [aI];have nlb:lb≠l:=aH gb7 hl
   have npl:l≠p:=p7.ne hl
   have hl0:H l=none:=k07.free p7 hl
   refine⟨m,rfl,Zo,Zo,?_⟩
   refine qB (gQ 0 (m:Int).toNat) (fun i σ H'=>∃(zs:List (Addr × List Int)) (o9 o10:Option V),σ=[some (.ref p),some (.int m),some (.str "abcdefghijklmnopqrstuvwxyz0123456789"),some (.int (1+r1)),some (.int a),some (.int st),some (.ref lb),some (.ref l),some (.int rw),o9,o10]/\zs.length=i/\RowsOk H' zs/\(∀q∈zs,q.1≠p/\q.1≠l)/\(∀(j:Nat) (q:Addr × List Int),zs[j]?=some q->(pO q).cps.toList[a]?=some (oC KLET ((bs[a]+st*(j:Int)) % 36)))/\H' l=some (.lst (zs.map fun q=>V.ref q.1))/\H' lb=some (.lst (bs.map V.int))/\PenAt H' p/\K1 p H H')
    (fun _ _ _ _=>trivial) ⟨[],_,_,rfl,rfl,(fun _ h=>nomatch h),(fun _ h=>nomatch h),(fun _ _ h=>by cases h),aD,aA hl _ _ gb7,p7.same (aA hl),k07.trans (.of (aA hl))⟩ ?_ ?_
   ·rintro i x σ G1 hx ⟨zs,o9,o10,rfl,hzl,hro,hrp,hat,gl,glb,q1,j1⟩
    have hi:i<m:=by
     have:=(Zgs.mp hx).1
     simp [dE]at this
     omega
    have ex:x=.int (i:Int):=by
     unfold dE at hx;rw[kH,List.getElem?_range Zo]at hx
     have:=Option.some.inj hx
     rw[<- this];show V.int (0+(i:Int))=_
     rw[Int.zero_add]
    subst ex;dsimp only [aI];refine⟨p,_,rfl,q1,Zo,Zo,fun t' G2 t0 t1 q2 j2=>?_⟩
    obtain⟨t,rfl⟩:=oR t0
    have glb2:=j2 _ _ glb npb
    have gl2:=j2 _ _ gl npl
    refine⟨_,SqL.of glb2,fun lg hlg=>?_⟩
    have ec:dS (bs.map V.int) none (some ((a:Int)+1+t))=(bs.take (a+1+t)).map V.int:=by
     rw[show((a:Int)+1+t)=((a+1+t:Nat):Int) by omega,gV,List.map_take]
    dsimp only [aI];rw[ec];have htl:(bs.take (a+1+t)).length=a+1+t:=by rw[fS];omega
    refine⟨_,SqL.of (aA hlg _ _ glb2),.int bs[a],aF (by rw[kH,jH ha];rfl),.inl (by rcases hok with rfl | rfl | rfl | rfl | rfl | rfl <;> exact⟨Zd,Zd⟩),by show(0:Int)<_;decide,lg,_,_,a,rfl,rfl,aD,?_,?_⟩
    ·unfold Ej;rw[aZ,htl,if_pos Zo,if_pos Zo]
     rfl
    dsimp only;generalize hv:(bs[a]+st*(i:Int)) % 36=v;have v0:0<=v:=by rw[<- hv];exact Int.emod_nonneg _ Zd
    have v1:v<36:=by rw[<- hv];exact Int.emod_lt_of_pos _ Zd
    rw[show((bs.take (a+1+t)).map V.int).set a (V.int v)=((bs.take (a+1+t)).set a v).map V.int by rw[List.map_set]]
    generalize hss:(bs.take (a+1+t)).set a v=ss;have hsl:ss.length=a+1+t:=by rw[<- hss,List.length_set,htl]
    have hsb:∀x∈ss,0<=x/\x<36:=fun x hx=>by
     rw[<- hss]at hx;rcases List.mem_or_eq_of_mem_set hx with h | h
     ·exact e3 x (List.mem_of_mem_take h)
     ·rw[h];exact⟨v0,v1⟩
    have hsa:ss[a]?=some v:=by rw[<- hss,List.getElem?_set_self Zo]
    have sg:Same G2 (aJ (aJ G2 lg (.lst ((bs.take (a+1+t)).map V.int))) lg (.lst (ss.map V.int))):=fun c o e=>by
     rw[aM (aH e hlg),aM (aH e hlg)];exact e
    have gg:(aJ (aJ G2 lg (.lst ((bs.take (a+1+t)).map V.int))) lg (.lst (ss.map V.int))) lg=some (.lst (ss.map V.int)):=aD
    generalize aJ (aJ G2 lg (.lst ((bs.take (a+1+t)).map V.int))) lg (.lst (ss.map V.int))=G3 at sg gg ⊢;have gl3:=sg _ _ gl2
    have nlg:lg≠p/\lg≠l:=⟨q2.ne hlg,(aH gl2 hlg).symm⟩
    refine⟨.inl ⟨rfl,_,SqL.of gl3⟩,l,_,_,rfl,rfl,gl3,Wf (m:=60) (by rw[aZ];omega) Zd,?_⟩
    refine⟨zs++[(lg,ss)],_,_,rfl,by rw[eG,hzl];rfl,fun y hy=>?_,fun y hy=>?_,fun j z hj=>?_,by rw[aD,hW];rfl,?_,?_,fun c o e n=>?_⟩
    ·rcases Zma.mp hy with h | h
     ·refine⟨?_,(hro y h).2⟩
      rw[aM (hrp y h).2];exact sg _ _ (j2 _ _ (hro y h).1 (hrp y h).1)
     ·rw[Zms.mp h];exact⟨by rw[aM nlg.2];exact gg,by rw[hsl];omega,by rw[hsl];omega,hsb⟩
    ·rcases Zma.mp hy with h | h
     ·exact hrp y h
     ·rw[Zms.mp h];exact nlg
    ·by_cases hji:j<zs.length
     ·rw[List.getElem?_append_left hji]at hj;exact hat j z hj
     ·have hj':=(Zgs.mp hj).1
      rw[eG]at hj';have:j=zs.length:=by simp at hj';omega
      subst this;rw[List.getElem?_append_right (cL _),Nat.sub_self]at hj;cases hj
      unfold pO;rw[hzl,vP,kH,hsa,hv];rfl
    ·rw[aM nlb];exact sg _ _ glb2
    ·obtain⟨i',j',g',r'⟩:=q2
     exact⟨i',j',by rw[aM npl.symm];exact sg _ _ g',r'⟩
    ·rw[aM (aH e hl0)];exact sg _ _ ((j1.trans j2) c o e n)
   ·rintro σ G1 ⟨zs,o9,o10,rfl,hzl,hro,hrp,hat,gl,glb,q1,j1⟩
    have hzm:zs.length=m:=by rw[hzl];simp [dE]
    refine hnx _ _ ⟨l,zs,_,_,rfl,gl,hzm,hro,Qw a (fun j=>oC KLET ((bs[a]+st*(j:Int)) % 36)) (fun j z hj=>?_) (fun j j' h h'=>Js hok h (by rw[aZ]at h';omega)),q1,j1⟩
    rw[kH]at hj;cases hq:zs[j]? with
    | none=>rw[hq]at hj;cases hj
    | some w'=>
     rw[hq]at hj;cases hj
     exact hat j w' hq
  rintro σ' H7 ⟨lr',rs',o9,o10,rfl,glr',hrl',ro',nd',p7,k7⟩
  have el:(("abcdefghijklmnopqrstuvwxyz0123456789":Str).cps.toList)=KLET:=vQ
  refine⟨lr',rfl,⟨_,SqL.of glr'⟩,?_⟩
  refine bV (kS K lr' (rs'.map fun q=>V.ref q.1)) (by rw[aZ];omega) (fun i ys H'=>ys=((rs'.take i).map pO).map V.str/\Same H7 H') (fun i ys H' ⟨e,s'⟩=>⟨SqL.of (s' _ _ glr'),by rw[e,aZ,aZ,fS];exact Nat.min_le_left _ _⟩) ⟨rfl,Same.refl _⟩ (fun i x ys H' hx ⟨e,s'⟩=>?_) (fun ys H' ⟨e,s'⟩=>?_)
  ·rw[kH]at hx;cases hq:rs'[i]? with
   | none=>rw[hq]at hx;cases hx
   | some w'=>
    rw[hq]at hx;cases hx
    obtain⟨gw,w1,w2,w3⟩:=ro' w' (sN hq)
    refine⟨rfl,w'.1,rfl,⟨_,SqL.of (s' _ _ gw)⟩,?_⟩
    refine pE (kS K w'.1 (w'.2.map V.int)) (by rw[aZ];omega) (fun _=>true) (fun v=>match v with | .int i=>.str (tx [oC KLET i]) | _=>v) (SqL.of (s' _ _ gw)) (fun y ys N hy ht hf=>?_) ?_
    ·obtain⟨i',hi',rfl⟩:=Zmm.mp hy
     have hb:=w3 i' hi'
     exact⟨Zk,_,(by rw[el];exact(vO (cs:=KLET) hb.1 (show i'<36 from hb.2)).1),ht rfl⟩
    intro l3 h3;have ef:((w'.2.map V.int).filter (fun _=>true)).map (fun v=>match v with | .int i=>.str (tx [oC KLET i]) | _=>v)=((w'.2.map (oC KLET)).map (fun c=>tx [c])).map V.str:=by
     rw[List.filter_eq_self.mpr (fun _ _=>rfl),List.map_map,List.map_map,List.map_map]
     rfl
    rw[ef];refine⟨_,l3,(w'.2.map (oC KLET)).map (fun c=>tx [c]),rfl,rfl,SqL.of aD,?_,?_⟩
    ·rw[qZ,aZ,aZ,vE,dM];simp;omega
    rw[vE,qY];refine⟨?_,s'.trans (aA h3)⟩
    rw[List.take_succ,hq,hW,hW,e];rfl
  ·intro l3 h3;rw[aZ,List.take_length]at e;refine q l3 (rs'.map pO) _ (by rw[aZ,hrl']) (fun z hz=>?_) nd' (k7.free p7 (s'.free h3)) (by rw[aD,e]) ((p7.same s').same (aA h3)) (k7.trans (.of (s'.trans (aA h3))))
   obtain⟨w',hw',rfl⟩:=Zmm.mp hz
   exact ro'.ky w' hw'
end
end KL
namespace KL
open PySem L2
section
variable {P:Program} {w:World} {K:W.Frag} {mg:Str->Option Value} {base:Heap}
def Mb:RP->TV
 | .sc v=>.sc v
 | .tp xs=>.tp (xs.map TV.sc)
def Vz (ps:List RP):TV:=.tp (ps.map Mb)
def nbV (v:V):Prop:=∀b,v≠.bl b
def NB:RP->Prop
 | .sc v=>nbV v
 | .tp xs=>∀y∈xs,nbV y
theorem Mc (z:Str):nbV (bB z):=fun b e=>by
 unfold bB at e;split at e <;> cases e
theorem xC (zs:List Str):∀p∈kK zs,NB p:=fun p hp=>by
 obtain⟨z,_,rfl⟩:=Zmm.mp hp
 exact Mc z
theorem Do (zs:List Str):NB (.tp (zs.map bB)):=fun y hy=>by
 obtain⟨z,_,rfl⟩:=Zmm.mp hy
 exact Mc z
theorem xD (z:Str):NB (.sc (.str z)):=fun b e=>by cases e
theorem Wa (zs:List Str):∀p∈lI zs,NB p:=by
 have e:∀p∈([]:List RP),NB p:=fun _ h=>nomatch h
 have c:∀ {p:RP} {l:List RP},NB p->(∀q∈l,NB q)->∀q∈p::l,NB q:=fun h1 h2=>Zfm.mpr ⟨h1,h2⟩
 unfold lI;split
 ·exact List.forall_mem_append.mpr ⟨xC _,c (Do _) e⟩
 ·split
  ·exact List.forall_mem_append.mpr ⟨xC _,c (xD _) (c (xD _) (c (Do _) e))⟩
  ·split
   ·exact List.forall_mem_append.mpr ⟨xC _,c (xD _) (c (xD _) (c (Do _) (c (Do _) e)))⟩
   ·exact xC _
theorem Dp {v:V} (h:bS v=true):Fc v=true:=by cases v <;> first | rfl | cases h
theorem Md {H:Hp} {n:Nat}:∀ {xs:List V},(∀y∈xs,bS y=true)->Paired (Rep H n) (xs.map TV.sc) xs
 | [],_=>.nil
 | x::r,h=>.cons (.scal (Dp (h x iW))) (Md fun y hy=>h y (gT _ hy))
theorem Me {H:Hp} {n:Nat} {p:RP} {x:V} (hp:pS p) (h:PAt H p x):Rep H (n+1) (Mb p) x:=by
 cases p with
 | sc v=>
  have:x=v:=h
  subst this;exact .scal (Dp hp.1)
 | tp xs=>
  obtain⟨b,rfl,g⟩:=h
  exact⟨b,xs,rfl,g,Md fun y hy=>(hp.2 y hy).1⟩
theorem uF {H:Hp} {n:Nat}:∀ {ps:List RP} {vs:List V},(∀p∈ps,pS p)->Paired (PAt H) ps vs->Paired (Rep H (n+1)) (ps.map Mb) vs
 | [],_,_,.nil=>.nil
 | p::r,_,h,.cons h1 t=>.cons (Me (h p iW) h1) (uF (fun q hq=>h q (gT _ hq)) t)
theorem Dq {H:Hp} {n:Nat} {a:Addr} {ps:List RP} (h:RowAt H a ps) (hf:∀p∈ps,pS p):Rep H (n+2) (Vz ps) (.ref a):=by
 obtain⟨vs,g,p⟩:=h
 exact⟨a,vs,rfl,g,uF hf p⟩
theorem Re {n:Nat} {v:V} (h:nbV v):Vd n (.sc v):=by
 cases v with
 | bl b=>exact absurd rfl (h b)
 | _=>cases n <;> trivial
theorem Wb {n:Nat} {ps:List RP} (hf:∀p∈ps,pS p) (hb:∀p∈ps,NB p) (hl:ps.length<=1000):Vd (n+2) (Vz ps):=by
 refine⟨by rw[aZ];exact hl,fun t ht=>?_⟩
 obtain⟨p,hp,rfl⟩:=Zmm.mp ht
 have h1:=hf p hp
 have h2:=hb p hp
 cases p with
 | sc v=>exact Re h2
 | tp xs=>
  refine⟨by rw[aZ];exact h1.1,fun t ht=>?_⟩
  obtain⟨y,hy,rfl⟩:=Zmm.mp ht
  exact Re (h2 y hy)
theorem Mf {ps:List RP} (h:RowIs ps):(rG ps).length<=196:=by
 obtain⟨scs,tts,S⟩:=h.split
 have h1:=Vj (ws:=eO ps) (k:=13) fun p hp=>(S.fine.2 p hp).1
 have h2:(eO ps).length<=14:=by
  cases h with
  | next n t h1 h2 h3=>simp [eO,Mi,iN]
  | has a m h1 h2 h3=>simp [eO,Mi,iN]
  | asked n h1 h2=>simp [eO,Mi,iN]
  | done n t xs ys h1 h2 h3 h4=>have:=h4.is.flat.1;simp [eO,Mi,iN];omega
  | came n t a k xs h1 h2 h3 h4 h5 h6=>have:=h6.len;simp [eO,Mi,iN];omega
  | kept n t a k xs ys h1 h2 h3 h4 h5 h6 h7=>have:=h6.len;have:=h7.is.flat.1;simp [eO,Mi,iN];omega
 unfold rG;omega
def Wc:TV:=.ls [.tp [.sc (.str "refused"),.sc (.str "row")]]
theorem Mg {H:Hp} {l m:Addr} (h1:H l=some (.lst [.ref m])) (h2:H m=some (.tup [.str "refused",.str "row"])):Rep H 2 Wc (.ref l):=⟨l,_,rfl,h1,.cons ⟨m,_,rfl,h2,.cons (.scal rfl) (.cons (.scal rfl) .nil)⟩ .nil⟩
theorem Zp:Vd 2 Wc:=⟨Zd,fun t ht=>by
 rw[Zms.mp ht];exact⟨Zd,Zfm.mpr ⟨trivial,Zfm.mpr ⟨trivial,fun _ h=>nomatch h⟩⟩⟩⟩
def Dr (K:W.Frag):Sp:=fun vs H Q _=>∃(a:Addr) (ns:List Int),vs=[.ref a]/\SqL K H a (ns.map V.int)/\ns.length<=63/\∀H',Q (.bl true) H'
theorem Wd (T:Txt K mg) (cLpen:Callee P w K mg base 1 "_law_pen" ["_law_cell","_law_k"] Qv) (cLcell_at:Callee P w K mg base 1 "_law_cell_at" ["_law_script","_law_k"] (Jp K))
  (cLnames:Callee P w K mg base 3 "_law_names" ["_law_pen_here","_law_many"] tO) (cLkeys:Callee P w K mg base 3 "_law_keys" ["_law_pen_here","_law_many"] yI)
  (cLrow:Callee P w K mg base 4 "_law_row" ["_law_pen_here","_law_names_here","_law_keys_here"] Le) (cLline:Callee P w K mg base 1 "_law_line" ["_law_row_here"] Lu) (cLbent:Callee P w K mg base 2 "_law_bent" ["_law_pen_here","_law_text"] zO) (cLread:Callee P w K mg base 5 "_law_read" ["_law_text"] Dn) (cLtold:Callee P w K mg base 9 "_law_told" ["_law_text"] zN) (cLsame:Callee P w K mg base 4 "_law_same" ["_law_found","_law_due"] (Ao 2))
  {f:Addr} {fd:FuncData} (F:Fun K "law" "law" oH f fd):pV P w K mg base xT 10 f fd ["_law_script"] (Dr K):=by
 refine F.go eU (fun vs H Q E h=>?_) (fun cdv A outer s H vs Q E hr h=>?_)
 ·obtain⟨a,ns,rfl,_⟩:=h;rfl
 ·obtain⟨sa,ns,rfl,hS,hlen,q⟩:=h
  have hLpen:Room 1 _:=hr.mono Zd
  have hLcell_at:Room 1 _:=hr.mono Zd
  have hLnames:Room 3 _:=hr.mono Zd
  have hLkeys:Room 3 _:=hr.mono Zd
  have hLrow:Room 4 _:=hr.mono Zd
  have hLline:Room 1 _:=hr.mono Zd
  have hLbent:Room 2 _:=hr.mono Zd
  have hLread:Room 5 _:=hr.mono Zd
  have hLsame:Room 4 _:=hr.mono Zd
  have hLtold:=hr
  refine⟨_,(R.ae (R.ai (i:=1) eU.nd (R.fn cLpen hLpen rfl (R.Z (R.fn cLcell_at hLcell_at rfl (R.Z (R.v 0) (R.Z R.ac R.aa))) (R.Z R.ac R.aa)))) (R.ae (R.ai (i:=2) eU.nd (R.fn cLnames hLnames rfl (R.Z (R.v 1) (R.Z R.ac R.aa)))) (R.ae (R.ai (i:=3) eU.nd (R.fn cLkeys hLkeys rfl (R.Z (R.v 1) (R.Z R.ac R.aa)))) (R.ae (R.cm PassesOwn.never rfl (R.fb (K:=K) rfl T.b_enumerate (R.op R.ay (R.ap (R.Z R.ac R.aa)) (R.sl (R.ax (K:=K)) (R.v 0) R.pn (R.ps R.ac)))) (R.cv (K:=K) (n:=2) rfl (R.bv (R.gn (i:=4) eU.nd) (R.bv (R.gn (i:=5) eU.nd) R.cy))) (R.ae (R.ai (i:=1) eU.nd (R.fn cLpen hLpen rfl (R.Z (R.v 5) (R.Z (R.op R.ar (R.v 4) R.ac) R.aa)))) (R.ae (R.ai (i:=6) eU.nd (R.fn cLline hLline rfl (R.Z (R.fn cLrow hLrow rfl (R.Z (R.v 1) (R.Z (R.v 2) (R.Z (R.v 3) R.aa)))) R.aa))) (R.af (R.cm PassesOwn.never rfl (R.cq rfl T.b_range (R.Z R.ac R.aa)) (R.gn (i:=7) eU.nd) (R.ae (R.ai (i:=8) eU.nd (R.fn cLbent hLbent rfl (R.Z (R.v 1) (R.Z (R.v 6) R.aa)))) (R.ae (R.aj (R.ah R.eq (R.v 7) R.ac) (R.af (R.ai (i:=8) eU.nd (R.fn cLbent hLbent rfl (R.Z (R.v 1) (R.Z (R.v 8) R.aa))))) R.ak) (R.ae (R.ai (i:=9) eU.nd (R.fn cLread hLread rfl (R.Z (R.v 8) R.aa))) (R.ae (R.aj (R.ah R.dz (R.v 9) R.bw) (R.af (R.ai (i:=9) eU.nd (R.ap (R.Z (R.am (R.Z R.ad (R.Z R.ad R.aa))) R.aa)))) R.ak) (R.af (R.aj (R.aw (R.av (R.fn cLsame hLsame rfl (R.Z (R.fn cLtold hLtold rfl (R.Z (R.v 8) R.aa)) (R.Z (R.v 9) R.aa))))) (R.af (R.ag R.bl)) R.ak))))))))))) (R.af (R.ag R.bl)))))),?_⟩
  refine⟨sa,ns,0,rfl,hS,fun c=>⟨c,0,rfl,fun p H1 f1 s1 pn1=>?_⟩⟩
  dsimp only [aI];refine⟨p,4,rfl,pn1,Zd,fun ln zs H2 hzl hnm hnd nln gln pn2 k2=>?_⟩
  dsimp only [aI];refine⟨p,4,rfl,pn2,Zd,fun lk ks H3 hkl hky hknd nlk glk pn3 k3=>?_⟩
  dsimp only [aI];have npl:ln≠p:=pn1.ne nln
  have npk:lk≠p:=pn2.ne nlk
  have gln3:=k3 _ _ gln npl
  have hS3:SqL K H3 sa (ns.map V.int):=Cw hS (fun o e=>(k2.trans k3) _ _ (s1 _ _ e) (aH e f1))
  refine⟨dU rfl,fun l0 h0=>?_⟩
  have hS4:SqL K (aJ H3 l0 (.lst [.int 0])) sa (ns.map V.int):=Cw hS3 (fun o e=>aA h0 _ _ e)
  refine⟨_,hS4,fun l1 h1=>?_⟩
  refine⟨_,_,cI aD h1,aD,?_,fun l2 h2=>?_⟩
  ·have e60:dS (ns.map V.int) none (some (40:Int))=(ns.take 40).map V.int:=by
    have:=gV (ns.map V.int) 40
    rw[List.map_take];exact this
   rw[e60,aZ,fS];exact cH (by simp;omega)
  have e60:dS (ns.map V.int) none (some (40:Int))=(ns.take 40).map V.int:=by
   have:=gV (ns.map V.int) 40
   rw[List.map_take];exact this
  have sA:Same H3 (aJ (aJ (aJ H3 l0 (.lst [.int 0])) l1 (.lst (dS (ns.map V.int) none (some (40:Int))))) l2 (.lst ([V.int 0]++dS (ns.map V.int) none (some (40:Int))))):=((aA h0).trans (aA h1)).trans (aA h2)
  have gA:(aJ (aJ (aJ H3 l0 (.lst [.int 0])) l1 (.lst (dS (ns.map V.int) none (some (40:Int))))) l2 (.lst ([V.int 0]++dS (ns.map V.int) none (some (40:Int))))) l2=some (.lst ((0::ns.take 40).map V.int)):=by rw[aD,e60];rfl
  generalize aJ (aJ (aJ H3 l0 (.lst [.int 0])) l1 (.lst (dS (ns.map V.int) none (some (40:Int))))) l2 (.lst ([V.int 0]++dS (ns.map V.int) none (some (40:Int))))=HA at sA gA ⊢;have glnA:=sA _ _ gln3
  have glkA:=sA _ _ glk
  refine⟨_,SqL.of gA,?_⟩
  refine yJ (fun i σ H'=>∃(o1 o4 o5 o6 o7 o8 o9:Option V),σ=[some (.ref sa),o1,some (.ref ln),some (.ref lk),o4,o5,o6,o7,o8,o9]/\H' ln=some (.lst (zs.map V.str))/\H' lk=some (.lst (ks.map V.str))/\H' l2=some (.lst ((0::ns.take 40).map V.int)))
   (fun i σ H' ⟨_,_,_,_,_,_,_,_,_,_,g⟩=>SqL.of g) ⟨_,_,_,_,_,_,_,rfl,glnA,glkA,gA⟩ ?_ ?_
  ·rintro i x σ G t hx ⟨o1,o4,o5,o6,o7,o8,o9,rfl,g1,g2,g3⟩ ht
   rw[kH]at hx;cases hc:(0::ns.take 40)[i]? with
   | none=>rw[hc]at hx;cases hx
   | some cc=>
    rw[hc]at hx;cases hx
    have s4:=aA (o:=.tup [.int (i:Int),.int cc]) ht
    refine⟨t,_,rfl,SqT.of aD,rfl,_,_,rfl,_,_,rfl,rfl,?_⟩
    dsimp only [aI];generalize aJ G t (.tup [.int (i:Int),.int cc])=G1 at s4 ⊢;refine⟨cc,(i:Int)+1,rfl,fun p' G2 f2 s2 pn'=>?_⟩
    have q1:=s2 _ _ (s4 _ _ g1)
    have q2:=s2 _ _ (s4 _ _ g2)
    have q3:=s2 _ _ (s4 _ _ g3)
    have n1:ln≠p':=aH (s4 _ _ g1) f2
    have n2:lk≠p':=aH (s4 _ _ g2) f2
    have n3:l2≠p':=aH (s4 _ _ g3) f2
    refine⟨p',ln,lk,zs,ks,rfl,pn',q1,q2,hnd,Zo,hnm,Zo,hky,fun a ps G3 ri ra pn3' k3'=>?_⟩
    have q1:=k3' _ _ q1 n1
    have q2:=k3' _ _ q2 n2
    have q3:=k3' _ _ q3 n3
    refine⟨a,ps,rfl,ra,ri,fun G4 s4'=>?_⟩
    dsimp only [aI];have hll:=Mf ri
    generalize rG ps=ltx at hll ⊢;refine⟨4,rfl,Zd,Zd,Dz (n:=4) (fun j σ H'=>∃(o7 o8 o9:Option V),σ=[some (.ref sa),some (.ref p'),some (.ref ln),some (.ref lk),some (.int (i:Int)),some (.int cc),some (.str ltx),o7,o8,o9]/\H' ln=some (.lst (zs.map V.str))/\H' lk=some (.lst (ks.map V.str))/\H' l2=some (.lst ((0::ns.take 40).map V.int))/\PenAt H' p')
     ⟨_,_,_,rfl,s4' _ _ q1,s4' _ _ q2,s4' _ _ q3,pn3'.same s4'⟩ ?_ ?_⟩
    ·rintro j σ G5 hj ⟨o7,o8,o9,rfl,w1,w2,w3,pn5⟩
     dsimp only [aI];refine⟨p',ltx,rfl,pn5,Zo,fun z1 G6 hz1 pn6 k6=>?_⟩
     dsimp only [aI];refine Uf (t:=Gy _ _ _) (fun σ' H'=>∃z,σ'=[some (.ref sa),some (.ref p'),some (.ref ln),some (.ref lk),some (.int (i:Int)),some (.int cc),some (.str ltx),some (.int (0+(j:Int))),some (.str z),o9]/\z.length<=890/\PenAt H' p'/\K1 p' G5 H') (fun nx hnx=>?_) (fun σ' G7 ⟨z,e7,hz,pn7,k7⟩=>?_)
     ·show if decide (0+(j:Int)=3)=true then _ else _
      refine aV (fun h3=>?_) (fun h3=>?_)
      ·exact⟨p',z1,rfl,pn6,Zo,fun z2 G7 hz2 pn7 k7=>hnx _ _ ⟨z2,rfl,Zo,pn7,k6.trans k7⟩⟩
      ·exact hnx _ _ ⟨z1,rfl,Zo,pn6,k6⟩
     subst e7;dsimp only [nK];obtain⟨us,h0,hw,rfl⟩:=yT z
     have w1:=k7 _ _ w1 n1
     have w2:=k7 _ _ w2 n2
     have w3:=k7 _ _ w3 n3
     have eR:=Vw h0 hw
     refine⟨us,rfl,h0,hw,hz,fun rs hl hf hln b G8 s8 rb=>?_,fun hl G8 s8=>?_⟩
     ·dsimp only [aI];have hb:∀p∈rs,NB p:=by
       unfold sK at hl;split at hl
       ·cases hl;exact Wa us
       ·cases hl
      show aR _ _ _
      dsimp only [aR];refine⟨us,rfl,h0,hw,hz,fun rs' hp' hf' hln' b' G9 s9 rb'=>?_,fun hp'=>?_⟩
      ·rw[eR,hl]at hp';cases hp'
       refine⟨_,_,Vz rs,rfl,Dq rb' hf',Dq (rb.same s9) hf,Wb hf hb hln,fun GA sA=>?_⟩
       have sz:=(s8.trans s9).trans sA
       exact⟨_,_,_,rfl,sz _ _ w1,sz _ _ w2,sz _ _ w3,pn7.same sz⟩
      ·rw[eR,hl]at hp';cases hp'
     ·dsimp only [aI];refine⟨Zs,fun t9 G9 s9 g9=>⟨dU rfl,fun l9 h9=>?_⟩⟩
      dsimp only [aI];have sL:=aA (o:=.lst [V.ref t9]) h9
      have gL:(aJ G9 l9 (.lst [V.ref t9])) l9=some (.lst [V.ref t9]):=aD
      have gt:=sL _ _ g9
      generalize aJ G9 l9 (.lst [V.ref t9])=GL at sL gL gt ⊢;refine⟨us,rfl,h0,hw,hz,fun rs' hp' hf' hln' b' GA sA rb'=>?_,fun hp' l' m' GA sA gl' gm'=>?_⟩
      ·rw[eR,hl]at hp';cases hp'
      ·refine⟨_,_,Wc,rfl,Mg gl' gm',Mg (sA _ _ gL) (sA _ _ gt),Zp,fun GB sB=>?_⟩
       have sz:=((s8.trans s9).trans sL).trans (sA.trans sB)
       exact⟨_,_,_,rfl,sz _ _ w1,sz _ _ w2,sz _ _ w3,pn7.same sz⟩
    ·rintro σ G5 ⟨o7,o8,o9,rfl,w1,w2,w3,pn5⟩
     exact⟨_,_,_,_,_,_,_,rfl,w1,w2,w3⟩
  ·rintro σ G ⟨o1,o4,o5,o6,o7,o8,o9,rfl,_⟩
   exact q G
end
end KL
namespace KL
open PySem L2
structure FA (K:W.Frag) (x:Str) (st:Stmt):Prop where
 ex:∃(f:Addr) (od an:Option Addr) (sl:Array (Option Value)) (oc kV dc pm cd ct:Value),W.nsIn K mainGlobals x=some (some (.ref f))/\K.lookup f=some ⟨oc,od,.func (W.fnOf x x (eJ st) (bZ st) (aE st) .none kV dc pm an cd ct),sl⟩/\W.codeIn K cd x=true/\W.keepIn K (.ref f)=true
theorem FA.of {K:W.Frag} {x:Str} {st:Stmt} {f:Addr} {od an:Option Addr} {sl:Array (Option Value)} {oc kV dc pm cd ct:Value} (a:W.nsIn K mainGlobals x=some (some (.ref f))) (l:K.lookup f=some ⟨oc,od,.func (W.fnOf x x (eJ st) (bZ st) (aE st) .none kV dc pm an cd ct),sl⟩) (c:W.codeIn K cd x=true) (k:W.keepIn K (.ref f)=true):FA K x st:=⟨f,od,an,sl,oc,kV,dc,pm,cd,ct,a,l,c,k⟩
theorem FA.at {K:W.Frag} {x:Str} {st:Stmt} {ps:List Str} {h:Heap} {mg:Str->Option Value} (F:FA K x st) (X:K.In h) (G:h.Ns mainGlobals mg) (hb:∀(kV doc pm:Value) (an:Option Addr) (cdv ct:Value) (us:List Value),us.length=ps.length->bindArgs (W.fnOf x x (eJ st) (bZ st) (aE st) .none kV doc pm an cdv ct) ⟨us,[]⟩=pure (ps.zip us)):DefAt K mg x st ps:=by
 obtain⟨f,od,an,sl,oc,kV,dc,pm,cd,ct,a,l,c,k⟩:=F.ex
 exact Ug X G a l c k hb
theorem We {l:W.OpenLaw} {w:World} {K:W.Frag} {h:Heap} {mg:Str->Option Value} {fa f_law:Addr} (X:K.In h) (G:h.Ns mainGlobals mg) (hfa:mg "law"=some (.ref fa))
  {od_law an_law:Option Addr} {sl_law:Array (Option Value)} {oc_law kV_law dc_law pm_law cd_law ct_law:Value}
  (a_is_name:FA K "is_name" lN)
  (a_is_key:FA K "is_key" oG)
  (a_number_of:FA K "number_of" iB)
  (a_is_whole:FA K "is_whole" jQ)
  (a_is_made_of:FA K "is_made_of" eL)
  (a_is_deed:FA K "is_deed" lO)
  (a_fits_word:FA K "fits_word" fK)
  (a_read_deed:FA K "read_deed" iC)
  (a_asks_of:FA K "asks_of" lP)
  (a_is_answer:FA K "is_answer" fL)
  (a_is_some_answer:FA K "is_some_answer" cN)
  (a_answer_of:FA K "answer_of" fM)
  (a_word_of:FA K "word_of" lQ)
  (a_is_no:FA K "is_no" qF)
  (a_bounds_of:FA K "bounds_of" iD)
  (a_are_within:FA K "are_within" eM)
  (a_is_row:FA K "is_row" lE)
  (a_is_part:FA K "is_part" lR)
  (a_read_row:FA K "read_row" hG)
  (a_line_parts:FA K "line_parts" gJ)
  (a_deed_of:FA K "deed_of" lS)
  (a_law_pen:FA K "_law_pen" lT)
  (a_law_take:FA K "_law_take" jR)
  (a_law_cell_at:FA K "_law_cell_at" fA)
  (a_law_words:FA K "_law_words" iE)
  (a_law_names:FA K "_law_names" dW)
  (a_law_keys:FA K "_law_keys" dN)
  (a_law_number:FA K "_law_number" gK)
  (a_law_deed:FA K "_law_deed" jS)
  (a_law_answer:FA K "_law_answer" gN)
  (a_law_row:FA K "_law_row" lU)
  (a_law_line:FA K "_law_line" dO)
  (a_law_whole:FA K "_law_whole" iF)
  (a_law_is_word:FA K "_law_is_word" dI)
  (a_law_is_name:FA K "_law_is_name" fB)
  (a_law_is_deed:FA K "_law_is_deed" dJ)
  (a_law_is_answer:FA K "_law_is_answer" dL)
  (a_law_is_some_answer:FA K "_law_is_some_answer" cD)
  (a_law_is_row:FA K "_law_is_row" gO)
  (a_law_count:FA K "_law_count" fN)
  (a_law_parts:FA K "_law_parts" iG)
  (a_law_read:FA K "_law_read" jT)
  (a_law_same:FA K "_law_same" eT)
  (a_law_mark:FA K "_law_mark" hJ)
  (a_law_bent:FA K "_law_bent" jU)
  (a_law_told:FA K "_law_told" jV)
  (a_law:W.nsIn K mainGlobals "law"=some (some (.ref f_law))) (l_law:K.lookup f_law=some ⟨oc_law,od_law,.func (W.fnOf "law" "law" (eJ oH) (bZ oH) (aE oH) .none kV_law dc_law pm_law an_law cd_law ct_law),sl_law⟩) (c_law:W.codeIn K cd_law "law"=true) (k_law:W.keepIn K (.ref f_law)=true)
  {C_DoorError:Addr} (aC_DoorError:W.nsIn K mainGlobals "DoorError"=some (some (.ref C_DoorError)))
  {C_NoDeed:Addr} (aC_NoDeed:W.nsIn K mainGlobals "NoDeed"=some (some (.ref C_NoDeed)))
  {C_NoKey:Addr} (aC_NoKey:W.nsIn K mainGlobals "NoKey"=some (some (.ref C_NoKey)))
  {C_Other:Addr} (aC_Other:W.nsIn K mainGlobals "Other"=some (some (.ref C_Other)))
  {C_NoRow:Addr} (aC_NoRow:W.nsIn K mainGlobals "NoRow"=some (some (.ref C_NoRow)))
  {C_NoAsk:Addr} (aC_NoAsk:W.nsIn K mainGlobals "NoAsk"=some (some (.ref C_NoAsk)))
  {C_NoJournal:Addr} (aC_NoJournal:W.nsIn K mainGlobals "NoJournal"=some (some (.ref C_NoJournal)))
  {C_Busy:Addr} (aC_Busy:W.nsIn K mainGlobals "Busy"=some (some (.ref C_Busy)))
  {C_NoName:Addr} (aC_NoName:W.nsIn K mainGlobals "NoName"=some (some (.ref C_NoName)))
  {C_Late:Addr} (aC_Late:W.nsIn K mainGlobals "Late"=some (some (.ref C_Late)))
  {C_Down:Addr} (aC_Down:W.nsIn K mainGlobals "Down"=some (some (.ref C_Down)))
  {C_Up:Addr} (aC_Up:W.nsIn K mainGlobals "Up"=some (some (.ref C_Up)))
  {C_Unsafe:Addr} (aC_Unsafe:W.nsIn K mainGlobals "Unsafe"=some (some (.ref C_Unsafe)))
  {C_NoNumber:Addr} (aC_NoNumber:W.nsIn K mainGlobals "NoNumber"=some (some (.ref C_NoNumber)))
  {C_NoWay:Addr} (aC_NoWay:W.nsIn K mainGlobals "NoWay"=some (some (.ref C_NoWay)))
  {C_NoLine:Addr} (aC_NoLine:W.nsIn K mainGlobals "NoLine"=some (some (.ref C_NoLine)))
  {C_NoChange:Addr} (aC_NoChange:W.nsIn K mainGlobals "NoChange"=some (some (.ref C_NoChange)))
  {C_NoHouse:Addr} (aC_NoHouse:W.nsIn K mainGlobals "NoHouse"=some (some (.ref C_NoHouse)))
  {C_NoRows:Addr} (aC_NoRows:W.nsIn K mainGlobals "NoRows"=some (some (.ref C_NoRows)))
  (x_exc:W.excIn K C_NoRow [.type "ValueError",.type "Exception",.type "BaseException",.type "object"] "ValueError.__new__"=true)
  (x_ga:W.findIn K (.ref C_NoRow) "__getattribute__"=some (some (.builtin "BaseException.__getattribute__")))
  (x_gx:W.findIn K (.ref C_NoRow) "__getattr__"=some none)
  (x_cl:W.findIn K (.ref C_NoRow) "__class__"=some (some (.builtin "object.__class__")))
  (x_gg:W.specialIn K (.builtin "object.__class__") "__get__"=some (some (.builtin "getset_descriptor.__get__")))
  (x_tk:W.takesIn K (.builtin "object.__class__")=some true)
  (x_mo:W.mroIn K C_NoRow (.type "object")=some true)
  (x_mb:W.mroIn K C_NoRow (.type "BaseException")=some true)
  (x_ci:W.isClsIn K C_NoRow=true)
  (x_xm:W.exmOne K (.ref C_NoRow) (.ref C_DoorError)=some true)
  (x_k_VE:W.kitOne K (.ref C_NoRow) (.type "ValueError")=some true)
  (x_k_NoDeed:W.kitOne K (.ref C_NoRow) (.ref C_NoDeed)=some false)
  (x_k_NoKey:W.kitOne K (.ref C_NoRow) (.ref C_NoKey)=some false)
  (x_k_Other:W.kitOne K (.ref C_NoRow) (.ref C_Other)=some false)
  (x_k_NoRow:W.kitOne K (.ref C_NoRow) (.ref C_NoRow)=some true)
  (x_k_NoAsk:W.kitOne K (.ref C_NoRow) (.ref C_NoAsk)=some false)
  (x_k_NoJournal:W.kitOne K (.ref C_NoRow) (.ref C_NoJournal)=some false)
  (x_k_Busy:W.kitOne K (.ref C_NoRow) (.ref C_Busy)=some false)
  (x_k_NoName:W.kitOne K (.ref C_NoRow) (.ref C_NoName)=some false)
  (x_k_Late:W.kitOne K (.ref C_NoRow) (.ref C_Late)=some false)
  (x_k_Down:W.kitOne K (.ref C_NoRow) (.ref C_Down)=some false)
  (x_k_Up:W.kitOne K (.ref C_NoRow) (.ref C_Up)=some false)
  (x_k_Unsafe:W.kitOne K (.ref C_NoRow) (.ref C_Unsafe)=some false)
  (x_k_NoNumber:W.kitOne K (.ref C_NoRow) (.ref C_NoNumber)=some false)
  (x_k_NoWay:W.kitOne K (.ref C_NoRow) (.ref C_NoWay)=some false)
  (x_k_NoLine:W.kitOne K (.ref C_NoRow) (.ref C_NoLine)=some false)
  (x_k_NoChange:W.kitOne K (.ref C_NoRow) (.ref C_NoChange)=some false)
  (x_k_NoHouse:W.kitOne K (.ref C_NoRow) (.ref C_NoHouse)=some false)
  (x_k_NoRows:W.kitOne K (.ref C_NoRow) (.ref C_NoRows)=some false)
  (x_dexc:W.excIn K C_NoDeed [.type "ValueError",.type "Exception",.type "BaseException",.type "object"] "ValueError.__new__"=true)
  (x_dxm:W.exmOne K (.ref C_NoDeed) (.ref C_NoDeed)=some true)
  (z_ValueError:W.nsIn K mainGlobals "ValueError"=some none)
  (z_all:W.nsIn K mainGlobals "all"=some none)
  (z_any:W.nsIn K mainGlobals "any"=some none)
  (z_bool:W.nsIn K mainGlobals "bool"=some none)
  (z_enumerate:W.nsIn K mainGlobals "enumerate"=some none)
  (z_int:W.nsIn K mainGlobals "int"=some none)
  (z_isinstance:W.nsIn K mainGlobals "isinstance"=some none)
  (z_len:W.nsIn K mainGlobals "len"=some none)
  (z_list:W.nsIn K mainGlobals "list"=some none)
  (z_max:W.nsIn K mainGlobals "max"=some none)
  (z_min:W.nsIn K mainGlobals "min"=some none)
  (z_range:W.nsIn K mainGlobals "range"=some none)
  (z_str:W.nsIn K mainGlobals "str"=some none)
  (z_tuple:W.nsIn K mainGlobals "tuple"=some none)
  (z_zip:W.nsIn K mainGlobals "zip"=some none)
  {t_LETTERS:Tok} (y_LETTERS:W.nsIn K mainGlobals "LETTERS"=some (some (.str ("abcdefghijklmnopqrstuvwxyz") t_LETTERS)))
  {t_FIGURES:Tok} (y_FIGURES:W.nsIn K mainGlobals "FIGURES"=some (some (.str ("0123456789") t_FIGURES)))
  {t_LONGEST_NAME:Tok} (y_LONGEST_NAME:W.nsIn K mainGlobals "LONGEST_NAME"=some (some (.int (8) t_LONGEST_NAME)))
  {t_LONGEST_KEY:Tok} (y_LONGEST_KEY:W.nsIn K mainGlobals "LONGEST_KEY"=some (some (.int (12) t_LONGEST_KEY)))
  {t_LONGEST_NUMBER:Tok} (y_LONGEST_NUMBER:W.nsIn K mainGlobals "LONGEST_NUMBER"=some (some (.int (13) t_LONGEST_NUMBER)))
  {t_MOST:Tok} (y_MOST:W.nsIn K mainGlobals "MOST"=some (some (.int (1000000000000) t_MOST)))
  {a_NAME_COUNTS:Addr} {es_NAME_COUNTS:List DictEntry} {n_NAME_COUNTS:Nat} (y_NAME_COUNTS:W.nsIn K mainGlobals "NAME_COUNTS"=some (some (.ref a_NAME_COUNTS))) (l_NAME_COUNTS:K.lookup a_NAME_COUNTS=some ⟨.type "dict",none,.dict (List.toArray es_NAME_COUNTS) n_NAME_COUNTS,#[]⟩) (t_NAME_COUNTS:Tab w.params es_NAME_COUNTS (WS)) (o_NAME_COUNTS:(a_NAME_COUNTS == sysModules)=false)
  {a_UNLIKE_WORDS:Addr} {its_UNLIKE_WORDS:List Value} {dd_UNLIKE_WORDS:Option Addr} {n_UNLIKE_WORDS:Nat} {sl_UNLIKE_WORDS:Array (Option Value)} (y_UNLIKE_WORDS:W.nsIn K mainGlobals "UNLIKE_WORDS"=some (some (.ref a_UNLIKE_WORDS))) (l_UNLIKE_WORDS:K.lookup a_UNLIKE_WORDS=some ⟨.type "tuple",dd_UNLIKE_WORDS,.seq (List.toArray its_UNLIKE_WORDS) n_UNLIKE_WORDS,sl_UNLIKE_WORDS⟩) (v_UNLIKE_WORDS:Vals (UW) its_UNLIKE_WORDS)
  {a_PARTS:Addr} {es_PARTS:List DictEntry} {n_PARTS:Nat} (y_PARTS:W.nsIn K mainGlobals "PARTS"=some (some (.ref a_PARTS))) (l_PARTS:K.lookup a_PARTS=some ⟨.type "dict",none,.dict (List.toArray es_PARTS) n_PARTS,#[]⟩) (t_PARTS:TabT K w.params es_PARTS (PTS)) (o_PARTS:(a_PARTS == sysModules)=false)
  {a_BOUNDS:Addr} {es_BOUNDS:List DictEntry} {n_BOUNDS:Nat} (y_BOUNDS:W.nsIn K mainGlobals "BOUNDS"=some (some (.ref a_BOUNDS))) (l_BOUNDS:K.lookup a_BOUNDS=some ⟨.type "dict",none,.dict (List.toArray es_BOUNDS) n_BOUNDS,#[]⟩) (t_BOUNDS:TabT K w.params es_BOUNDS (BDS)) (o_BOUNDS:(a_BOUNDS == sysModules)=false)
  : ∃fd:FuncData,(∀(s:Shared) (v:Value),BindsTo s fd ⟨[v],[]⟩ [("_law_script",v)])/\∀base:Heap,K.In base->base.Ns mainGlobals mg->pV l.prog w K mg base xT 10 fa fd ["_law_script"] (Dr K):=by
 have e:=hfa.symm.trans (W.mg_of X G a_law)
 cases e
 have T:Txt K mg:=⟨W.mg_none_of X G z_ValueError,W.mg_none_of X G z_all,W.mg_none_of X G z_any,W.mg_none_of X G z_bool,W.mg_none_of X G z_enumerate,W.mg_none_of X G z_int,W.mg_none_of X G z_isinstance,W.mg_none_of X G z_len,W.mg_none_of X G z_list,W.mg_none_of X G z_max,W.mg_none_of X G z_min,W.mg_none_of X G z_range,W.mg_none_of X G z_str,W.mg_none_of X G z_tuple,W.mg_none_of X G z_zip,⟨_,W.mg_of X G y_LETTERS⟩,⟨_,W.mg_of X G y_FIGURES⟩,⟨_,W.mg_of X G y_LONGEST_NAME⟩,⟨_,W.mg_of X G y_LONGEST_KEY⟩,⟨_,W.mg_of X G y_LONGEST_NUMBER⟩,⟨_,W.mg_of X G y_MOST⟩⟩
 have U:Ze w.params K mg:=⟨⟨_,W.mg_of X G y_NAME_COUNTS,⟨_,_,l_NAME_COUNTS,t_NAME_COUNTS,o_NAME_COUNTS⟩⟩,⟨_,W.mg_of X G y_UNLIKE_WORDS,fun _=>.inr ⟨_,_,_,l_UNLIKE_WORDS,rfl,rfl,by rw[fY,<- v_UNLIKE_WORDS.length];decide,v_UNLIKE_WORDS⟩⟩,⟨_,W.mg_of X G y_PARTS,⟨_,_,l_PARTS,t_PARTS,o_PARTS⟩⟩,⟨_,W.mg_of X G y_BOUNDS,⟨_,_,l_BOUNDS,t_BOUNDS,o_BOUNDS⟩⟩⟩
 have D_is_name:DefAt K mg "is_name" lN ["thing"]:=a_is_name.at X G fun _ _ _ _ _ _ us hl=>match us,hl with | [_],_=>rfl
 have D_is_key:DefAt K mg "is_key" oG ["thing"]:=a_is_key.at X G fun _ _ _ _ _ _ us hl=>match us,hl with | [_],_=>rfl
 have D_number_of:DefAt K mg "number_of" iB ["text"]:=a_number_of.at X G fun _ _ _ _ _ _ us hl=>match us,hl with | [_],_=>rfl
 have D_is_whole:DefAt K mg "is_whole" jQ ["thing","least","most"]:=a_is_whole.at X G fun _ _ _ _ _ _ us hl=>match us,hl with | [_,_,_],_=>rfl
 have D_is_made_of:DefAt K mg "is_made_of" eL ["thing","signs","longest"]:=a_is_made_of.at X G fun _ _ _ _ _ _ us hl=>match us,hl with | [_,_,_],_=>rfl
 have D_is_deed:DefAt K mg "is_deed" lO ["thing"]:=a_is_deed.at X G fun _ _ _ _ _ _ us hl=>match us,hl with | [_],_=>rfl
 have D_fits_word:DefAt K mg "fits_word" fK ["word","names"]:=a_fits_word.at X G fun _ _ _ _ _ _ us hl=>match us,hl with | [_,_],_=>rfl
 have D_read_deed:DefAt K mg "read_deed" iC ["text"]:=a_read_deed.at X G fun _ _ _ _ _ _ us hl=>match us,hl with | [_],_=>rfl
 have D_asks_of:DefAt K mg "asks_of" lP ["deed"]:=a_asks_of.at X G fun _ _ _ _ _ _ us hl=>match us,hl with | [_],_=>rfl
 have D_is_answer:DefAt K mg "is_answer" fL ["deed","thing"]:=a_is_answer.at X G fun _ _ _ _ _ _ us hl=>match us,hl with | [_,_],_=>rfl
 have D_is_some_answer:DefAt K mg "is_some_answer" cN ["thing"]:=a_is_some_answer.at X G fun _ _ _ _ _ _ us hl=>match us,hl with | [_],_=>rfl
 have D_answer_of:DefAt K mg "answer_of" fM ["words"]:=a_answer_of.at X G fun _ _ _ _ _ _ us hl=>match us,hl with | [_],_=>rfl
 have D_word_of:DefAt K mg "word_of" lQ ["thing"]:=a_word_of.at X G fun _ _ _ _ _ _ us hl=>match us,hl with | [_],_=>rfl
 have D_is_no:DefAt K mg "is_no" qF ["answer"]:=a_is_no.at X G fun _ _ _ _ _ _ us hl=>match us,hl with | [_],_=>rfl
 have D_bounds_of:DefAt K mg "bounds_of" iD ["deed"]:=a_bounds_of.at X G fun _ _ _ _ _ _ us hl=>match us,hl with | [_],_=>rfl
 have D_are_within:DefAt K mg "are_within" eM ["things","bounds"]:=a_are_within.at X G fun _ _ _ _ _ _ us hl=>match us,hl with | [_,_],_=>rfl
 have D_is_row:DefAt K mg "is_row" lE ["thing"]:=a_is_row.at X G fun _ _ _ _ _ _ us hl=>match us,hl with | [_],_=>rfl
 have D_is_part:DefAt K mg "is_part" lR ["kind","thing"]:=a_is_part.at X G fun _ _ _ _ _ _ us hl=>match us,hl with | [_,_],_=>rfl
 have D_read_row:DefAt K mg "read_row" hG ["text"]:=a_read_row.at X G fun _ _ _ _ _ _ us hl=>match us,hl with | [_],_=>rfl
 have D_line_parts:DefAt K mg "line_parts" gJ ["text"]:=a_line_parts.at X G fun _ _ _ _ _ _ us hl=>match us,hl with | [_],_=>rfl
 have D_deed_of:DefAt K mg "deed_of" lS ["words"]:=a_deed_of.at X G fun _ _ _ _ _ _ us hl=>match us,hl with | [_],_=>rfl
 have D_law_pen:DefAt K mg "_law_pen" lT ["_law_cell","_law_k"]:=a_law_pen.at X G fun _ _ _ _ _ _ us hl=>match us,hl with | [_,_],_=>rfl
 have D_law_take:DefAt K mg "_law_take" jR ["_law_pen_here","_law_most"]:=a_law_take.at X G fun _ _ _ _ _ _ us hl=>match us,hl with | [_,_],_=>rfl
 have D_law_cell_at:DefAt K mg "_law_cell_at" fA ["_law_script","_law_k"]:=a_law_cell_at.at X G fun _ _ _ _ _ _ us hl=>match us,hl with | [_,_],_=>rfl
 have D_law_words:DefAt K mg "_law_words" iE ["_law_pen_here","_law_many"]:=a_law_words.at X G fun _ _ _ _ _ _ us hl=>match us,hl with | [_,_],_=>rfl
 have D_law_names:DefAt K mg "_law_names" dW ["_law_pen_here","_law_many"]:=a_law_names.at X G fun _ _ _ _ _ _ us hl=>match us,hl with | [_,_],_=>rfl
 have D_law_keys:DefAt K mg "_law_keys" dN ["_law_pen_here","_law_many"]:=a_law_keys.at X G fun _ _ _ _ _ _ us hl=>match us,hl with | [_,_],_=>rfl
 have D_law_number:DefAt K mg "_law_number" gK ["_law_pen_here","_law_least","_law_most"]:=a_law_number.at X G fun _ _ _ _ _ _ us hl=>match us,hl with | [_,_,_],_=>rfl
 have D_law_deed:DefAt K mg "_law_deed" jS ["_law_pen_here","_law_names_here"]:=a_law_deed.at X G fun _ _ _ _ _ _ us hl=>match us,hl with | [_,_],_=>rfl
 have D_law_answer:DefAt K mg "_law_answer" gN ["_law_pen_here","_law_deed_here"]:=a_law_answer.at X G fun _ _ _ _ _ _ us hl=>match us,hl with | [_,_],_=>rfl
 have D_law_row:DefAt K mg "_law_row" lU ["_law_pen_here","_law_names_here","_law_keys_here"]:=a_law_row.at X G fun _ _ _ _ _ _ us hl=>match us,hl with | [_,_,_],_=>rfl
 have D_law_line:DefAt K mg "_law_line" dO ["_law_row_here"]:=a_law_line.at X G fun _ _ _ _ _ _ us hl=>match us,hl with | [_],_=>rfl
 have D_law_whole:DefAt K mg "_law_whole" iF ["_law_thing","_law_least","_law_most"]:=a_law_whole.at X G fun _ _ _ _ _ _ us hl=>match us,hl with | [_,_,_],_=>rfl
 have D_law_is_word:DefAt K mg "_law_is_word" dI ["_law_thing","_law_signs","_law_most"]:=a_law_is_word.at X G fun _ _ _ _ _ _ us hl=>match us,hl with | [_,_,_],_=>rfl
 have D_law_is_name:DefAt K mg "_law_is_name" fB ["_law_thing"]:=a_law_is_name.at X G fun _ _ _ _ _ _ us hl=>match us,hl with | [_],_=>rfl
 have D_law_is_deed:DefAt K mg "_law_is_deed" dJ ["_law_thing"]:=a_law_is_deed.at X G fun _ _ _ _ _ _ us hl=>match us,hl with | [_],_=>rfl
 have D_law_is_answer:DefAt K mg "_law_is_answer" dL ["_law_deed_here","_law_thing"]:=a_law_is_answer.at X G fun _ _ _ _ _ _ us hl=>match us,hl with | [_,_],_=>rfl
 have D_law_is_some_answer:DefAt K mg "_law_is_some_answer" cD ["_law_thing"]:=a_law_is_some_answer.at X G fun _ _ _ _ _ _ us hl=>match us,hl with | [_],_=>rfl
 have D_law_is_row:DefAt K mg "_law_is_row" gO ["_law_thing"]:=a_law_is_row.at X G fun _ _ _ _ _ _ us hl=>match us,hl with | [_],_=>rfl
 have D_law_count:DefAt K mg "_law_count" fN ["_law_word"]:=a_law_count.at X G fun _ _ _ _ _ _ us hl=>match us,hl with | [_],_=>rfl
 have D_law_parts:DefAt K mg "_law_parts" iG ["_law_words_here"]:=a_law_parts.at X G fun _ _ _ _ _ _ us hl=>match us,hl with | [_],_=>rfl
 have D_law_read:DefAt K mg "_law_read" jT ["_law_text"]:=a_law_read.at X G fun _ _ _ _ _ _ us hl=>match us,hl with | [_],_=>rfl
 have D_law_same:DefAt K mg "_law_same" eT ["_law_found","_law_due"]:=a_law_same.at X G fun _ _ _ _ _ _ us hl=>match us,hl with | [_,_],_=>rfl
 have D_law_mark:DefAt K mg "_law_mark" hJ ["_law_error"]:=a_law_mark.at X G fun _ _ _ _ _ _ us hl=>match us,hl with | [_],_=>rfl
 have D_law_bent:DefAt K mg "_law_bent" jU ["_law_pen_here","_law_text"]:=a_law_bent.at X G fun _ _ _ _ _ _ us hl=>match us,hl with | [_,_],_=>rfl
 have D_law_told:DefAt K mg "_law_told" jV ["_law_text"]:=a_law_told.at X G fun _ _ _ _ _ _ us hl=>match us,hl with | [_],_=>rfl
 refine⟨W.fnOf "law" "law" (eJ oH) (bZ oH) (aE oH) .none kV_law dc_law pm_law an_law cd_law ct_law,fun s v=>.of_eq rfl,fun base _ _=>?_⟩
 have F_law:=zY (st:=oH) l_law c_law k_law
 have cp:=Vo (P:=l.prog) (w:=w) (base:=base) T D_law_pen
 have ct:=Ox (P:=l.prog) (w:=w) (base:=base) T D_law_take
 have ce:=Oy (P:=l.prog) (w:=w) (base:=base) T D_law_cell_at
 have cn:=yV T ct D_law_number
 have cwd:=Ma T ct D_law_words
 have cna:=Br T cwd ct D_law_names
 have cke:=Gp T cwd ct D_law_keys
 have cde:=Fu T ct cn D_law_deed
 have can:=yX T ct cn D_law_answer
 have crd:=Po T ct cn cde can D_law_row
 have c3:=Oz (P:=l.prog) (w:=w) (base:=base) T D_is_made_of
 have c4:=Bc T c3 D_is_name
 have c4k:=Fs T c3 D_is_key
 have c5:=Kr (P:=l.prog) (w:=w) (base:=base) T D_is_whole
 have c6:=Pa T U c4 D_fits_word
 have c7:=Bd T c6 c5 D_is_deed
 have c13:=Ft T c3 D_number_of
 have cas:=Pb (P:=l.prog) (w:=w) (base:=base) T D_asks_of
 have cwo:=Be (P:=l.prog) (w:=w) (base:=base) T D_word_of
 have cno:=Ks T c4 D_is_no
 have cb:=Fv (P:=l.prog) (w:=w) (base:=base) T D_bounds_of
 have cw:=Fw T c5 D_are_within
 have ca:=wM T cwo cno cas cb cw D_is_answer
 have cso:=Pf T cwo cno ca D_is_some_answer
 have cpt:=Pg T U c5 c4 c4k c7 cso D_is_part
 have cro:=Fx T U cwo cpt ca D_is_row
 have clw:=Fy (P:=l.prog) (w:=w) (base:=base) T D_law_whole
 have clwd:=Kt (P:=l.prog) (w:=w) (base:=base) T D_law_is_word
 have cln:=Bf T clwd D_law_is_name
 have cld:=Bi T cln clw D_law_is_deed
 have cla:=Pj T clw D_law_is_answer
 have cls:=La T clw cln D_law_is_some_answer
 have clr:=Pn T clw clwd cln cld cla cls D_law_is_row
 have XN:XCls K mg "NoDeed" C_NoDeed:=⟨W.mg_of X G aC_NoDeed,x_dexc⟩
 have XR:XCls K mg "NoRow" C_NoRow:=⟨W.mg_of X G aC_NoRow,x_exc⟩
 have XQ:tK K C_NoRow:=⟨x_ga,x_gx,x_cl,x_gg,x_tk,x_mo,x_mb,x_ci⟩
 have crdd:=wR T XN c13 c7 D_read_deed
 have cdo:=zF T (W.mg_of X G aC_NoDeed) x_dxm crdd D_deed_of
 have cao:=Bo T c13 D_answer_of
 have clp:=Bp T cdo cao D_line_parts
 have crr:=wW T U XR clp c13 cro D_read_row
 have cco:=Ln (P:=l.prog) (w:=w) (base:=base) T D_law_count
 have cpl:=Bq T cco D_law_parts
 have crl:=Gk T cpl clr D_law_read
 have mk:=Px (P:=l.prog) (w:=w) (base:=base) T ⟨W.mg_of X G aC_NoDeed,W.mg_of X G aC_NoKey,W.mg_of X G aC_Other,W.mg_of X G aC_NoRow,W.mg_of X G aC_NoAsk,W.mg_of X G aC_NoJournal,W.mg_of X G aC_Busy,W.mg_of X G aC_NoName,W.mg_of X G aC_Late,W.mg_of X G aC_Down,W.mg_of X G aC_Up,W.mg_of X G aC_Unsafe,W.mg_of X G aC_NoNumber,W.mg_of X G aC_NoWay,W.mg_of X G aC_NoLine,W.mg_of X G aC_NoChange,W.mg_of X G aC_NoHouse,W.mg_of X G aC_NoRows,XQ,x_k_NoDeed,x_k_NoKey,x_k_Other,x_k_NoRow,x_k_NoAsk,x_k_NoJournal,x_k_Busy,x_k_NoName,x_k_Late,x_k_Down,x_k_Up,x_k_Unsafe,x_k_NoNumber,x_k_NoWay,x_k_NoLine,x_k_NoChange,x_k_NoHouse,x_k_NoRows,x_k_VE⟩ D_law_mark
 have cto:=Gm T (W.mg_of X G aC_DoorError) x_xm crr mk D_law_told
 have cbe:=Go T ct cco D_law_bent
 have cli:=Qa (P:=l.prog) (w:=w) (base:=base) T D_law_line
 have csa:=Db (P:=l.prog) (w:=w) (base:=base) T D_law_same 2
 exact Wd T cp ce cna cke crd cli cbe crl cto csa F_law
theorem aAQ {l:W.OpenLaw} {q:Program} {loose:List Str} {XP:(Str->Option Value)->Heap->Prop} {YP:World->Heap->Prop} {d:DefRec} {K:Params->W.Frag} (hn:l.most=some 63) (hdf:d.params.defaults=[])
  (hY:∀(w:World) (h:Heap),YP w h->(K w.params).In h)
  (F:∀(w:World) (mg:Str->Option Value) (fa:Addr) (h:Heap),(K w.params).In h->h.Ns mainGlobals mg->mg d.name=some (.ref fa) →
   ∃fd:FuncData,(∀(s:Shared) (u:Value),BindsTo s fd ⟨[u],[]⟩ [("_law_script",u)])/\∀base:Heap,(K w.params).In base->base.Ns mainGlobals mg->pV l.prog w (K w.params) mg base xT 10 fa fd ["_law_script"] (Dr (K w.params))) :
  W.WalkO q loose XP YP l.row.toRowW d [] (fun f vs=>PySem.call f vs):=
 L2.Cd (n:=63) (k:=10) (x:="_law_script") (CX:=fun _=>xT) (sp:=fun w=>Dr (K w.params)) hn Zd hdf ⟨rfl,Zd,Zd⟩ hY F (fun _ _ a ns hl _ hS=>⟨a,ns,rfl,hS,hl,fun _=>rfl⟩) fun _ _ _ _ _ z=>z
end KL
namespace PySem.W.Fast
def tw7838951991032562136:=0
def tw6748485678014434242:=0
def tw6641635151708475897:=0
def tw5201962898295428848:=0
def tw4828334846138357920:=0
def tw2804677889860137537:=0
def tw2027956147423775822:=0
def tw2123493061141336201:=0
def tw9528188526660429668:=0
def tw15810641227626516348:=0
def tw11501895584933310223:=0
def tw1724538650877877488:=0
def tw12074148502306742152:=0
def tw671420734103329018:=0
def tw17371475703833622029:=0
def tw6437576042649622410:=0
def tw6740048491535811162:=0
def tw13649642450915866152:=0
def tw16399752303344078163:=0
def tw8956761741719287356:=0
def tw2744784999264565491:=0
def tw1377458567506254677:=0
def tw1917789165737925808:=0
def tw10501147695857118742:=0
def tw2814888810223756798:=0
def tw1927387673872910923:=0
def tw5944137000329902892:=0
def tw4308411186693762080:=0
def tw13546286081503040537:=0
def tw9450919743070183916:=0
def tw13224183953906906419:=0
def tw16299117603575912226:=0
def tw777002642067688257:=0
def tw1095042126204083014:=0
def tw149591613533443317:=0
def tw4862757669497145133:=0
def tw5194192955176797153:=0
def tw14703089835188080510:=0
def tw8233898708281164988:=0
def tw10157199076661469911:=0
def tw4297883183903555748:=0
def tw301171818571026772:=0
def tw13059042058351434959:=0
def tw4968743804333027819:=0
def tw4885348039654536769:=0
def tw17601710842854950433:=0
def tw7117855664803639827:=0
def tw14571332098200587779:=0
def tw4604405104527401660:=0
def tw1077898803670299494:=0
def tw1779512522580206871:=0
def tw15545331574667807645:=0
def tw7218189599642219295:=0
def tw11254546858920378569:=0
def tw5321890491984351631:=0
def tw1367742745648206816:=0
def tw1252274131013977139:=0
def tw363917538152162275:=0
def tw7364178199515471427:=0
def tw11797814536678104133:=0
def tw10492365056253442585:=0
def tw6122146202089688513:=0
def tw1841054571501628322:=0
def tw7817339459910756418:=0
def tw8561713771232054301:=0
def tw13119537332830471839:=0
def tw6876796268423462690:=0
def tw6203253459635515578:=0
def tw14821298533797042988:=0
def tw6510729663156224819:=0
def tw836421408552174846:=0
def tw7219534049847313075:=0
def tw3183221069877081163:=0
def tw11255394740239920679:=0
def tw12838803433473463506:=0
def tw10631547371728454301:=0
def tw16343343930442667970:=0
def tw5169818456681302666:=0
def tw13884958228440150352:=0
def tw7569869111902497537:=0
def tw16769525569624216075:=0
def tw16121609610782096265:=0
def tw10147859686187141796:=0
def tw12055636560275346106:=0
def tw10972477736513414708:=0
def tw16360743624226834947:=0
def tw13396297855500217799:=0
def tw15428372927177583901:=0
def tw9001868674512890176:=0
def tw18355127939743529066:=0
def tw12804214416334339781:=0
def tw18315650871583225709:=0
def tw10184545623351249380:=0
def tw11973403217973019291:=0
def tw10197981407734690560:=0
def tw2764726399098567582:=0
def tw11459690401731542306:=0
def tw2212124284623379118:=0
def tw5775831889487121873:=0
def tw572071643040907554:=0
def tw12515573786411158282:=0
def tw11242627895843850351:=0
def tw7845429330912877264:=0
def tw6784848180985234694:=0
def tw1709744395697742146:=0
def tw1155241744856890287:=0
def tw14080417428996499891:=0
def tw10253242750735633480:=0
def tw3393504189725562191:=0
def tw3648941339939510222:=0
def tw16479307479034117917:=0
def tw4348302526075134917:=0
def tw11012478500383642691:=0
def tw4117347268829936785:=0
def tw9396548390630542994:=0
def tw11845525082056730457:=0
def tw8037602597605983801:=0
def tw17393301650554647794:=0
def tw12671476287565326507:=0
def tw5627849629354670395:=0
def tw14472526367947603085:=0
def tw7710152840923084209:=0
def tw5422585881830692926:=0
def tw2602601449890744952:=0
def tw7064179394832054747:=0
def tw1024457953787902512:=0
def tw2283099321807404208:=0
def tw5607085491222667865:=0
def tw17136481090282108999:=0
def tw6581345592096763363:=0
def tw3845299801812106866:=0
def tw15640071207819215838:=0
def tw8806767297222649941:=0
def tw15805742874918009440:=0
def tw1618583007352662791:=0
def tw16086044811188746128:=0
def tw3522361545772311770:=0
def tw4571685768909745976:=0
def tw15797492189744438884:=0
def tw7647782720819772199:=0
def tw13774872468450338704:=0
def tw6706032290368842253:=0
def tw6775889716662721437:=0
def tw10380900753813939978:=0
def tw17318291059036181709:=0
def tw4506705777860649947:=0
def tw2977036767443577768:=0
def tw802787484211476789:=0
def tw13676861641438872800:=0
def tw14517243035742406609:=0
def tw790803959822224514:=0
def tw2280097547100713866:=0
def tw12500577078982778751:=0
def tw4501603213536342994:=0
def tw4173993912111752354:=0
def tw500032169381415679:=0
def tw1574056821004657113:=0
def tw3191102977858647198:=0
def tw13699964408325373412:=0
end PySem.W.Fast
open PySem PySem.W PyProof.Rows
set_option maxRecDepth 100000 in
set_option maxHeartbeats 0 in
theorem PySem.Challenge.cw_oncedoor_k32_texts_of_no_row_holds : PySem.Challenge.rw_oncedoor_k32_texts_of_no_row.Holds := by
 w_on;o_law;k_head;(case hw=>w_witness2)
 k_fill
 refine KL.aAQ (l:=PySem.Challenge.rw_oncedoor_k32_texts_of_no_row) rfl rfl (fun w h Y=>W.kIn_of Y) ?F
 case F=>
  intro w mg fa h KX G hmg;refine' KL.We KX G hmg ?a_is_name ?a_is_key ?a_number_of ?a_is_whole ?a_is_made_of ?a_is_deed ?a_fits_word ?a_read_deed ?a_asks_of ?a_is_answer ?a_is_some_answer ?a_answer_of ?a_word_of ?a_is_no ?a_bounds_of ?a_are_within ?a_is_row ?a_is_part ?a_read_row ?a_line_parts ?a_deed_of ?a_law_pen ?a_law_take ?a_law_cell_at ?a_law_words ?a_law_names ?a_law_keys ?a_law_number ?a_law_deed ?a_law_answer ?a_law_row ?a_law_line ?a_law_whole ?a_law_is_word ?a_law_is_name ?a_law_is_deed ?a_law_is_answer ?a_law_is_some_answer ?a_law_is_row ?a_law_count ?a_law_parts ?a_law_read ?a_law_same ?a_law_mark ?a_law_bent ?a_law_told ?a_law ?l_law ?c_law ?k_law ?aC_DoorError ?aC_NoDeed ?aC_NoKey ?aC_Other ?aC_NoRow ?aC_NoAsk ?aC_NoJournal ?aC_Busy ?aC_NoName ?aC_Late ?aC_Down ?aC_Up ?aC_Unsafe ?aC_NoNumber ?aC_NoWay ?aC_NoLine ?aC_NoChange ?aC_NoHouse ?aC_NoRows ?x_exc ?x_ga ?x_gx ?x_cl ?x_gg ?x_tk ?x_mo ?x_mb ?x_ci ?x_xm ?x_k_VE ?x_k_NoDeed ?x_k_NoKey ?x_k_Other ?x_k_NoRow ?x_k_NoAsk ?x_k_NoJournal ?x_k_Busy ?x_k_NoName ?x_k_Late ?x_k_Down ?x_k_Up ?x_k_Unsafe ?x_k_NoNumber ?x_k_NoWay ?x_k_NoLine ?x_k_NoChange ?x_k_NoHouse ?x_k_NoRows ?x_dexc ?x_dxm ?z_ValueError ?z_all ?z_any ?z_bool ?z_enumerate ?z_int ?z_isinstance ?z_len ?z_list ?z_max ?z_min ?z_range ?z_str ?z_tuple ?z_zip ?y_LETTERS ?y_FIGURES ?y_LONGEST_NAME ?y_LONGEST_KEY ?y_LONGEST_NUMBER ?y_MOST ?y_NAME_COUNTS ?l_NAME_COUNTS ?t_NAME_COUNTS ?o_NAME_COUNTS ?y_UNLIKE_WORDS ?l_UNLIKE_WORDS ?v_UNLIKE_WORDS ?y_PARTS ?l_PARTS ?t_PARTS ?o_PARTS ?y_BOUNDS ?l_BOUNDS ?t_BOUNDS ?o_BOUNDS
  (case a_is_name=>refine' KL.FA.of ?a ?l ?c ?k;(case a=>k_is);(case l=>k_is);(case c=>k_is);case k=>k_is)
  (case a_is_key=>refine' KL.FA.of ?a ?l ?c ?k;(case a=>k_is);(case l=>k_is);(case c=>k_is);case k=>k_is)
  (case a_number_of=>refine' KL.FA.of ?a ?l ?c ?k;(case a=>k_is);(case l=>k_is);(case c=>k_is);case k=>k_is)
  (case a_is_whole=>refine' KL.FA.of ?a ?l ?c ?k;(case a=>k_is);(case l=>k_is);(case c=>k_is);case k=>k_is)
  (case a_is_made_of=>refine' KL.FA.of ?a ?l ?c ?k;(case a=>k_is);(case l=>k_is);(case c=>k_is);case k=>k_is)
  (case a_is_deed=>refine' KL.FA.of ?a ?l ?c ?k;(case a=>k_is);(case l=>k_is);(case c=>k_is);case k=>k_is)
  (case a_fits_word=>refine' KL.FA.of ?a ?l ?c ?k;(case a=>k_is);(case l=>k_is);(case c=>k_is);case k=>k_is)
  (case a_read_deed=>refine' KL.FA.of ?a ?l ?c ?k;(case a=>k_is);(case l=>k_is);(case c=>k_is);case k=>k_is)
  (case a_asks_of=>refine' KL.FA.of ?a ?l ?c ?k;(case a=>k_is);(case l=>k_is);(case c=>k_is);case k=>k_is)
  (case a_is_answer=>refine' KL.FA.of ?a ?l ?c ?k;(case a=>k_is);(case l=>k_is);(case c=>k_is);case k=>k_is)
  (case a_is_some_answer=>refine' KL.FA.of ?a ?l ?c ?k;(case a=>k_is);(case l=>k_is);(case c=>k_is);case k=>k_is)
  (case a_answer_of=>refine' KL.FA.of ?a ?l ?c ?k;(case a=>k_is);(case l=>k_is);(case c=>k_is);case k=>k_is)
  (case a_word_of=>refine' KL.FA.of ?a ?l ?c ?k;(case a=>k_is);(case l=>k_is);(case c=>k_is);case k=>k_is)
  (case a_is_no=>refine' KL.FA.of ?a ?l ?c ?k;(case a=>k_is);(case l=>k_is);(case c=>k_is);case k=>k_is)
  (case a_bounds_of=>refine' KL.FA.of ?a ?l ?c ?k;(case a=>k_is);(case l=>k_is);(case c=>k_is);case k=>k_is)
  (case a_are_within=>refine' KL.FA.of ?a ?l ?c ?k;(case a=>k_is);(case l=>k_is);(case c=>k_is);case k=>k_is)
  (case a_is_row=>refine' KL.FA.of ?a ?l ?c ?k;(case a=>k_is);(case l=>k_is);(case c=>k_is);case k=>k_is)
  (case a_is_part=>refine' KL.FA.of ?a ?l ?c ?k;(case a=>k_is);(case l=>k_is);(case c=>k_is);case k=>k_is)
  (case a_read_row=>refine' KL.FA.of ?a ?l ?c ?k;(case a=>k_is);(case l=>k_is);(case c=>k_is);case k=>k_is)
  (case a_line_parts=>refine' KL.FA.of ?a ?l ?c ?k;(case a=>k_is);(case l=>k_is);(case c=>k_is);case k=>k_is)
  (case a_deed_of=>refine' KL.FA.of ?a ?l ?c ?k;(case a=>k_is);(case l=>k_is);(case c=>k_is);case k=>k_is)
  (case a_law_pen=>refine' KL.FA.of ?a ?l ?c ?k;(case a=>k_is);(case l=>k_is);(case c=>k_is);case k=>k_is)
  (case a_law_take=>refine' KL.FA.of ?a ?l ?c ?k;(case a=>k_is);(case l=>k_is);(case c=>k_is);case k=>k_is)
  (case a_law_cell_at=>refine' KL.FA.of ?a ?l ?c ?k;(case a=>k_is);(case l=>k_is);(case c=>k_is);case k=>k_is)
  (case a_law_words=>refine' KL.FA.of ?a ?l ?c ?k;(case a=>k_is);(case l=>k_is);(case c=>k_is);case k=>k_is)
  (case a_law_names=>refine' KL.FA.of ?a ?l ?c ?k;(case a=>k_is);(case l=>k_is);(case c=>k_is);case k=>k_is)
  (case a_law_keys=>refine' KL.FA.of ?a ?l ?c ?k;(case a=>k_is);(case l=>k_is);(case c=>k_is);case k=>k_is)
  (case a_law_number=>refine' KL.FA.of ?a ?l ?c ?k;(case a=>k_is);(case l=>k_is);(case c=>k_is);case k=>k_is)
  (case a_law_deed=>refine' KL.FA.of ?a ?l ?c ?k;(case a=>k_is);(case l=>k_is);(case c=>k_is);case k=>k_is)
  (case a_law_answer=>refine' KL.FA.of ?a ?l ?c ?k;(case a=>k_is);(case l=>k_is);(case c=>k_is);case k=>k_is)
  (case a_law_row=>refine' KL.FA.of ?a ?l ?c ?k;(case a=>k_is);(case l=>k_is);(case c=>k_is);case k=>k_is)
  (case a_law_line=>refine' KL.FA.of ?a ?l ?c ?k;(case a=>k_is);(case l=>k_is);(case c=>k_is);case k=>k_is)
  (case a_law_whole=>refine' KL.FA.of ?a ?l ?c ?k;(case a=>k_is);(case l=>k_is);(case c=>k_is);case k=>k_is)
  (case a_law_is_word=>refine' KL.FA.of ?a ?l ?c ?k;(case a=>k_is);(case l=>k_is);(case c=>k_is);case k=>k_is)
  (case a_law_is_name=>refine' KL.FA.of ?a ?l ?c ?k;(case a=>k_is);(case l=>k_is);(case c=>k_is);case k=>k_is)
  (case a_law_is_deed=>refine' KL.FA.of ?a ?l ?c ?k;(case a=>k_is);(case l=>k_is);(case c=>k_is);case k=>k_is)
  (case a_law_is_answer=>refine' KL.FA.of ?a ?l ?c ?k;(case a=>k_is);(case l=>k_is);(case c=>k_is);case k=>k_is)
  (case a_law_is_some_answer=>refine' KL.FA.of ?a ?l ?c ?k;(case a=>k_is);(case l=>k_is);(case c=>k_is);case k=>k_is)
  (case a_law_is_row=>refine' KL.FA.of ?a ?l ?c ?k;(case a=>k_is);(case l=>k_is);(case c=>k_is);case k=>k_is)
  (case a_law_count=>refine' KL.FA.of ?a ?l ?c ?k;(case a=>k_is);(case l=>k_is);(case c=>k_is);case k=>k_is)
  (case a_law_parts=>refine' KL.FA.of ?a ?l ?c ?k;(case a=>k_is);(case l=>k_is);(case c=>k_is);case k=>k_is)
  (case a_law_read=>refine' KL.FA.of ?a ?l ?c ?k;(case a=>k_is);(case l=>k_is);(case c=>k_is);case k=>k_is)
  (case a_law_same=>refine' KL.FA.of ?a ?l ?c ?k;(case a=>k_is);(case l=>k_is);(case c=>k_is);case k=>k_is)
  (case a_law_mark=>refine' KL.FA.of ?a ?l ?c ?k;(case a=>k_is);(case l=>k_is);(case c=>k_is);case k=>k_is)
  (case a_law_bent=>refine' KL.FA.of ?a ?l ?c ?k;(case a=>k_is);(case l=>k_is);(case c=>k_is);case k=>k_is)
  (case a_law_told=>refine' KL.FA.of ?a ?l ?c ?k;(case a=>k_is);(case l=>k_is);(case c=>k_is);case k=>k_is)
  (case a_law=>k_is)
  (case l_law=>k_is)
  (case c_law=>k_is)
  (case k_law=>k_is)
  (case aC_DoorError=>k_is)
  (case aC_NoDeed=>k_is)
  (case aC_NoKey=>k_is)
  (case aC_Other=>k_is)
  (case aC_NoRow=>k_is)
  (case aC_NoAsk=>k_is)
  (case aC_NoJournal=>k_is)
  (case aC_Busy=>k_is)
  (case aC_NoName=>k_is)
  (case aC_Late=>k_is)
  (case aC_Down=>k_is)
  (case aC_Up=>k_is)
  (case aC_Unsafe=>k_is)
  (case aC_NoNumber=>k_is)
  (case aC_NoWay=>k_is)
  (case aC_NoLine=>k_is)
  (case aC_NoChange=>k_is)
  (case aC_NoHouse=>k_is)
  (case aC_NoRows=>k_is)
  (case x_exc=>k_exc)
  (case x_ga=>k_is)
  (case x_gx=>k_is)
  (case x_cl=>k_is)
  (case x_gg=>k_is)
  (case x_tk=>k_is)
  (case x_mo=>k_is)
  (case x_mb=>k_is)
  (case x_ci=>k_is)
  (case x_xm=>kts_exm)
  (case x_k_VE=>kit_is)
  (case x_k_NoDeed=>kit_is)
  (case x_k_NoKey=>kit_is)
  (case x_k_Other=>kit_is)
  (case x_k_NoRow=>kit_is)
  (case x_k_NoAsk=>kit_is)
  (case x_k_NoJournal=>kit_is)
  (case x_k_Busy=>kit_is)
  (case x_k_NoName=>kit_is)
  (case x_k_Late=>kit_is)
  (case x_k_Down=>kit_is)
  (case x_k_Up=>kit_is)
  (case x_k_Unsafe=>kit_is)
  (case x_k_NoNumber=>kit_is)
  (case x_k_NoWay=>kit_is)
  (case x_k_NoLine=>kit_is)
  (case x_k_NoChange=>kit_is)
  (case x_k_NoHouse=>kit_is)
  (case x_k_NoRows=>kit_is)
  (case x_dexc=>k_exc)
  (case x_dxm=>kts_exm)
  (case z_ValueError=>k_is)
  (case z_all=>k_is)
  (case z_any=>k_is)
  (case z_bool=>k_is)
  (case z_enumerate=>k_is)
  (case z_int=>k_is)
  (case z_isinstance=>k_is)
  (case z_len=>k_is)
  (case z_list=>k_is)
  (case z_max=>k_is)
  (case z_min=>k_is)
  (case z_range=>k_is)
  (case z_str=>k_is)
  (case z_tuple=>k_is)
  (case z_zip=>k_is)
  (case y_LETTERS=>k_is)
  (case y_FIGURES=>k_is)
  (case y_LONGEST_NAME=>k_is)
  (case y_LONGEST_KEY=>k_is)
  (case y_LONGEST_NUMBER=>k_is)
  (case y_MOST=>k_is)
  (case y_NAME_COUNTS=>k_is)
  (case l_NAME_COUNTS=>k_is)
  (case t_NAME_COUNTS=>repeat (first | exact True.intro | refine And.intro ⟨_,rfl⟩ (And.intro rfl (And.intro ⟨_,rfl⟩ ?_))))
  (case o_NAME_COUNTS=>decide)
  (case y_UNLIKE_WORDS=>k_is)
  (case l_UNLIKE_WORDS=>k_is)
  (case v_UNLIKE_WORDS=>repeat (first | exact .nil | refine .cons ⟨_,rfl⟩ ?_))
  (case y_PARTS=>k_is)
  (case l_PARTS=>k_is)
  (case t_PARTS=>repeat (first | exact True.intro | refine And.intro ⟨_,rfl⟩ (And.intro rfl (And.intro ⟨_,_,_,_,_,rfl,(by k_is),(by repeat (first | exact .nil | refine .cons ⟨_,rfl⟩ ?_))⟩ (And.intro Zd ?_)))))
  (case o_PARTS=>decide)
  (case y_BOUNDS=>k_is)
  (case l_BOUNDS=>k_is)
  (case t_BOUNDS=>repeat (first | exact True.intro | refine And.intro ⟨_,rfl⟩ (And.intro rfl (And.intro ⟨_,_,_,_,_,rfl,(by k_is),(by repeat (first | exact .nil | refine .cons ⟨_,rfl⟩ ?_))⟩ (And.intro Zd ?_)))))
  (case o_BOUNDS=>decide)
