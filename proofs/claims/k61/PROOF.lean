import PyProof.Rows.All
import KE.KDictOf
import KE.KItem
import KE.LcSums
import KE.KDictSum
import KE.RegKIsAll
import KE.IntTextLaws
import KE.RegKTryMore
import PySem.Challenge.RW_oncedoor_k61_asks_refused
set_option Elab.async false
set_option linter.all false
set_option maxRecDepth 100000
set_option maxHeartbeats 4000000
open List (mem_filter mem_range filterMap_cons mem_cons mem_append_left getElem?_set_self getElem?_set_ne mem_filterMap mem_append_right map_cons append_nil nodup_cons of_mem_zip replicate length length_drop map_nil all_cons any_cons find?_cons cons_append length_nil nodup_nil filter_cons lookup_cons drop_zero all_eq_true map_take getElem_mem map_map toArray mem_of_mem_take pairwise_cons le_trans nil_perm perm_nil getD_eq_getElem?_getD not_mem_nil filter all_map take_length map_set nodup_append mem_map_of_mem flatMap_cons mem_reverse)
open Nat (lt_of_lt_of_le lt_irrefl ne_of_lt le_of_lt ne_of_gt le_of_eq lt_succ_self zero_le le_succ lt_trans lt_succ_of_lt lt_trichotomy mod_lt)
def Zk{p:Prop}(h:p:=by decide +kernel):p:=h
def Zo{p:Prop}(h:p:=by omega):p:=h
def Zs{p:Prop}(h:p:=by simp):p:=h
def Zd{p:Prop}(h:p:=by decide):p:=h
def gZ:=@List.length_map
def fX:=@PySem.Heap.get?_push_of_some
def Zgs:=@List.getElem?_eq_some_iff
def kI:=@List.getElem?_eq_getElem
def sM:=@List.mem_cons_of_mem
def Zmm:=@List.mem_map
def mF:=@List.map_append
def wW:=@List.length_append
def jS:=@List.getElem?_map
def fO:=@Nat.le_trans
def sN:=@List.mem_cons_self
def eE:=@List.size_toArray
def oR:=@List.length_take
def Hc:=@List.take_of_length_le
def Zma:=@List.mem_append
def Zms:=@List.mem_singleton
def Bn:=@List.length_cons
def Hd:=@Nat.lt_of_le_of_lt
def bY:=@Nat.le_refl
def lN:=@List.mem_of_getElem?
namespace L2
open PySem PySem.Spec PyProof.Rows
abbrev bJ:=Sum Int Str
def jT:bJ->Value->Bool
 | .inl k,v=>Value.isInt k v
 | .inr x,v=>Value.isStrOf x v
def Uk(w:World):bJ->Int
 | .inl k=>hashInt k
 | .inr x=>hashStr w x
def bA:∀ {k:bJ}{v:Value},jT k v=true->(∃i t,k=Sum.inl i/\v=Value.int i t)∨(∃x t,k=Sum.inr x/\v=Value.str x t)
 | .inl i,v,h=>by
  obtain⟨t,e⟩:=Value.isInt_shape (k:=i) (v:=v) h;exact .inl ⟨i,t,rfl,e⟩
 | .inr x,v,h=>by
  obtain⟨t,e⟩:=Value.isStrOf_shape (x:=x) (v:=v) h;exact .inr ⟨x,t,rfl,e⟩
def zB(i:Int)(t:Tok):jT (.inl i) (.int i t)=true:=by simp[jT,Value.isInt]
def zC(x:Str)(t:Tok):jT (.inr x) (.str x t)=true:=by simp[jT,Value.isStrOf]
def Ly(a b:Int):decide ((Sum.inl a:bJ)=Sum.inl b)=(a==b):=by
 by_cases e:a=b
 ·subst e;simp
 ·have h:¬ (Sum.inl a:bJ)=Sum.inl b:=fun q=>e (Sum.inl.inj q)
  rw[decide_eq_false h];exact(beq_eq_false_iff_ne.mpr e).symm
def Lz(a b:Str):decide ((Sum.inr a:bJ)=Sum.inr b)=decide (a=b):=by
 by_cases e:a=b
 ·subst e;simp
 ·have h:¬ (Sum.inr a:bJ)=Sum.inr b:=fun q=>e (Sum.inr.inj q)
  rw[decide_eq_false h,decide_eq_false e]
def Ma(a:Int)(b:Str):decide ((Sum.inl a:bJ)=Sum.inr b)=false:=decide_eq_false (fun q=>nomatch q)
def Mb(a:Str)(b:Int):decide ((Sum.inr a:bJ)=Sum.inl b)=false:=decide_eq_false (fun q=>nomatch q)
def aW(prog:Program)(w:World):PySem.KeyKind prog w bJ where
 is:=jT
 hash:=Uk w
 inj:=fun v a b ha hb=>by
  rcases bA ha with⟨i,t,rfl,rfl⟩|⟨x,t,rfl,rfl⟩
  ·rcases bA hb with⟨j,u,rfl,e⟩|⟨y,u,rfl,e⟩
   ·injection e with e1 _;rw[e1]
   ·exact nomatch e
  ·rcases bA hb with⟨j,u,rfl,e⟩|⟨y,u,rfl,e⟩
   ·exact nomatch e
   ·injection e with e1 _;rw[e1]
 byValue:=fun k v h=>by
  rcases bA h with⟨i,t,rfl,rfl⟩|⟨x,t,rfl,rfl⟩<;>rfl
 pyHash:=fun hv h=>by
  rcases bA hv with⟨i,t,rfl,rfl⟩|⟨x,t,rfl,rfl⟩
  ·exact wpAny_pyHash_int h
  ·exact wpAny_pyHash_str h
 eqBool:=fun hu hv h=>by
  rcases bA hu with⟨i,t,rfl,rfl⟩|⟨x,t,rfl,rfl⟩
  ·rcases bA hv with⟨j,u,rfl,rfl⟩|⟨y,u,rfl,rfl⟩
   ·rw[Ly]at h;exact wpAny_eqBool_int h
   ·rw[Ma]at h;exact SeqAt.EqAt.int_str i t y u _ _ _ _ h
  ·rcases bA hv with⟨j,u,rfl,rfl⟩|⟨y,u,rfl,rfl⟩
   ·rw[Mb]at h;exact SeqAt.EqAt.str_int x t j u _ _ _ _ h
   ·rw[Lz]at h;exact wpAny_eqBool_str h
 «strs»:=fun k x t v h=>by
  rcases bA h with⟨i,u,rfl,e⟩|⟨y,u,rfl,e⟩
  ·exact nomatch e
  ·injection e with e1 _
   subst e1;cases v<;>rfl
def sO(prog:Program)(w:World)(i:Int)(t:Tok):(aW prog w).is (.inl i) (.int i t)=true:=zB i t
def sP(prog:Program)(w:World)(x:Str)(t:Tok):(aW prog w).is (.inr x) (.str x t)=true:=zC x t
inductive V where
 | non|bl (b:Bool)|int (i:Int)|str (x:Str)|byt (b:Array UInt8)|flt (b:UInt64)|ref (a:Addr)|ty (n:String)
 deriving DecidableEq
def RelV:V->Value->Prop
 | .non,u=>u=Value.none
 | .bl b,u=>u=Value.bool b
 | .int i,u=>∃t,u=Value.int i t
 | .str x,u=>∃t,u=Value.str x t
 | .byt b,u=>∃t,u=Value.bytes b t
 | .flt b,u=>∃t,u=Value.float b t
 | .ref a,u=>u=Value.ref a
 | .ty n,u=>u=Value.type n
abbrev Vals:List V->List Value->Prop:=Paired RelV
def Vals.length{xs:List V}{us:List Value}(r:Vals xs us):xs.length=us.length:=Paired.length r
def Vals.get:∀ {xs:List V}{us:List Value}{i:Nat}{x:V},Vals xs us->xs[i]?=some x->∃u,us[i]?=some u/\RelV x u
 | _,_,_,_,.nil,e=>by simp at e
 | _,_,0,_,.cons r _,e=>by simp at e;subst e;exact⟨_,rfl,r⟩
 | _,_,i+1,x,.cons _ t,e=>by
  obtain⟨u,h1,h2⟩:=Vals.get (i:=i) (x:=x) t (by simpa using e);exact⟨u,by simpa using h1,h2⟩
def Vals.set{x:V}{u:Value}(r:RelV x u):∀ {xs:List V}{us:List Value} (i:Nat),Vals xs us->Vals (xs.set i x) (us.set i u)
 | _,_,_,.nil=>.nil
 | _,_,0,.cons _ t=>.cons r t
 | _,_,i+1,.cons q t=>.cons q (Vals.set r i t)
def Vals.append:∀ {xs ys:List V}{us ws:List Value},Vals xs us->Vals ys ws->Vals (xs++ys) (us++ws)
 | _,_,_,_,.nil,s=>s
 | _,_,_,_,.cons r t,s=>.cons r (Vals.append t s)
def Vals.take:∀ {xs:List V}{us:List Value} (n:Nat),Vals xs us->Vals (xs.take n) (us.take n)
 | _,_,0,_=>.nil
 | _,_,_+1,.nil=>.nil
 | _,_,n+1,.cons r t=>.cons r (Vals.take n t)
def Vals.drop:∀ {xs:List V}{us:List Value} (n:Nat),Vals xs us->Vals (xs.drop n) (us.drop n)
 | _,_,0,r=>r
 | _,_,_+1,.nil=>.nil
 | _,_,n+1,.cons _ t=>Vals.drop n t
def RelO:Option V->Option Value->Prop
 | some v,some u=>RelV v u
 | none,none=>True
 | _,_=>False
def KV{κ:Type}:List (κ×V)->List (κ×Value)->Prop:=Paired fun(p:κ×V) (q:κ×Value)=>p.1=q.1/\RelV p.2 q.2
def kV:bJ->V
 | .inl i=>.int i
 | .inr x=>.str x
inductive HO where
 /-- a list -/
 | lst (xs:List V)
 /-- a tuple (never changes) -/
 | tup (xs:List V)
 /-- a dict whose keys are ints and texts;one whose keys are tuples of ints and texts (the empty one is both) -/
 | dK (kvs:List (bJ×V))|dT (kvs:List (List bJ×V))
 /-- a set of ints: its members,its size -/
 | set (S:Int->Bool) (n:Nat)
 /-- an instance of the class at C,its dict at dx,its attributes -/
 | ins (C dx:Addr) (fs:List (Str×V))
 /-- the dict of the instance at x -/
 | own (x:Addr)
 /-- the dict of an exception -/
 | xd (fs:List (Str×V))
 /-- a bound method,f of x -/
 | met (f x:Addr)
 /-- a range object lo,lo+1,.. below hi -/
 | rng (lo hi:Int)
 /-- a thing that is known to the object (the script;a dict while a loop walks it): read,never written while it is so -/
 | frz (o:Obj) (u:HO)
 /-- a code object's table -/
 | tbl (ps:Array Value)
 /-- any other thing,by what is true of its one object (a def of one's own: SetO a S n:=HO.ext fun h=>..) -/
 | ext (φ:Heap->Prop)
abbrev Hp:=Addr->Option HO
def aH(H:Hp)(a:Addr)(o:HO):Hp:=fun b=>if b=a then some o else H b
def aA{H:Hp}{a:Addr}{o:HO}:aH H a o a=some o:=by unfold aH;rw[if_pos rfl]
def aE{H:Hp}{a b:Addr}{o:HO}(h:b≠a):aH H a o b=H b:=by unfold aH;rw[if_neg h]
def fY{H:Hp}{a:Addr}{o u:HO}:aH (aH H a o) a u=aH H a u:=by
 funext b;unfold aH;split<;>rfl
def bF{H:Hp}{a b:Addr}{o u:HO}(h:H a=some o)(h':H b=some u)(d:o≠u):a≠b:=by
 intro e;subst e;rw[h]at h';exact d (Option.some.inj h')
def aB{H:Hp}{a b:Addr}{o:HO}(h:H a=some o)(h':H b=none):a≠b:=by
 intro e;subst e;rw[h]at h';cases h'
section
variable (P:Program) (w:World)
def ObjOk(H:Hp)(h:Heap)(a:Addr):HO->Prop
 | .lst xs=>xs.length<=sizeLine/\∃(its:List Value)(n:Nat),Vals xs its/\h.get? a=some {cls:=.type "list",data:=.seq its.toArray n }
 | .tup xs=>xs.length<=sizeLine/\∃its:List Value,Vals xs its/\IsTup h a its.toArray
 | .dK kvs=>kvs.length<=sizeLine/\(a==sysModules)=false/\∃vs,KV kvs vs/\h.DictOf (aW P w) a vs
 | .dT kvs=>kvs.length<=sizeLine/\(a==sysModules)=false/\∃xs:List (List bJ×Addr×Value),
   Paired (fun(p:List bJ×V) (q:List bJ×Addr×Value)=>p.1=q.1/\H q.2.1=some (.tup (p.1.map kV))/\RelV p.2 q.2.2) kvs xs ∧
   ∃o es ep,h.get? a=some o/\o.ExactDict/\o.data=.dict es ep/\es.toList=xs.map (entryOfKey (tupleKind (aW P w)))/\(xs.map (·.1)).Nodup
 | .set S n=>h.SetOf (intKind P w) a S n
 | .ins C dx fs=>H dx=some (.own a)/\fs.length<=1000/\dx≠a/\h.get? a=some (W.instObj C dx) ∧
   ∃mA,h.Ns1 dx mA/\(∀f,RelO (fs.lookup f) (mA f))/\PySem.Within mA (fs.map (·.1))
 | .own _=>∃o,h.get? a=some o
 | .xd fs=>∃mA,h.Ns1 a mA/\∀f,RelO (fs.lookup f) (mA f)
 | .rng lo hi=>∃t u v,h.get? a=some {cls:=.type "range",data:=.fields #[.int lo t,.int hi u,.int 1 v] }
 | .frz o u=>h.get? a=some o/\ObjOk H h a u
 | .tbl ps=>h.get? a=some {cls:=.none,data:=.fields ps }
 | .met f x=>h.get? a=some (W.methodObj (.ref f) (.ref x))
 | .ext φ=>φ h/\(∃o,h.get? a=some o)/\∀h1 h2:Heap,φ h1->(∀o,h1.get? a=some o->h2.get? a=some o)->φ h2
def HOk(H:Hp)(h:Heap):Prop:=∀a o,H a=some o->ObjOk P w H h a o
end
section
variable {P:Program}{w:World}{H H':Hp}{h h':Heap}{a:Addr}{o:HO}
def ObjOk.lt(x:ObjOk P w H h a o):a<h.objs.size:=by
 cases o with
 | lst xs=>obtain⟨_,_,_,_,e⟩:=x;exact Heap.lt_size e
 | tup xs=>obtain⟨_,_,_,p⟩:=x;exact p.lt
 | dK kvs=>obtain⟨_,_,_,_,o,_,_,e,_⟩:=x;exact Heap.lt_size e
 | dT kvs=>obtain⟨_,_,_,_,o,_,_,e,_⟩:=x;exact Heap.lt_size e
 | set S n=>obtain⟨o,_,_,_,e,_⟩:=x;exact Heap.lt_size e
 | ins C dx fs=>obtain⟨_,_,_,e,_⟩:=x;exact Heap.lt_size e
 | own y=>obtain⟨_,e⟩:=x;exact Heap.lt_size e
 | xd fs=>obtain⟨_,⟨_,_,_,e,_⟩,_⟩:=x;exact Heap.lt_size e
 | rng lo hi=>obtain⟨_,_,_,e⟩:=x;exact Heap.lt_size e
 | frz ob u=>obtain⟨e,_⟩:=x;exact Heap.lt_size e
 | tbl ps=>exact Heap.lt_size (show h.get? a=some _ from x)
 | met f y=>exact Heap.lt_size (show h.get? a=some _ from x)
 | ext φ=>obtain⟨_,⟨_,e⟩,_⟩:=x;exact Heap.lt_size e
def Paired.mapP{α β:Type}{F G:α->β->Prop}:∀ {l₁:List α}{l₂:List β},Paired F l₁ l₂->(∀a b,F a b->G a b)->Paired G l₁ l₂
 | _,_,.nil,_=>.nil
 | _,_,.cons r t,f=>.cons (f _ _ r) (Paired.mapP t f)
def ObjOk.stay(x:ObjOk P w H h a o)(k:∀b u,(b=a∨H b=some (.own a))->h.get? b=some u->h'.get? b=some u)(ho:∀b,H b=some (.own a)->H' b=some (.own a))(ht:∀b xs,H b=some (.tup xs)->H' b=some (.tup xs)):ObjOk P w H' h' a o:=by
 induction o with
 | lst xs=>obtain⟨z,its,n,r,e⟩:=x;exact⟨z,its,n,r,k _ _ (.inl rfl) e⟩
 | tup xs=>obtain⟨z,its,r,ob,e,c⟩:=x;exact⟨z,its,r,ob,k _ _ (.inl rfl) e,c⟩
 | dK kvs=>obtain⟨z,y,vs,r,ob,es,ep,e,c⟩:=x;exact⟨z,y,vs,r,ob,es,ep,k _ _ (.inl rfl) e,c⟩
 | dT kvs=>
  obtain⟨z,y,xs,r,ob,es,ep,e,c⟩:=x;exact⟨z,y,xs,Paired.mapP r fun p q z=>⟨z.1,ht _ _ z.2.1,z.2.2⟩,ob,es,ep,k _ _ (.inl rfl) e,c⟩
 | set S n=>obtain⟨ob,es,ep,t,e,c⟩:=x;exact⟨ob,es,ep,t,k _ _ (.inl rfl) e,c⟩
 | ins C dx fs=>
  obtain⟨d,z,ne,e,mA,⟨od,es,ep,e2,c⟩,r⟩:=x;exact⟨ho _ d,z,ne,k _ _ (.inl rfl) e,mA,⟨od,es,ep,k _ _ (.inr d) e2,c⟩,r⟩
 | own y=>obtain⟨ob,e⟩:=x;exact⟨ob,k _ _ (.inl rfl) e⟩
 | xd fs=>obtain⟨mA,⟨od,es,ep,e,c⟩,r⟩:=x;exact⟨mA,⟨od,es,ep,k _ _ (.inl rfl) e,c⟩,r⟩
 | rng lo hi=>obtain⟨t,u,v,e⟩:=x;exact⟨t,u,v,k _ _ (.inl rfl) e⟩
 | frz ob u ih=>obtain⟨e,q⟩:=x;exact⟨k _ _ (.inl rfl) e,ih q⟩
 | tbl ps=>
  have e:h.get? a=some {cls:=.none,data:=.fields ps }:=x;show h'.get? a=some {cls:=.none,data:=.fields ps };exact k a _ (.inl rfl) e
 | met f y=>
  have e:h.get? a=some (W.methodObj (.ref f) (.ref y)):=x;show h'.get? a=some (W.methodObj (.ref f) (.ref y));exact k a _ (.inl rfl) e
 | ext φ=>obtain⟨p,⟨o,e⟩,st⟩:=x;exact⟨st _ _ p fun o q=>k _ _ (.inl rfl) q,⟨o,k _ _ (.inl rfl) e⟩,st⟩
def HOk.lt(x:HOk P w H h)(e:H a=some o):a<h.objs.size:=(x a o e).lt
def HOk.fresh(x:HOk P w H h)(e:h.objs.size<=a):H a=none:=by
 cases q:H a with
 | none=>rfl
 | some u=>exact absurd (lt_of_lt_of_le (x.lt q) e) (lt_irrefl _)
def HOk.kept(x:HOk P w H h)(k:∀b u,h.get? b=some u->h'.get? b=some u):HOk P w H h':=fun a o e=>
 (x a o e).stay (fun b u _ q=>k b u q) (fun _ q=>q) fun _ _ q=>q
def HOk.laid(x:HOk P w H h)(k:∀b u,h.get? b=some u->h'.get? b=some u)(hp:h.objs.size<=a)(new:ObjOk P w (aH H a o) h' a o):HOk P w (aH H a o) h':=fun b u e=>by
 have hn:=x.fresh hp;by_cases hb:b=a
 ·subst hb;rw[aA]at e;cases e;exact new
 ·rw[aE hb]at e;exact(x b u e).stay (fun c v _ q=>k c v q) (fun c q=>by rw[aE (aB q hn)];exact q) fun c xs q=>by rw[aE (aB q hn)];exact q
end
def Rd(H:Hp)(a:Addr)(u:HO):Prop:=H a=some u∨∃o,H a=some (.frz o u)
def Rd.ok{P:Program}{w:World}{H:Hp}{h:Heap}{a:Addr}{u:HO}(r:Rd H a u)(x:HOk P w H h):ObjOk P w H h a u:=by
 rcases r with r|⟨o,r⟩
 ·exact x a u r
 ·obtain⟨_,q⟩:=x a _ r;exact q
def Qw:Option HO->Prop
 | some (.lst _)=>True
 | some (.dK _)=>True
 | some (.dT _)=>True
 | some (.set _ _)=>True
 | some (.ins _ _ _)=>True
 | some (.ext _)=>True
 | _=>False
section
variable {P:Program}{w:World}{H:Hp}{h h':Heap}{x e:Addr}{o':HO}
def HOk.write(ok:HOk P w H h)(mu:Qw (H x))(he:e=x∨H e=some (.own x))(k:∀b u,b≠e->h.get? b=some u->h'.get? b=some u)(OL:∃u,h'.get? e=some u)(new:ObjOk P w (aH H x o') h' x o'):HOk P w (aH H x o') h':=fun b u q=>by
 have PL:∀c y,H c=some (.own y)->c≠x:=fun c y r z=>by subst z;rw[r]at mu;exact mu
 have VU:∀c xs,H c=some (.tup xs)->c≠x:=fun c xs r z=>by subst z;rw[r]at mu;exact mu
 by_cases hb:b=x
 ·subst hb;rw[aA]at q;cases q;exact new
 ·rw[aE hb]at q;by_cases JL:b=e
  ·have q':H b=some (.own x):=by
    rcases he with z|z
    ·exact absurd (JL.trans z) hb
    ·rw[JL];exact z
   rw[q]at q';cases q';obtain⟨v,hv⟩:=OL;exact⟨v,by rw[JL];exact hv⟩
  ·refine(ok b u q).stay (fun c v hc r=>k c v ?_ r) (fun c r=>by rw[aE (PL c b r)];exact r) fun c xs r=>by rw[aE (VU c xs r)];exact r
   rcases hc with rfl|hc
   ·exact JL
   ·rintro rfl;rcases he with z|z
    ·exact PL c b hc z
    ·rw[hc]at z;cases z;exact hb rfl
end
structure Un(fs ex:List Addr)(H H':Hp)(h h':Heap):Prop where
 keep:∀b o,h.get? b=some o->H b=none->b∉fs->b∉ex->h'.get? b=some o
 slot:∀b o,h.get? b=some o->H b=none->b∈fs->b∉ex->∃sl,h'.get? b=some {o with slots:=sl }
 free:∀b o,h.get? b=some o->H b=none->b∉ex->H' b=none
 there:∀b o,h.get? b=some o->b∉ex->∃o',h'.get? b=some o'
 tups:∀b xs,H b=some (.tup xs)->H' b=some (.tup xs)
 frzs:∀b o u,H b=some (.frz o u)->H' b=some (.frz o u)
 tbls:∀b ps,H b=some (.tbl ps)->∃more,H' b=some (.tbl (ps++more))
section
variable {fs UD ex ex':List Addr}{H H1 H2:Hp}{h h1 h2 h':Heap}{a x e:Addr}{o:HO}
def Un.any(u:Un fs ex H H1 h h1){b:Addr}{ob:Obj}(q:h.get? b=some ob)(n:H b=none)(hx:b∉ex):∃sl,h1.get? b=some {ob with slots:=sl }:=by
 by_cases hb:b∈fs
 ·exact u.slot b ob q n hb hx
 ·exact⟨ob.slots,u.keep b ob q n hb hx⟩
def Un.kept(k:∀b u,h.get? b=some u->h'.get? b=some u):Un fs ex H H h h':=
 ⟨fun b ob q _ _ _=>k b ob q,fun b ob q _ _ _=>⟨ob.slots,k b ob q⟩,fun _ _ _ n _=>n,fun b ob q _=>⟨ob,k b ob q⟩,fun _ _ q=>q,fun _ _ _ q=>q,fun _ ps q=>⟨#[],by rw[q];simp⟩⟩
def Un.refl:Un fs ex H H h h:=Un.kept fun _ _ q=>q
def Un.laid(k:∀b u,h.get? b=some u->h'.get? b=some u)(hp:h.objs.size<=a)(hn:H a=none):Un fs ex H (aH H a o) h h' where
 keep:=fun b u q _ _ _=>k b u q
 slot:=fun b u q _ _ _=>⟨u.slots,k b u q⟩
 free:=fun b u q n _=>by rw[aE (ne_of_lt (lt_of_lt_of_le (Heap.lt_size q) hp))];exact n
 there:=fun b u q _=>⟨u,k b u q⟩
 tups:=fun b xs q=>by rw[aE (aB q hn)];exact q
 frzs:=fun b u xs q=>by rw[aE (aB q hn)];exact q
 tbls:=fun b ps q=>⟨#[],by rw[aE (aB q hn),q];simp⟩
def Un.write(mu:Qw (H x))(he:e=x∨H e=some (.own x))(k:∀b u,b≠e->h.get? b=some u->h'.get? b=some u)(OL:∃u,h'.get? e=some u):Un fs ex H (aH H x o) h h':=by
 have hx:∀b,H b=none->b≠x:=fun b n z=>by subst z;rw[n]at mu;exact mu
 have hb:∀b,H b=none->b≠e:=fun b n z=>by
  subst z;rcases he with r|r
  ·exact hx b n r
  ·rw[n]at r;cases r
 have hm:∀b u,H b=some u->¬ Qw (some u)->b≠x:=fun b u q nm z=>by subst z;rw[q]at mu;exact nm mu
 refine⟨fun b u q n _ _=>k b u (hb b n) q,fun b u q n _ _=>⟨u.slots,k b u (hb b n) q⟩,fun b u q n _=>by rw[aE (hx b n)];exact n,fun b u q _=>?_,
  fun b xs q=>by rw[aE (hm b _ q fun z=>z)];exact q,fun b u xs q=>by rw[aE (hm b _ q fun z=>z)];exact q,fun b ps q=>⟨#[],by rw[aE (hm b _ q fun z=>z),q];simp⟩⟩
 by_cases JL:b=e
 ·subst JL;exact OL
 ·exact⟨u,k b u JL q⟩
end
def Ub(h:Heap)(H:Hp):List Addr:=(List.range h.objs.size).filter fun a=>(H a).isSome
def qF(h:Heap)(H:Hp):Heap:=W.hideAll h (Ub h H)
def zD(h:Heap)(H:Hp):(qF h H).objs.size=h.objs.size:=W.hideAll_size _ _
def Br{h:Heap}{H:Hp}{b:Addr}{o:Obj}(e:h.get? b=some o)(n:H b=none):(qF h H).get? b=some o:=
 W.hideAll_get _ e fun hm=>by
  have q:(H b).isSome=true:=(mem_filter.mp hm).2;rw[n]at q;simp at q
def He{h:Heap}{H:Hp}{b:Addr}{o:Obj}(e:(qF h H).get? b=some o):h.get? b=some o/\H b=none:=by
 have e':h.get? b=some o:=W.of_hideAll (Ub h H) e;refine⟨e',?_⟩
 cases q:H b with
 | none=>rfl
 | some x=>
  have hm:b∈Ub h H:=mem_filter.mpr ⟨mem_range.mpr (Heap.lt_size e'),by simp[q]⟩;have z:(qF h H).get? b=none:=W.hideAll_none (Ub h H) hm;rw[z]at e;cases e
structure Mod(K:W.Frag)(mg:Str->Option Value)(base:Heap):Prop where
 kin:K.In base
 glob:base.Ns mainGlobals mg
 blt:∃mb,base.Ns builtinsNs mb/\∀x:Str,x≠"__name__"->mb x=bootBuiltins x
 nolimit:base.NoLimit
structure Cx where
 prog:Program
 w:World
 K:W.Frag
 mg:Str->Option Value
 base:Heap
 A:Around
 N:List Str
 s₀:Shared
 H₀:Hp
 env:Env
 outer:List Env
 stack:List Env
 ex:List Addr
 fn:Str->Bool
 calm:Bool
 pn:List (Addr×Obj)
 xe:Value->Shared->Prop
def gU(l:List Env):List Addr:=l.filterMap (·.frame)
abbrev Cx.fs(X:Cx):List Addr:=gU X.outer
def Qx(sc:Scope)(x:Str):Prop:=sc.names.lookup x=some .local∨sc.names.lookup x=some .cell∨sc.names.lookup x=some .free
def Bo(sc:Scope)(x:Str):Prop:=sc.names.lookup x=some .local∨sc.names.lookup x=some .cell
def Ul(env:Env)(h:Heap)(m:Str->Option Value)(x:Str)(u:Value):Prop:=
 (env.kindOf x=some .local/\m x=some u)∨((env.kindOf x=some .cell∨env.kindOf x=some .free)/\∃c,env.cells.lookup x=some c/\h.IsCell c (some u))
structure Cx.Ok(X:Cx):Prop where
 mod:Mod X.K X.mg X.base
 kind:X.env.scope.kind=.function
 glob:X.env.globals=mainGlobals
 blt:X.env.builtins=builtinsNs
 above:X.s₀.heap.objs.size<=X.env.locals
 inj:∀x y c,X.env.cells.lookup x=some c->X.env.cells.lookup y=some c->x=y
 has:∀x,(X.env.kindOf x=some .cell∨X.env.kindOf x=some .free)->∃c,X.env.cells.lookup x=some c
 cab:∀x c,X.fn x=true->X.env.cells.lookup x=some c->X.s₀.heap.objs.size<=c
 hd:X.calm=true->X.A.handled=none
 frames:X.A.frames=some X.stack
 stk:X.stack=X.outer∨(X.stack=X.env::X.outer/\X.env.frame=some X.env.locals)
 exf:∀b∈X.ex,b≠X.env.locals/\∀x c,X.env.cells.lookup x=some c->c≠b
 bs:∀b o,X.base.get? b=some o->X.s₀.heap.get? b=some o/\X.H₀ b=none
 bsz:X.base.objs.size<=X.s₀.heap.objs.size
 noex:∀b o,X.base.get? b=some o->b∉X.ex
 exfs:∀b∈X.ex,b∉X.fs
 funs:X.s₀.heap.FunFrames X.base X.outer
 frf:∀b∈X.fs,X.H₀ b=none
structure Inv(X:Cx)(pins:List (Addr×Obj))(σ:List (Option V))(H:Hp)(s:Shared):Prop where
 ok:X.Ok
 os:s.os=X.s₀.os
 bare:AllBare s.gens
 base:Un X.fs X.ex X.H₀ H X.s₀.heap s.heap
 loc:∃m,s.heap.Ns X.env.locals m/\∀(i:Nat)(x:Str)(v:V),X.N[i]?=some x->σ[i]?=some (some v)->Qx X.env.scope x->∃u,RelV v u/\Ul X.env s.heap m x u
 cell:∀x c,X.env.cells.lookup x=some c->∃v,s.heap.IsCell c v
 free:H X.env.locals=none
 freeC:∀x c,X.env.cells.lookup x=some c->H c=none
 pin:∀p∈X.pn++pins,s.heap.get? p.1=some p.2/\H p.1=none/\p.1≠X.env.locals/\p.1∉X.fs/\∀v,p.2.data≠.cell v
 hok:HOk X.prog X.w H s.heap
 len:σ.length=X.N.length
section
variable {X:Cx}{pins:List (Addr×Obj)}{σ:List (Option V)}{H H':Hp}{s:Shared}{h':Heap}
def Cx.Ok.nofr(ok:X.Ok){b:Addr}{o:Obj}(e:X.base.get? b=some o):b∉X.fs:=fun hb=>by
 have:=(ok.funs.mem hb).1;rw[e]at this;cases this
def Inv.bs(I:Inv X pins σ H s):∀b o,X.base.get? b=some o->s.heap.get? b=some o/\H b=none:=fun b o e=>
 ⟨I.base.keep b o (I.ok.bs b o e).1 (I.ok.bs b o e).2 (I.ok.nofr e) (I.ok.noex b o e),I.base.free b o (I.ok.bs b o e).1 (I.ok.bs b o e).2 (I.ok.noex b o e)⟩
def Inv.bk(I:Inv X pins σ H s):∀b o,X.base.get? b=some o->s.heap.get? b=some o:=fun b o e=>(I.bs b o e).1
def Inv.mod(I:Inv X pins σ H s):Mod X.K X.mg X.base:=I.ok.mod
def Inv.kIn(I:Inv X pins σ H s):X.K.In s.heap:=I.ok.mod.kin.keeps I.bk
def Inv.fr(I:Inv X pins σ H s):∃m,Fr X.base X.env.locals s.heap m:=
 let ⟨m,hn,_⟩:=I.loc
 ⟨m,hn,I.bk,fO I.ok.bsz I.ok.above⟩
def Inv.lt(I:Inv X pins σ H s):X.env.locals<s.heap.objs.size:=let ⟨_,hn,_⟩:=I.loc;hn.lt
def Inv.sz(I:Inv X pins σ H s):X.s₀.heap.objs.size<=s.heap.objs.size:=fO I.ok.above (le_of_lt I.lt)
def Inv.nofs(I:Inv X pins σ H s){a:Addr}(h:s.heap.objs.size<=a):a∉X.fs:=fun hb=>by
 obtain⟨_,o,ho,_⟩:=I.ok.funs.mem hb;exact absurd (lt_of_lt_of_le (Heap.lt_size ho) (fO I.sz h)) (lt_irrefl _)
def Inv.cne(I:Inv X pins σ H s):∀x c,X.env.cells.lookup x=some c->c≠X.env.locals:=fun x c e z=>by
 obtain⟨v,o,ho,hd⟩:=I.cell x c e;obtain⟨m,⟨o',es,ep,og,LY,_⟩,_⟩:=I.loc;rw[z,og]at ho;cases ho;rw[LY]at hd;cases hd
def Inv.funs(I:Inv X pins σ H s):s.heap.FunFrames X.base X.outer:=by
 have all:∀(l:List Env),(∀b∈gU l,b∈X.fs)->X.s₀.heap.FunFrames X.base l->s.heap.FunFrames X.base l:=by
  intro l;induction l with
  | nil=>intro _ _;trivial
  | cons env r ih=>
   intro hs hl;obtain⟨hk,⟨L,o,hf,hn,ho,hd⟩,hr⟩:=hl;have hL:L∈X.fs:=hs L (by unfold gU;rw[filterMap_cons,hf];exact sN);obtain⟨sl,e⟩:=I.base.slot L o ho (I.ok.frf L hL) hL fun z=>I.ok.exfs L z hL
   exact⟨hk,⟨L,_,hf,hn,e,hd⟩,ih (fun b hb=>hs b (by unfold gU;rw[filterMap_cons,hf];exact sM _ hb)) hr⟩
 exact all X.outer (fun _ hb=>hb) I.ok.funs
def Inv.stack(I:Inv X pins σ H s):s.heap.FunFrames X.base X.stack:=by
 rcases I.ok.stk with e|⟨e,hf⟩
 ·rw[e];exact I.funs
 ·rw[e];obtain⟨m,hn,_⟩:=I.loc;refine .cons (by rw[I.ok.kind];decide) hf hn ?_ I.funs;exact Heap.get?_none_of_le (fO I.ok.bsz I.ok.above)
def Inv.stkSub(I:Inv X pins σ H s):∀b∈gU X.stack,b∈X.env.locals::X.fs:=fun b hb=>by
 rcases I.ok.stk with e|⟨e,hf⟩
 ·rw[e]at hb;exact sM _ hb
 ·rw[e]at hb;unfold gU at hb;rw[filterMap_cons,hf]at hb;exact hb
def Inv.stkFree(I:Inv X pins σ H s):∀b∈gU X.stack,H b=none:=fun b hb=>by
 rcases mem_cons.mp (I.stkSub b hb) with e|hb
 ·rw[e];exact I.free
 ·obtain⟨_,o,ho,_⟩:=I.ok.funs.mem hb;exact I.base.free b o ho (I.ok.frf b hb) fun z=>I.ok.exfs b z hb
def Inv.step{g':Array GenState}{t':Nat}{d':Drawn}{ch:List Addr}(I:Inv X pins σ H s)(IY:∀b∈ch,(b∈X.ex∨X.s₀.heap.objs.size<=b)/\b≠X.env.locals/\(∀x c,X.env.cells.lookup x=some c->c≠b)/\∀p∈X.pn++pins,p.1≠b)(keep:∀b o,b≠X.env.locals->b∉X.fs->b∉ch->s.heap.get? b=some o->H b=none->h'.get? b=some o)(slot:∀b o,b≠X.env.locals->b∈X.fs->b∉ch->s.heap.get? b=some o->H b=none->∃sl,h'.get? b=some {o with slots:=sl })(free:∀b o,b∉ch->s.heap.get? b=some o->H b=none->H' b=none)(there:∀b o,b∉ch->s.heap.get? b=some o->∃o',h'.get? b=some o')(tups:∀b xs,H b=some (.tup xs)->H' b=some (.tup xs))(frzs:∀b o u,H b=some (.frz o u)->H' b=some (.frz o u))(tbls:∀b ps,H b=some (.tbl ps)->∃more,H' b=some (.tbl (ps++more)))(ns:∀m,s.heap.Ns X.env.locals m->h'.Ns X.env.locals m)(hok:HOk X.prog X.w H' h')(hg:AllBare g') :
  Inv X pins σ H' {s with heap:=h',gens:=g',drawn:=d',toks:=t' }:=by
 have YH:∀b o,X.s₀.heap.get? b=some o->b≠X.env.locals:=fun b o e=>ne_of_lt (lt_of_lt_of_le (Heap.lt_size e) I.ok.above)
 have UE:∀b o,X.s₀.heap.get? b=some o->b∉X.ex->b∉ch:=fun b o e hx hb=>by
  rcases(IY b hb).1 with z|z
  ·exact hx z
  ·exact absurd (lt_of_lt_of_le (Heap.lt_size e) z) (lt_irrefl _)
 have cellK:∀x c,X.env.cells.lookup x=some c->∀v,s.heap.IsCell c v->h'.IsCell c v:=fun x c e v ⟨o,ho,hd⟩=>by
  have GJ:c∉ch:=fun z=>(IY c z).2.2.1 x c e rfl
  by_cases hc:c∈X.fs
  ·obtain⟨sl,q⟩:=slot c o (I.cne x c e) hc GJ ho (I.freeC x c e);exact⟨_,q,hd⟩
  ·exact⟨o,keep c o (I.cne x c e) hc GJ ho (I.freeC x c e),hd⟩
 refine⟨I.ok,I.os,hg,⟨fun b o e n hb hx=>?_,fun b o e n hb hx=>?_,fun b o e n hx=>?_,fun b o e hx=>?_,fun b xs e=>tups b xs (I.base.tups b xs e),fun b o xs e=>frzs b o xs (I.base.frzs b o xs e),fun b ps e=>?_⟩,?_,fun x c e=>?_,?_,fun x c e=>?_,fun p hp=>?_,hok,I.len⟩
 ·exact keep b o (YH b o e) hb (UE b o e hx) (I.base.keep b o e n hb hx) (I.base.free b o e n hx)
 ·obtain⟨sl,e1⟩:=I.base.slot b o e n hb hx;obtain⟨VV,e2⟩:=slot b _ (YH b o e) hb (UE b o e hx) e1 (I.base.free b o e n hx);exact⟨VV,e2⟩
 ·obtain⟨o',e1⟩:=I.base.there b o e hx;exact free b o' (UE b o e hx) e1 (I.base.free b o e n hx)
 ·obtain⟨o',e1⟩:=I.base.there b o e hx;exact there b o' (UE b o e hx) e1
 ·obtain⟨m1,e1⟩:=I.base.tbls b ps e;obtain⟨m2,e2⟩:=tbls b _ e1;exact⟨m1++m2,by rw[e2,Array.append_assoc]⟩
 ·obtain⟨m,hn,hl⟩:=I.loc;refine⟨m,ns m hn,fun i x v e1 e2 e3=>?_⟩;obtain⟨u,r,l⟩:=hl i x v e1 e2 e3;refine⟨u,r,?_⟩;rcases l with l|⟨k,c,e,z⟩
  ·exact .inl l
  ·exact .inr ⟨k,c,e,cellK x c e _ z⟩
 ·obtain⟨v,z⟩:=I.cell x c e;exact⟨v,cellK x c e v z⟩
 ·obtain⟨m,⟨o,_,_,ho,_⟩,_⟩:=I.loc;exact free _ o (fun z=>(IY _ z).2.1 rfl) ho I.free
 ·obtain⟨v,o,ho,hd⟩:=I.cell x c e;exact free c o (fun z=>(IY c z).2.2.1 x c e rfl) ho (I.freeC x c e)
 ·obtain⟨e,n,ne,nf,d⟩:=I.pin p hp;have GJ:p.1∉ch:=fun z=>(IY p.1 z).2.2.2 p hp rfl
  exact⟨keep p.1 p.2 ne nf GJ e n,free p.1 p.2 GJ e n,ne,nf,d⟩
def Inv.un{t':Nat}(I:Inv X pins σ H s)(u:Un X.fs [] H H' s.heap h')(hok:HOk X.prog X.w H' h'):Inv X pins σ H' {s with heap:=h',toks:=t' }:=by
 obtain⟨m,⟨o,es,ep,ho,r⟩,_⟩:=id I.loc;obtain⟨sl,hL⟩:=u.any ho I.free Zs;exact I.step (g':=s.gens) (d':=s.drawn) (ch:=[]) (fun _ z=>nomatch z) (fun b o _ hb _ e n=>u.keep b o e n hb Zs) (fun b o _ hb _ e n=>u.slot b o e n hb Zs) (fun b o _ e n=>u.free b o e n Zs) (fun b o _ e=>u.there b o e Zs) u.tups u.frzs u.tbls (fun m' hm=>by
  obtain⟨o',OM,MB,og,r'⟩:=hm;rw[ho]at og;cases og;exact⟨_,OM,MB,hL,r'⟩) hok I.bare
def Inv.call{g':Array GenState}{t':Nat}{d':Drawn}{ch:List Addr}(I:Inv X pins σ H s)(u:Un (gU X.stack) ch H H' s.heap h')(hok:HOk X.prog X.w H' h')(hg:AllBare g')(IY:∀b∈ch,(b∈X.ex∨X.s₀.heap.objs.size<=b)/\b≠X.env.locals/\(∀x c,X.env.cells.lookup x=some c->c≠b)/\∀p∈X.pn++pins,p.1≠b) :
  Inv X pins σ H' {s with heap:=h',gens:=g',drawn:=d',toks:=t' }:=by
 obtain⟨m,⟨o,es,ep,ho,r⟩,_⟩:=id I.loc;obtain⟨sl,hL⟩:=u.any ho I.free fun z=>(IY _ z).2.1 rfl
 exact I.step (ch:=ch) IY (fun b o hL hb hc e n=>u.keep b o e n (fun z=>(mem_cons.mp (I.stkSub b z)).elim hL hb) hc) (fun b o _ _ hc e n=>u.any e n hc) (fun b o hc e n=>u.free b o e n hc) (fun b o hc e=>u.there b o e hc) u.tups u.frzs u.tbls (fun m' hm=>by
  obtain⟨o',OM,MB,og,r'⟩:=hm;rw[ho]at og;cases og;exact⟨_,OM,MB,hL,r'⟩) hok hg
def Inv.turned{t':Nat}{it:Addr}(I:Inv X pins σ H s)(k:∀b o,b≠it->s.heap.get? b=some o->h'.get? b=some o)(hn:H it=none)(hL:it≠X.env.locals)(h1:it∈X.ex∨X.s₀.heap.objs.size<=it)(h2:∀x c,X.env.cells.lookup x=some c->c≠it)(h3:∀p∈X.pn++pins,p.1≠it):Inv X pins σ H {s with heap:=h',toks:=t' }:=by
 have YI:∀b u,H b=some u->b≠it:=fun b u e z=>by rw[z,hn]at e;cases e
 refine I.step (g':=s.gens) (d':=s.drawn) (ch:=[it]) (fun b hb=>?_) (fun b o _ _ hc e _=>k b o (fun z=>hc (by simp[z])) e) (fun b o _ _ hc e _=>⟨o.slots,k b o (fun z=>hc (by simp[z])) e⟩) (fun _ _ _ _ n=>n)
  (fun b o hc e=>⟨o,k b o (fun z=>hc (by simp[z])) e⟩) (fun _ _ e=>e) (fun _ _ _ e=>e) (fun b ps e=>⟨#[],by rw[e];simp⟩) (fun m hm=>?_) (fun b u e=>?_) I.bare
 ·have e:b=it:=by simpa using hb
  subst e;exact⟨h1,hL,h2,h3⟩
 ·obtain⟨o,es,ep,ho,r⟩:=hm;exact⟨o,es,ep,k _ o (Ne.symm hL) ho,r⟩
 ·refine(I.hok b u e).stay (fun c v hc q=>k c v ?_ q) (fun _ q=>q) fun _ _ q=>q;rcases hc with z|z
  ·rw[z];exact YI b u e
  ·exact YI c _ z
def Inv.tok(I:Inv X pins σ H s)(t:Nat):Inv X pins σ H {s with toks:=t }:=I.un (h':=s.heap) (t':=t) Un.refl I.hok
def Inv.kept{t':Nat}(I:Inv X pins σ H s)(k:∀b u,s.heap.get? b=some u->h'.get? b=some u):Inv X pins σ H {s with heap:=h',toks:=t' }:=I.un (Un.kept k) (I.hok.kept k)
def Inv.laid{a:Addr}{o:HO}{t':Nat}(I:Inv X pins σ H s)(k:∀b u,s.heap.get? b=some u->h'.get? b=some u)(hp:s.heap.objs.size<=a)(new:ObjOk X.prog X.w (aH H a o) h' a o) :
  Inv X pins σ (aH H a o) {s with heap:=h',toks:=t' }:=I.un (Un.laid k hp (I.hok.fresh hp)) (I.hok.laid k hp new)
def Inv.write{x e:Addr}{o:HO}{t':Nat}(I:Inv X pins σ H s)(mu:Qw (H x))(he:e=x∨H e=some (.own x))(k:∀b u,b≠e->s.heap.get? b=some u->h'.get? b=some u)(OL:∃u,h'.get? e=some u)(new:ObjOk X.prog X.w (aH H x o) h' x o):Inv X pins σ (aH H x o) {s with heap:=h',toks:=t' }:=I.un (Un.write mu he k OL) (I.hok.write mu he k OL new)
def Inv.weak{σ':List (Option V)}(I:Inv X pins σ H s)(hl:σ'.length=σ.length)(w:∀(i:Nat) v,σ'[i]?=some (some v)->σ[i]?=some (some v)):Inv X pins σ' H s:=
 ⟨I.ok,I.os,I.bare,I.base,let ⟨m,hn,MC⟩:=I.loc;⟨m,hn,fun i x v e1 e2 e3=>MC i x v e1 (w i v e2) e3⟩,I.cell,I.free,I.freeC,I.pin,I.hok,hl.trans I.len⟩
def Inv.pins_of{LA:List (Addr×Obj)}(I:Inv X pins σ H s)(h:∀p∈LA,s.heap.get? p.1=some p.2/\H p.1=none/\p.1≠X.env.locals/\p.1∉X.fs/\∀v,p.2.data≠.cell v):Inv X LA σ H s:=
 ⟨I.ok,I.os,I.bare,I.base,I.loc,I.cell,I.free,I.freeC,fun p hp=>(Zma.mp hp).elim (fun z=>I.pin p (mem_append_left _ z)) (h p),I.hok,I.len⟩
def mG{N:List Str}(hN:N.Nodup){i j:Nat}{x:Str}(a:N[i]?=some x)(b:N[j]?=some x):i=j:=by
 obtain⟨h1,e1⟩:=Zgs.mp a;obtain⟨h2,e2⟩:=Zgs.mp b;exact(List.getElem_inj hN).mp (e1.trans e2.symm)
def oS{M:Model}{A:Around}{E:Value->Shared->Prop}{i:Nat}{x:Str}{v:V}{u:Value}{Q:Unit->Shared->Prop}(I:Inv X pins σ H s)(hN:X.N.Nodup)(hi:X.N[i]?=some x)(hx:Bo X.env.scope x)(r:RelV v u)(h:∀s',Inv X pins (σ.set i (some v)) H s'->(∃a,Heap.SameBut a s.heap s'.heap/\(a=X.env.locals∨X.env.cells.lookup x=some a))->Q () s')(hf:X.fn x=true∨X.env.scope.names.lookup x=some .local:=by first|exact .inl rfl|exact .inr rfl|assumption):wpAny M A (storeName X.env x u) Q E s:=by
 obtain⟨m,hn,hl⟩:=id I.loc;have GK:(X.env.scope.kind == .class||(X.env.scope.kind == .module&&X.env.locals != X.env.globals))=false:=by rw[I.ok.kind];rfl
 have PM:i<σ.length:=by rw[I.len];exact(Zgs.mp hi).1
 have cne:=I.cne;have tracked:∀ {a:Addr}{h':Heap},(∃o,s.heap.get? a=some o/\H a=none)->Heap.SameBut a s.heap h'->HOk X.prog X.w H h':=fun {a h'} ha hs b ob e=>by
  obtain⟨_,_,oq⟩:=ha;refine(I.hok b ob e).stay (fun c w' hc q=>(hs.2 c ?_).trans q) (fun _ q=>q) fun _ _ q=>q;rintro rfl;rcases hc with rfl|hc
  ·rw[oq]at e;cases e
  ·rw[oq]at hc;cases hc
 rcases hx with hk|hk
 ·refine wpAny_storeName_local hk hn (fun h' MD hs=>?_) GK;obtain⟨oL,_,_,YJ,_⟩:=id hn;refine h _ ⟨I.ok,I.os,I.bare,⟨fun b o e n hb hx=>?_,fun b o e n hb hx=>?_,I.base.free,fun b o e hx=>?_,I.base.tups,I.base.frzs,I.base.tbls⟩,⟨_,MD,fun j y v' e1 e2 e3=>?_⟩,fun y c e=>?_,I.free,I.freeC,fun p hp=>?_,tracked ⟨oL,YJ,I.free⟩ hs,by simpa using I.len⟩ ⟨_,hs,.inl rfl⟩
  ·exact(hs.2 b (ne_of_lt (lt_of_lt_of_le (Heap.lt_size e) I.ok.above))).trans (I.base.keep b o e n hb hx)
  ·obtain⟨sl,e1⟩:=I.base.slot b o e n hb hx;exact⟨sl,(hs.2 b (ne_of_lt (lt_of_lt_of_le (Heap.lt_size e) I.ok.above))).trans e1⟩
  ·obtain⟨o',e1⟩:=I.base.there b o e hx;exact⟨o',(hs.2 b (ne_of_lt (lt_of_lt_of_le (Heap.lt_size e) I.ok.above))).trans e1⟩
  ·by_cases hj:j=i
   ·subst hj;rw[hi]at e1;cases e1;rw[getElem?_set_self PM]at e2;cases e2;exact⟨u,r,.inl ⟨hk,Zs⟩⟩
   ·rw[getElem?_set_ne (Ne.symm hj)]at e2;obtain⟨u',r',q⟩:=hl j y v' e1 e2 e3;refine⟨u',r',?_⟩;rcases q with⟨k,e⟩|⟨k,c,e,z⟩
    ·refine .inl ⟨k,?_⟩;have:y≠x:=fun e=>hj (mG hN e1 (e▸hi))
     simp[this,e]
    ·exact .inr ⟨k,c,e,z.sameBut hs (cne y c e)⟩
  ·obtain⟨w',z⟩:=I.cell y c e;exact⟨w',z.sameBut hs (cne y c e)⟩
  ·obtain⟨e,n,ne,nf,d⟩:=I.pin p hp;exact⟨(hs.2 p.1 ne).trans e,n,ne,nf,d⟩
 ·have xy:X.fn x=true:=by
   rcases hf with z|z
   ·exact z
   ·rw[z]at hk;cases hk
  obtain⟨c,hc⟩:=I.ok.has x (.inl hk);obtain⟨w',z⟩:=I.cell x c hc;refine wpAny_storeName_cell I.ok.kind hk hc z (fun h' GD hs=>?_);obtain⟨oc,ON,VW⟩:=id z;refine h {s with heap:=h' } ⟨I.ok,I.os,I.bare,⟨fun b o e n hb hx=>?_,fun b o e n hb hx=>?_,I.base.free,fun b o e hx=>?_,I.base.tups,I.base.frzs,I.base.tbls⟩,⟨m,hn.sameBut hs (Ne.symm (cne x c hc)),fun j y v' e1 e2 e3=>?_⟩,fun y c' e=>?_,I.free,I.freeC,fun p hp=>?_,tracked ⟨oc,ON,I.freeC x c hc⟩ hs,by simpa using I.len⟩ ⟨c,hs,.inr hc⟩
  ·exact(hs.2 b (ne_of_lt (lt_of_lt_of_le (Heap.lt_size e) (I.ok.cab x c xy hc)))).trans (I.base.keep b o e n hb hx)
  ·obtain⟨sl,e1⟩:=I.base.slot b o e n hb hx;exact⟨sl,(hs.2 b (ne_of_lt (lt_of_lt_of_le (Heap.lt_size e) (I.ok.cab x c xy hc)))).trans e1⟩
  ·obtain⟨o',e1⟩:=I.base.there b o e hx;exact⟨o',(hs.2 b (ne_of_lt (lt_of_lt_of_le (Heap.lt_size e) (I.ok.cab x c xy hc)))).trans e1⟩
  ·by_cases hj:j=i
   ·subst hj;rw[hi]at e1;cases e1;rw[getElem?_set_self PM]at e2;cases e2;exact⟨u,r,.inr ⟨.inl hk,c,hc,GD⟩⟩
   ·rw[getElem?_set_ne (Ne.symm hj)]at e2;obtain⟨u',r',q⟩:=hl j y v' e1 e2 e3;refine⟨u',r',?_⟩;rcases q with q|⟨k,c',e,z'⟩
    ·exact .inl q
    ·refine .inr ⟨k,c',e,z'.sameBut hs ?_⟩;rintro rfl;exact hj (mG hN e1 (I.ok.inj _ _ _ e hc▸hi))
  ·by_cases YK:c'=c
   ·subst YK;exact⟨_,GD⟩
   ·obtain⟨w2,z2⟩:=I.cell y c' e;exact⟨w2,z2.sameBut hs YK⟩
  ·obtain⟨e,n,ne,nf,d⟩:=I.pin p hp;refine⟨(hs.2 p.1 ?_).trans e,n,ne,nf,d⟩;intro q;rw[q,ON]at e;have q':oc=p.2:=Option.some.inj e;exact d w' (by rw[<- q'];exact VW)
def fP{M:Model}{A:Around}{E:Value->Shared->Prop}{i:Nat}{x:Str}{v:V}{u:Value}{Q:Unit->Shared->Prop}(I:Inv X pins σ H s)(hN:X.N.Nodup)(hi:X.N[i]?=some x)(hx:Bo X.env.scope x)(r:RelV v u)(h:∀s',Inv X pins (σ.set i (some v)) H s'->Q () s')(hf:X.fn x=true∨X.env.scope.names.lookup x=some .local:=by first|exact .inl rfl|exact .inr rfl|assumption):wpAny M A (storeName X.env x u) Q E s:=
 oS I hN hi hx r (fun s' I' _=>h s' I') hf
def Inv.call'{s':Shared}{ch:List Addr}(I:Inv X pins σ H s)(ho:s'.os=s.os)(u:Un (gU X.stack) ch H H' s.heap s'.heap)(hok:HOk X.prog X.w H' s'.heap)(hg:AllBare s'.gens)(IY:∀b∈ch,(b∈X.ex∨X.s₀.heap.objs.size<=b)/\b≠X.env.locals/\(∀x c,X.env.cells.lookup x=some c->c≠b)/\∀p∈X.pn++pins,p.1≠b):Inv X pins σ H' s':=by
 obtain⟨h',g',d',t',o'⟩:=s';have e:o'=s.os:=ho;subst e;exact I.call (g':=g') (t':=t') (d':=d') u hok hg IY
end
abbrev XK:=Value->Option Addr->Hp->Prop
abbrev St:=List (Option V)
abbrev VK:=V->Hp->Prop
abbrev TE:=St->Hp->VK->Prop
abbrev TT:=St->Hp->(Bool->Hp->Prop)->Prop
abbrev TA:=St->Hp->(List V->Hp->Prop)->Prop
structure iX where
 nx:St->Hp->Prop
 rt:VK
 bk:St->Hp->Prop:=fun _ _=>False
 ct:St->Hp->Prop:=fun _ _=>False
abbrev TS:=iX->St->Hp->Prop
def EP(X:Cx)(pins:List (Addr×Obj))(σ:St)(Q:VK)(u:Value)(s':Shared):Prop:=∃v H',Inv X pins σ H' s'/\RelV v u/\Q v H'
def TP(X:Cx)(pins:List (Addr×Obj))(σ:St)(Q:Bool->Hp->Prop)(b:Bool)(s':Shared):Prop:=∃H',Inv X pins σ H' s'/\Q b H'
def AP(X:Cx)(pins:List (Addr×Obj))(σ:St)(Q:List V->Hp->Prop)(us:List Value)(s':Shared):Prop:=∃vs H',Inv X pins σ H' s'/\Vals vs us/\Q vs H'
def SP(X:Cx)(pins:List (Addr×Obj))(D:iX)(f:Flow)(s':Shared):Prop:=
 match f with
 | .next=>∃ σ' H',Inv X pins σ' H' s'/\D.nx σ' H'
 | .brk=>∃ σ' H',Inv X pins σ' H' s'/\D.bk σ' H'
 | .cont=>∃ σ' H',Inv X pins σ' H' s'/\D.ct σ' H'
 | .ret u=>∃v σ' H',Inv X pins σ' H' s'/\RelV v u/\D.rt v H'
def PE(X:Cx)(e:Expr)(t:TE):Prop:=
 ∀(pins:List (Addr×Obj))(s:Shared)(σ:St)(H:Hp)(Q:VK),Inv X pins σ H s->t σ H Q->wpAny (model X.prog X.w) X.A (eval e X.env) (EP X pins σ Q) X.xe s
def PT(X:Cx)(e:Expr)(t:TT):Prop:=
 ∀(pins:List (Addr×Obj))(s:Shared)(σ:St)(H:Hp)(Q:Bool->Hp->Prop),Inv X pins σ H s->t σ H Q->wpAny (model X.prog X.w) X.A (isTrue e X.env (eval e X.env)) (TP X pins σ Q) X.xe s
def PW(X:Cx)(e:Expr)(t:TT):Prop:=
 ∀(whole:Sem Value)(pins:List (Addr×Obj))(s:Shared)(σ:St)(H:Hp)(Q:Bool->Hp->Prop),Inv X pins σ H s->t σ H Q->wpAny (model X.prog X.w) X.A (isTrue e X.env whole) (TP X pins σ Q) X.xe s
def PW.pt{X:Cx}{e:Expr}{t:TT}(h:PW X e t):PT X e t:=h _
def PA(X:Cx)(es:List Expr)(t:TA):Prop:=
 ∀(pos:Pos)(pins:List (Addr×Obj))(s:Shared)(σ:St)(H:Hp)(Q:List V->Hp->Prop),Inv X pins σ H s->t σ H Q->wpAny (model X.prog X.w) X.A (spliced (backTo pos (starEach es X.env))) (AP X pins σ Q) X.xe s
def PS(X:Cx)(st:Stmt)(t:TS):Prop:=
 ∀(pins:List (Addr×Obj))(s:Shared)(σ:St)(H:Hp)(D:iX),Inv X pins σ H s->t D σ H->wpAny (model X.prog X.w) X.A (exec st X.env) (SP X pins D) X.xe s
def PSs(X:Cx)(st:List Stmt)(t:TS):Prop:=
 ∀(pins:List (Addr×Obj))(s:Shared)(σ:St)(H:Hp)(D:iX),Inv X pins σ H s->t D σ H->wpAny (model X.prog X.w) X.A (execs st X.env) (SP X pins D) X.xe s
def bH{α:Type}{t:Sem α}{Q Q':α->Shared->Prop}{M:Model}{A:Around}{E:Value->Shared->Prop}{s:Shared}(h:wpAny M A t Q E s)(hQ:∀a s,Q a s->Q' a s):wpAny M A t Q' E s:=wpAny_mono h hQ fun _ _ x=>x
section
variable {X:Cx}
def Wv{a b:Expr}{ta tb:TE}(ha:PE X a ta)(hb:PE X b tb){pins:List (Addr×Obj)}{s:Shared}{σ:St}{H:Hp}{R:V->V->Hp->Prop}(I:Inv X pins σ H s)(h:ta σ H fun x H1=>tb σ H1 fun y H2=>R x y H2){α:Type}{Q:α->Shared->Prop}{f:Value->Value->Sem α}(hf:∀v u s2 x y H2,Inv X pins σ H2 s2->RelV x v->RelV y u->R x y H2->wpAny (model X.prog X.w) X.A (f v u) Q X.xe s2) :
  wpAny (model X.prog X.w) X.A (eval a X.env) (fun v s₁=>wpAny (model X.prog X.w) X.A (eval b X.env) (fun u s₂=>wpAny (model X.prog X.w) X.A (f v u) Q X.xe s₂) X.xe s₁) X.xe s:=by
 refine bH (ha pins s σ H _ I h) fun v s1 ⟨x,H1,I1,r1,q1⟩=>?_;refine bH (hb pins s1 σ H1 _ I1 q1) fun u s2 ⟨y,H2,I2,r2,q2⟩=>?_;exact hf v u s2 x y H2 I2 r1 r2 q2
def Mc(i:Nat):TE:=fun σ H Q=>∃v,σ[i]?=some (some v)/\Q v H
def tC(v:V):TE:=fun _ H Q=>Q v H
def Md{i:Nat}{x:Str}{pos:Pos}(hN:X.N[i]?=some x)(hv:Qx X.env.scope x)(hd:(x==("__debug__":Str))=false:=by decide)(ya:(x==("__classdict__":Str))=false:=by decide):PE X (.Name x pos) (Mc i):=by
 intro pins s σ H Q I h;obtain⟨v,e,h⟩:=h;obtain⟨m,hn,hl⟩:=I.loc;obtain⟨u,r,l⟩:=hl i x v hN e hv;have fin:EP X pins σ Q u s:=⟨v,H,I,r,h⟩;rcases l with⟨hk,hm⟩|⟨hk,c,hc,uf⟩
 ·exact wpAny_Name (wpAny_loadName_local I.ok.kind hk hn hm fin) hd
 ·rcases hk with hk|hk
  ·exact wpAny_Name (wpAny_loadName_cell I.ok.kind hk hc uf fin) hd
  ·exact wpAny_Name (wpAny_loadName_free I.ok.kind hk hc uf fin ya) hd
def Me{i j pos}:PE X (.Constant (.int i) j pos) (tC (.int i)):=fun _ _ _ H _ I h=>wpAny_Constant_int ⟨.int i,H,I.tok _,⟨_,rfl⟩,h⟩
def Qy{b j pos}:PE X (.Constant (.bool b) j pos) (tC (.bl b)):=fun _ _ _ H _ I h=>Constant_bool ⟨.bl b,H,I,rfl,h⟩
def Mf{j pos}:PE X (.Constant .none j pos) (tC .non):=fun _ _ _ H _ I h=>Constant_none ⟨.non,H,I,rfl,h⟩
def Mg{x j pos}:PE X (.Constant (.str x) j pos) (tC (.str x)):=fun _ _ _ H _ I h=>Calls.Constant_str ⟨.str x,H,I.tok _,⟨_,rfl⟩,h⟩
def Gl(X:Cx)(x:Str):Prop:=X.env.kindOf x=some .globalImplicit
def fZ{E:Value->Shared->Prop}{pins:List (Addr×Obj)}{s:Shared}{σ:St}{H:Hp}{x:Str}{u:Value}{pos:Pos}{Q:Value->Shared->Prop}(I:Inv X pins σ H s)(hg:Gl X x)(hm:X.mg x=some u)(h:Q u s)(hd:(x==("__debug__":Str))=false:=by decide):wpAny (model X.prog X.w) X.A (eval (.Name x pos) X.env) Q E s:=
 Calls.Name_function_global I.ok.kind hg (Calls.loadGlobal_global (by rw[I.ok.glob];exact I.mod.glob.keeps I.bk) hm h) hd
def mH{E:Value->Shared->Prop}{pins:List (Addr×Obj)}{s:Shared}{σ:St}{H:Hp}{x:Str}{u:Value}{pos:Pos}{Q:Value->Shared->Prop}(I:Inv X pins σ H s)(hg:Gl X x)(hm:X.mg x=none)(hv:bootBuiltins x=some u)(h:Q u s)(hn:x≠"__name__":=by decide)(hd:(x==("__debug__":Str))=false:=by decide):wpAny (model X.prog X.w) X.A (eval (.Name x pos) X.env) Q E s:=by
 obtain⟨mb,h1,h2⟩:=I.mod.blt;exact Calls.Name_function_global I.ok.kind hg (Calls.loadGlobal_builtin (by rw[I.ok.glob];exact I.mod.glob.keeps I.bk) hm (by rw[I.ok.blt];exact h1.keeps I.bk) ((h2 x hn).trans hv) h) hd
def qG{x:Str}{v:V}{u:Value}{pos:Pos}(hg:Gl X x)(hm:X.mg x=some u)(r:RelV v u)(hd:(x==("__debug__":Str))=false:=by decide):PE X (.Name x pos) (tC v):=
 fun _ _ _ H _ I h=>fZ I hg hm ⟨v,H,I,r,h⟩ hd
def wX{x:Str}{v:V}{u:Value}{pos:Pos}(hg:Gl X x)(hm:X.mg x=none)(hv:bootBuiltins x=some u)(r:RelV v u)(hn:x≠"__name__":=by decide)(hd:(x==("__debug__":Str))=false:=by decide):PE X (.Name x pos) (tC v):=
 fun _ _ _ H _ I h=>mH I hg hm hv ⟨v,H,I,r,h⟩ hn hd
variable {a b:Expr}{ta tb:TE}{pos:Pos}
def PC(X:Cx)(op:CmpOp)(a b:Expr)(t:TE):Prop:=
 ∀(pins:List (Addr×Obj))(s:Shared)(σ:St)(H:Hp)(Q:VK),Inv X pins σ H s->t σ H Q →
  wpAny (model X.prog X.w) X.A (eval a X.env) (fun v s₁=>wpAny (model X.prog X.w) X.A (eval b X.env) (fun u s₂=>wpAny (model X.prog X.w) X.A (compareOp op v u) (EP X pins σ Q) X.xe s₂) X.xe s₁) X.xe s
def tB(t:TE):TT:=fun σ H Q=>t σ H fun x H1=>∃c,x=.bl c/\Q c H1
def Um{op:CmpOp}{t:TE}(h:PC X op a b t)(h1:behindInMarks op b=false:=by first|exact PN _ Zd Zd|rfl):PT X (.Compare a [op] [b] pos) (tB t):=by
 intro pins s σ H Q I hw;refine wpAny_isTrue_Compare1 (bH (h pins s σ H _ I hw) fun v s1 h1=>bH h1 fun u s2 h2=>bH h2 fun c s3 ⟨x,H1,I1,r1,q1⟩=>?_) h1;obtain⟨d,rfl,q⟩:=q1;cases r1;exact wpAny_truthy_bool ⟨H1,I1,q⟩
def Mh{e:Expr}{t:TE}(h:PE X e t)(he:∀whole,isTrue e X.env whole=(do let v←whole;standAt e.pos;holding [v] (truthy v)):=by intro _;rfl):PT X e (tB t):=by
 intro pins s σ H Q I hw;refine isTrue_plain (bH (h pins s σ H _ I hw) fun v s1 ⟨x,H1,I1,r1,q1⟩=>?_) (he _);obtain⟨d,rfl,q⟩:=q1;cases r1;exact wpAny_truthy_bool ⟨H1,I1,q⟩
variable {tA JM:TT}{rest:List Expr}
def Qz(t u:TT):TT:=fun σ H Q=>t σ H fun c H1=>if c=true then u σ H1 Q else Q false H1
def Vz(t u:TT):TT:=fun σ H Q=>t σ H fun c H1=>if c=true then Q true H1 else u σ H1 Q
def Ra(t:TT):TT:=fun σ H Q=>t σ H fun c H1=>Q (!c) H1
def Hf(ha:PT X a tA):PW X (.BoolOp .And [a] pos) tA:=by
 intro wh pins s σ H Q I h;refine isTrue_and (bH (ha pins s σ H Q I h) fun c s1 e=>?_)
 cases c with
 | true=>exact isTrue_and_nil e
 | false=>exact e
def Mi(ha:PT X a tA):PW X (.BoolOp .Or [a] pos) tA:=by
 intro wh pins s σ H Q I h;refine isTrue_or (bH (ha pins s σ H Q I h) fun c s1 e=>?_)
 cases c with
 | false=>exact isTrue_or_nil e
 | true=>exact e
def Mj(ha:PT X a tA)(hb:PW X (.BoolOp .And (b::rest) pos) JM):PW X (.BoolOp .And (a::b::rest) pos) (Qz tA JM):=by
 intro wh pins s σ H Q I h;refine isTrue_and (bH (ha pins s σ H _ I h) fun c s1 ⟨H1,I1,q1⟩=>?_)
 cases c with
 | true=>exact hb wh pins s1 σ H1 Q I1 q1
 | false=>exact⟨H1,I1,q1⟩
def Rb(ha:PT X a tA)(hb:PW X (.BoolOp .Or (b::rest) pos) JM):PW X (.BoolOp .Or (a::b::rest) pos) (Vz tA JM):=by
 intro wh pins s σ H Q I h;refine isTrue_or (bH (ha pins s σ H _ I h) fun c s1 ⟨H1,I1,q1⟩=>?_)
 cases c with
 | true=>exact⟨H1,I1,q1⟩
 | false=>exact hb wh pins s1 σ H1 Q I1 q1
def Ml(ha:PT X a tA):PT X (.UnaryOp .Not a pos) (Ra tA):=by
 intro pins s σ H Q I h;exact isTrue_not (ha pins s σ H (fun c H1=>Q (!c) H1) I h)
def Bs(ta tb:TE):TE:=fun σ H Q=>ta σ H fun x H1=>∃c,x=.bl c/\if c=true then tb σ H1 Q else Q (.bl false) H1
def Mm(ta tb:TE):TE:=fun σ H Q=>ta σ H fun x H1=>∃c,x=.bl c/\if c=true then Q (.bl true) H1 else tb σ H1 Q
def Mn{op}{t:TE}(h:PE X a t):PE X (.BoolOp op [a] pos) t:=fun pins s σ H Q I hw=>BoolOp_one (h pins s σ H Q I hw)
def Mo(ha:PE X a ta)(hb:PE X (.BoolOp .And (b::rest) pos) tb):PE X (.BoolOp .And (a::b::rest) pos) (Bs ta tb):=by
 intro pins s σ H Q I h;refine BoolOp_and (bH (ha pins s σ H _ I h) fun v s1 ⟨x,H1,I1,r1,q1⟩=>?_);obtain⟨c,rfl,q1⟩:=q1;cases r1;refine wpAny_truthy_bool ?_
 cases c with
 | true=>exact hb pins s1 σ H1 Q I1 q1
 | false=>exact⟨.bl false,H1,I1,rfl,q1⟩
def Rc(ha:PE X a ta)(hb:PE X (.BoolOp .Or (b::rest) pos) tb):PE X (.BoolOp .Or (a::b::rest) pos) (Mm ta tb):=by
 intro pins s σ H Q I h;refine BoolOp_or (bH (ha pins s σ H _ I h) fun v s1 ⟨x,H1,I1,r1,q1⟩=>?_);obtain⟨c,rfl,q1⟩:=q1;cases r1;refine wpAny_truthy_bool ?_
 cases c with
 | false=>exact hb pins s1 σ H1 Q I1 q1
 | true=>exact⟨.bl true,H1,I1,rfl,q1⟩
end
def SqL(K:W.Frag)(H:Hp)(a:Addr)(xs:List V):Prop:=
 Rd H a (.lst xs)∨
  ∃(o:Obj)(its:Array Value)(n:Nat),K.lookup a=some o/\o.cls=.type "list"/\o.dict=none/\o.data=.seq its n/\its.size<=sizeLine/\Vals xs its.toList
def SqT(K:W.Frag)(H:Hp)(a:Addr)(xs:List V):Prop:=
 Rd H a (.tup xs)∨
  ∃(o:Obj)(its:Array Value)(n:Nat),K.lookup a=some o/\o.cls=.type "tuple"/\o.data=.seq its n/\its.size<=sizeLine/\Vals xs its.toList
def Uo:Value->Option V
 | .none=>some .non
 | .bool b=>some (.bl b)
 | .int i _=>some (.int i)
 | .str x _=>some (.str x)
 | .bytes b _=>some (.byt b)
 | .float b _=>some (.flt b)
 | .ref a=>some (.ref a)
 | .type n=>some (.ty n)
 | _=>none
def RelV.abs{x:V}{u:Value}(r:RelV x u):Uo u=some x:=by
 cases x with
 | non=>cases r;rfl
 | bl _=>cases r;rfl
 | int _=>obtain⟨t,rfl⟩:=r;rfl
 | str _=>obtain⟨t,rfl⟩:=r;rfl
 | byt _=>obtain⟨t,rfl⟩:=r;rfl
 | flt _=>obtain⟨t,rfl⟩:=r;rfl
 | ref _=>cases r;rfl
 | ty _=>cases r;rfl
def RelV.inj{x y:V}{u:Value}(r:RelV x u)(q:RelV y u):x=y:=Option.some.inj (r.abs.symm.trans q.abs)
def Vals.inj:∀ {xs ys:List V}{us:List Value},Vals xs us->Vals ys us->xs=ys
 | _,_,_,.nil,.nil=>rfl
 | _,_,_,.cons r t,.cons r' t'=>by rw[r.inj r',Vals.inj t t']
section
variable {X:Cx}{pins:List (Addr×Obj)}{σ:St}{H:Hp}{s:Shared}{a:Addr}{xs ys:List V}
def SqL.of{K:W.Frag}(h:H a=some (.lst xs)):SqL K H a xs:=.inl (.inl h)
def SqT.of{K:W.Frag}(h:H a=some (.tup xs)):SqT K H a xs:=.inl (.inl h)
def Inv.list(I:Inv X pins σ H s)(h:SqL X.K H a xs):∃its:List Value,Vals xs its/\PlainL s.heap a its.toArray/\xs.length<=sizeLine:=by
 rcases h with h|⟨o,its,n,hk,hc,hd,hs,hz,r⟩
 ·obtain⟨z,its,n,r,e⟩:=h.ok I.hok;exact⟨its,r,⟨_,n,e,rfl,rfl,rfl⟩,z⟩
 ·refine⟨its.toList,r,⟨o,n,I.kIn a o hk,hc,hd,by simpa using hs⟩,?_⟩;have e:=r.length;simp only [Array.length_toList]at e;omega
def Inv.tuple(I:Inv X pins σ H s)(h:SqT X.K H a xs):∃its:List Value,Vals xs its/\IsTup s.heap a its.toArray/\xs.length<=sizeLine:=by
 rcases h with h|⟨o,its,n,hk,hc,hs,hz,r⟩
 ·obtain⟨z,its,r,p⟩:=h.ok I.hok;exact⟨its,r,p,z⟩
 ·refine⟨its.toList,r,⟨o,I.kIn a o hk,hc,n,by simpa using hs⟩,?_⟩;have e:=r.length;simp only [Array.length_toList]at e;omega
def Inv.list_inj(I:Inv X pins σ H s)(h:SqL X.K H a xs)(h':SqL X.K H a ys):xs=ys:=by
 obtain⟨its,r,⟨o,n,e,_,_,d⟩,_⟩:=I.list h;obtain⟨its',r',⟨o',n',e',_,_,d'⟩,_⟩:=I.list h';rw[e]at e';cases e';rw[d]at d';injection d' with d1 _
 have:its=its':=by simpa using congrArg Array.toList d1
 subst this;exact r.inj r'
def Inv.tuple_inj(I:Inv X pins σ H s)(h:SqT X.K H a xs)(h':SqT X.K H a ys):xs=ys:=by
 obtain⟨its,r,⟨o,e,_,n,d⟩,_⟩:=I.tuple h;obtain⟨its',r',⟨o',e',_,n',d'⟩,_⟩:=I.tuple h';rw[e]at e';cases e';rw[d]at d';injection d' with d1 _
 have:its=its':=by simpa using congrArg Array.toList d1
 subst this;exact r.inj r'
end
abbrev Cx.wish(X:Cx)(E:Value->Shared->Prop):Cx:={X with xe:=E }
abbrev Cx.nox(X:Cx):Cx:=X.wish fun _ _=>False
def Cx.Ok.wish{X:Cx}(ok:X.Ok)(E:Value->Shared->Prop):(X.wish E).Ok:=
 ⟨ok.mod,ok.kind,ok.glob,ok.blt,ok.above,ok.inj,ok.has,ok.cab,ok.hd,ok.frames,ok.stk,ok.exf,ok.bs,ok.bsz,ok.noex,ok.exfs,ok.funs,ok.frf⟩
def Cx.Ok.unwish{X:Cx}{E:Value->Shared->Prop}(ok:(X.wish E).Ok):X.Ok:=
 ⟨ok.mod,ok.kind,ok.glob,ok.blt,ok.above,ok.inj,ok.has,ok.cab,ok.hd,ok.frames,ok.stk,ok.exf,ok.bs,ok.bsz,ok.noex,ok.exfs,ok.funs,ok.frf⟩
section
variable {X:Cx}{pins:List (Addr×Obj)}{σ:St}{H:Hp}{s:Shared}{E:Value->Shared->Prop}
def Inv.wish(I:Inv X pins σ H s)(E:Value->Shared->Prop):Inv (X.wish E) pins σ H s:=⟨I.ok.wish E,I.os,I.bare,I.base,I.loc,I.cell,I.free,I.freeC,I.pin,I.hok,I.len⟩
def Inv.unwish(I:Inv (X.wish E) pins σ H s):Inv X pins σ H s:=⟨I.ok.unwish,I.os,I.bare,I.base,I.loc,I.cell,I.free,I.freeC,I.pin,I.hok,I.len⟩
def SP.unwish{D:iX}{f:Flow}{s':Shared}(h:SP (X.wish E) pins D f s'):SP X pins D f s':=by
 cases f with
 | next=>obtain⟨σ',H',I,q⟩:=h;exact⟨σ',H',I.unwish,q⟩
 | brk=>obtain⟨σ',H',I,q⟩:=h;exact⟨σ',H',I.unwish,q⟩
 | cont=>obtain⟨σ',H',I,q⟩:=h;exact⟨σ',H',I.unwish,q⟩
 | ret u=>obtain⟨v,σ',H',I,r,q⟩:=h;exact⟨v,σ',H',I.unwish,r,q⟩
def PSs.nox{st:List Stmt}{t:TS}(h:PSs X.nox st t):PSs X st t:=fun pins s σ H D I hw=>
 wpAny_mono (h pins s σ H D (I.wish _) hw) (fun _ _ q=>q.unwish) fun _ _ z=>False.elim z
end
section
variable {X:Cx}{st:Stmt}{rest:List Stmt}{t u:TS}{e:Expr}{te:TE}{pos:Pos}
def eX:TS:=fun D σ H=>D.nx σ H
def oG(t u:TS):TS:=fun D σ H=>t {D with nx:=u D } σ H
def Hg:PSs X [] eX:=fun _ _ σ H _ I h=>wpAny_execs_nil ⟨σ,H,I,h⟩
def Bt(h1:PS X st t)(h2:PSs X rest u):PSs X (st::rest) (oG t u):=by
 intro pins s σ H D I h;refine wpAny_execs_cons (bH (h1 pins s σ H {D with nx:=u D } I h) fun f s1 q=>?_)
 cases f with
 | next=>
  obtain⟨σ',H',I',q⟩:=q;exact h2 pins s1 σ' H' D I' q
 | ret v=>exact q
 | brk=>exact q
 | cont=>exact q
def Hh(h1:PS X st t):PSs X [st] t:=by
 intro pins s σ H D I h;refine wpAny_execs_cons (bH (h1 pins s σ H D I h) fun f s1 q=>?_)
 cases f with
 | next=>exact wpAny_execs_nil q
 | ret v=>exact q
 | brk=>exact q
 | cont=>exact q
def Inv.quiet{pins:List (Addr×Obj)}{σ:St}{H:Hp}{s:Shared}(I:Inv X pins σ H s):interactive X.env=false:=by simp[interactive,I.ok.kind]
def Km(te:TE):TS:=fun D σ H=>te σ H fun _ H1=>D.nx σ H1
def Hi(he:PE X e te)(hs:swapsWith e none pos.line X.env=pure false:=by rfl):PS X (.Expr e pos) (Km te):=by
 intro pins s σ H D I h;exact wpAny_Expr_any (bH (he pins s σ H _ I h) fun v s1 ⟨x,H1,I1,r1,q1⟩=>⟨σ,H1,I1,q1⟩) I.quiet hs
def Re(te:TE):TS:=fun D σ H=>te σ H D.rt
def Mp(he:PE X e te):PS X (.Return (some e) pos) (Re te):=by
 intro pins s σ H D I h;exact wpAny_Return_some (bH (he pins s σ H _ I h) fun v s1 ⟨x,H1,I1,r1,q1⟩=>⟨x,σ,H1,I1,r1,q1⟩)
def Bu(c:TT)(t u:TS):TS:=fun D σ H=>c σ H fun b H1=>if b=true then t D σ H1 else u D σ H1
def Rf{c:Expr}{a b:List Stmt}{tc:TT}(hc:PT X c tc)(ha:PSs X a t)(hb:PSs X b u):PS X (.If c a b pos) (Bu tc t u):=by
 intro pins s σ H D I h;refine wpAny_If (bH (hc pins s σ H _ I h) fun d s1 ⟨H1,I1,q1⟩=>?_)
 cases d with
 | true=>exact ha pins s1 σ H1 D I1 q1
 | false=>exact hb pins s1 σ H1 D I1 q1
end
abbrev TG:=V->St->Hp->(St->Hp->Prop)->Prop
abbrev Bw:=List V->St->Hp->(St->Hp->Prop)->Prop
def PG(X:Cx)(target:Expr)(t:TG):Prop:=
 ∀(pins:List (Addr×Obj))(s:Shared)(σ:St)(H:Hp)(v:V)(u:Value)(Q:St->Hp->Prop),Inv X pins σ H s->RelV v u->t v σ H Q →
  wpAny (model X.prog X.w) X.A (assign target X.env u) (fun _ s'=>∃ σ' H',Inv X pins σ' H' s'/\Q σ' H') X.xe s
def Rg(X:Cx)(ts:List Expr)(t:Bw):Prop:=
 ∀(pins:List (Addr×Obj))(s:Shared)(σ:St)(H:Hp)(vs:List V)(us:List Value)(Q:St->Hp->Prop),Inv X pins σ H s->Vals vs us->t vs σ H Q →
  wpAny (model X.prog X.w) X.A (assignInOrder ((assignEach ts X.env).map (·.2)) us) (fun _ s'=>∃ σ' H',Inv X pins σ' H' s'/\Q σ' H') X.xe s
abbrev zE:=V->V->V->Hp->(Hp->Prop)->Prop
def Hj(X:Cx)(t:zE):Prop:=
 ∀(pins:List (Addr×Obj))(s:Shared)(σ:St)(H:Hp)(o i v:V)(ov iv u:Value)(Q:Hp->Prop),Inv X pins σ H s->RelV o ov->RelV i iv->RelV v u->t o i v H Q →
  wpAny (model X.prog X.w) X.A (setItem ov iv u) (fun _ s'=>∃H',Inv X pins σ H' s'/\Q H') X.xe s
section
variable {X:Cx}{pos:Pos}
def aL(i:Nat):TG:=fun v σ H Q=>Q (σ.set i (some v)) H
def Hk{i:Nat}{x:Str}(hN:X.N.Nodup)(hi:X.N[i]?=some x)(hx:Bo X.env.scope x)(hf:X.fn x=true∨X.env.scope.names.lookup x=some .local:=by first|exact .inl rfl|exact .inr rfl|assumption):PG X (.Name x pos) (aL i):=by
 intro pins s σ H v u Q I r h;exact wpAny_assign_Name (fP I hN hi hx r (fun s' I'=>⟨_,H,I',h⟩) hf)
def Rh:Bw:=fun vs σ H Q=>vs=[]/\Q σ H
def Kn(t:TG)(u:Bw):Bw:=fun vs σ H Q=>∃v r,vs=v::r/\t v σ H fun σ' H'=>u r σ' H' Q
def Hl:Rg X [] Rh:=by
 intro pins s σ H vs us Q I r h;obtain⟨e,h⟩:=h;subst e;cases r;exact assignInOrder_nil ⟨σ,H,I,h⟩
def Bx{e:Expr}{es:List Expr}{t:TG}{u:Bw}(h1:PG X e t)(h2:Rg X es u)(hs:(assignEach (e::es) X.env).map (·.2)=assign e X.env::(assignEach es X.env).map (·.2):=by rfl):Rg X (e::es) (Kn t u):=by
 intro pins s σ H vs us Q I r h;obtain⟨v,vr,e1,h⟩:=h;subst e1;cases r with
 | cons r rr=>
  rw[hs];refine assignInOrder_cons (bH (h1 pins s σ H _ _ _ I r h) fun _ s1 ⟨σ1,H1,I1,q1⟩=>?_);exact h2 pins s1 σ1 H1 _ _ Q I1 rr q1
def Mq(K:W.Frag)(n:Nat)(t:Bw):TG:=fun v σ H Q=>∃a xs,v=.ref a/\SqT K H a xs/\xs.length=n/\t xs σ H Q
def Mr{es:List Expr}{k:Nat}{t:Bw}{n:Nat}(hc:X.calm=true)(h:Rg X es t)(hn:(assignEach es X.env).length=n:=by rfl)(GF:(assignEach es X.env).findIdx? (·.1)=none:=by rfl):PG X (.Tuple es k pos) (Mq X.K n t):=by
 intro pins s σ H v u Q I r hw;obtain⟨a,xs,e1,hq,hl,hw⟩:=hw;subst e1;cases r;obtain⟨its,rv,ht,hz⟩:=I.tuple hq;refine assign_Tuple_tuple (I.ok.hd hc) ht (by simp[hn,<- hl,rv.length]) GF fun h' hx=>?_;have I1:Inv X pins σ H {s with heap:=h' }:=I.kept (t':=s.toks) fun b o e=>hx b o (ne_of_lt (Heap.lt_size e)) e
 exact h pins _ σ H xs _ Q I1 (by simpa using rv) hw
def Ms(to ti:TE)(t:zE):TG:=fun v σ H Q=>to σ H fun o H1=>ti σ H1 fun i H2=>t o i v H2 fun H3=>Q σ H3
def Mt{o i:Expr}{to ti:TE}{t:zE}(ho:PE X o to)(hi:PE X i ti)(hs:Hj X t)(ha:∀v,assign (.Subscript o i pos) X.env v=(do
   let ov←holding [v] (eval o X.env)
   let iv←holding [v,ov] (eval i X.env)
   standAt pos
   holding [v,ov,iv] (setItem ov iv v)
   release [v,ov,iv] []):=by intro _;rfl):PG X (.Subscript o i pos) (Ms to ti t):=by
 intro pins s σ H v u Q I r h;rw[ha];refine wpAny_bind (wpAny_holding (bH (ho pins s σ H _ I h) fun ov s1 ⟨x,H1,I1,r1,q1⟩=>?_));refine wpAny_bind (wpAny_holding (bH (hi pins s1 σ H1 _ I1 q1) fun iv s2 ⟨y,H2,I2,r2,q2⟩=>?_));refine wpAny_bind (wpAny_standAt (wpAny_bind (wpAny_holding (bH (hs pins s2 σ H2 x y v ov iv u _ I2 r1 r2 r q2) fun _ s3 ⟨H3,I3,q3⟩=>?_))));exact wpAny_release ⟨σ,H3,I3,q3⟩
def By(te:TE)(g:TG):TS:=fun D σ H=>te σ H fun x H1=>g x σ H1 D.nx
def Mu{tg e:Expr}{te:TE}{g:TG}(he:PE X e te)(hg:PG X tg g)(hs:swapsWithSole [tg] e pos.line X.env=pure false:=by rfl)(hw:swappedStores [tg] e X.env=pure none:=by rfl)(h1:(assignEach [tg] X.env).map (·.2)=[assign tg X.env]:=by rfl):PS X (.Assign [tg] e pos) (By te g):=by
 intro pins s σ H D I h;refine wpAny_Assign_stores (bH (he pins s σ H _ I h) fun v s1 ⟨x,H1,I1,r1,q1⟩=>?_) hs hw;rw[h1];exact bH (hg pins s1 σ H1 x v _ I1 r1 q1) fun _ s2 q=>q
def Mw{i:Nat}{x:Str}{e:Expr}{te:TE}{pos':Pos}(hN:X.N.Nodup)(hi:X.N[i]?=some x)(hx:Bo X.env.scope x)(he:PE X e te)(hs:swapsWith e (some (.Name x pos')) pos.line X.env=pure false:=by rfl)(hf:X.fn x=true∨X.env.scope.names.lookup x=some .local:=by first|exact .inl rfl|exact .inr rfl|assumption) :
  PS X (.Assign [.Name x pos'] e pos) (By te (aL i)):=by
 intro pins s σ H D I h;refine wpAny_Assign_Name (bH (he pins s σ H _ I h) fun v s1 ⟨y,H1,I1,r1,q1⟩=>?_) hs;exact fP I1 hN hi hx r1 (fun s2 I2=>⟨_,H1,I2,q1⟩) hf
def Ri(i j:Nat)(ta:TA):TS:=fun D σ H=>ta σ H fun vs H1=>∃v w,vs=[v,w]/\D.nx ((σ.set i (some v)).set j (some w)) H1
def Mx{i j:Nat}{x y:Str}{a b:Expr}{ta:TA}{px py pt:Pos}{kt k2 ME}(hc:X.calm=true)(hN:X.N.Nodup)(hi:X.N[i]?=some x)(hj:X.N[j]?=some y)(PQ:i≠j)(hx:X.env.scope.names.lookup x=some .local)(hy:X.env.scope.names.lookup y=some .local)(ha:PA X [a,b] ta)(hw:swappedStores [.Tuple [.Name x px,.Name y py] kt pt] (.Tuple [a,b] k2 ME) X.env=pure (some [x,y]))(hs:swapsWithSole [.Tuple [.Name x px,.Name y py] kt pt] (.Tuple [a,b] k2 ME) pos.line X.env=pure false:=by rfl) :
  PS X (.Assign [.Tuple [.Name x px,.Name y py] kt pt] (.Tuple [a,b] k2 ME) pos) (Ri i j ta):=by
 intro pins s σ H D I h;rw[exec_Assign_arm];refine wpAny_bind (wpAny_standAt ?_);rw[hs];refine wpAny_bind (wpAny_pure ?_);rw[if_neg Zd];refine wpAny_bind (Tuple_ (bH (ha _ pins s σ H _ I h) fun us s1 ⟨vs,H1,I1,r1,q1⟩=>?_));obtain⟨v,w,e1,q1⟩:=q1;subst e1;obtain⟨u1,u2,rfl,rv,um⟩:∃u1 u2,us=[u1,u2]/\RelV v u1/\RelV w u2:=by
  cases r1 with
  | cons p q=>
   cases q with
   | cons p' q'=>
    cases q';exact⟨_,_,rfl,p,p'⟩
 refine wpAny_newObj_type ?_ (by show 2<=sizeLine;decide);have I2:Inv X pins σ H1 {s1 with heap:=s1.heap.push {cls:=.type "tuple",data:=.seq [u1,u2].toArray } }:=I1.kept (t':=s1.toks) fun b o e=>fX _ e
 rw[hw];refine wpAny_bind (wpAny_pure ?_);show wpAny (model X.prog X.w) X.A (do rule "assign.swapped-stores";let items←unpackItems (.ref s1.heap.objs.size) 2 none;assignInOrder [fun v=>bindName X.env y v,fun v=>bindName X.env x v] items.reverse;pure Flow.next) _ _ _;refine wpAny_bind (wpAny_rule (wpAny_bind (unpackItems_tuple (items:=#[u1,u2]) (I.ok.hd hc) (IsTup.new s1.heap _) fun h' EO=>?_)));have I3:=I2.kept (h':=h') (t':=s1.toks) fun b o e=>EO b o (ne_of_lt (Heap.lt_size e)) e
 show wpAny _ _ (assignInOrder [fun v=>bindName X.env y v,fun v=>bindName X.env x v] [u2,u1]>>=fun _=>pure Flow.next) _ _ _;refine wpAny_bind (assignInOrder_cons (wpAny_bindName (fP I3 hN hj (.inl hy) um (fun s2 I4=>?_) (.inr hy))));refine assignInOrder_cons (wpAny_bindName (fP I4 hN hi (.inl hx) rv (fun s3 I5=>assignInOrder_nil (wpAny_pure ?_)) (.inr hx)));rw[List.set_comm _ _ (Ne.symm PQ)]at I5;exact⟨_,H1,I5,q1⟩
end
structure It where
 go:Nat->Hp->Prop
 yld:Nat->Hp->V->Hp->Prop
 stop:Nat->Hp->Prop
def kJ(X:Cx)(pins:List (Addr×Obj))(H:Hp)(b:Addr):Prop:=
 H b=none/\b≠X.env.locals/\b∉X.fs/\(b∈X.ex∨X.s₀.heap.objs.size<=b)/\(∀x c,X.env.cells.lookup x=some c->c≠b)/\∀p∈X.pn++pins,p.1≠b
def Inv.fpOk{X:Cx}{pins:List (Addr×Obj)}{σ:St}{H H':Hp}{s:Shared}{b:Addr}(I:Inv X pins σ H s)(hb:s.heap.objs.size<=b)(hn:H' b=none):kJ X pins H' b:=by
 refine⟨hn,ne_of_gt (lt_of_lt_of_le I.lt hb),I.nofs hb,.inr (fO I.sz hb),fun x c e z=>?_,fun p hp z=>?_⟩
 ·obtain⟨v,q⟩:=I.cell x c e;exact absurd (lt_of_lt_of_le q.lt (by rw[z];exact hb)) (lt_irrefl _)
 ·exact absurd (lt_of_lt_of_le (Heap.lt_size (I.pin p hp).1) (by rw[z];exact hb)) (lt_irrefl _)
structure qH(P:Program)(w:World)(K:W.Frag)(tg:Expr)(J:It)(fp:List Addr)(it:Addr)(tn:Nat->Heap->Prop):Prop where
 mem:it∈fp
 obj:∀i h,tn i h->∀b∈fp,∃o,h.get? b=some o/\∀v,o.data≠.cell v
 keep:∀i h h',tn i h->(∀b∈fp,∀o,h.get? b=some o->h'.get? b=some o)->tn i h'
 item:∀(X:Cx),X.prog=P->X.w=w->X.K=K->X.calm=true->∀(i:Nat)(pins:List (Addr×Obj))(s:Shared)(σ:St)(H:Hp)(E:Value->Shared->Prop),Inv X pins σ H s->(∀b∈fp,kJ X pins H b)->tn i s.heap->J.go i H →
  wpAny (model P w) X.A (pyNext (.ref it)) (fun r s1=>∃u,r=some u ∧
   wpAny (model P w) X.A (letOwnedTupleGo tg (.ref it) u) (fun _ s2=>∃x H',Inv X pins σ H' s2/\RelV x u/\J.yld i H x H'/\tn (i+1) s2.heap/\∀b∈fp,H' b=none) E s1) E s
 done:∀(X:Cx),X.prog=P->X.w=w->X.K=K->X.calm=true->∀(i:Nat)(pins:List (Addr×Obj))(s:Shared)(σ:St)(H:Hp)(E:Value->Shared->Prop),Inv X pins σ H s->(∀b∈fp,kJ X pins H b)->tn i s.heap->J.stop i H →
  wpAny (model P w) X.A (pyNext (.ref it)) (fun r s1=>r=none/\Inv X pins σ H s1) E s
 self:∀(A:Around)(i:Nat)(s:Shared)(Q:Value->Shared->Prop)(E:Value->Shared->Prop),tn i s.heap->Q (.ref it) s->wpAny (model P w) A (pyIter (.ref it)) Q E s
abbrev TI:=St->Hp->(It->Hp->Prop)->Prop
def Wa(X:Cx)(pins:List (Addr×Obj))(σ:St)(tg:Expr)(R:It->Hp->Prop)(UG:Value)(s2:Shared):Prop:=
 ∃(it:Addr)(fp:List Addr)(tn:Nat->Heap->Prop)(J:It)(H':Hp),UG=.ref it/\Inv X pins σ H' s2/\qH X.prog X.w X.K tg J fp it tn/\tn 0 s2.heap/\(∀b∈fp,kJ X pins H' b)/\R J H'
def PI(X:Cx)(tg iter:Expr)(wi:TI):Prop:=
 ∀(pins:List (Addr×Obj))(s:Shared)(σ:St)(H:Hp)(R:It->Hp->Prop),Inv X pins σ H s->wi σ H R →
  wpAny (model X.prog X.w) X.A (eval iter X.env) (fun v s1=>wpAny (model X.prog X.w) X.A (pyIter v) (Wa X pins σ tg R) X.xe s1) X.xe s
def oU{M:Model}{A:Around}{E:Value->Shared->Prop}{s:Shared}{tg:Expr}{it:Addr}{u:Value}{o:Obj}{n:String}{vs:Array Value}{Q:Unit->Shared->Prop}(ho:s.heap.get? it=some o)(hc:o.cls=.type n)(hd:o.data=.fields vs)(hn:["enumerate","zip","dict_itemiterator","dict_reverseitemiterator","odict_iterator","itertools.zip_longest","itertools.pairwise"].contains n=false)(hQ:Q () s):wpAny M A (letOwnedTupleGo tg (.ref it) u) Q E s:=by
  unfold letOwnedTupleGo;cases tg<;>first
    | exact wpAny_pure hQ
    | (cases u <;> first
        | exact wpAny_pure hQ
        | (refine wpAny_bind (wpAny_load ho ?_)
           rw[hc,hd];show wpAny M A (if (["enumerate","zip","dict_itemiterator","dict_reverseitemiterator","odict_iterator","itertools.zip_longest","itertools.pairwise"].contains n&&vs[0]? == some (rawInt _))=true then _ else _) Q E s;rw[if_neg (by intro h;rw[hn,Bool.false_and]at h;cases h)];exact wpAny_pure hQ))
def Bz(K:W.Frag)(a:Addr):It:=
 ⟨fun i H=>∃xs x,SqL K H a xs/\xs[i]?=some x,fun i H x H'=>H'=H/\∀xs,SqL K H a xs->xs[i]?=some x,fun i H=>∃xs,SqL K H a xs/\xs.length<=i⟩
def Up(K:W.Frag)(a:Addr):It:=
 ⟨fun i H=>∃xs x,SqT K H a xs/\xs[i]?=some x,fun i H x H'=>H'=H/\∀xs,SqT K H a xs->xs[i]?=some x,fun i H=>∃xs,SqT K H a xs/\xs.length<=i⟩
def Uc(lo:Int)(n:Nat):It:=⟨fun i _=>i<n,fun i H x H'=>H'=H/\x=.int (lo+i),fun i _=>n<=i⟩
def zF{P:Program}{w:World}{K:W.Frag}{tg:Expr}(a it:Addr):qH P w K tg (Bz K a) [it] it (fun i h=>h.IsListIter it a i) where
 mem:=by simp
 obj:=fun i h st b hb=>by
  have e:b=it:=by simpa using hb
  subst e;obtain⟨o,e,c,d⟩:=st;exact⟨o,e,fun v z=>by rw[d]at z;cases z⟩
 keep:=fun i h h' st k=>st.at fun o e=>k it Zs o e
 item:=by
  intro X hP hw hK hc i pins s σ H E I hf st hg;subst hP hw hK;obtain⟨xs,x,hq,hx⟩:=hg;obtain⟨its,rv,p,hz⟩:=I.list hq;obtain⟨u,hu,ru⟩:=rv.get hx;obtain⟨f0,f1,f2,f3,f4,f5⟩:=hf it Zs;refine wpAny_pyNext_list_item st p.isList (x:=u) (by simpa using hu) fun h' uo sb=>?_;have I1:Inv X pins σ H {s with heap:=h' }:=I.turned (t':=s.toks) (fun b o hb e=>(sb.2 b hb).trans e) f0 f1 f3 f4 f5;obtain⟨o,e,c,d⟩:=id uo;exact⟨u,rfl,oU (s:={s with heap:=h' }) e c d Zd ⟨x,H,I1,ru,⟨rfl,fun ys hy=>by rw[I.list_inj hy hq];exact hx⟩,uo,fun b hb=>(hf b hb).1⟩⟩
 done:=by
  intro X hP hw hK hc i pins s σ H E I hf st hg;subst hP hw hK;obtain⟨xs,hq,hx⟩:=hg;obtain⟨its,rv,p,hz⟩:=I.list hq;obtain⟨f0,f1,f2,f3,f4,f5⟩:=hf it Zs;have hl:=rv.length;exact wpAny_pyNext_list_end (I.ok.hd hc) st p.isList (by simp;omega) fun h' eb=>⟨rfl,I.turned (t':=s.toks) (fun b o hb e=>eb b o hb e) f0 f1 f3 f4 f5⟩
 self:=fun _ _ _ _ _ st h=>wpAny_pyIter_listiter st h
def uX{P:Program}{w:World}{K:W.Frag}{tg:Expr}(a it:Addr):qH P w K tg (Up K a) [it] it (fun i h=>h.IsTupleIter it a i) where
 mem:=by simp
 obj:=fun i h st b hb=>by
  have e:b=it:=by simpa using hb
  subst e;obtain⟨o,e,c,d⟩:=st;exact⟨o,e,fun v z=>by rw[d]at z;cases z⟩
 keep:=fun i h h' st k=>st.at fun o e=>k it Zs o e
 item:=by
  intro X hP hw hK hc i pins s σ H E I hf st hg;subst hP hw hK;obtain⟨xs,x,hq,hx⟩:=hg;obtain⟨its,rv,p,hz⟩:=I.tuple hq;obtain⟨u,hu,ru⟩:=rv.get hx;obtain⟨f0,f1,f2,f3,f4,f5⟩:=hf it Zs;refine wpAny_pyNext_tuple_item st (show s.heap.IsTuple a its.toArray from p) (x:=u) (by simpa using hu) fun h' uo sb=>?_;have I1:Inv X pins σ H {s with heap:=h' }:=I.turned (t':=s.toks) (fun b o hb e=>(sb.2 b hb).trans e) f0 f1 f3 f4 f5;obtain⟨o,e,c,d⟩:=id uo;exact⟨u,rfl,oU (s:={s with heap:=h' }) e c d Zd ⟨x,H,I1,ru,⟨rfl,fun ys hy=>by rw[I.tuple_inj hy hq];exact hx⟩,uo,fun b hb=>(hf b hb).1⟩⟩
 done:=by
  intro X hP hw hK hc i pins s σ H E I hf st hg;subst hP hw hK;obtain⟨xs,hq,hx⟩:=hg;obtain⟨its,rv,p,hz⟩:=I.tuple hq;obtain⟨f0,f1,f2,f3,f4,f5⟩:=hf it Zs;have hl:=rv.length;exact wpAny_pyNext_tuple_end (I.ok.hd hc) st (show s.heap.IsTuple a its.toArray from p) (by simp;omega) fun h' eb=>⟨rfl,I.turned (t':=s.toks) (fun b o hb e=>eb b o hb e) f0 f1 f3 f4 f5⟩
 self:=fun _ _ _ _ _ st h=>wpAny_pyIter_tupleiter st h
def uY{P:Program}{w:World}{K:W.Frag}{tg:Expr}(it:Addr)(lo:Int)(n:Nat):qH P w K tg (Uc lo n) [it] it (fun i h=>IsRangeIter h it (lo+(i:Nat)*1) ((n:Int)-(i:Nat)) 1) where
 mem:=by simp
 obj:=fun i h st b hb=>by
  have e:b=it:=by simpa using hb
  subst e;exact⟨_,st,fun v z=>by
   have z':Data.fields _=Data.cell v:=z;cases z'⟩
 keep:=fun i h h' st k=>k it Zs _ st
 item:=by
  intro X hP hw hK hc i pins s σ H E I hf st hg;subst hP hw hK;obtain⟨f0,f1,f2,f3,f4,f5⟩:=hf it Zs;have W:=Walks.range (prog:=X.prog) (w:=X.w) (I.ok.hd hc) it lo 1 n;refine W.item i s _ _ hg st fun v h' tk hv uo kk=>?_;obtain⟨t,rfl⟩:=hv;have I1:Inv X pins σ H {s with heap:=h',toks:=tk }:=I.turned (fun b o hb e=>kk b o (by simpa using hb) e) f0 f1 f3 f4 f5;refine⟨_,rfl,oU (s:={s with heap:=h',toks:=tk }) (n:="range_iterator") uo rfl rfl Zd ⟨.int (lo+i),H,I1,⟨t,?_⟩,⟨rfl,rfl⟩,uo,fun b hb=>(hf b hb).1⟩⟩;rw[Int.mul_one]
 done:=by
  intro X hP hw hK hc i pins s σ H E I hf st hg;subst hP hw hK;obtain⟨f0,f1,f2,f3,f4,f5⟩:=hf it Zs;exact wpAny_pyNext_range_end (I.ok.hd hc) st (by have:n<=i:=hg;omega) fun h' eb=>⟨rfl,I.turned (t':=s.toks) (fun b o hb e=>eb b o hb e) f0 f1 f3 f4 f5⟩
 self:=fun _ _ _ _ _ st h=>wpAny_pyIter_rangeiter st h
section
variable {X:Cx}{tg:Expr}
def Ca(K:W.Frag)(tl:TE):TI:=fun σ H R=>tl σ H fun x H1=>∃a,x=.ref a/\(∃xs,SqL K H1 a xs)/\R (Bz K a) H1
def Mz(K:W.Frag)(tl:TE):TI:=fun σ H R=>tl σ H fun x H1=>∃a,x=.ref a/\(∃xs,SqT K H1 a xs)/\R (Up K a) H1
def Hm{l:Expr}{tl:TE}(hl:PE X l tl):PI X tg l (Ca X.K tl):=by
 intro pins s σ H R I h;refine bH (hl pins s σ H _ I h) fun v s1 ⟨x,H1,I1,r1,q1⟩=>?_
 obtain⟨a,e,⟨xs,hq⟩,q⟩:=q1;subst e;cases r1;obtain⟨its,rv,p,hz⟩:=I1.list hq;refine wpAny_pyIter_list p.isList ?_;refine⟨s1.heap.objs.size,[s1.heap.objs.size],_,_,H1,rfl,I1.kept (t':=s1.toks) fun b o e=>fX _ e,zF a _,⟨_,Heap.get?_push_size _ rfl,rfl,rfl⟩,fun b hb=>?_,q⟩;have e:b=s1.heap.objs.size:=by simpa using hb
 subst e;exact I1.fpOk (bY _) (I1.hok.fresh (bY _))
def Na{l:Expr}{tl:TE}(hl:PE X l tl):PI X tg l (Mz X.K tl):=by
 intro pins s σ H R I h;refine bH (hl pins s σ H _ I h) fun v s1 ⟨x,H1,I1,r1,q1⟩=>?_
 obtain⟨a,e,⟨xs,hq⟩,q⟩:=q1;subst e;cases r1;obtain⟨its,rv,p,hz⟩:=I1.tuple hq;refine wpAny_pyIter_tuple (show s1.heap.IsTuple a its.toArray from p) ?_;refine⟨s1.heap.objs.size,[s1.heap.objs.size],_,_,H1,rfl,I1.kept (t':=s1.toks) fun b o e=>fX _ e,uX a _,⟨_,Heap.get?_push_size _ rfl,rfl,rfl⟩,fun b hb=>?_,q⟩;have e:b=s1.heap.objs.size:=by simpa using hb
 subst e;exact I1.fpOk (bY _) (I1.hok.fresh (bY _))
def Cb{pins:List (Addr×Obj)}{σ:St}{H:Hp}{s:Shared}{R:It->Hp->Prop}{E:Value->Shared->Prop}{lo hi:Int}{t u v:Tok}{tk:Nat}(I:Inv X pins σ H s)(h1:-(2^62)<=lo)(h2:lo<2^62)(h3:-(2^62)<=hi)(h4:hi<2^62)(q:R (Uc lo (hi-lo).toNat) H):wpAny (model X.prog X.w) X.A (pyIter (.ref s.heap.objs.size)) (Wa X pins σ tg R) E {s with heap:=s.heap.push {cls:=.type "range",data:=.fields #[.int lo t,.int hi u,.int 1 v] },toks:=tk }:=by
 refine wpAny_pyIter_range (IsRange.new ..) (small_one h1 h2 h3 h4) ?_;have I1:Inv X pins σ H {s with heap:=s.heap.push {cls:=.type "range",data:=.fields #[.int lo t,.int hi u,.int 1 v] },toks:=tk }:=I.kept fun b o e=>fX _ e
 refine⟨(s.heap.push {cls:=.type "range",data:=.fields #[.int lo t,.int hi u,.int 1 v] }).objs.size,[(s.heap.push {cls:=.type "range",data:=.fields #[.int lo t,.int hi u,.int 1 v] }).objs.size],_,_,H,rfl,
  I1.kept (t':=tk) fun b o e=>fX _ e,uY _ lo (hi - lo).toNat,?_,fun b hb=>?_,q⟩
 ·have e1:lo+((0:Nat):Int)*1=lo:=by simp
  have e2:(((hi-lo).toNat:Nat):Int)-((0:Nat):Int)=Builtin.Range.rangeSize lo hi 1:=by rw[rangeSize_one];split<;>omega
  show IsRangeIter _ _ (lo+((0:Nat):Int)*1) ((((hi-lo).toNat:Nat):Int)-((0:Nat):Int)) 1;rw[e1,e2];exact Heap.get?_push_size _ rfl
 ·have e:b=(s.heap.push {cls:=.type "range",data:=.fields #[.int lo t,.int hi u,.int 1 v] }).objs.size:=by simpa using hb
  subst e;exact I1.fpOk (bY _) (I1.hok.fresh (bY _))
def Ko(ta:TA):TI:=fun σ H R=>ta σ H fun vs H1=>∃j:Int,vs=[.int j]/\-(2^62)<=j/\j<2^62/\R (Uc 0 j.toNat) H1
def zG{a:Expr}{ta:TA}{p pos:Pos}(hg:Gl X "range")(hm:X.mg "range"=none)(ha:PA X [a] ta)(hs:starEach [a] X.env=[(false,eval a X.env)]:=by rfl):PI X tg (.Call (.Name "range" p) [a] [] pos) (Ko ta):=by
 intro pins s σ H R I h;refine Call_ (mH I hg hm boot_range (PyProof.Rows.callWith_type1 (bH (ha pos pins s σ H _ I h) fun us s1 ⟨vs,H1,I1,r1,q1⟩=>?_) hs rfl));obtain⟨j,e,q1,q2,q⟩:=q1;subst e;cases r1 with
 | cons r rr=>
  cases rr;obtain⟨t,rfl⟩:=r;exact call_range_1 (Cb I1 Zo Zo q1 q2 (by simpa using q))
def Rj(wi:TI)(g:TG)(tb:TS):TS:=fun D σ H=>wi σ H fun J H1=>∃W:Nat->Nat->St->Hp->Prop,(∃m,W 0 m σ H1)/\∀i m σ H,W i m σ H →
 (J.stop i H/\D.nx σ H)∨(J.go i H/\∃N:St->Hp->Prop,(∀ σ' H',N σ' H'->∃m',m'<m/\W (i+1) m' σ' H')/\∀x H',J.yld i H x H'->g x σ H' fun σ2 H2=>tb {D with nx:=N,ct:=N,bk:=D.nx } σ2 H2)
def mJ(fp:List Addr)(h:Heap):List (Addr×Obj):=fp.filterMap fun b=>(h.get? b).map fun o=>(b,o)
def gA{fp:List Addr}{h:Heap}{b:Addr}{o:Obj}(hb:b∈fp)(e:h.get? b=some o):(b,o)∈mJ fp h:=mem_filterMap.mpr ⟨b,hb,by rw[e];rfl⟩
def zH{fp:List Addr}{h:Heap}{p:Addr×Obj}(hp:p∈mJ fp h):p.1∈fp/\h.get? p.1=some p.2:=by
 obtain⟨b,hb,e⟩:=mem_filterMap.mp hp
 cases q:h.get? b with
 | none=>rw[q]at e;cases e
 | some o=>
  rw[q]at e;have e':(b,o)=p:=Option.some.inj e;subst e';exact⟨hb,q⟩
def Inv.pinned{pins:List (Addr×Obj)}{σ:St}{H:Hp}{s:Shared}{fp:List Addr}(I:Inv X pins σ H s)(hf:∀b∈fp,kJ X pins H b)(ho:∀b∈fp,∃o,s.heap.get? b=some o/\∀v,o.data≠.cell v):Inv X (pins++mJ fp s.heap) σ H s:=
 I.pins_of fun p hp=>(Zma.mp hp).elim (fun z=>I.pin p (mem_append_right _ z)) fun z=>by
  obtain⟨hb,e⟩:=zH z;obtain⟨f0,f1,f2,_⟩:=hf p.1 hb;obtain⟨o,e',d⟩:=ho p.1 hb;rw[e]at e';cases e';exact⟨e,f0,f1,f2,d⟩
def Inv.unpinned{pins pl:List (Addr×Obj)}{σ:St}{H:Hp}{s:Shared}(I:Inv X (pins++pl) σ H s):Inv X pins σ H s:=I.pins_of fun p hp=>I.pin p (mem_append_right _ (mem_append_left _ hp))
def Nb{iter:Expr}{body:List Stmt}{wi:TI}{g:TG}{tb:TS}{pos:Pos}(hp:PassesOwn (model X.prog X.w) X.A X.env X.xe)(hc:X.calm=true)(hi:PI X tg iter wi)(hg:PG X tg g)(hb:PSs X body tb)(hs:∀x,foldedSetIterable iter X.env x=pure x:=by intro _;rfl):PS X (.For tg iter body [] pos) (Rj wi g tb):=by
 intro pins s σ H D I h;refine wpAny_For (bH (hi pins s σ H _ I h) fun v s1 h1=>bH h1 fun UG s2 h2=>?_) hs;obtain⟨it,fp,tn,J,H2,e,I2,T,JN,f2,W,⟨m0,w0⟩,turn⟩:=h2;subst e;have MF:∀ {H':Hp},(∀b∈fp,H' b=none)->∀b∈fp,kJ X pins H' b:=fun hn b hb=>⟨hn b hb,(f2 b hb).2⟩
 refine codeAny_forLoop_any (fun n s'=>∃i σ' H',Inv X pins σ' H' s'/\tn i s'.heap/\(∀b∈fp,H' b=none)/\W i n σ' H') ?_ m0 ⟨0,σ,H2,I2,JN,fun b hb=>(f2 b hb).1,w0⟩;rintro n s3 ⟨i,σ3,H3,I3,PR,LB,w3⟩;rcases turn i n σ3 H3 w3 with⟨stop,qn⟩|⟨go,N,hN,step⟩
 ·refine wpAny_passesOwn hp (bH (T.done X rfl rfl rfl hc i pins s3 σ3 H3 X.xe I3 (MF LB) PR stop) fun r s4 ⟨hr,I4⟩=>?_);subst hr;exact wpAny_execs_nil ⟨σ3,H3,I4,qn⟩
 ·refine wpAny_passesOwn hp (bH (T.item X rfl rfl rfl hc i pins s3 σ3 H3 X.xe I3 (MF LB) PR go) fun r s4 ⟨u,hr,h4⟩=>?_);subst hr;refine wpAny_passesOwn hp (bH h4 fun _ s5 ⟨x,H5,I5,r5,y5,MG,VX⟩=>?_);have VY:=I5.pinned (MF VX) (T.obj _ _ MG);refine wpAny_passesOwn hp (bH (hg _ s5 σ3 H5 x u _ VY r5 (step x H5 y5)) fun _ s6 ⟨σ6,H6,I6,q6⟩=>?_);refine wpAny_passesOwn hp (bH (hb _ s6 σ6 H6 _ I6 q6) fun f s7 q7=>?_);have again:∀ {σ7:St}{H7:Hp},Inv X (pins++mJ fp s5.heap) σ7 H7 s7->N σ7 H7->∃m,m<n/\∃i σ' H',Inv X pins σ' H' s7/\tn i s7.heap/\(∀b∈fp,H' b=none)/\W i m σ' H':=fun {σ7 H7} I7 n7=>by
   obtain⟨m',hm,w7⟩:=hN σ7 H7 n7;refine⟨m',hm,i+1,σ7,H7,I7.unpinned,T.keep _ _ _ MG fun b hb o e=>(I7.pin (b,o) (mem_append_right _ (mem_append_right _ (gA hb e)))).1,fun b hb=>?_,w7⟩;obtain⟨o,e,d⟩:=T.obj _ _ MG b hb;exact(I7.pin (b,o) (mem_append_right _ (mem_append_right _ (gA hb e)))).2.1
  cases f with
  | next=>obtain⟨σ7,H7,I7,n7⟩:=q7;exact again I7 n7
  | cont=>obtain⟨σ7,H7,I7,n7⟩:=q7;exact again I7 n7
  | brk=>obtain⟨σ7,H7,I7,q7⟩:=q7;exact⟨σ7,H7,I7.unpinned,q7⟩
  | ret v=>obtain⟨x7,σ7,H7,I7,r7,q7⟩:=q7;exact⟨x7,σ7,H7,I7.unpinned,r7,q7⟩
end
abbrev R2:=V->V->Hp->VK->Prop
def OpR(X:Cx)(f:Value->Value->Sem Value)(r:R2):Prop:=
 ∀(pins:List (Addr×Obj))(s:Shared)(σ:St)(H:Hp)(x y:V)(v u:Value)(Q:VK),Inv X pins σ H s->RelV x v->RelV y u->r x y H Q →
  wpAny (model X.prog X.w) X.A (f v u) (EP X pins σ Q) X.xe s
def UnR(X:Cx)(f:Value->Sem Value)(r:V->Hp->VK->Prop):Prop:=
 ∀(pins:List (Addr×Obj))(s:Shared)(σ:St)(H:Hp)(x:V)(v:Value)(Q:VK),Inv X pins σ H s->RelV x v->r x H Q →
  wpAny (model X.prog X.w) X.A (f v) (EP X pins σ Q) X.xe s
def CallR(X:Cx)(f:Value)(r:List V->Hp->VK->Prop):Prop:=
 ∀(pins:List (Addr×Obj))(s:Shared)(σ:St)(H:Hp)(xs:List V)(us:List Value)(Q:VK),Inv X pins σ H s->Vals xs us->r xs H Q →
  wpAny (model X.prog X.w) X.A (call f us) (EP X pins σ Q) X.xe s
def Cc(r:R2)(ta tb:TE):TE:=fun σ H Q=>ta σ H fun x H1=>tb σ H1 fun y H2=>r x y H2 Q
def Uq(r:V->Hp->VK->Prop)(ta:TE):TE:=fun σ H Q=>ta σ H fun x H1=>r x H1 Q
def rI(C:Int->Int->Prop)(g:Int->Int->V):R2:=fun x y H Q=>∃i j,x=.int i/\y=.int j/\C i j/\Q (g i j) H
def Hn(g:Int->Int->V):R2:=fun x y H Q=>∃i j,x=.int i/\y=.int j/\Q (g i j) H
def rU(g:Int->V):V->Hp->VK->Prop:=fun x H Q=>∃i,x=.int i/\Q (g i) H
section
variable {X:Cx}{a b c:Expr}{ta tb tc:TE}{pos:Pos}
def Nc(ha:PE X a ta)(hb:PE X b tb){pins:List (Addr×Obj)}{s:Shared}{σ:St}{H:Hp}{R:V->V->Hp->Prop}(I:Inv X pins σ H s)(h:ta σ H fun x H1=>tb σ H1 fun y H2=>R x y H2){Q:Value->Shared->Prop}{f:Value->Value->Sem Value}(hf:∀v u s2 x y H2,Inv X pins σ H2 s2->RelV x v->RelV y u->R x y H2->wpAny (model X.prog X.w) X.A (f v u) Q X.xe s2) :
  wpAny (model X.prog X.w) X.A (eval a X.env) (fun v s₁=>wpAny (model X.prog X.w) X.A (eval b X.env) (fun u s₂=>wpAny (model X.prog X.w) X.A (f v u) Q X.xe s₂) X.xe s₁) X.xe s:=by
 refine bH (ha pins s σ H _ I h) fun v s1 ⟨x,H1,I1,r1,q1⟩=>?_;refine bH (hb pins s1 σ H1 _ I1 q1) fun u s2 ⟨y,H2,I2,r2,q2⟩=>?_;exact hf v u s2 x y H2 I2 r1 r2 q2
def Rk{op:Operator}{r:R2}(ho:OpR X (binaryOp op) r)(ha:PE X a ta)(hb:PE X b tb):PE X (.BinOp a op b pos) (Cc r ta tb):=by
 intro pins s σ H Q I h;exact wpAny_BinOp (Nc ha hb I h fun v u s2 x y H2 I2 rx ry q=>ho pins s2 σ H2 x y v u Q I2 rx ry q)
def Rl{op:UnaryOp}{r:V->Hp->VK->Prop}(ho:UnR X (unaryOp op) r)(ha:PE X a ta):PE X (.UnaryOp op a pos) (Uq r ta):=by
 intro pins s σ H Q I h;exact UnaryOp_ (bH (ha pins s σ H _ I h) fun v s1 ⟨x,H1,I1,r1,q1⟩=>ho pins s1 σ H1 x v Q I1 r1 q1)
def Ud{f:Value->Value->Sem Value}{C:Int->Int->Prop}{g:Int->Int->Int}(rule:∀(i j:Int)(t u:Tok)(s:Shared)(Q:Value->Shared->Prop)(E:Value->Shared->Prop),C i j->Q (.int (g i j) s.toks) {s with toks:=s.toks+1 }->wpAny (model X.prog X.w) X.A (f (.int i t) (.int j u)) Q E s) :
  OpR X f (rI C fun i j=>.int (g i j)):=by
 intro pins s σ H x y v u Q I rx ry h;obtain⟨i,j,rfl,rfl,hc,q⟩:=h;obtain⟨t,rfl⟩:=rx;obtain⟨t',rfl⟩:=ry;exact rule i j t t' s _ _ hc ⟨.int (g i j),H,I.tok _,⟨_,rfl⟩,q⟩
def Rm{f:Value->Value->Sem Value}{g:Int->Int->Int}(rule:∀(i j:Int)(t u:Tok)(s:Shared)(Q:Value->Shared->Prop)(E:Value->Shared->Prop),Q (.int (g i j) s.toks) {s with toks:=s.toks+1 }->wpAny (model X.prog X.w) X.A (f (.int i t) (.int j u)) Q E s) :
  OpR X f (Hn fun i j=>.int (g i j)):=by
 intro pins s σ H x y v u Q I rx ry h;obtain⟨i,j,rfl,rfl,q⟩:=h;obtain⟨t,rfl⟩:=rx;obtain⟨t',rfl⟩:=ry;exact rule i j t t' s _ _ ⟨.int (g i j),H,I.tok _,⟨_,rfl⟩,q⟩
def Ho{f:Value->Value->Sem Value}{g:Int->Int->Bool}(rule:∀(i j:Int)(t u:Tok)(s:Shared)(Q:Value->Shared->Prop)(E:Value->Shared->Prop),Q (.bool (g i j)) s->wpAny (model X.prog X.w) X.A (f (.int i t) (.int j u)) Q E s) :
  OpR X f (Hn fun i j=>.bl (g i j)):=by
 intro pins s σ H x y v u Q I rx ry h;obtain⟨i,j,rfl,rfl,q⟩:=h;obtain⟨t,rfl⟩:=rx;obtain⟨t',rfl⟩:=ry;exact rule i j t t' s _ _ ⟨.bl (g i j),H,I,rfl,q⟩
def Nd(i j:Int):Prop:=0<=j/\j<=1000000/\i.natAbs<2^64
def CMul(i j:Int):Prop:=(-(2^64)<i/\i<2^64)∨(-(2^64)<j/\j<2^64)
def CMul.ok{i j:Int}(h:CMul i j):IntMulOk i j:=by
 rcases h with⟨h1,h2⟩|⟨h1,h2⟩
 ·exact .of_left (intBits_le_64 h1 h2)
 ·exact .of_right (intBits_le_64 h1 h2)
def Nf:OpR X (binaryOp .Add) (Hn fun i j=>.int (i+j)):=Rm fun _ _ _ _ _ _ _ q=>add_int q
def Ng:OpR X (binaryOp .Sub) (Hn fun i j=>.int (i-j)):=Rm fun _ _ _ _ _ _ _ q=>sub_int q
def Nh:OpR X (binaryOp .Mult) (rI CMul fun i j=>.int (i*j)):=Ud fun _ _ _ _ _ _ _ hc q=>mul_int q hc.ok
def Ni:OpR X (binaryOp .Mod) (rI (fun _ j=>0<j) fun i j=>.int (i%j)):=Ud fun i j _ _ _ _ _ hc q=>by
 have h1:(0:Int)<j:=hc;exact mod_int' Zo (by rw[Int.fmod_eq_emod_of_nonneg i Zo];exact q)
def Nj:OpR X (binaryOp .Pow) (rI Nd fun i j=>.int (i^j.toNat)):=Ud fun _ _ _ _ _ _ _ hc q=>pow_int_small hc.1 hc.2.1 hc.2.2 q
def Wp{f:Value->Sem Value}{g:Int->Int}(rule:∀(i:Int)(t:Tok)(s:Shared)(Q:Value->Shared->Prop)(E:Value->Shared->Prop),Q (.int (g i) s.toks) {s with toks:=s.toks+1 }->wpAny (model X.prog X.w) X.A (f (.int i t)) Q E s) :
  UnR X f (rU fun i=>.int (g i)):=by
 intro pins s σ H x v Q I rx h;obtain⟨i,rfl,q⟩:=h;obtain⟨t,rfl⟩:=rx;exact rule i t s _ _ ⟨.int (g i),H,I.tok _,⟨_,rfl⟩,q⟩
def Nk:UnR X (unaryOp .USub) (rU fun i=>.int (-i)):=Wp fun _ _ _ _ _ q=>neg_int q
end
def Nl:V->V->Bool
 | .non,.non=>true|.non,.int _=>true|.int _,.non=>true|.non,.bl _=>true|.bl _,.non=>true|.non,.str _=>true|.str _,.non=>true
 | .int _,.int _=>true|.bl _,.bl _=>true|.str _,.str _=>true|.byt _,.byt _=>true
 | .int _,.str _=>true|.str _,.int _=>true|.bl _,.str _=>true|.str _,.bl _=>true
 | _,_=>false
def Wb:R2:=fun x y H Q=>Nl x y=true/\Q (.bl (decide (x=y))) H
def Wc:R2:=fun x y H Q=>Nl x y=true/\Q (.bl (!decide (x=y))) H
def wY{i j:Int}:decide (V.int i=V.int j)=(i==j):=by
 rw[Bool.eq_iff_iff];simp
def Cd{i j:Bool}:decide (V.bl i=V.bl j)=(i==j):=by
 rw[Bool.eq_iff_iff];simp
def wZ{i j:Str}:decide (V.str i=V.str j)=(i==j):=by
 rw[Bool.eq_iff_iff];simp
def xA{i j:Array UInt8}:decide (V.byt i=V.byt j)=(i.toList==j.toList):=by
 rw[Bool.eq_iff_iff];cases i;cases j;simp
section
variable {X:Cx}{a b c:Expr}{ta tb tc:TE}{pos:Pos}
def aR{pins:List (Addr×Obj)}{σ:St}{H:Hp}{s:Shared}{Q:VK}{k k':Bool}(I:Inv X pins σ H s)(q:Q (.bl k) H)(e:k=k'):EP X pins σ Q (.bool k') s:=by
 subst e;exact⟨.bl k,H,I,rfl,q⟩
def Kq:OpR X (compareOp .Eq) Wb:=by
 intro pins s σ H x y v u Q I rx ry h;obtain⟨hs,q⟩:=h
 cases x with
 | non=>
  cases rx
  cases y with
  | non=>cases ry;exact PySem.EqNone.eq_none_none (aR I q Zs)
  | bl j=>cases ry;exact PySem.EqNone.eq_none_bool (aR I q Zs)
  | int j=>obtain⟨t',rfl⟩:=ry;exact PySem.EqNone.eq_none_int (aR I q Zs)
  | str j=>obtain⟨t',rfl⟩:=ry;exact PySem.EqNone.eq_none_str (aR I q Zs)
  | _=>exact absurd (show false=true from hs) Bool.false_ne_true
 | bl i=>
  cases rx
  cases y with
  | non=>cases ry;exact PySem.EqNone.eq_bool_none (aR I q Zs)
  | bl j=>cases ry;exact eq_bool (aR I q Cd)
  | str j=>obtain⟨t',rfl⟩:=ry;exact PySem.EqMixed.eq_bool_str (aR I q Zs)
  | _=>exact absurd (show false=true from hs) Bool.false_ne_true
 | int i=>
  obtain⟨t,rfl⟩:=rx
  cases y with
  | non=>cases ry;exact PySem.EqNone.eq_int_none (aR I q Zs)
  | int j=>obtain⟨t',rfl⟩:=ry;exact eq_int (aR I q wY)
  | str j=>obtain⟨t',rfl⟩:=ry;exact PySem.EqMixed.eq_int_str (aR I q Zs)
  | _=>exact absurd (show false=true from hs) Bool.false_ne_true
 | str i=>
  obtain⟨t,rfl⟩:=rx
  cases y with
  | non=>cases ry;exact PySem.EqNone.eq_str_none (aR I q Zs)
  | bl j=>cases ry;exact PySem.EqMixed.eq_str_bool (aR I q Zs)
  | int j=>obtain⟨t',rfl⟩:=ry;exact PySem.EqMixed.eq_str_int (aR I q Zs)
  | str j=>obtain⟨t',rfl⟩:=ry;exact eq_str (aR I q wZ)
  | _=>exact absurd (show false=true from hs) Bool.false_ne_true
 | byt i=>
  obtain⟨t,rfl⟩:=rx
  cases y with
  | byt j=>obtain⟨t',rfl⟩:=ry;exact W.eq_bytes (aR I q xA)
  | _=>exact absurd (show false=true from hs) Bool.false_ne_true
 | _=>cases y<;>exact absurd (show false=true from hs) Bool.false_ne_true
def Kr:OpR X (compareOp .NotEq) Wc:=by
 intro pins s σ H x y v u Q I rx ry h;obtain⟨hs,q⟩:=h
 cases x with
 | non=>
  cases rx
  cases y with
  | non=>cases ry;exact PySem.EqNone.ne_none_none (aR I q Zs)
  | bl j=>cases ry;exact PySem.EqNone.ne_none_bool (aR I q Zs)
  | int j=>obtain⟨t',rfl⟩:=ry;exact PySem.EqNone.ne_none_int (aR I q Zs)
  | str j=>obtain⟨t',rfl⟩:=ry;exact PySem.EqNone.ne_none_str (aR I q Zs)
  | _=>exact absurd (show false=true from hs) Bool.false_ne_true
 | bl i=>
  cases rx
  cases y with
  | non=>cases ry;exact PySem.EqNone.ne_bool_none (aR I q Zs)
  | bl j=>cases ry;exact ne_bool (aR I q (congrArg not Cd))
  | str j=>obtain⟨t',rfl⟩:=ry;exact PySem.EqMixed.ne_bool_str (aR I q Zs)
  | _=>exact absurd (show false=true from hs) Bool.false_ne_true
 | int i=>
  obtain⟨t,rfl⟩:=rx
  cases y with
  | non=>cases ry;exact PySem.EqNone.ne_int_none (aR I q Zs)
  | int j=>obtain⟨t',rfl⟩:=ry;exact ne_int (aR I q (congrArg not wY))
  | str j=>obtain⟨t',rfl⟩:=ry;exact PySem.EqMixed.ne_int_str (aR I q Zs)
  | _=>exact absurd (show false=true from hs) Bool.false_ne_true
 | str i=>
  obtain⟨t,rfl⟩:=rx
  cases y with
  | non=>cases ry;exact PySem.EqNone.ne_str_none (aR I q Zs)
  | bl j=>cases ry;exact PySem.EqMixed.ne_str_bool (aR I q Zs)
  | int j=>obtain⟨t',rfl⟩:=ry;exact PySem.EqMixed.ne_str_int (aR I q Zs)
  | str j=>obtain⟨t',rfl⟩:=ry;exact ne_str (aR I q (congrArg not wZ))
  | _=>exact absurd (show false=true from hs) Bool.false_ne_true
 | byt i=>
  obtain⟨t,rfl⟩:=rx
  cases y with
  | byt j=>obtain⟨t',rfl⟩:=ry;exact W.ne_bytes (aR I q (congrArg not xA))
  | _=>exact absurd (show false=true from hs) Bool.false_ne_true
 | _=>cases y<;>exact absurd (show false=true from hs) Bool.false_ne_true
def Ro:OpR X (compareOp .Lt) (Hn fun i j=>.bl (decide (i<j))):=Ho fun _ _ _ _ _ _ _ q=>lt_int q
def Rp:OpR X (compareOp .LtE) (Hn fun i j=>.bl (decide (i<=j))):=Ho fun _ _ _ _ _ _ _ q=>le_int q
def Rq:OpR X (compareOp .Gt) (Hn fun i j=>.bl (decide (j<i))):=Ho fun _ _ _ _ _ _ _ q=>gt_int q
def Rr:OpR X (compareOp .GtE) (Hn fun i j=>.bl (decide (j<=i))):=Ho fun _ _ _ _ _ _ _ q=>ge_int q
def zI:OpR X (compareOp .In) (fun x y H Q=>∃i j,x=.str i/\y=.str j/\Q (.bl (!(Builtin.Str.occurrences j i 0 j.length 1).isEmpty)) H):=by
 intro pins s σ H x y v u Q I rx ry h;obtain⟨i,j,rfl,rfl,q⟩:=h;obtain⟨t,rfl⟩:=rx;obtain⟨t',rfl⟩:=ry;exact in_str (aR I q rfl)
def Nm:OpR X (compareOp .Is) (fun x y H Q=>y=.non/\Q (.bl (decide (x=.non))) H):=by
 intro pins s σ H x y v u Q I rx ry h;obtain⟨rfl,q⟩:=h;cases ry;refine is_none_gen (aR I q ?_);cases x<;>first
  | (cases rx;rfl)
  | (obtain⟨t,rfl⟩:=rx;rfl)
def Hq:OpR X (compareOp .IsNot) (fun x y H Q=>y=.non/\Q (.bl (!decide (x=.non))) H):=by
 intro pins s σ H x y v u Q I rx ry h;obtain⟨rfl,q⟩:=h;cases ry;refine isnot_none_gen (aR I q ?_);cases x<;>first
  | (cases rx;rfl)
  | (obtain⟨t,rfl⟩:=rx;rfl)
def qI(b:Expr){op:CmpOp}(h:op≠.In:=by decide)(h2:op≠.NotIn:=by decide):behindInMarks op b=false:=by
 have e1:(op==CmpOp.In)=false:=by cases op<;>first|rfl|exact absurd rfl h
 have e2:(op==CmpOp.NotIn)=false:=by cases op<;>first|rfl|exact absurd rfl h2
 cases b<;>simp[behindInMarks,e1,e2]
def Hr{op:CmpOp}{r:R2}(ho:OpR X (compareOp op) r)(ha:PE X a ta)(hb:PE X b tb)(hm:behindInMarks op b=false):PE X (.Compare a [op] [b] pos) (Cc r ta tb):=by
 intro pins s σ H Q I h;exact wpAny_Compare1 (Nc ha hb I h fun v u s2 x y H2 I2 rx ry q=>ho pins s2 σ H2 x y v u Q I2 rx ry q) hm
def xB(t:TE):TT:=fun σ H Q=>t σ H fun x H'=>∃k,x=.bl k/\Q k H'
def Hs{op:CmpOp}{r:R2}(ho:OpR X (compareOp op) r)(ha:PE X a ta)(hb:PE X b tb)(hm:behindInMarks op b=false):PT X (.Compare a [op] [b] pos) (xB (Cc r ta tb)):=by
 intro pins s σ H Q I h;refine wpAny_isTrue_Compare1 (bH (ha pins s σ H _ I h) fun v s1 ⟨x,H1,I1,r1,q1⟩=>bH (hb pins s1 σ H1 _ I1 q1) fun u s2 ⟨y,H2,I2,r2,q2⟩=>
  bH (ho pins s2 σ H2 x y v u _ I2 r1 r2 q2) fun c s3 ⟨z,H3,I3,r3,k,e,q3⟩=>?_) hm
 subst e;cases r3;exact wpAny_truthy_bool ⟨H3,I3,q3⟩
def qJ(r r':R2)(ta tb tc:TE):TE:=fun σ H Q=>ta σ H fun x H1=>tb σ H1 fun y H2=>r x y H2 fun z H3=>∃k,z=.bl k ∧
 (if k=true then tc σ H3 fun w' H4=>r' y w' H4 Q else Q (.bl false) H3)
def Ce{op ow:CmpOp}{r r':R2}(ho:OpR X (compareOp op) r)(og:OpR X (compareOp ow) r')(ha:PE X a ta)(hb:PE X b tb)(hc:PE X c tc)(hm:lastMarks [op,ow] [b,c]=false:=by with_unfolding_all rfl):PE X (.Compare a [op,ow] [b,c] pos) (qJ r r' ta tb tc):=by
 intro pins s σ H Q I h;refine Compare_chain (bH (ha pins s σ H _ I h) fun v s1 ⟨x,H1,I1,r1,q1⟩=>chain_link (bH (hb pins s1 σ H1 _ I1 q1) fun u s2 ⟨y,H2,I2,r2,q2⟩=>
  bH (ho pins s2 σ H2 x y v u _ I2 r1 r2 q2) fun d s3 ⟨z,H3,I3,r3,k,e,q3⟩=>?_)) hm
 subst e;cases r3;refine wpAny_truthy_bool ?_
 cases k with
 | false=>exact ite_ff ⟨.bl false,H3,I3,rfl,q3⟩
 | true=>exact ite_tt (chain_last (bH (hc pins s3 σ H3 _ I3 q3) fun w' s4 ⟨z',H4,I4,r4,q4⟩=>og pins s4 σ H4 y z' u w' Q I4 r2 r4 q4))
def Cf{op ow:CmpOp}{r r':R2}(ho:OpR X (compareOp op) r)(og:OpR X (compareOp ow) r')(ha:PE X a ta)(hb:PE X b tb)(hc:PE X c tc)(hm:lastMarks [op,ow] [b,c]=false:=by with_unfolding_all rfl):PT X (.Compare a [op,ow] [b,c] pos) (xB (qJ r r' ta tb tc)):=by
 intro pins s σ H Q I h;refine isTrue_chain (bH (ha pins s σ H _ I h) fun v s1 ⟨x,H1,I1,r1,q1⟩=>test_link (bH (hb pins s1 σ H1 _ I1 q1) fun u s2 ⟨y,H2,I2,r2,q2⟩=>
  bH (ho pins s2 σ H2 x y v u _ I2 r1 r2 q2) fun d s3 ⟨z,H3,I3,r3,k,e,q3⟩=>?_)) hm
 subst e;cases r3;refine wpAny_truthy_bool ?_
 cases k with
 | false=>
  obtain⟨k',e',q'⟩:=q3;cases e';exact ite_ff ⟨H3,I3,q'⟩
 | true=>
  refine ite_tt (test_last (bH (hc pins s3 σ H3 _ I3 q3) fun w' s4 ⟨z',H4,I4,r4,q4⟩=>bH (og pins s4 σ H4 y z' u w' _ I4 r2 r4 q4) fun d' s5 ⟨z2,H5,I5,r5,k2,e2,q5⟩=>?_));subst e2;cases r5;exact wpAny_truthy_bool ⟨H5,I5,q5⟩
def kK:(sizeLine:Nat)<2^63:=by rw[sizeLine_eq];decide
def uZ:OpR X (binaryOp .Add) (fun x y H Q=>∃i j,x=.str i/\y=.str j/\i.length+j.length<=sizeLine/\Q (.str (i++j)) H):=by
 intro pins s σ H x y v u Q I rx ry h;obtain⟨i,j,rfl,rfl,hz,q⟩:=h;obtain⟨t,rfl⟩:=rx;obtain⟨t',rfl⟩:=ry;exact add_str (fun t' tk=>⟨.str (i++j),H,I.tok _,⟨_,rfl⟩,q⟩) hz
def hI{x:V}{us:List Value}(r:Vals [x] us):∃u,us=[u]/\RelV x u:=by
 cases r with
 | cons r1 r2=>cases r2;exact⟨_,rfl,r1⟩
def Rs{x y:V}{us:List Value}(r:Vals [x,y] us):∃u w',us=[u,w']/\RelV x u/\RelV y w':=by
 cases r with
 | cons r1 r2=>
  cases r2 with
  | cons r3 r4=>cases r4;exact⟨_,_,rfl,r1,r3⟩
def zJ(hc:X.calm=true):CallR X (.builtin "min") (fun xs H Q=>∃i j,xs=[.int i,.int j]/\Q (.int (if j<i then j else i)) H):=by
 intro pins s σ H xs us Q I r h;obtain⟨i,j,rfl,q⟩:=h;obtain⟨u,w',rfl,⟨t,rfl⟩,⟨t',rfl⟩⟩:=Rs r;refine min_two_ints (I.ok.hd hc) fun h' tk k=>⟨_,H,I.kept k,?_,q⟩;by_cases hj:j<i
 ·rw[if_pos hj,if_pos hj];exact⟨_,rfl⟩
 ·rw[if_neg hj,if_neg hj];exact⟨_,rfl⟩
def zK:CallR X (.type "int") (fun xs H Q=>(∃i,xs=[.int i]/\Q (.int i) H)∨∃k,xs=[.bl k]/\Q (.int (if k then 1 else 0)) H):=by
 intro pins s σ H xs us Q I r h;rcases h with⟨i,rfl,q⟩|⟨k,rfl,q⟩
 ·obtain⟨u,rfl,t,rfl⟩:=hI r;exact call_int_int ⟨.int i,H,I,⟨_,rfl⟩,q⟩
 ·obtain⟨u,rfl,r1⟩:=hI r;cases r1;exact call_int_bool ⟨.int (if k then 1 else 0),H,I.tok _,⟨_,rfl⟩,q⟩
end
structure ObjM(h:Heap)(x dx C:Addr)(mA:Str->Option Value):Prop where
 obj:h.get? x=some (W.instObj C dx)
 ns:h.Ns1 dx mA
 ne:dx≠x
def oV{h:Heap}{dx:Addr}{mA:Str->Option Value}(n:h.Ns1 dx mA):∃od,h.get? dx=some od/\∀name,W.lookIn name od=some (mA name):=by
 obtain⟨o,es,ep,ho,hd,hk,_,hm⟩:=n;refine⟨o,ho,fun name=>?_⟩;have e:=hm name;unfold nsFind findBy at e;rw[<- Array.find?_toList]at e;unfold W.lookIn;rw[hd];dsimp only;split
 ·rename_i y q;rw[q]at e;exact congrArg some e
 ·rename_i q;rw[q]at e;have a:es.toList.any (·.refKey)=false:=by
   rw[List.any_eq_false];intro y hy;obtain⟨z,t,sf⟩:=hk y (Array.mem_toList_iff.mp hy);simp[DictEntry.refKey,sf]
  have a':¬ es.toList.any (·.refKey)=true:=by rw[a];exact Bool.false_ne_true
  rw[if_neg a'];exact congrArg some e
def ObjM.look{h:Heap}{x dx C:Addr}{mA:Str->Option Value}(I:ObjM h x dx C mA):∃od,W.InstAt h x (W.instObj C dx) C (some od)/\∀name,W.lookIn name od=some (mA name):=
 let ⟨od,ho,hl⟩:=oV I.ns
 ⟨od,⟨I.obj,rfl,rfl,ho⟩,hl⟩
section
variable {prog:Program}{w:World}{A:Around}{E:Value->Shared->Prop}{s:Shared}{K:W.Frag}{x dx C f:Addr}{mA:Str->Option Value}{name:Str}{v:Value}
def Ht{expr:Bool}{Q:Value->Shared->Prop}(X:K.In s.heap)(I:ObjM s.heap x dx C mA)(hg:W.plainGet K C name=true)(hh:W.hasDictIn K C=true)(ha:W.findIn K (.ref C) name=some none)(hv:mA name=some v)(VZ:W.handedIn v=true)(h:Q v {s with toks:=s.toks+1 }) :
  wpAny (model prog w) A (getAttr (.ref x) name expr) Q E s:=by
 obtain⟨od,J,hl⟩:=I.look;exact W.get_value X J (W.plainGet_of hg).1 (W.findObj_own hh ha rfl (by rw[hl,hv])) VZ h
def Cg{pl:Sem Bool}{Q:Value×List Value->Shared->Prop}(X:K.In s.heap)(I:ObjM s.heap x dx C mA)(hg:W.plainGet K C name=true)(hf:W.findIn K (.ref C) name=some (some (.ref f)))(ht:W.isFn K (.ref f)=true)(hv:mA name=none)(h:Q (.ref f,[.ref x]) s) :
  wpAny (model prog w) A (getMethod (.ref x) name pl) Q E s:=by
 obtain⟨od,J,hl⟩:=I.look;exact W.method_fn X J (W.plainGet_of hg).1 (W.plainGet_of hg).2 hf (beq_iff_eq.mp ht) (by show(W.lookIn name od).map (·.isSome)=some false;rw[hl,hv];rfl) h
def Hu{ns:List Str}{Q:Unit->Shared->Prop}(X:K.In s.heap)(I:ObjM s.heap x dx C mA)(hs:W.findIn K (.ref C) "__setattr__"=some (some (.builtin "object.__setattr__")))(hp:W.plainOver K C=true)(ht:W.takerIn K C name=some none)(hh:W.hasDictIn K C=true)(hw:PySem.Within mA ns)(hsz:ns.length<=sizeLine)(h:∀h',ObjM h' x dx C (fun y=>if y=name then some v else mA y)->Heap.SameBut dx s.heap h'->Q () {s with heap:=h',toks:=s.toks+2 }) :
  wpAny (model prog w) A (setAttr (.ref x) name v) Q E s:=by
 obtain⟨od,J,hl⟩:=I.look;refine W.set_plain X J hs (W.osa_open (s:={s with toks:=s.toks+1 }) (r:=none) X J hp ht fun b=>?_);obtain⟨cd,hc,LY⟩:=W.any_some hh;have hx:s.heap.get? x=some ⟨.ref C,some dx,.plain,#[]⟩:=I.obj;refine wpAny_bind (wpAny_pure (wpAny_bind (wpAny_bind (wpAny_loadPart hx (wpAny_bind (W.Looks.here (s:={s with toks:=s.toks+1 }) (W.looks_clsIn X hc) ?_))))));rw[LY];refine wpAny_pure (a:=some dx) (wpAny_bind (wpAny_pure (wpAny_bind ?_)));refine wpAny_nsSet1 (s:={s with toks:=s.toks+1 }) I.ns fun h' OO UH=>?_;obtain⟨oD,esD,epD,hoD,hdD,JO⟩:=OO.count (PySem.Within.cons name v hw);refine wpAny_bind (wpAny_lookBehind hoD (by rw[hdD];exact pastItsLine_dict (fO JO (by rw[Bn];omega))) ?_);exact wpAny_pure (h _ ⟨(UH.2 _ (Ne.symm I.ne)).trans I.obj,OO,I.ne⟩ UH)
def Ch{R:Result->Shared->Prop}{vs:List Value}{kw:List (Str × Value)}(X:K.In s.heap)(hm:W.makesIn K C=true)(hi:W.findIn K (.ref C) "__init__"=some (some (.ref f)))(hf:W.typeIn K (.ref f)=some (.type "function"))(h:codeAny (model prog w) (A.under (.builtin "type.__call__" ⟨.ref C::vs,kw⟩)) (.call (.ref f) ⟨.ref (s.heap.objs.size+1)::vs,kw⟩) (W.InitBack (s.heap.objs.size+1) R)
   {s with heap:=(s.heap.push W.emptyDict).push (W.instObj C s.heap.objs.size) }) :
  codeAny (model prog w) A (.call (.ref C) ⟨vs,kw⟩) R s:=by
 obtain⟨hh,g,d,t,os⟩:=s;exact W.make_core (W.makes_of X hm) (W.looks_findIn X hi) (fun self=>W.bind_fn X self hf) (.inl rfl) h
end
def bC(f:Str)(v:V):List (Str×V)->List (Str×V)
 | []=>[(f,v)]
 | (g,x)::r=>if g=f then (g,v)::r else (g,x)::bC f v r
def lF(f g:Str)(v:V):∀fs:List (Str×V),(bC f v fs).lookup g=if g=f then some v else fs.lookup g
 | []=>by
  show List.lookup g [(f,v)]=_;by_cases h:g=f
  ·have hb:(g==f)=true:=beq_iff_eq.mpr h;simp only [List.lookup,hb,if_pos h]
  ·have hb:(g==f)=false:=beq_eq_false_iff_ne.mpr h;simp only [List.lookup,hb,if_neg h]
 | (k,x)::r=>by
  have ih:=lF f g v r;rw[show bC f v ((k,x)::r)=(if k=f then (k,v)::r else (k,x)::bC f v r) from rfl];by_cases hk:k=f
  ·rw[if_pos hk];by_cases h:g=k
   ·have hb:(g==k)=true:=beq_iff_eq.mpr h;simp only [List.lookup,hb,if_pos (h.trans hk)]
   ·have hb:(g==k)=false:=beq_eq_false_iff_ne.mpr h;simp only [List.lookup,hb,if_neg (fun e:g=f=>h (e.trans hk.symm))]
  ·rw[if_neg hk];by_cases h:g=k
   ·have hb:(g==k)=true:=beq_iff_eq.mpr h;simp only [List.lookup,hb,if_neg (fun e:g=f=>hk (h.symm.trans e))]
   ·have hb:(g==k)=false:=beq_eq_false_iff_ne.mpr h;simp only [List.lookup,hb];exact ih
def kL(f:Str)(v:V):∀fs:List (Str×V),f∈(bC f v fs).map (·.1)/\∀g,g∈fs.map (·.1)->g∈(bC f v fs).map (·.1)
 | []=>⟨by simp[bC],fun g h=>by simp at h⟩
 | (k,x)::r=>by
  obtain⟨i1,i2⟩:=kL f v r;rw[show bC f v ((k,x)::r)=(if k=f then (k,v)::r else (k,x)::bC f v r) from rfl];by_cases hk:k=f
  ·rw[if_pos hk];subst hk;exact⟨Zs,fun g h=>by simpa using h⟩
  ·rw[if_neg hk];refine⟨?_,fun g h=>?_⟩
   ·rw[map_cons];exact sM _ i1
   ·rw[map_cons]at h ⊢;rcases mem_cons.mp h with e|e
    ·exact mem_cons.mpr (.inl e)
    ·exact sM _ (i2 g e)
def lG(f:Str)(v:V):∀fs:List (Str×V),(bC f v fs).length<=fs.length+1
 | []=>by simp[bC]
 | (k,x)::r=>by
  have ih:=lG f v r;rw[show bC f v ((k,x)::r)=(if k=f then (k,v)::r else (k,x)::bC f v r) from rfl];by_cases hk:k=f
  ·rw[if_pos hk,Bn,Bn];omega
  ·rw[if_neg hk,Bn,Bn];omega
def RelO.some_of{v:V}{o:Option Value}(r:RelO (some v) o):∃u,o=some u/\RelV v u:=by
 cases o with
 | none=>exact(show False from r).elim
 | some u=>exact⟨u,rfl,r⟩
def RelO.none_of{o:Option Value}(r:RelO none o):o=none:=by
 cases o with
 | none=>rfl
 | some u=>exact(show False from r).elim
def oW{v:V}{u:Value}(r:RelV v u):W.handedIn u=true:=by
 cases v with
 | non=>cases(show u=Value.none from r);rfl
 | bl b=>cases(show u=Value.bool b from r);rfl
 | int i=>obtain⟨t,e⟩:=(show ∃t,u=Value.int i t from r);cases e;rfl
 | str x=>obtain⟨t,e⟩:=(show ∃t,u=Value.str x t from r);cases e;rfl
 | byt b=>obtain⟨t,e⟩:=(show ∃t,u=Value.bytes b t from r);cases e;rfl
 | flt b=>obtain⟨t,e⟩:=(show ∃t,u=Value.float b t from r);cases e;rfl
 | ref a=>cases(show u=Value.ref a from r);rfl
 | ty n=>cases(show u=Value.type n from r);rfl
section
variable {P:Program}{w:World}{H H':Hp}{h h':Heap}{a C dx:Addr}{fs UD:List (Str×V)}
def lW(hok:HOk P w H h)(e:H a=some (.ins C dx fs)):∃mA,ObjM h a dx C mA/\(∀f,RelO (fs.lookup f) (mA f))/\PySem.Within mA (fs.map (·.1))/\fs.length<=1000/\H dx=some (.own a):=by
 obtain⟨d,z,ne,ob,mA,n,r,q⟩:=(show ObjOk P w H h a (.ins C dx fs) from hok a _ e);exact⟨mA,⟨ob,n,ne⟩,r,q,z,d⟩
end
structure Cls(K:W.Frag)(C:Addr):Prop where
 pg:W.plainGet K C Str.empty=true
 hd:W.hasDictIn K C=true
 po:W.plainOver K C=true
 sa:W.findIn K (.ref C) "__setattr__"=some (some (.builtin "object.__setattr__"))
def Cls.get{K:W.Frag}{C:Addr}(c:Cls K C)(f:Str):W.plainGet K C f=true:=c.pg
def NoAttr(K:W.Frag)(C:Addr)(f:Str):Prop:=W.findIn K (.ref C) f=some none
def NoAttr.taker{K:W.Frag}{C:Addr}{f:Str}(n:NoAttr K C f):W.takerIn K C f=some none:=by
 unfold W.takerIn;rw[show W.findIn K (.ref C) f=some none from n];rfl
structure Hv(K:W.Frag)(C:Addr)(m:Str)(f:Addr):Prop where
 at_:W.findIn K (.ref C) m=some (some (.ref f))
 fn:W.isFn K (.ref f)=true
 kp:W.keepIn K (.ref f)=true
section
variable {X:Cx}{pins:List (Addr×Obj)}{σ:St}{H:Hp}{s:Shared}{a C dx:Addr}{fs:List (Str×V)}{f:Str}{v:V}{A:Around}{E:Value->Shared->Prop}
def vB{b:Bool}{Q:Value->Shared->Prop}(I:Inv X pins σ H s)(e:H a=some (.ins C dx fs))(c:Cls X.K C)(n:NoAttr X.K C f)(l:fs.lookup f=some v)(h:∀u s',Inv X pins σ H s'->RelV v u->Q u s'):wpAny (model X.prog X.w) A (getAttr (.ref a) f b) Q E s:=by
 obtain⟨mA,O,r,_,_,_⟩:=lW I.hok e;obtain⟨u,hu,ru⟩:=RelO.some_of (v:=v) (o:=mA f) (by rw[<- l];exact r f);exact Ht I.kIn O (c.get f) c.hd n hu (oW ru) (h u _ (I.tok _) ru)
def gB{m:Str}{g:Addr}{pl:Sem Bool}{Q:Value×List Value->Shared->Prop}(I:Inv X pins σ H s)(e:H a=some (.ins C dx fs))(c:Cls X.K C)(k:Hv X.K C m g)(l:fs.lookup m=none)(h:Q (.ref g,[.ref a]) s):wpAny (model X.prog X.w) A (getMethod (.ref a) m pl) Q E s:=by
 obtain⟨mA,O,r,_,_,_⟩:=lW I.hok e;have hn:mA m=none:=RelO.none_of (by rw[<- l];exact r m);exact Cg I.kIn O (c.get m) k.at_ k.fn hn h
def vC{y:V}{u:Value}{Q:Unit->Shared->Prop}(I:Inv X pins σ H s)(e:H a=some (.ins C dx fs))(c:Cls X.K C)(n:NoAttr X.K C f)(hl:fs.length<1000)(ry:RelV y u)(h:∀s',Inv X pins σ (aH H a (.ins C dx (bC f y fs))) s'->Q () s'):wpAny (model X.prog X.w) A (setAttr (.ref a) f u) Q E s:=by
 obtain⟨mA,O,r,wi,_,ho⟩:=lW I.hok e;have hz:(fs.map (·.1)).length<=sizeLine:=by rw[gZ,sizeLine_eq];omega
 refine Hu I.kIn O c.sa c.po n.taker c.hd wi hz fun h' O' sb=>h _ ?_;have hd:∃o,h'.get? dx=some o:=let ⟨o,_,_,e',_⟩:=O'.ns;⟨o,e'⟩;refine I.write (x:=a) (e:=dx) (by rw[e];exact True.intro) (.inr ho) (fun b q hb z=>(sb.2 b hb).trans z) hd ?_;refine⟨by rw[aE O.ne];exact ho,?_,O.ne,O'.obj,_,O'.ns,fun g=>?_,fun g hg=>?_⟩
 ·have:=lG f y fs;omega
 ·show RelO ((bC f y fs).lookup g) (if g=f then some u else mA g);rw[lF];by_cases q:g=f
  ·rw[if_pos q,if_pos q];exact ry
  ·rw[if_neg q,if_neg q];exact r g
 ·by_cases q:g=f
  ·rw[q];exact(kL f y fs).1
  ·refine(kL f y fs).2 g (wi g fun z=>hg ?_);show(if g=f then some u else mA g)=none;rw[if_neg q];exact z
def Inv.made(I:Inv X pins σ H s):Inv X pins σ (aH (aH H s.heap.objs.size (.own (s.heap.objs.size+1))) (s.heap.objs.size+1) (.ins C s.heap.objs.size []))
  {s with heap:=(s.heap.push W.emptyDict).push (W.instObj C s.heap.objs.size) }:=by
 have e1:(s.heap.push W.emptyDict).get? s.heap.objs.size=some W.emptyDict:=Heap.get?_push_size s.heap rfl;have e2:((s.heap.push W.emptyDict).push (W.instObj C s.heap.objs.size)).get? (s.heap.objs.size+1)=some (W.instObj C s.heap.objs.size):=by
  have:=Heap.get?_push_size (s.heap.push W.emptyDict) (o:=W.instObj C s.heap.objs.size) rfl
  rwa [Heap.size_push]at this
 have e3:(s.heap.push W.emptyDict).Ns s.heap.objs.size (fun _=>none):=⟨W.emptyDict,#[],_,e1,rfl,(fun e he=>absurd he Zs),fun _=>rfl⟩;have I1:=I.laid (a:=s.heap.objs.size) (o:=.own (s.heap.objs.size+1)) (h':=s.heap.push W.emptyDict) (t':=s.toks) (fun b u q=>fX _ q) (bY _) ⟨_,e1⟩;refine I1.laid (a:=s.heap.objs.size+1) (o:=.ins C s.heap.objs.size []) (t':=s.toks) (fun b u q=>fX _ q) (le_of_eq (Heap.size_push _ _)) ?_;have ne:s.heap.objs.size≠s.heap.objs.size+1:=ne_of_lt (lt_succ_self _);refine⟨by rw[aE ne,aA],zero_le _,ne,e2,fun _=>none,(Heap.Ns1.of_empty e3).at fun o q=>fX _ q,fun _=>True.intro,fun y hy=>absurd rfl hy⟩
def xC{prog:Program}{w:World}{env:Env}{e:Expr}{f:Str}{pos:Pos}{s:Shared}{Q:Value->Shared->Prop}(hb:attributeBase e f env (eval e env)=eval e env)(h:wpAny (model prog w) A (eval e env) (fun o s₁=>wpAny (model prog w) A (getAttr o f true) Q E s₁) E s):wpAny (model prog w) A (eval (.Attribute e f pos) env) Q E s:=
 Attribute_any_ h (by rw[arm_eval_Attribute,hb])
end
section
variable {X:Cx}{pins:List (Addr×Obj)}{σ:St}{H:Hp}{s:Shared}{A:Around}{E:Value->Shared->Prop}{Q:Value->Shared->Prop}{c:Value}{b:Bool}
inductive jU(K:W.Frag)(H:Hp):V->Value->Prop where
 | non:jU K H .non (.type "NoneType")
 | bl (x:Bool):jU K H (.bl x) (.type "bool")
 | int (i:Int):jU K H (.int i) (.type "int")
 | str (x:Str):jU K H (.str x) (.type "str")
 | flt (x:UInt64):jU K H (.flt x) (.type "float")
 | lst {a:Addr}{xs:List V} (e:H a=some (.lst xs)):jU K H (.ref a) (.type "list")
 | frz {a:Addr}{o:Obj}{xs:List V} (e:H a=some (.frz o (.lst xs))):jU K H (.ref a) (.type "list")
 | tup {a:Addr}{xs:List V} (e:H a=some (.tup xs)):jU K H (.ref a) (.type "tuple")
 | dK {a:Addr}{kvs:List (bJ×V)} (e:H a=some (.dK kvs)):jU K H (.ref a) (.type "dict")
 | dT {a:Addr}{kvs:List (List bJ×V)} (e:H a=some (.dT kvs)):jU K H (.ref a) (.type "dict")
 | ins {a C dx:Addr}{fs:List (Str×V)} (e:H a=some (.ins C dx fs)) (cl:Cls K C) (ha:W.findIn K (.ref C) "__class__"=some (some (.builtin "object.__class__")))
   (hn:W.specialIn K (.builtin "object.__class__") "__get__"=some (some (.builtin "getset_descriptor.__get__"))) (htk:W.takesIn K (.builtin "object.__class__")=some true)
   (hm:W.mroIn K C (.type "object")=some true):jU K H (.ref a) (.ref C)
def zL{x:V}{u t:Value}(I:Inv X pins σ H s)(rx:RelV x u)(ty:jU X.K H x t)(e:W.kitOne X.K t c=some b)(h:∀tk,Q (.bool b) {s with toks:=tk }) :
  wpAny (model X.prog X.w) A (call (.builtin "isinstance") [u,c]) Q E s:=by
 cases ty with
 | non=>cases(show u=Value.none from rx);exact W.kia_one W.kitx_none I.kIn True.intro e nofun h
 | bl y=>cases(show u=Value.bool y from rx);exact W.kia_one W.kitx_bool I.kIn True.intro e nofun h
 | int i=>obtain⟨t,q⟩:=(show ∃t,u=Value.int i t from rx);cases q;exact W.kia_one W.kitx_int I.kIn True.intro e nofun h
 | str y=>obtain⟨t,q⟩:=(show ∃t,u=Value.str y t from rx);cases q;exact W.kia_one W.kitx_str I.kIn True.intro e nofun h
 | flt y=>obtain⟨t,q⟩:=(show ∃t,u=Value.float y t from rx);cases q;exact W.kia_one W.kitx_float I.kIn True.intro e nofun h
 | @lst a xs ea=>
  cases(show u=Value.ref a from rx);obtain⟨_,_,n,_,h1⟩:=(show ObjOk X.prog X.w H s.heap a (.lst xs) from I.hok a _ ea);exact W.kia_one W.kitx_list I.kIn ⟨_,h1,rfl⟩ e nofun h
 | @frz a ob xs ea=>
  cases(show u=Value.ref a from rx);obtain⟨_,_,_,n,_,h1⟩:=(show ObjOk X.prog X.w H s.heap a (.frz ob (.lst xs)) from I.hok a _ ea);exact W.kia_one W.kitx_list I.kIn ⟨_,h1,rfl⟩ e nofun h
 | @tup a xs ea=>
  cases(show u=Value.ref a from rx);obtain⟨_,_,_,p⟩:=(show ObjOk X.prog X.w H s.heap a (.tup xs) from I.hok a _ ea);obtain⟨o,h1,h2,_⟩:=p;exact W.kia_one W.kitx_tuple I.kIn ⟨o,h1,h2⟩ e nofun h
 | @dK a kvs ea=>
  cases(show u=Value.ref a from rx);obtain⟨_,_,vs,_,p⟩:=(show ObjOk X.prog X.w H s.heap a (.dK kvs) from I.hok a _ ea);obtain⟨o,es,ep,h1,h2,_⟩:=p;exact W.kia_one W.kitx_dict I.kIn ⟨o,h1,h2.1⟩ e nofun h
 | @dT a kvs ea=>
  cases(show u=Value.ref a from rx);obtain⟨_,_,xs,_,o,es,ep,h1,h2,_⟩:=(show ObjOk X.prog X.w H s.heap a (.dT kvs) from I.hok a _ ea);exact W.kia_one W.kitx_dict I.kIn ⟨o,h1,h2.1⟩ e nofun h
 | @ins a C dx fs ea cl ha hn htk hm=>
  cases(show u=Value.ref a from rx);obtain⟨mA,O,_⟩:=lW I.hok ea;obtain⟨od,J,_⟩:=O.look;exact W.kia_one (W.kitx_own (cl.get _) cl.hd ha hn htk hm) I.kIn J e nofun h
end
structure Room(k:Nat)(A:Around):Prop where
 hd:A.handled=none
 dp:A.depth+3*k+5<recursionLimit
 un:A.units+16*k+200<cLine
def Room.mono{j k:Nat}{A:Around}(r:Room k A)(h:j<=k):Room j A:=⟨r.hd,by have:=r.dp;omega,by have:=r.un;omega⟩
def Room.deeper{k:Nat}{A:Around}(r:Room (k+1) A)(env:Env):Room k (A.deeper env):=
 ⟨r.hd,by have:=r.dp;show A.depth+1+3*k+5<_;omega,by have:=r.un;show A.units+3+16*k+200<_;omega⟩
def vE{A:Around}{C:Addr}{us:List Value}{kw:List (Str×Value)}:(A.under (.builtin "type.__call__" ⟨.ref C::us,kw⟩)).depth=A.depth+1:=by
 first|rfl|simp[Around.under,Code.weight,Code.isCreation,Code.isGuard,Code.isCaller,Code.frames,Code.isFrame,guardIds]
def vF{A:Around}{C:Addr}{us:List Value}{kw:List (Str×Value)}:(A.under (.builtin "type.__call__" ⟨.ref C::us,kw⟩)).units=A.units+1:=by
 first|rfl|simp[Around.under,Code.cUnits,Code.frames,Code.isFrame]
def Room.make{k:Nat}{A:Around}(r:Room (k+1) A)(C:Addr)(us:List Value)(kw:List (Str×Value)):Room k (A.under (.builtin "type.__call__" ⟨.ref C::us,kw⟩)):=
 ⟨r.hd,by have:=r.dp;rw[vE];omega,by have:=r.un;rw[vF];omega⟩
def Room.depth{k:Nat}{A:Around}(r:Room k A):A.depth<recursionLimit:=by have:=r.dp;omega
def Room.units{k:Nat}{A:Around}(r:Room k A):A.units+64<cLine:=by have:=r.un;omega
def Room.units0{k:Nat}{A:Around}(r:Room k A):A.units<cLine:=by have:=r.un;omega
def qK:TA:=fun _ H Q=>Q [] H
def sQ(ta:TE)(tr:TA):TA:=fun σ H Q=>ta σ H fun x H1=>tr σ H1 fun xs H2=>Q (x::xs) H2
section
variable {X:Cx}{e:Expr}{es:List Expr}{te:TE}{t:TA}{pos:Pos}
def vG:PA X [] qK:=fun _ _ _ _ H Q I h=>Calls.spliced_nil ⟨[],H,I,.nil,h⟩
def qL(ha:PE X e te)(hr:PA X es t)(hs:starEach (e::es) X.env=(false,eval e X.env)::starEach es X.env:=by rfl):PA X (e::es) (sQ te t):=by
 intro pos pins s σ H Q I h;rw[hs];show wpAny _ _ (spliced ((false,eval e X.env)::backTo pos (starEach es X.env))) _ _ s;refine Calls.spliced_cons (bH (ha pins s σ H _ I h) fun u s1 ⟨x,H1,I1,r1,q1⟩=>?_);exact bH (hr pos pins s1 σ H1 _ I1 q1) fun us s2 ⟨xs,H2,I2,r2,q2⟩=>⟨x::xs,H2,I2,.cons r1 r2,q2⟩
def Rt(t:TA):TE:=fun σ H Q=>t σ H fun xs H1=>xs.length<=sizeLine/\∀p,H1 p=none->Q (.ref p) (aH H1 p (.tup xs))
def Ru(t:TA):TE:=fun σ H Q=>t σ H fun xs H1=>xs.length<=sizeLine/\∀p,H1 p=none->Q (.ref p) (aH H1 p (.lst xs))
def Nn{x1}(h:PA X es t):PE X (.Tuple es x1 pos) (Rt t):=by
 intro pins s σ H Q I hq;refine wpAny_Tuple_spliced (bH (h pos pins s σ H _ I hq) fun us s1 ⟨xs,H1,I1,r,z,q⟩=>⟨by rw[<- r.length];exact z,?_⟩);have hf:H1 s1.heap.objs.size=none:=I1.hok.fresh (bY _);refine⟨.ref s1.heap.objs.size,aH H1 s1.heap.objs.size (.tup xs),I1.laid (t':=s1.toks) (fun b u e=>fX _ e) (bY _) ?_,rfl,q _ hf⟩;exact⟨z,us,r,⟨_,Heap.get?_push_size _ rfl,rfl,_,rfl⟩⟩
def No(h:PA X es t):PE X (.List es pos) (Ru t):=by
 intro pins s σ H Q I hq;refine wpAny_List_spliced (bH (h pos pins s σ H _ I hq) fun us s1 ⟨xs,H1,I1,r,z,q⟩=>⟨by rw[<- r.length];exact z,?_⟩);have hf:H1 s1.heap.objs.size=none:=I1.hok.fresh (bY _);refine⟨.ref s1.heap.objs.size,aH H1 s1.heap.objs.size (.lst xs),I1.laid (t':=s1.toks) (fun b u e=>fX _ e) (bY _) ?_,rfl,q _ hf⟩;exact⟨z,us,0,r,Heap.get?_push_size _ rfl⟩
end
abbrev Sp:=List V->Hp->VK->XK->Prop
abbrev Ci:=List Env->Hp->Shared->XK->Value->Shared->Prop
structure Env0(P:Program)(w:World)(K:W.Frag)(mg:Str->Option Value)(base:Heap)(A:Around)(outer:List Env)(s:Shared)(H:Hp):Prop where
 frames:A.frames=some outer
 mod:Mod K mg base
 bs:∀b o,base.get? b=some o->s.heap.get? b=some o/\H b=none
 bsz:base.objs.size<=s.heap.objs.size
 funs:s.heap.FunFrames base outer
 frf:∀b∈gU outer,H b=none
 hok:HOk P w H s.heap
 bare:AllBare s.gens
def CE(outer:List Env)(P:Program)(w:World)(H:Hp)(s:Shared)(Q:VK)(u:Value)(s':Shared):Prop:=
 ∃v H',s'.os=s.os/\AllBare s'.gens/\Un (gU outer) [] H H' s.heap s'.heap/\HOk P w H' s'.heap/\RelV v u/\Q v H'
def CR(CX:Ci)(outer:List Env)(P:Program)(w:World)(H:Hp)(s:Shared)(Q:VK)(E:XK)(r:Result)(s':Shared):Prop:=
 match r with
 | .ok (.ret u)=>CE outer P w H s Q u s'
 | .ok _=>False
 | .error e=>CX outer H s E e s'
structure gC(P:Program)(w:World)(K:W.Frag)(mg:Str->Option Value)(base:Heap)(CX:Ci)(k:Nat)(f:Addr)(fd:FuncData)(ps:List Str)(sp:Sp):Prop where
 len:∀vs H Q E,sp vs H Q E->vs.length=ps.length
 run:∀(A:Around)(outer:List Env)(s:Shared)(H:Hp)(args:Args)(us:List Value)(vs:List V)(Q:VK)(E:XK),Room k A->Env0 P w K mg base A outer s H->BindsTo s fd args (ps.zip us)->Vals vs us->sp vs H Q E →
  codeAny (model P w) A (.call (.ref f) args) (CR CX outer P w H s Q E) s
def Env0.make{P:Program}{w:World}{K:W.Frag}{mg:Str->Option Value}{base:Heap}{A:Around}{outer:List Env}{s:Shared}{H:Hp}(e:Env0 P w K mg base A outer s H)(C:Addr)(us:List Value)(kw:List (Str×Value)) :
  Env0 P w K mg base (A.under (.builtin "type.__call__" ⟨.ref C::us,kw⟩)) outer s H:=⟨by first|exact e.frames|(simpa [Around.under,Code.envs,Code.isFrame,pushEnvs]using e.frames),e.mod,e.bs,e.bsz,e.funs,e.frf,e.hok,e.bare⟩
section
variable {X:Cx}{pins:List (Addr×Obj)}{σ:St}{H:Hp}{s s':Shared}
def Inv.env0(I:Inv X pins σ H s):Env0 X.prog X.w X.K X.mg X.base X.A X.stack s H:=
 ⟨I.ok.frames,I.ok.mod,I.bs,fO I.ok.bsz I.sz,I.stack,I.stkFree,I.hok,I.bare⟩
def Inv.after{Q:VK}{u:Value}(I:Inv X pins σ H s)(h:CE X.stack X.prog X.w H s Q u s'):EP X pins σ Q u s':=by
 obtain⟨v,H',os,bare,un,hok,r,q⟩:=h;obtain⟨hh,g,d,t,os'⟩:=s';obtain rfl:os'=s.os:=os;exact⟨v,H',I.call (h':=hh) (g':=g) (d':=d) (t':=t) (ch:=[]) un hok bare (fun b z=>absurd z Zs),r,q⟩
end
def Rv(sp:Sp)(dvs:List V)(E:XK)(t:TA):TE:=fun σ H Q=>t σ H fun vs H1=>sp (vs++dvs) H1 Q E
def xE(C:Addr)(sp:Sp)(dvs:List V)(E:XK)(t:TA):TE:=fun σ H Q=>t σ H fun vs H1=>∀x dx,H1 x=none->H1 dx=none->dx≠x →
 sp (.ref x::(vs++dvs)) (aH (aH H1 dx (.own x)) x (.ins C dx [])) (fun v H2=>v=.non/\Q (.ref x) H2) E
def Binds(K:W.Frag)(fd:FuncData)(ps:List Str)(ds:List Value):Prop:=
 ∀(s:Shared)(us:List Value),K.In s.heap->(us++ds).length=ps.length->BindsTo s fd ⟨us,[]⟩ (ps.zip (us++ds))
def Binds.all{K:W.Frag}{fd:FuncData}{ps:List Str}(h:∀us:List Value,us.length=ps.length->bindArgs fd ⟨us,[]⟩=pure (ps.zip us)):Binds K fd ps []:=fun s us _ hl=>by
 rw[append_nil]at hl ⊢;exact .of_eq (h us hl)
def kM(CX:Ci)(X:Cx)(E:XK):Prop:=∀(pins:List (Addr×Obj))(σ:St)(H:Hp)(s:Shared)(e:Value)(s':Shared),Inv X pins σ H s->CX X.stack H s E e s'->X.xe e s'
section
variable {X:Cx}{CX:Ci}{k:Nat}{f C:Addr}{fd:FuncData}{ps:List Str}{sp:Sp}{dvs:List V}{ds:List Value}{E:XK}{x m:Str}{p pos apos:Pos}{e o:Expr}{es:List Expr}{ta:TE}{t:TA}
def vH{pins:List (Addr×Obj)}{σ:St}{H:Hp}{s:Shared}{Q:VK}{us:List Value}{vs:List V}(F:gC X.prog X.w X.K X.mg X.base CX k f fd ps sp)(hr:Room k X.A)(hb:Binds X.K fd ps ds)(hd:Vals dvs ds)(hx:kM CX X E)(I:Inv X pins σ H s)(r:Vals vs us)(h:sp (vs++dvs) H Q E):wpAny (model X.prog X.w) X.A (call (.ref f) us) (EP X pins σ Q) X.xe s:=by
 have r2:Vals (vs++dvs) (us++ds):=r.append hd;have hl:(us++ds).length=ps.length:=by rw[<- r2.length];exact F.len _ _ _ _ h
 refine wpAny_call (codeAny_mono (F.run X.A X.stack s H ⟨us,[]⟩ (us++ds) (vs++dvs) Q E hr I.env0 (hb s us I.kIn hl) r2 h) fun r s' hq=>?_)
 cases r with
 | error e=>exact hx pins σ H s e s' I hq
 | ok fl=>
  cases fl with
  | ret u=>exact I.after hq
  | next=>exact False.elim hq
  | brk=>exact False.elim hq
  | cont=>exact False.elim hq
def Hw(F:gC X.prog X.w X.K X.mg X.base CX k f fd ps sp)(hr:Room k X.A)(hg:Gl X x)(hm:X.mg x=some (.ref f))(hk:W.keepIn X.K (.ref f)=true)(hb:Binds X.K fd ps ds)(hd:Vals dvs ds)(hx:kM CX X E)(ha:PA X (e::es) t)(K5:(x==("__debug__":Str))=false:=by decide)(he:starEach (e::es) X.env=(false,eval e X.env)::starEach es X.env:=by rfl)(uq:(backTo pos (starEach es X.env)).any (·.1)=false:=by rfl) :
  PE X (.Call (.Name x p) (e::es) [] pos) (Rv sp dvs E t):=by
 intro pins s σ H Q I h;refine wpAny_Call_Name_kw (fZ I hg hm ?_ K5);refine W.callWith_K (h₀:=X.base) I.ok.mod.kin hk (bH (ha pos pins s σ H _ I h) fun us s1 ⟨vs,H1,I1,r,q⟩=>⟨I1.kIn,?_⟩) he uq;exact vH F hr hb hd hx I1 r q
structure Mk(K:W.Frag)(C f:Addr):Prop where
 makes:W.makesIn K C=true
 init:W.findIn K (.ref C) "__init__"=some (some (.ref f))
 fn:W.isFn K (.ref f)=true
 kp:W.keepIn K (.ref C)=true
def sR{pins:List (Addr×Obj)}{σ:St}{H:Hp}{s:Shared}{Q:VK}{us:List Value}{vs:List V}(M:Mk X.K C f)(F:gC X.prog X.w X.K X.mg X.base CX k f fd ps sp)(hr:Room (k+1) X.A)(hb:Binds X.K fd ps ds)(hd:Vals dvs ds)(hx:kM CX X E)(I:Inv X pins σ H s)(r:Vals vs us)(h:∀x dx,H x=none->H dx=none->dx≠x->sp (.ref x::(vs++dvs)) (aH (aH H dx (.own x)) x (.ins C dx [])) (fun v H2=>v=.non/\Q (.ref x) H2) E) :
  wpAny (model X.prog X.w) X.A (call (.ref C) us) (EP X pins σ Q) X.xe s:=by
 have hq:=h (s.heap.objs.size+1) s.heap.objs.size (I.hok.fresh (le_succ _)) (I.hok.fresh (bY _)) (ne_of_lt (lt_succ_self _));have I2:=Inv.made (C:=C) I;have r2:Vals (V.ref (s.heap.objs.size+1)::(vs++dvs)) (Value.ref (s.heap.objs.size+1)::(us++ds)):=.cons rfl (r.append hd);have hl:(Value.ref (s.heap.objs.size+1)::us++ds).length=ps.length:=by
  have e:=r2.length;rw[F.len _ _ _ _ hq]at e;exact e.symm
 refine wpAny_call (Ch (f:=f) I.kIn M.makes M.init (beq_iff_eq.mp M.fn) (codeAny_mono (F.run _ X.stack _ _ ⟨Value.ref (s.heap.objs.size+1)::us,[]⟩ (Value.ref (s.heap.objs.size+1)::(us++ds)) _ _ E (hr.make C us [])
  (I2.env0.make C us []) (hb _ (Value.ref (s.heap.objs.size+1)::us) I2.kIn hl) r2 hq) fun r s' sh=>?_))
 cases r with
 | error e=>exact hx pins σ _ _ e s' I2 sh
 | ok fl=>
  cases fl with
  | ret u=>
   obtain⟨v,H',I3,rv,ev,q3⟩:=I2.after sh;subst ev;exact⟨rv,⟨V.ref (s.heap.objs.size+1),H',I3,rfl,q3⟩⟩
  | next=>exact False.elim sh
  | brk=>exact False.elim sh
  | cont=>exact False.elim sh
def Hx(M:Mk X.K C f)(F:gC X.prog X.w X.K X.mg X.base CX k f fd ps sp)(hr:Room (k+1) X.A)(hg:Gl X x)(hm:X.mg x=some (.ref C))(hb:Binds X.K fd ps ds)(hd:Vals dvs ds)(hx:kM CX X E)(ha:PA X (e::es) t)(K5:(x==("__debug__":Str))=false:=by decide)(he:starEach (e::es) X.env=(false,eval e X.env)::starEach es X.env:=by rfl)(uq:(backTo pos (starEach es X.env)).any (·.1)=false:=by rfl) :
  PE X (.Call (.Name x p) (e::es) [] pos) (xE C sp dvs E t):=by
 intro pins s σ H Q I h;refine wpAny_Call_Name_kw (fZ I hg hm ?_ K5);refine W.callWith_K (h₀:=X.base) I.ok.mod.kin M.kp (bH (ha pos pins s σ H _ I h) fun us s1 ⟨vs,H1,I1,r,q⟩=>⟨I1.kIn,?_⟩) he uq;exact sR M F hr hb hd hx I1 r q
def Cj(M:Mk X.K C f)(F:gC X.prog X.w X.K X.mg X.base CX k f fd ps sp)(hr:Room (k+1) X.A)(hg:Gl X x)(hm:X.mg x=some (.ref C))(hb:Binds X.K fd ps ds)(hd:Vals dvs ds)(hx:kM CX X E)(K5:(x==("__debug__":Str))=false:=by decide):PE X (.Call (.Name x p) [] [] pos) (xE C sp dvs E qK):=by
 intro pins s σ H Q I h;refine wpAny_Call_Name_kw (fZ I hg hm ?_ K5);exact W.callWith_K0 I.kIn M.kp (sR (us:=[]) M F hr hb hd hx I .nil h)
end
structure aG(N P:List Str)(sc:Scope):Prop where
 kind:sc.kind=.function
 co:sc.isCoroutine=false
 gen:sc.isGenerator=false
 nd:N.Nodup
 pre:N.take P.length=P
 par:∀x∈P,sc.names.lookup x=some .local∨sc.names.lookup x=some .cell
 nofree:∀y∈sc.names,y.2≠.free
def oX{kindOf:Str->Option NameKind}{x:Str}:∀ {binds:List (Str×Value)}{m:Str->Option Value},(∀v,(x,v)∉binds)->bindL kindOf binds m x=m x
 | [],_,_=>rfl
 | (n,v)::r,m,h=>by
  unfold bindL;rw[oX fun w hw=>h w (sM _ hw)];split
  ·have:x≠n:=by rintro rfl;exact h v sN
   simp[this]
  ·rfl
def oY{kindOf:Str->Option NameKind}{x:Str}:∀ {binds:List (Str×Value)}{m:Str->Option Value},(∀v,(x,v)∉binds)->bindC kindOf binds m x=m x
 | [],_,_=>rfl
 | (n,v)::r,m,h=>by
  unfold bindC;rw[oY fun w hw=>h w (sM _ hw)];split
  ·rfl
  ·have:x≠n:=by rintro rfl;exact h v sN
   simp[this]
def oZ{kindOf:Str->Option NameKind}{x:Str}{v:Value}:∀ {P:List Str}{vs:List Value}{i:Nat}{m:Str->Option Value},P.Nodup->P[i]?=some x->vs[i]?=some v->kindOf x=some .local →
  bindL kindOf (P.zip vs) m x=some v
 | [],_,_,_,_,h,_,_=>by simp at h
 | _::_,[],_,_,_,_,h,_=>by simp at h
 | p::P,w::vs,0,m,nd,h1,h2,hk=>by
  simp at h1 h2;subst h1;subst h2;show bindL kindOf ((p,w)::P.zip vs) m p=_;unfold bindL;rw[oX fun v hv=>(nodup_cons.mp nd).1 (of_mem_zip hv).1,if_pos hk];simp
 | p::P,w::vs,i+1,m,nd,h1,h2,hk=>by
  show bindL kindOf ((p,w)::P.zip vs) m x=_;unfold bindL;exact oZ (i:=i) (nodup_cons.mp nd).2 (by simpa using h1) (by simpa using h2) hk
def pB{kindOf:Str->Option NameKind}{x:Str}{v:Value}:∀ {P:List Str}{vs:List Value}{i:Nat}{m:Str->Option Value},P.Nodup->P[i]?=some x->vs[i]?=some v->kindOf x≠some .local →
  bindC kindOf (P.zip vs) m x=some v
 | [],_,_,_,_,h,_,_=>by simp at h
 | _::_,[],_,_,_,_,h,_=>by simp at h
 | p::P,w::vs,0,m,nd,h1,h2,hk=>by
  simp at h1 h2;subst h1;subst h2;show bindC kindOf ((p,w)::P.zip vs) m p=_;unfold bindC;rw[oY fun v hv=>(nodup_cons.mp nd).1 (of_mem_zip hv).1,if_neg hk];simp
 | p::P,w::vs,i+1,m,nd,h1,h2,hk=>by
  show bindC kindOf ((p,w)::P.zip vs) m x=_;unfold bindC;exact pB (i:=i) (nodup_cons.mp nd).2 (by simpa using h1) (by simpa using h2) hk
def start(N:List Str)(vs:List V):St:=vs.map some++replicate (N.length-vs.length) none
def dH(CX:Ci)(P:Program)(w:World)(K:W.Frag)(mg:Str->Option Value)(base:Heap)(N:List Str)(qual:Str)(scope:Scope)(f:Addr)(cd:Value)(A:Around)(outer:List Env)(s:Shared)(H:Hp)(E:XK):Cx where
 prog:=P
 w:=w
 K:=K
 mg:=mg
 base:=base
 A:=A.deeper (envOfC qual scope s.heap.objs.size f cd)
 N:=N
 s₀:=s
 H₀:=H
 env:=envOfC qual scope s.heap.objs.size f cd
 outer:=outer
 stack:=envOfC qual scope s.heap.objs.size f cd::outer
 ex:=[]
 calm:=true
 fn:=fun _=>true
 pn:=[]
 xe:=fun e s'=>wpAny (model P w) (A.deeper (envOfC qual scope s.heap.objs.size f cd)) (leaving (envOfC qual scope s.heap.objs.size f cd) e) (fun _ zi=>CX outer H s E e zi) (fun e' zi=>CX outer H s E e' zi) s'
def sU{sc:Scope}{n:Nat}{x:Str}(h:sc.names.lookup x=some .cell):∃c,(cellsFrom n sc.names []).lookup x=some c:=by
 have q:=W.cellsFrom_some sc.names n [] (.inl h);exact Option.isSome_iff_exists.mp q
def zM{CX:Ci}{P:Program}{w:World}{K:W.Frag}{mg:Str->Option Value}{base:Heap}{N ps:List Str}{qual:Str}{scope:Scope}{f:Addr}{cd:Value}{A:Around}{outer:List Env}{s s1:Shared}{H:Hp}{E:XK}{us:List Value}{vs:List V}(S:aG N ps scope)(hd:A.handled=none)(e0:Env0 P w K mg base A outer s H)(hl:vs.length=ps.length)(r:Vals vs us)(x:InCallC s s.heap.objs.size (bindL (envOfC qual scope s.heap.objs.size f cd).kindOf (ps.zip us) fun _=>none) (cellsFrom (s.heap.objs.size+1) scope.names []) (bindC (envOfC qual scope s.heap.objs.size f cd).kindOf (ps.zip us) fun _=>none) s1) :
  Inv (dH CX P w K mg base N qual scope f cd A outer s H E) [] (start N vs) H s1:=by
 have uq:ps.length<=N.length:=by have:=congrArg length S.pre;rw[oR]at this;omega
 obtain⟨h1,tk,rfl,hk⟩:=x.done;have PU:∀b:Addr,b∉(dH CX P w K mg base N qual scope f cd A outer s H E).ex:=fun b z=>absurd (show b∈([]:List Addr) from z) Zs
 refine⟨⟨e0.mod,S.kind,rfl,rfl,bY _,fun y z c h1 h2=>?_,fun y hy=>?_,fun y c _ h=>?_,fun _=>hd,Around.frames_deeper e0.frames,.inr ⟨rfl,rfl⟩,fun b z=>absurd z (PU b),e0.bs,e0.bsz,fun b _ _=>PU b,fun b z=>absurd z (PU b),e0.funs,e0.frf⟩,
  rfl,e0.bare,Un.kept hk,⟨_,x.toInCall.ns,fun i y v h1 h2 h3=>?_⟩,fun y c h=>⟨_,x.cell y c h⟩,e0.hok.fresh (bY _),fun y c h=>?_,fun p hp=>absurd (show p∈([]:List (Addr × Obj)) from hp) Zs,e0.hok.kept hk,?_⟩
 ·exact name_of_addr x.apart (PySem.mem_of_lookup h1) (PySem.mem_of_lookup h2)
 ·have hy:scope.names.lookup y=some .cell∨scope.names.lookup y=some .free:=hy;rcases hy with hy|hy
  ·exact sU hy
  ·exact absurd rfl (S.nofree _ (PySem.mem_of_lookup hy))
 ·exact le_of_lt (x.above y c (PySem.mem_of_lookup h))
 ·have hi:i<vs.length:=by
   unfold start at h2;by_cases hi:i<vs.length
   ·exact hi
   ·rw[List.getElem?_append_right (by simpa using hi)]at h2;rw[List.getElem?_replicate]at h2;split at h2<;>cases h2
  have ha:vs[i]?=some v:=by
   unfold start at h2;rw[List.getElem?_append_left (by simpa using hi),jS]at h2
   cases e:vs[i]? with
   | none=>rw[e]at h2;cases h2
   | some a=>rw[e]at h2;cases h2;rfl
  obtain⟨u,hu,rv⟩:=r.get ha;have hp:ps[i]?=some y:=by
   rw[<- S.pre,List.getElem?_take_of_lt Zo];exact h1
  have YL:ps.Nodup:=by rw[<- S.pre];exact S.nd.sublist (List.take_sublist _ _)
  refine⟨u,rv,?_⟩;rcases S.par y (lN hp) with k|k
  ·exact .inl ⟨k,oZ YL hp hu k⟩
  ·obtain⟨c,e⟩:=sU (n:=s.heap.objs.size+1) k;refine .inr ⟨.inl k,c,e,?_⟩;have q:=x.cell y c e;rw[pB YL hp hu (by show scope.names.lookup y≠_;rw[k];decide)]at q;exact q
 ·exact e0.hok.fresh (le_of_lt (x.above y c (PySem.mem_of_lookup h)))
 ·unfold start;show _=N.length;rw[wW,gZ,List.length_replicate];omega
def Ck{CX:Ci}{P:Program}{w:World}{K:W.Frag}{mg:Str->Option Value}{base:Heap}{k:Nat}{f:Addr}{name qual:Str}{params:Arguments}{body:List Stmt}{scope:Scope}{dV kV doc pm cdv ct oc:Value}{an od:Option Addr}{osl:Array (Option Value)}{N ps:List Str}{sp:Sp}(lk:K.lookup f=some ⟨oc,od,.func (W.fnOf name qual params body scope dV kV doc pm an cdv ct),osl⟩)(ya:W.codeIn K cdv qual=true)(S:aG N ps scope)(len:∀vs H Q E,sp vs H Q E->vs.length=ps.length)(o9:∀(A:Around)(outer:List Env)(s:Shared)(H:Hp)(vs:List V)(Q:VK)(E:XK),Room k (A.deeper (envOfC qual scope s.heap.objs.size f cdv))->sp vs H Q E →
   ∃t,PSs (dH CX P w K mg base N qual scope f cdv A outer s H E) body t/\t {nx:=fun _ H'=>Q .non H',rt:=Q } (start N vs) H) :
  gC P w K mg base CX (k+1) f (W.fnOf name qual params body scope dV kV doc pm an cdv ct) ps sp:=by
 refine⟨len,fun A outer s H args us vs Q E hr e0 hb r ER=>?_⟩;have hl:=len _ _ _ _ ER;have KX:K.In s.heap:=e0.mod.kin.keeps fun b o e=>(e0.bs b o e).1
 have lim:s.heap.NoLimit:=e0.mod.nolimit.keeps fun b o e=>(e0.bs b o e).1
 have PV:∀y∈ps.zip us,scope.names.lookup y.1=some .local∨(scope.names.lookup y.1=some .cell/\((cellsFrom (s.heap.objs.size+1) scope.names []).lookup y.1).isSome=true):=fun⟨n,v⟩ hy=>by
  rcases S.par n (of_mem_zip hy).1 with q|q
  ·exact .inl q
  ·exact .inr ⟨q,W.cellsFrom_some _ _ _ (.inl q)⟩
 refine codeAny_call_function hr.depth (KX _ _ lk) rfl S.co S.gen rfl (W.codeRec_of KX ya) (hb _ _ _ _ ?_);refine wpAny_newFunctionEnv_cells S.kind PV fun env he s1 x=>?_;subst he;refine⟨lim.keeps x.toInCall.keep,codeAny_func ?_⟩;obtain⟨t,ht,hq⟩:=o9 A outer s H vs Q E (hr.deeper _) ER;have I:Inv (dH CX P w K mg base N qual scope f cdv A outer s H E) [] (start N vs) H s1:=zM S hr.hd e0 hl r x;refine wpAny_mono (ht [] s1 (start N vs) H _ I hq) (fun fl s' hs=>?_) fun e s' hs=>hs;have fin:∀ {σ':St}{H':Hp}{v:V}{u:Value},Inv (dH CX P w K mg base N qual scope f cdv A outer s H E) [] σ' H' s'->RelV v u->Q v H'->CE outer P w H s Q u s':=
  fun {σ' H' v u} J rv q=>⟨v,H',J.os,J.bare,J.base,J.hok,rv,q⟩
 cases fl with
 | ret u=>
  obtain⟨v,σ',H',J,rv,q⟩:=hs;exact fin J rv q
 | next=>
  obtain⟨σ',H',J,q⟩:=hs;exact fin (v:=V.non) (u:=Value.none) J rfl q
 | brk=>
  obtain⟨_,_,_,q⟩:=hs;exact False.elim q
 | cont=>
  obtain⟨_,_,_,q⟩:=hs;exact False.elim q
section
variable {X:Cx}{x:Str}{p pos:Pos}{e:Expr}{es:List Expr}{t:TA}{id T:String}{r:List V->Hp->VK->Prop}
def Qn(r:List V->Hp->VK->Prop)(t:TA):TE:=fun σ H Q=>t σ H fun vs H1=>r vs H1 Q
def sV(hc:CallR X (.builtin id) r)(hg:Gl X x)(hm:X.mg x=none)(hv:bootBuiltins x=some (.builtin id))(ha:PA X (e::es) t)(hn:x≠"__name__":=by decide)(K5:(x==("__debug__":Str))=false:=by decide)(he:starEach (e::es) X.env=(false,eval e X.env)::starEach es X.env:=by rfl)(uq:(backTo pos (starEach es X.env)).any (·.1)=false:=by rfl):PE X (.Call (.Name x p) (e::es) [] pos) (Qn r t):=by
 intro pins s σ H Q I h;refine wpAny_Call_Name_kw (mH I hg hm hv ?_ hn K5);exact PyProof.Rows.callWith_builtin1 (bH (ha pos pins s σ H _ I h) fun us s1 ⟨vs,H1,I1,r1,q1⟩=>hc pins s1 σ H1 vs us Q I1 r1 q1) he uq
def zN(hc:CallR X (.type T) r)(hg:Gl X x)(hm:X.mg x=none)(hv:bootBuiltins x=some (.type T))(ha:PA X (e::es) t)(hn:x≠"__name__":=by decide)(K5:(x==("__debug__":Str))=false:=by decide)(he:starEach (e::es) X.env=(false,eval e X.env)::starEach es X.env:=by rfl)(uq:(backTo pos (starEach es X.env)).any (·.1)=false:=by rfl):PE X (.Call (.Name x p) (e::es) [] pos) (Qn r t):=by
 intro pins s σ H Q I h;refine wpAny_Call_Name_kw (mH I hg hm hv ?_ hn K5);exact PyProof.Rows.callWith_type1 (bH (ha pos pins s σ H _ I h) fun us s1 ⟨vs,H1,I1,r1,q1⟩=>hc pins s1 σ H1 vs us Q I1 r1 q1) he uq
end
end L2
namespace HT
open PySem PyProof.Rows
section
variable {prog:Program}{w:World}{A:Around}{E:Value->Shared->Prop}{s:Shared}
def cat_tup{t b:Addr}{vs ws:List Value}{Q:Value->Shared->Prop}(ht:IsTup s.heap t vs.toArray)(hb:IsTup s.heap b ws.toArray)(hv:vs≠[])(h1:ws=[]->Q (.ref t) s)(h2:ws≠[]->Q (.ref s.heap.objs.size) {s with heap:=s.heap.push {cls:=.type "tuple",data:=.seq (vs++ws).toArray } })(hsz:vs.length+ws.length<=sizeLine):wpAny (model prog w) A (binaryOp .Add (.ref t) (.ref b)) Q E s:=by
 obtain⟨⟨cls,dd,data,sl⟩,ho,hc,n,hd⟩:=id ht;obtain⟨⟨Ww,UI,data2,MH⟩,IZ,PX,n2,hd2⟩:=id hb;simp only at hc hd PX hd2;subst hc hd PX hd2;have e:vs.toArray++ws.toArray=(vs++ws).toArray:=by simp
 by_cases hw:ws=[]
 ·exact concat_meets ⟨_,ho,rfl⟩ ⟨_,IZ,rfl⟩ noFill_tuple_add seq_tuple_add PySem.F.slot_tuple_add PySem.F.entry_tuple_add (PySem.F.args_tuple_add_2 _ _)
   (tuple_addW1 t b vs.toArray ws.toArray n n2 dd UI sl MH (by simpa using hv) (by simp[hw])) ⟨ho,IZ,h1 hw⟩
 ·refine concat_meets ⟨_,ho,rfl⟩ ⟨_,IZ,rfl⟩ noFill_tuple_add seq_tuple_add PySem.F.slot_tuple_add PySem.F.entry_tuple_add (PySem.F.args_tuple_add_2 _ _)
   (tuple_addW2 t b vs.toArray ws.toArray n n2 dd UI sl MH (by simpa using hv) (by simpa using hw) (by rw[eE,eE];exact hsz)) ⟨ho,IZ,?_⟩
  rw[e];exact h2 hw
def sIx(n d:Nat):Option Int->Nat
 | none=>d
 | some v=>if v<0 then (v+(n:Int)).toNat else min v.toNat n
def sIx_none(n d:Nat):sIx n d none=d:=rfl
def sIx_nat(n d k:Nat):sIx n d (some (k:Int))=min k n:=by
 show(if (k:Int)<0 then ((k:Int)+(n:Int)).toNat else min (k:Int).toNat n)=min k n;rw[if_neg Zo,Int.toNat_natCast]
def Np(n d:Nat)(hd:d<=n)(o:Option Int):sIx n d o<=n:=by
 cases o with
 | none=>exact hd
 | some v=>
  show(if v<0 then (v+(n:Int)).toNat else min v.toNat n)<=n;by_cases hv:v<0
  ·rw[if_pos hv];omega
  ·rw[if_neg hv];exact Nat.min_le_right _ _
def xF(v:Int)(n d:Nat):(if v<0 then max (v+(n:Int)) 0 else min v (n:Int))=((sIx n d (some v):Nat):Int):=by
 show(if v<0 then max (v+(n:Int)) 0 else min v (n:Int))=(((if v<0 then (v+(n:Int)).toNat else min v.toNat n):Nat):Int);by_cases hv:v<0
 ·simp only [if_pos hv];omega
 ·simp only [if_neg hv];omega
def vI(lo hi:Option Int)(n:Nat):Builtin.Slice.sliceAdjust lo hi 1 (n:Int)=(((sIx n 0 lo:Nat):Int),((sIx n n hi:Nat):Int)):=by
 have h1:¬ ((1:Int)<0):=by omega
 unfold Builtin.Slice.sliceAdjust;simp only [h1,if_false];refine Prod.ext ?_ ?_
 ·cases lo with
  | none=>rfl
  | some v=>exact xF v n 0
 ·cases hi with
  | none=>rfl
  | some v=>exact xF v n n
def vJ(i j:Nat):Builtin.Slice.slicePlaces (i:Int) (j:Int) 1=j-i:=by
 unfold Builtin.Slice.slicePlaces;have h1:(1:Int)>0:=by omega
 simp only [h1,if_true,Int.ediv_one];split<;>omega
def mK{v:Value}{o:Option Int}{Q:Option Int->Shared->Prop}(p:IsPart v o)(h:Q o s):wpAny (model prog w) A (Builtin.Slice.slicePartIndex v) Q E s:=by
 cases p with
 | none=>exact slicePart_none h
 | int i t=>exact slicePart_int h
def sliceApplied_gen{sl:Addr}{vl vu:Value}{lo hi:Option Int}{n:Nat}{Q:Int×Int×Nat->Shared->Prop}(hs:s.heap.IsSliceOf sl vl vu .none)(pl:IsPart vl lo)(pu:IsPart vu hi)(h:Q (((sIx n 0 lo:Nat):Int),1,sIx n n hi-sIx n 0 lo) s):wpAny (model prog w) A (Builtin.Slice.sliceApplied (.ref sl) (pure (n:Int))) Q E s:=by
 obtain⟨os,MI,UJ,PY⟩:=id hs;unfold Builtin.Slice.sliceApplied Builtin.Slice.sliceFields;refine wpAny_bind (wpAny_bind (wpAny_field MI PY (x:=vl) rfl (wpAny_bind (wpAny_field MI PY (x:=vu) rfl (wpAny_bind (wpAny_field MI PY (x:=.none) rfl (wpAny_pure ?_)))))));refine wpAny_bind (slicePart_none ?_);show wpAny _ _ (if ((1:Int)==0)=true then _ else _) _ _ s;rw[if_neg Zd];refine wpAny_bind (mK pl (wpAny_bind (mK pu (wpAny_bind (wpAny_pure ?_)))));show wpAny _ _ (match Builtin.Slice.sliceAdjust lo hi 1 (n:Int) with|(lo,hi)=>pure (lo,(1:Int),Builtin.Slice.slicePlaces lo hi 1)) _ _ s;rw[vI lo hi n];show wpAny _ _ (pure (((sIx n 0 lo:Nat):Int),(1:Int),Builtin.Slice.slicePlaces ((sIx n 0 lo:Nat):Int) ((sIx n n hi:Nat):Int) 1)) _ _ s;rw[vJ];exact wpAny_pure h
def Cl(xs:Array Value)(i k:Nat):((List.range k).filterMap fun(m:Nat)=>xs[((i:Int)+(m:Int)*1).toNat]?).toArray=((xs.toList.drop i).take k).toArray:=by
 have e:(fun(m:Nat)=>xs[((i:Int)+(m:Int)*1).toNat]?)=fun m=>xs[i+m]?:=by
  funext m
  have:((i:Int)+(m:Int)*1).toNat=i+m:=by omega
  rw[this]
 rw[e];have:=pick_run xs i k;rw[List.filterMap_map]at this;have e2:((fun x=>xs[x]?)∘fun x=>i+x)=fun m=>xs[i+m]?:=rfl
 rw[e2]at this;rw[this]
def getItem_tuple_cut{t sl:Addr}{items:Array Value}{vl vu:Value}{lo hi:Option Int}{Q:Value->Shared->Prop}(ht:IsTup s.heap t items)(hs:s.heap.IsSliceOf sl vl vu .none)(pl:IsPart vl lo)(pu:IsPart vu hi)(hw:¬ (sIx items.size 0 lo=0/\sIx items.size items.size hi=items.size))(h:Q (.ref s.heap.objs.size) {s with heap:=s.heap.push {cls:=.type "tuple",data:=.seq ((items.toList.drop (sIx items.size 0 lo)).take (sIx items.size items.size hi-sIx items.size 0 lo)).toArray } })(hsz:items.size<=sizeLine):wpAny (model prog w) A (getItem (.ref t) (.ref sl)) Q E s:=by
 have ES:sizeOk (.seq ((items.toList.drop (sIx items.size 0 lo)).take (sIx items.size items.size hi-sIx items.size 0 lo)).toArray):=by
  show((items.toList.drop (sIx items.size 0 lo)).take (sIx items.size items.size hi-sIx items.size 0 lo)).toArray.size<=sizeLine;rw[eE,oR,length_drop,Array.length_toList];omega
 have hj:sIx items.size items.size hi<=items.size:=Np _ _ (bY _) hi;obtain⟨os,MI,UJ,PY⟩:=id hs;have Wx:s.TypeIs (.ref sl) "slice":=⟨os,MI,UJ⟩;unfold getItem;try with_reducible refine wpAny_holding ?_
 first|refine wpAny_bind (wpAny_pure ?_)|skip
 refine wpAny_bind (wpAny_sequenceKey ht.typeIs Zd ?_);refine wpAny_bind (wpAny_callSpecial?_slot (name:=Str.ofString "__getitem__") ht.typeIs PyProof.Rows.slot_tuple_getitem
  (wpAny_call_entry PyProof.Rows.slot_tuple_getitem ht.typeIs entry_tuple_getitem ?_ (args_tuple_getitem _ _)))
 show wpAny _ _ (Builtin.Tuple.tupleItemsOf (.ref t)>>=_) _ _ s;refine wpAny_bind (tupleItemsOf_ ht ?_);refine wpAny_bind (wpAny_typeOf Wx ?_);rw[if_pos Zd];refine wpAny_bind (sliceApplied_gen hs pl pu ?_);have MJ:¬ ((((sIx items.size 0 lo:Nat):Int)==0&&(1:Int)==1&&(sIx items.size items.size hi-sIx items.size 0 lo)==items.size)=true):=by
  intro q;rw[Bool.and_eq_true,Bool.and_eq_true]at q;have q1:((sIx items.size 0 lo:Nat):Int)=0:=eq_of_beq q.1.1;have q2:sIx items.size items.size hi-sIx items.size 0 lo=items.size:=eq_of_beq q.2;exact hw ⟨Zo,Zo⟩
 show wpAny _ _ (if (((sIx items.size 0 lo:Nat):Int)==0&&(1:Int)==1&&(sIx items.size items.size hi-sIx items.size 0 lo)==items.size)=true then _ else _) _ _ s;rw[if_neg MJ,Cl];first
  | exact wpAny_bind (m:=Builtin.Tuple.tupleExact _) (wpAny_newObj_type (wpAny_pure ⟨_,rfl,wpAny_pure h⟩) ES)
  | exact wpAny_bind (m:=Builtin.Tuple.tupleExact _) (wpAny_newObj_type (wpAny_bind (wpAny_pure (wpAny_pure ⟨_,rfl,wpAny_pure h⟩))) ES)
  | exact wpAny_bind (wpAny_bind (m:=Builtin.Tuple.tupleExact _) (wpAny_newObj_type (wpAny_pure (wpAny_pure ⟨_,rfl,wpAny_pure h⟩)) ES))
  | exact wpAny_bind (wpAny_bind (m:=Builtin.Tuple.tupleExact _) (wpAny_newObj_type (wpAny_pure ⟨_,rfl,wpAny_pure h⟩) ES))
end
end HT
namespace L2
open PySem PySem.Spec PyProof.Rows
abbrev TO:=St->Hp->(Option Int->Hp->Prop)->Prop
def PO(X:Cx)(e:Option Expr)(t:TO):Prop:=
 ∀(pins:List (Addr×Obj))(s:Shared)(σ:St)(H:Hp)(Q:Option Int->Hp->Prop),Inv X pins σ H s->t σ H Q →
  wpAny (model X.prog X.w) X.A (evalPart e X.env) (fun u s'=>∃o H',Inv X pins σ H' s'/\IsPart u o/\Q o H') X.xe s
def xG:TO:=fun _ H Q=>Q none H
def Cm(t:TE):TO:=fun σ H Q=>t σ H fun x H1=>∃i,x=.int i/\Q (some i) H1
def mL{ns:List Int}:∀ {us:List Value},Vals (ns.map V.int) us->IntsAre us ns:=by
 induction ns with
 | nil=>intro us r;rw[map_nil]at r;cases r;exact .nil
 | cons n ns ih=>
  intro us r;rw[map_cons]at r;cases r with
  | cons r1 r2=>
   obtain⟨t,e⟩:=r1;subst e;exact .cons n t (ih r2)
section
variable {X:Cx}{e:Expr}{te:TE}{lo hi:Option Expr}{tl th:TO}{pos p2:Pos}
def Hy:PO X none xG:=by
 intro pins s σ H Q I h;rw[evalPart_none];exact wpAny_pure ⟨none,H,I,.none,h⟩
def Hz(h:PE X e te):PO X (some e) (Cm te):=by
 intro pins s σ H Q I hw;rw[evalPart_some];refine bH (h pins s σ H _ I hw) fun u s1 ⟨x,H1,I1,r1,q1⟩=>?_
 obtain⟨i,rfl,q⟩:=q1;obtain⟨t,rfl⟩:=r1;exact⟨some i,H1,I1,.int i t,q⟩
def SlR(X:Cx)(r:V->Option Int->Option Int->Hp->VK->Prop):Prop:=
 ∀(pins:List (Addr×Obj))(s:Shared)(σ:St)(H:Hp)(x:V)(v vl vu:Value)(lo hi:Option Int)(sl:Addr)(Q:VK),Inv X pins σ H s->RelV x v->s.heap.IsSliceOf sl vl vu .none->IsPart vl lo->IsPart vu hi->r x lo hi H Q →
  ∃T id,typeLookup (.type T) "__getitem__"=pure (some (.builtin id))/\s.TypeIs v T/\wpAny (model X.prog X.w) X.A (getItem v (.ref sl)) (EP X pins σ Q) X.xe s
def Wd(r:V->Option Int->Option Int->Hp->VK->Prop)(te:TE)(tl th:TO):TE:=fun σ H Q=>te σ H fun x H1=>tl σ H1 fun l H2=>th σ H2 fun u H3=>r x l u H3 Q
def Cn{r:V->Option Int->Option Int->Hp->VK->Prop}(hr:SlR X r)(he:PE X e te)(hl:PO X lo tl)(hu:PO X hi th):PE X (.Subscript e (.Slice lo hi none p2) pos) (Wd r te tl th):=by
 intro pins s σ H Q I h;refine Subscript_ (bH (he pins s σ H _ I h) fun v s1 ⟨x,H1,I1,r1,q1⟩=>?_);refine wpAny_Slice (bH (hl pins s1 σ H1 _ I1 q1) fun vl s2 ⟨l,H2,I2,pl,q2⟩=>bH (hu pins s2 σ H2 _ I2 q2) fun vu s3 ⟨u,H3,I3,pu,q3⟩=>?_);rw[evalPart_none];refine wpAny_pure ?_;have I4:Inv X pins σ H3 {s3 with heap:=s3.heap.push {cls:=.type "slice",data:=.fields #[vl,vu,.none] } }:=I3.kept (t':=s3.toks) fun b ob q=>fX _ q
 obtain⟨T,id,hT,ht,hg⟩:=hr pins {s3 with heap:=s3.heap.push {cls:=.type "slice",data:=.fields #[vl,vu,.none] } } σ H3 x v vl vu l u s3.heap.objs.size Q I4 r1 (Heap.IsSliceOf.new ..) pl pu q3;show wpAny (model X.prog X.w) X.A (subscriptTail e (.Slice lo hi none p2) v (.ref s3.heap.objs.size)) (EP X pins σ Q) X.xe {s3 with heap:=s3.heap.push {cls:=.type "slice",data:=.fields #[vl,vu,.none] } };exact tail_any (ops:=[.ref s3.heap.objs.size,v]) ht hT hg (by with_unfolding_all rfl)
def zO(xs:List V)(lo hi:Option Int):List V:=(xs.drop (HT.sIx xs.length 0 lo)).take (HT.sIx xs.length xs.length hi-HT.sIx xs.length 0 lo)
def lH(xs:List V)(lo hi:Option Int):(zO xs lo hi).length<=xs.length:=by
 unfold zO;rw[oR,length_drop];omega
def Ur(K:W.Frag):V->Option Int->Option Int->Hp->VK->Prop:=fun x lo hi H Q=>∃a xs,x=.ref a/\SqT K H a xs ∧
 ¬ (HT.sIx xs.length 0 lo=0/\HT.sIx xs.length xs.length hi=xs.length)/\∀p,H p=none->Q (.ref p) (aH H p (.tup (zO xs lo hi)))
def Nq:SlR X (Ur X.K):=by
 intro pins s σ H x v vl vu lo hi sl Q I rx hs pl pu h;obtain⟨a,xs,rfl,hx,hw,q⟩:=h;cases rx;obtain⟨its,r,ht,hz⟩:=I.tuple hx;have hlen:its.toArray.size=xs.length:=by rw[eE];exact r.length.symm
 refine⟨"tuple",_,PyProof.Rows.slot_tuple_getitem.lookup,ht.typeIs,?_⟩;refine HT.getItem_tuple_cut ht hs pl pu (by rw[hlen];exact hw) ?_ (by rw[hlen];exact hz);rw[hlen];refine⟨.ref s.heap.objs.size,_,I.laid (t':=s.toks) (o:=.tup (zO xs lo hi)) (fun b ob q=>fX _ q) (bY _) ?_,rfl,q _ (I.hok.fresh (bY _))⟩;exact⟨fO (lH xs lo hi) hz,_,(r.drop (HT.sIx xs.length 0 lo)).take (HT.sIx xs.length xs.length hi-HT.sIx xs.length 0 lo),IsTup.new _ _⟩
def Rw(K:W.Frag):R2:=fun x y H Q=>∃a b xs ys,x=.ref a/\y=.ref b/\SqT K H a xs/\SqT K H b ys/\xs≠[]/\xs.length+ys.length<=sizeLine ∧
 (ys=[]->Q (.ref a) H)/\(ys≠[]->∀p,H p=none->Q (.ref p) (aH H p (.tup (xs++ys))))
def Vals.nil_iff{xs:List V}{us:List Value}(r:Vals xs us):us=[]↔xs=[]:=by
 cases r with
 | nil=>simp
 | cons _ _=>simp
def Ia:OpR X (binaryOp .Add) (Rw X.K):=by
 intro pins s σ H x y v u Q I rx ry h;obtain⟨a,b,xs,ys,rfl,rfl,ha,hb,hx,hz,q1,q2⟩:=h;cases rx;cases ry;obtain⟨its,r1,p1,_⟩:=I.tuple ha;obtain⟨u6,r2,p2,_⟩:=I.tuple hb;refine HT.cat_tup p1 p2 (fun z=>hx (r1.nil_iff.mp z)) (fun z=>⟨.ref a,H,I,rfl,q1 (r2.nil_iff.mp z)⟩) (fun z=>?_) (by rw[<- r1.length,<- r2.length];exact hz);refine⟨.ref s.heap.objs.size,_,I.laid (t':=s.toks) (o:=.tup (xs++ys)) (fun b ob q=>fX _ q) (bY _) ?_,rfl,q2 (fun w=>z (r2.nil_iff.mpr w)) _ (I.hok.fresh (bY _))⟩;exact⟨by rw[wW];exact hz,_,r1.append r2,IsTup.new _ _⟩
end
def Kt(n:Nat)(i:Int):Option Nat:=if 0<=i then (if i<n then some i.toNat else none) else if -(n:Int)<=i then some (i+n).toNat else none
def oH{α:Type}(xs:List α)(i:Int):Option α:=(Kt xs.length i).bind fun j=>xs[j]?
def xI{n:Nat}{i:Int}{j:Nat}(h:Kt n i=some j):seqIndex? i n=some j/\j<n/\-(n:Int)<=i/\i<n:=by
 unfold Kt at h;by_cases h0:0<=i
 ·rw[if_pos h0]at h;by_cases h1:i<n
  ·rw[if_pos h1]at h;have e:i.toNat=j:=Option.some.inj h;exact⟨by rw[seqIndex_of h0 h1,e],Zo,Zo,h1⟩
  ·rw[if_neg h1]at h;cases h
 ·rw[if_neg h0]at h;by_cases h1:-(n:Int)<=i
  ·rw[if_pos h1]at h;have e:(i+n).toNat=j:=Option.some.inj h;exact⟨by rw[seqIndex_neg Zo h1,e],Zo,h1,Zo⟩
  ·rw[if_neg h1]at h;cases h
def qM{α:Type}{xs:List α}{i:Int}{v:α}(h:oH xs i=some v):∃j,seqIndex? i xs.length=some j/\xs[j]?=some v/\j<xs.length/\-(xs.length:Int)<=i/\i<xs.length:=by
 unfold oH at h;cases e:Kt xs.length i with
 | none=>rw[e]at h;cases h
 | some j=>
  rw[e]at h;obtain⟨h1,h2,h3,h4⟩:=xI e;exact⟨j,h1,h,h2,h3,h4⟩
def cU{α:Type}{xs:List α}{j:Nat}{v:α}(h:xs[j]?=some v):oH xs (j:Int)=some v:=by
 have hj:j<xs.length:=(Zgs.mp h).1;have e:Kt xs.length (j:Int)=some j:=by
  unfold Kt;rw[if_pos Zo,if_pos Zo];simp
 unfold oH;rw[e];exact h
def qN(b:Expr):Prop:=∀o i,subscripted b false o i=operate [o,i] (getItem o i)
def IxR(X:Cx)(r:R2):Prop:=
 ∀(value slice:Expr)(pins:List (Addr×Obj))(s:Shared)(σ:St)(H:Hp)(x y:V)(v u:Value)(Q:VK),Inv X pins σ H s->RelV x v->RelV y u->r x y H Q →
  subscripted slice false v u=operate [v,u] (getItem v u)->wpAny (model X.prog X.w) X.A (subscriptTail value slice v u) (EP X pins σ Q) X.xe s
def Qo(X:Cx)(id:String)(r:V->List V->Hp->VK->Prop):Prop:=
 ∀(pins:List (Addr×Obj))(s:Shared)(σ:St)(H:Hp)(x:V)(xs:List V)(v:Value)(us:List Value)(Q:VK),Inv X pins σ H s->RelV x v->Vals xs us->r x xs H Q →
  wpAny (model X.prog X.w) X.A (call (.builtin id) (v::us)) (EP X pins σ Q) X.xe s
section
variable {X:Cx}{a b:Expr}{ta tb:TE}{pos:Pos}
def Rx{r:R2}(hr:IxR X r)(ha:PE X a ta)(hb:PE X b tb)(hs:qN b):PE X (.Subscript a b pos) (Cc r ta tb):=by
 intro pins s σ H Q I h;exact Subscript_ (Nc ha hb I h fun v u s2 x y H2 I2 rx ry q=>hr a b pins s2 σ H2 x y v u Q I2 rx ry q (hs _ _))
def Us(K:W.Frag):R2:=fun x y H Q=>∃p xs i v,x=.ref p/\y=.int i/\SqL K H p xs/\oH xs i=some v/\Q v H
def Ut(K:W.Frag):R2:=fun x y H Q=>∃p xs i v,x=.ref p/\y=.int i/\SqT K H p xs/\oH xs i=some v/\Q v H
def Uu:R2:=fun x y H Q=>∃z i c,x=.str z/\y=.int i/\z.length<=sizeLine/\oH z.cps.toList i=some c/\Q (.str ⟨#[c]⟩) H
def Ib:IxR X (Us X.K):=by
 intro value slice pins s σ H x y v u Q I rx ry h hs;obtain⟨p,xs,i,z,rfl,rfl,hq,he,q⟩:=h;cases rx;obtain⟨t,rfl⟩:=ry;obtain⟨its,r,pl,hz⟩:=I.list hq;obtain⟨j,h1,h2,h3,h4,h5⟩:=qM he;obtain⟨w,ew,um⟩:=r.get h2;have hl:=r.length;have hn:=kK;have fin:EP X pins σ Q w s:=⟨z,H,I,um,q⟩;by_cases h0:0<=i
 ·have hj:i.toNat=j:=by
   rw[seqIndex_of h0 h5]at h1;exact Option.some.inj h1
  exact item_listR pl.isList h0 Zo (by rw[hj];simpa using ew) fin hs
 ·have hj:(i+(its.toArray.size:Int)).toNat=j:=by
   rw[seqIndex_neg Zo h4]at h1;rw[eE,<- hl];exact Option.some.inj h1
  exact subscriptTail_builtinR (x:=w) pl.isList.typeIs slot_list_getitem.lookup
   (wpAny_getItem_list_neg (Q:=fun r s'=>r=w/\EP X pins σ Q r s') pl.isList Zo (by rw[eE]<;>omega) Zo (by rw[hj];simpa using ew) ⟨rfl,fin⟩) hs
def Nr:IxR X (Ut X.K):=by
 intro value slice pins s σ H x y v u Q I rx ry h hs;obtain⟨p,xs,i,z,rfl,rfl,hq,he,q⟩:=h;cases rx;obtain⟨t,rfl⟩:=ry;obtain⟨its,r,pl,hz⟩:=I.tuple hq;obtain⟨j,h1,h2,h3,h4,h5⟩:=qM he;obtain⟨w,ew,um⟩:=r.get h2;have hl:=r.length;have hn:=kK;have fin:EP X pins σ Q w s:=⟨z,H,I,um,q⟩;exact subscriptTail_builtinR (x:=w) pl.typeIs slot_tuple_getitem.lookup
  (getItem_tuple (j:=j) (Q:=fun r s'=>r=w/\EP X pins σ Q r s') pl Zo Zo (by rw[eE,<- hl];exact h1) (by simpa using ew) ⟨rfl,fin⟩) hs
def Nt:IxR X Uu:=by
 intro value slice pins s σ H x y v u Q I rx ry h hs;obtain⟨z,i,c,rfl,rfl,hz,he,q⟩:=h;obtain⟨t,rfl⟩:=rx;obtain⟨t',rfl⟩:=ry;obtain⟨j,h1,h2,h3,h4,h5⟩:=qM he;have hl:z.cps.toList.length=z.length:=by simp[Str.length]
 rw[hl]at h1 h4 h5;have hn:=kK;exact tail_any (typeIs_str s z t) slot_str_getitem.lookup (getItem_str (c:=c) (by
  have e1:decide (i < -(2 ^ 63:Int))=false:=decide_eq_false Zo;have e2:decide (i ≥ 2 ^ 63)=false:=decide_eq_false Zo;rw[e1,e2,Bool.or_false]) (by rw[h1];simpa using h2) ⟨.str ⟨#[c]⟩,H,I.tok _,⟨_,rfl⟩,q⟩) hs
def vL(its:List Value)(n j:Nat)(u:Value):Obj.mapSeq (·.setIfInBounds j u) {cls:=.type "list",data:=.seq its.toArray n }={cls:=.type "list",data:=.seq (its.set j u).toArray n }:=by
 simp[Obj.mapSeq]
def Inv.lst{pins:List (Addr×Obj)}{σ:St}{H:Hp}{s:Shared}{p:Addr}{xs:List V}(I:Inv X pins σ H s)(h:H p=some (.lst xs)) :
  ∃(its:List Value)(n:Nat),Vals xs its/\s.heap.get? p=some {cls:=.type "list",data:=.seq its.toArray n }/\xs.length<=sizeLine:=by
 obtain⟨z,its,n,r,e⟩:=I.hok p _ h;exact⟨its,n,r,e,z⟩
def Inv.lstUpd{pins:List (Addr×Obj)}{σ:St}{H:Hp}{s:Shared}{p:Addr}{xs ys:List V}{its its':List Value}{n n':Nat}{f:Obj->Obj}(I:Inv X pins σ H s)(h:H p=some (.lst xs))(ho:s.heap.get? p=some {cls:=.type "list",data:=.seq its.toArray n })(hf:f {cls:=.type "list",data:=.seq its.toArray n }={cls:=.type "list",data:=.seq its'.toArray n' })(r:Vals ys its')(hz:ys.length<=sizeLine)(t:Nat) :
  Inv X pins σ (aH H p (.lst ys)) {s with heap:=s.heap.update p f,toks:=t }:=by
 have e:(s.heap.update p f).get? p=some {cls:=.type "list",data:=.seq its'.toArray n' }:=by
  rw[Heap.get?_update_self f ho (by rw[hf]<;>rfl),hf]
 refine I.write (x:=p) (e:=p) (by rw[h];trivial) (.inl rfl) (fun b u hb q=>(Heap.get?_update_other _ _ (Ne.symm hb)).trans q) ⟨_,e⟩ ?_;exact⟨hz,its',n',r,e⟩
def Ku:V->V->V->Hp->(Hp->Prop)->Prop:=fun o i v H Q=>∃p xs k j,o=.ref p/\i=.int k/\H p=some (.lst xs)/\Kt xs.length k=some j/\Q (aH H p (.lst (xs.set j v)))
def Co:Hj X Ku:=by
 intro pins s σ H o i v ov iv u Q I ro ri rv h;obtain⟨p,xs,k,j,rfl,rfl,hp,hj,q⟩:=h;cases ro;obtain⟨t,rfl⟩:=ri;obtain⟨its,n,r,ho,hz⟩:=I.lst hp;obtain⟨h1,h2,h3,h4⟩:=xI hj;have hl:=r.length;have hn:=kK;have I':Inv X pins σ (aH H p (.lst (xs.set j v))) {s with heap:=s.heap.update p (Obj.mapSeq (·.setIfInBounds j u)) }:=
  I.lstUpd hp ho (vL its n j u) (r.set rv j) (by rw[List.length_set];exact hz) s.toks
 by_cases h0:0<=k
 ·have hk:k.toNat=j:=by
   rw[seqIndex_of h0 h4]at h1;exact Option.some.inj h1
  exact W.ki_setAt ho h0 Zo (by rw[eE,<- hl];exact h4) (by rw[hk];exact⟨_,I',q⟩)
 ·have hk:(k+(its.toArray.size:Int)).toNat=j:=by
   rw[seqIndex_neg Zo h3]at h1;rw[eE,<- hl];exact Option.some.inj h1
  exact W.ki_setBack ho Zo (by rw[eE,<- hl];exact h3) Zo (by rw[hk];exact⟨_,I',q⟩)
def qO(lo hi:Option Int)(n:Nat):(sliceBounds lo hi none n).1=((HT.sIx n 0 lo:Nat):Int)/\(sliceBounds lo hi none n).2.1=((HT.sIx n n hi:Nat):Int)/\(sliceBounds lo hi none n).2.2=1:=by
 refine⟨?_,?_,rfl⟩
 ·cases lo with
  | none=>simp[sliceBounds,HT.sIx]
  | some i=>
   simp only [sliceBounds,HT.sIx,Option.getD_none,show(1:Int)>0 by decide,if_true];by_cases h:i<0
   ·simp only [h,if_true]<;>omega
   ·simp only [h,if_false]<;>omega
 ·cases hi with
  | none=>simp[sliceBounds,HT.sIx]
  | some i=>
   simp only [sliceBounds,HT.sIx,Option.getD_none,show(1:Int)>0 by decide,if_true];by_cases h:i<0
   ·simp only [h,if_true]<;>omega
   ·simp only [h,if_false]<;>omega
def oJ(its:List Value)(lo hi:Option Int):slicePick its.toArray lo hi none=((its.drop (HT.sIx its.length 0 lo)).take (HT.sIx its.length its.length hi-HT.sIx its.length 0 lo)).toArray:=by
 obtain⟨h1,h2,h3⟩:=qO lo hi its.toArray.size;unfold slicePick;rw[h1,h2,h3];simp only [sliceRange_one,pick_run,eE]<;>rfl
def Uv(K:W.Frag):V->Option Int->Option Int->Hp->VK->Prop:=fun x lo hi H Q=>∃a xs,x=.ref a/\SqL K H a xs/\∀p,H p=none->Q (.ref p) (aH H p (.lst (zO xs lo hi)))
def Ic:SlR X (Uv X.K):=by
 intro pins s σ H x v vl vu lo hi sl Q I rx hs pl pu h;obtain⟨a,xs,rfl,hx,q⟩:=h;cases rx;obtain⟨its,r,ht,hz⟩:=I.list hx;have hlen:=r.length;refine⟨"list",_,slot_list_getitem.lookup,ht.isList.typeIs,?_⟩;refine wpAny_getItem_list_slice ht.isList hs pl pu .none Zs ?_ (by rw[eE]<;>omega);rw[oJ,<- hlen];refine⟨.ref s.heap.objs.size,_,I.laid (t':=s.toks) (o:=.lst (zO xs lo hi)) (fun b ob q=>fX _ q) (bY _) ?_,rfl,q _ (I.hok.fresh (bY _))⟩;exact⟨fO (lH xs lo hi) hz,_,0,(r.drop (HT.sIx xs.length 0 lo)).take (HT.sIx xs.length xs.length hi-HT.sIx xs.length 0 lo),Heap.get?_push_size _ rfl⟩
def jV:V->Bool
 | .non=>true
 | .bl _=>true
 | .int _=>true
 | .str _=>true
 | _=>false
def Id:V->V->Bool
 | .non,.non=>true
 | .bl a,.bl b=>a==b
 | .bl a,.int b=>(if a then 1 else 0)==b
 | .int a,.bl b=>a==(if b then 1 else 0)
 | .int a,.int b=>a==b
 | .str a,.str b=>a==b
 | _,_=>false
def Nu{A:Around}{s:Shared}{y x:V}{u v:Value}(ry:RelV y u)(rx:RelV x v)(fy:jV y=true)(fx:jV x=true):SeqAt.EqAt A s u v (Id y x):=by
 cases y with
 | non=>
  cases ry
  cases x with
  | non=>cases rx;exact SeqAt.EqAt.same _
  | bl b=>cases rx;exact SeqAt.EqAt.none_bool b
  | int b=>obtain⟨t,rfl⟩:=rx;exact SeqAt.EqAt.none_int b t
  | str b=>obtain⟨t,rfl⟩:=rx;exact SeqAt.EqAt.none_str b t
  | _=>exact absurd (show false=true from fx) Bool.false_ne_true
 | bl a=>
  cases ry
  cases x with
  | non=>cases rx;exact SeqAt.EqAt.bool_none a
  | bl b=>cases rx;exact SeqAt.EqAt.bool_bool a b
  | int b=>obtain⟨t,rfl⟩:=rx;exact SeqAt.EqAt.bool_int a b t
  | str b=>obtain⟨t,rfl⟩:=rx;exact SeqAt.EqAt.bool_str a b t
  | _=>exact absurd (show false=true from fx) Bool.false_ne_true
 | int a=>
  obtain⟨t',rfl⟩:=ry
  cases x with
  | non=>cases rx;exact SeqAt.EqAt.int_none a t'
  | bl b=>cases rx;exact SeqAt.EqAt.int_bool a t' b
  | int b=>obtain⟨t,rfl⟩:=rx;exact SeqAt.EqAt.int_int a t' b t
  | str b=>obtain⟨t,rfl⟩:=rx;exact SeqAt.EqAt.int_str a t' b t
  | _=>exact absurd (show false=true from fx) Bool.false_ne_true
 | str a=>
  obtain⟨t',rfl⟩:=ry
  cases x with
  | non=>cases rx;exact SeqAt.EqAt.str_none a t'
  | bl b=>cases rx;exact SeqAt.EqAt.str_bool a t' b
  | int b=>obtain⟨t,rfl⟩:=rx;exact SeqAt.EqAt.str_int a t' b t
  | str b=>obtain⟨t,rfl⟩:=rx;exact SeqAt.EqAt.str_str a t' b t
  | _=>exact absurd (show false=true from fx) Bool.false_ne_true
 | _=>exact absurd (show false=true from fy) Bool.false_ne_true
def vM(x:V)(u:Value):Bool:=match u with
 | .none=>Id .non x
 | .bool b=>Id (.bl b) x
 | .int i _=>Id (.int i) x
 | .str z _=>Id (.str z) x
 | _=>false
def Cp{x y:V}{u:Value}(r:RelV y u)(f:jV y=true):vM x u=Id y x:=by
 cases y with
 | non=>cases r;rfl
 | bl b=>cases r;rfl
 | int i=>obtain⟨t,rfl⟩:=r;rfl
 | str z=>obtain⟨t,rfl⟩:=r;rfl
 | _=>exact absurd (show false=true from f) Bool.false_ne_true
def jW{x:V}:∀ {xs:List V}{us:List Value},Vals xs us->xs.all jV=true->us.any (vM x)=xs.any fun y=>Id y x
 | _,_,.nil,_=>rfl
 | y::xs,u::us,.cons r t,f=>by
  rw[all_cons,Bool.and_eq_true]at f;rw[any_cons,any_cons,Cp r f.1,jW t f.2]
def hJ{A:Around}{s:Shared}{x:V}{v:Value}(rx:RelV x v)(fx:jV x=true):∀ {xs:List V}{us:List Value},Vals xs us->xs.all jV=true->∀u∈us,SeqAt.EqAt A s u v (vM x u)
 | _,_,.nil,_=>fun u hu=>by cases hu
 | y::xs,u::us,.cons r t,f=>fun u' hu=>by
  rw[all_cons,Bool.and_eq_true]at f;rcases mem_cons.mp hu with rfl|hu
  ·rw[Cp r f.1];exact Nu r rx f.1 fx
  ·exact hJ rx fx t f.2 u' hu
def Bp(x:V)(xs:List V):Bool:=xs.any fun y=>Id y x
def Qp(K:W.Frag)(neg:Bool):R2:=fun x y H Q=>∃p xs,y=.ref p/\(SqL K H p xs∨SqT K H p xs)/\jV x=true/\xs.all jV=true/\Q (.bl (if neg then !Bp x xs else Bp x xs)) H
def zP:OpR X (compareOp .In) (Qp X.K false):=by
 intro pins s σ H x y v u Q I rx ry h;obtain⟨p,xs,rfl,hq,fx,fs,q⟩:=h;cases ry;rcases hq with hq|hq
 ·obtain⟨its,r,pl,hz⟩:=I.list hq;refine SeqAt.in_listAt (vM x) pl.isList (fun w hw=>hJ rx fx r fs w (by simpa using hw)) ⟨.bl _,H,I,rfl,?_⟩;rw[show its.toArray.any (vM x)=its.any (vM x) by simp,jW r fs];exact q
 ·obtain⟨its,r,pl,hz⟩:=I.tuple hq;refine SeqAt.in_tupleAt (vM x) pl (fun w hw=>hJ rx fx r fs w (by simpa using hw)) ⟨.bl _,H,I,rfl,?_⟩;rw[show its.toArray.any (vM x)=its.any (vM x) by simp,jW r fs];exact q
def qP:OpR X (compareOp .NotIn) (Qp X.K true):=by
 intro pins s σ H x y v u Q I rx ry h;obtain⟨p,xs,rfl,hq,fx,fs,q⟩:=h;cases ry;rcases hq with hq|hq
 ·obtain⟨its,r,pl,hz⟩:=I.list hq;refine SeqAt.notIn_listAt (vM x) pl.isList (fun w hw=>hJ rx fx r fs w (by simpa using hw)) ⟨.bl _,H,I,rfl,?_⟩;rw[show its.toArray.any (vM x)=its.any (vM x) by simp,jW r fs];exact q
 ·obtain⟨its,r,pl,hz⟩:=I.tuple hq;refine SeqAt.notIn_tupleAt (vM x) pl (fun w hw=>hJ rx fx r fs w (by simpa using hw)) ⟨.bl _,H,I,rfl,?_⟩;rw[show its.toArray.any (vM x)=its.any (vM x) by simp,jW r fs];exact q
def qQ:CallR X (.builtin "len") (fun xs H Q=>∃p ys,xs=[.ref p]/\(SqL X.K H p ys∨SqT X.K H p ys)/\Q (.int ys.length) H):=by
 intro pins s σ H xs us Q I r h;obtain⟨p,ys,rfl,hq,q⟩:=h;obtain⟨u,rfl,rx⟩:=hI r;cases rx;have hn:=kK;rcases hq with hq|hq
 ·obtain⟨its,r',pl,hz⟩:=I.list hq;have hlen:=r'.length;exact Calls.call_len_list pl.isList (by simp only [eE]<;>omega) ⟨.int ys.length,H,I.tok _,⟨s.toks+1,by rw[eE,hlen]⟩,q⟩
 ·obtain⟨its,r',pl,hz⟩:=I.tuple hq;have hlen:=r'.length;exact len_tuple pl (by simp only [eE]<;>omega) ⟨.int ys.length,H,I.tok _,⟨s.toks+1,by rw[eE,hlen]⟩,q⟩
def qR:CallR X (.builtin "len") (fun xs H Q=>∃z,xs=[.str z]/\z.length<=sizeLine/\Q (.int z.length) H):=by
 intro pins s σ H xs us Q I r h;obtain⟨z,rfl,hz,q⟩:=h;obtain⟨u,rfl,t,rfl⟩:=hI r;have hn:=kK;exact len_str Zo ⟨.int z.length,H,I.tok _,⟨_,rfl⟩,q⟩
def qS:CallR X (.type "list") (fun xs H Q=>∃p ys,xs=[.ref p]/\(SqL X.K H p ys∨SqT X.K H p ys)/\∀l,H l=none->Q (.ref l) (aH H l (.lst ys))):=by
 intro pins s σ H xs us Q I r h;obtain⟨p,ys,rfl,hq,q⟩:=h;obtain⟨u,rfl,rx⟩:=hI r;cases rx;have fin:∀(its:List Value),Vals ys its->ys.length<=sizeLine->∀(h':Heap)(c':Nat),(∀b o',s.heap.get? b=some o'->h'.get? b=some o') →
   h'.get? s.heap.objs.size=some {cls:=.type "list",dict:=none,data:=.seq its.toArray c',slots:=#[] }->EP X pins σ Q (.ref s.heap.objs.size) {s with heap:=h' }:=fun its r' hz h' c' kp e=>
  ⟨.ref s.heap.objs.size,_,I.laid (t':=s.toks) kp (bY _) (show ObjOk X.prog X.w _ h' _ (.lst ys) from⟨hz,its,c',r',e⟩),rfl,q _ (I.hok.fresh (bY _))⟩
 rcases hq with hq|hq
 ·obtain⟨its,r',pl,hz⟩:=I.list hq;have hlen:=r'.length;obtain⟨o,ho,hc,n,hd⟩:=pl.isList;exact call_list_seq p (.inl rfl) ho hc hd (fun h' c' kp e=>fin its r' hz h' c' kp e) (by simp only [eE]<;>omega)
 ·obtain⟨its,r',pl,hz⟩:=I.tuple hq;have hlen:=r'.length;obtain⟨o,ho,hc,n,hd⟩:=pl;exact call_list_seq p (.inr rfl) ho hc hd (fun h' c' kp e=>fin its r' hz h' c' kp e) (by simp only [eE]<;>omega)
def We(K:W.Frag)(T:String)(x:V)(H:Hp):Prop:=match x with
 | .str _=>T="str"
 | .int _=>T="int"
 | .ref p=>(T="list"/\∃xs,SqL K H p xs)∨(T="tuple"/\∃o,K.lookup p=some o/\o.cls=.type "tuple"/\o.dict=none)∨
   (T="dict"/\((∃kvs,H p=some (.dK kvs))∨∃kvs,H p=some (.dT kvs)))∨(T="set"/\∃S n,H p=some (.set S n))
 | _=>False
def Nv{pins:List (Addr×Obj)}{σ:St}{H:Hp}{s:Shared}{T:String}{x:V}{v:Value}(I:Inv X pins σ H s)(r:RelV x v)(ty:We X.K T x H) :
  s.TypeIs v T/\∀a,v=.ref a->∃ob,s.heap.get? a=some ob/\ob.dict=none:=by
 cases x with
 | str z=>
  obtain⟨t,rfl⟩:=r;cases(show T="str" from ty);exact⟨typeIs_str s z t,fun _ e=>nomatch e⟩
 | int i=>
  obtain⟨t,rfl⟩:=r;cases(show T="int" from ty);exact⟨typeIs_int s i t,fun _ e=>nomatch e⟩
 | ref p=>
  cases r;rcases ty with⟨rfl,xs,hq⟩|⟨rfl,o,hk,hc,hd⟩|⟨rfl,hk⟩|⟨rfl,S,n,hk⟩
  ·obtain⟨its,_,pl,_⟩:=I.list hq;refine⟨pl.isList.typeIs,fun a e=>?_⟩;cases e;obtain⟨o,n,e,c,hd,_⟩:=pl;exact⟨o,e,hd⟩
  ·refine⟨⟨o,I.kIn p o hk,hc⟩,fun a e=>?_⟩;cases e;exact⟨o,I.kIn _ o hk,hd⟩
  ·have z:∃o,s.heap.get? p=some o/\o.ExactDict:=by
    rcases hk with⟨kvs,hk⟩|⟨kvs,hk⟩
    ·obtain⟨_,_,_,_,o,_,_,e,ex,_⟩:=I.hok p _ hk;exact⟨o,e,ex⟩
    ·obtain⟨_,_,_,_,o,_,_,e,ex,_⟩:=I.hok p _ hk;exact⟨o,e,ex⟩
   obtain⟨o,e,ex⟩:=z;refine⟨⟨o,e,ex.1⟩,fun a e2=>?_⟩;cases e2;exact⟨o,e,ex.2.1⟩
  ·obtain⟨o,_,_,_,e,ex,_⟩:=I.hok p _ hk;refine⟨⟨o,e,ex.1⟩,fun a e2=>?_⟩;cases e2;exact⟨o,e,ex.2.1⟩
 | _=>exact False.elim ty
def Ue(K:W.Frag)(T:String)(r:V->List V->Hp->VK->Prop)(to:TE)(t:TA):TE:=fun σ H Q=>to σ H fun x H1=>We K T x H1/\t σ H1 fun xs H2=>r x xs H2 Q
variable {o e:Expr}{es:List Expr}{to:TE}{t:TA}{name:Str}{apos cpos:Pos}{T id:String}{r:V->List V->Hp->VK->Prop}
def Ry(pa:PlainAttrs T)(slot:Slot T name id)(MK:typeOf (.builtin id)=pure (.type "method_descriptor"))(hm:Qo X id r)(ho:PE X o to)(ha:PA X (e::es) t)(oy:attributeBase o name X.env (eval o X.env)=eval o X.env:=by rfl)(Wy:((backTo cpos (starEach (e::es) X.env)).all (fun x=>!x.1)&&(backToKw cpos (keywordEach [] X.env)).all (fun x=>x.1.isSome)
   && decide ((e::es).length+([]:List Keyword).length+(if ([]:List Keyword).isEmpty then 0 else 1)<30))=true:=by rfl)(oz:(apos.endLine == cpos.line)=true:=by rfl)(hs:starEach (e::es) X.env=(false,eval e X.env)::starEach es X.env:=by rfl)(ML:(backTo cpos (starEach es X.env)).any (·.1)=false:=by rfl) :
  PE X (.Call (.Attribute o name apos) (e::es) [] cpos) (Ue X.K T r to t):=by
 intro pins s σ H Q I h;refine wpAny_Call_method_late oy Wy oz rfl (bH (ho pins s σ H _ I h) fun v s1 ⟨x,H1,I1,r1,ty,q1⟩=>?_);obtain⟨h1,h2⟩:=Nv I1 r1 ty;refine⟨T,id,pa,slot,MK,h1,h2,?_⟩;have hA:=ha cpos pins s1 σ H1 _ I1 q1;rw[hs]at hA ⊢;refine Calls.callWith_builtin (by show(false||(backTo cpos (starEach es X.env)).any (·.1))=false;rw[ML]<;>rfl) (Calls.evalArgs_plain ?_);exact bH hA fun us s2 ⟨vs,H2,I2,r2,q2⟩=>hm pins s2 σ H2 x vs v us Q I2 r1 r2 q2
/- xs.append(e),list.index on a PZ tuple .. are Qo facts of 06m -/
end
def Uf(X:Cx)(id:String)(r:V->List V->Hp->VK->Prop):Prop:=
 ∀(pins:List (Addr×Obj))(s:Shared)(σ:St)(H:Hp)(x:V)(xs:List V)(v:Value)(us:List Value)(Q:VK),Inv X pins σ H s->RelV x v->Vals xs us->r x xs H Q →
  wpAny (model X.prog X.w) X.A (call (.builtin id) (v::us)) (EP X pins σ Q) X.xe s
def Vals.one:∀ {x:V}{us:List Value},Vals [x] us->∃u,us=[u]/\RelV x u
 | _,_,.cons r .nil=>⟨_,rfl,r⟩
def Vals.two{x y:V}{us:List Value}(h:Vals [x,y] us):∃u v,us=[u,v] ∧ RelV x u ∧ RelV y v:=by
 cases h with|cons r t=>cases t with|cons q t=>cases t;exact⟨_,_,rfl,r,q⟩
def Vals.eraseIdx:∀ {xs:List V}{us:List Value} (i:Nat),Vals xs us->Vals (xs.eraseIdx i) (us.eraseIdx i)
 | _,_,_,.nil=>.nil
 | _,_,0,.cons _ t=>t
 | _,_,i+1,.cons r t=>.cons r (Vals.eraseIdx i t)
def pC{α:Type}:∀(l:List α)(i:Nat),(l.eraseIdx i).length<=l.length
 | [],_=>bY _
 | _::_,0=>le_succ _
 | _::r,i+1=>Nat.succ_le_succ (pC r i)
section
variable {X:Cx}{pins:List (Addr×Obj)}{σ:St}{H:Hp}{s:Shared}{l b:Addr}{xs ys zs:List V}
def Inv.lset{its its':List Value}{n:Nat}{f:Array Value->Array Value}{t':Nat}(I:Inv X pins σ H s)(hH:H l=some (.lst xs))(e:s.heap.get? l=some {cls:=.type "list",data:=.seq its.toArray n })(hf:f its.toArray=its'.toArray)(hv:Vals ys its')(hz:ys.length<=sizeLine) :
  Inv X pins σ (aH H l (.lst ys)) {s with heap:=s.heap.update l (Obj.mapSeq f),toks:=t' }:=by
 have q:=PySem.IsL.update e f;rw[hf]at q;refine I.write (x:=l) (e:=l) (by rw[hH];exact trivial) (.inl rfl) (fun b' u hb hu=>(Heap.get?_update_other s.heap (Obj.mapSeq f) (Ne.symm hb)).trans hu) ⟨_,q⟩ ?_;exact⟨hz,its',_,hv,q⟩
def Inv.lnew{its:List Value}{t':Nat}(I:Inv X pins σ H s)(hv:Vals ys its)(hz:ys.length<=sizeLine) :
  Inv X pins σ (aH H s.heap.objs.size (.lst ys)) {s with heap:=s.heap.push {cls:=.type "list",data:=.seq its.toArray },toks:=t' }:=
 I.laid (fun _ _ q=>fX _ q) (bY _) ⟨hz,its,0,hv,Heap.get?_push_size _ rfl⟩
def Inv.fresh(I:Inv X pins σ H s):H s.heap.objs.size=none:=I.hok.fresh (bY _)
def Inv.lstM(I:Inv X pins σ H s)(hH:H l=some (.lst xs)):xs.length<=sizeLine/\∃(its:List Value)(n:Nat),Vals xs its/\xs.length=its.length/\s.heap.get? l=some {cls:=.type "list",data:=.seq its.toArray n }:=by
 obtain⟨z,its,n,r,e⟩:=I.hok l _ hH;exact⟨z,its,n,r,r.length,e⟩
def Cq{n:Nat}(h:n<=sizeLine):Builtin.List.listTooLong n=false:=by
 unfold Builtin.List.listTooLong;exact decide_eq_false Zo
end
section
variable {X:Cx}
def xJ:V->List V->Hp->VK->Prop:=fun x vs H Q=>∃l xs y,x=.ref l/\vs=[y]/\H l=some (.lst xs)/\xs.length<sizeLine/\Q .non (aH H l (.lst (xs++[y])))
def zQ:Uf X "list.append" xJ:=by
 intro pins s σ H x vs v us Q I rx rv h;obtain⟨l,xs,y,rfl,rfl,hH,hz,q⟩:=h;cases rx;obtain⟨u,rfl,ru⟩:=rv.one;obtain⟨z,its,n,r,hl,e⟩:=I.lstM hH;refine call_meets F.slot_list_append ⟨_,e,rfl⟩ F.entry_list_append (F.args_list_append_2 _ _) (PySem.list_append l its.toArray n u (by rw[eE];omega)) ⟨e,?_⟩;refine⟨.non,_,I.lset (its':=its++[u]) hH e Zs (r.append (.cons ru .nil)) ?_,rfl,q⟩;rw[wW,List.length_singleton];omega
def Ie:V->List V->Hp->VK->Prop:=fun x vs H Q=>∃l b xs zs,x=.ref l/\vs=[.ref b]/\H l=some (.lst xs)/\H b=some (.lst zs)/\xs.length+zs.length<=sizeLine/\Q .non (aH H l (.lst (xs++zs)))
def Qq:Uf X "list.extend" Ie:=by
 intro pins s σ H x vs v us Q I rx rv h;obtain⟨l,b,xs,zs,rfl,rfl,hH,hB,hz,q⟩:=h;cases rx;obtain⟨u,rfl,ru⟩:=rv.one;cases ru;obtain⟨z,its,n,r,hl,e⟩:=I.lstM hH;obtain⟨z2,u6,n2,r2,ur,e2⟩:=I.lstM hB;have hsz:its.toArray.size+u6.toArray.size<=sizeLine:=by rw[eE,eE];omega
 have QA:¬ (!its.toArray.isEmpty&&Builtin.List.listTooLong (its.toArray.size+u6.toArray.size))=true:=by
  rw[Cq hsz,Bool.and_false];exact Bool.false_ne_true
 refine call_meets F.slot_list_extend ⟨_,e,rfl⟩ F.entry_list_extend (F.args_list_extend_2 _ _)
  (AutoSeq1.list_extend_list_list_0 l its.toArray n b u6.toArray n2 QA (by rw[eE];omega) Zo) ⟨e,e2,?_⟩
 refine⟨.non,_,I.lset (its':=its++u6) hH e Zs (r.append r2) ?_,rfl,q⟩;rw[wW];omega
def Cr:V->List V->Hp->VK->Prop:=fun x vs H Q=>∃l xs i k y,x=.ref l/\vs=[.int i]/\H l=some (.lst xs)/\-(2^63)<=i/\i<2^63/\seqIndex? i xs.length=some k/\xs[k]?=some y/\Q y (aH H l (.lst (xs.eraseIdx k)))
def Cs:Uf X "list.pop" Cr:=by
 intro pins s σ H x vs v us Q I rx rv h;obtain⟨l,xs,i,k,y,rfl,rfl,hH,h1,h2,hk,hy,q⟩:=h;cases rx;obtain⟨u,rfl,ru⟩:=rv.one;obtain⟨t,rfl⟩:=ru;obtain⟨z,its,n,r,hl,e⟩:=I.lstM hH;obtain⟨w,hw,um⟩:=r.get hy;refine call_meets F.slot_list_pop ⟨_,e,rfl⟩ F.entry_list_pop (F.args_list_pop_2 _ _)
  (MeetsSeq.list_pop_at l its.toArray n i t k w (fitsIndex_both h1 h2) (by rw[eE,<- hl];exact hk) (by rw[<- Array.getElem?_toList];exact hw) (by rw[eE];omega)) ⟨e,?_⟩
 refine⟨y,_,I.lset (its':=its.eraseIdx k) hH e ?_ (r.eraseIdx k) ?_,um,q⟩
 ·show its.toArray.eraseIdxIfInBounds k=(its.eraseIdx k).toArray;rw[List.eraseIdxIfInBounds_toArray]
 ·have:=pC xs k;omega
def Uw:R2:=fun x y H Q=>∃l b xs zs,x=.ref l/\y=.ref b/\H l=some (.lst xs)/\H b=some (.lst zs)/\xs.length+zs.length<=sizeLine/\∀p,H p=none->Q (.ref p) (aH H p (.lst (xs++zs)))
def Nw:OpR X (binaryOp .Add) Uw:=by
 intro pins s σ H x y v u Q I rx ry h;obtain⟨l,b,xs,zs,rfl,rfl,hH,hB,hz,q⟩:=h;cases rx;cases ry;obtain⟨z,its,n,r,hl,e⟩:=I.lstM hH;obtain⟨z2,u6,n2,r2,ur,e2⟩:=I.lstM hB;refine PySem.P.add_list e e2 ?_ (by rw[eE,eE];omega);have ea:its.toArray++u6.toArray=(its++u6).toArray:=by simp
 rw[ea];exact⟨.ref _,_,I.lnew (t':=s.toks) (r.append r2) (by rw[wW];omega),rfl,q _ I.fresh⟩
end
section
variable {κ:Type} [DecidableEq κ]
def aT(kvs:List (κ×V))(k:κ):Option V:=(kvs.find? fun kv=>decide (kv.1=k)).map (·.2)
def cG(kvs:List (κ×V))(k:κ)(v:V):List (κ×V):=
 if (kvs.any fun kv=>decide (kv.1=k))=true then kvs.map (fun kv=>if kv.1=k then (kv.1,v) else kv) else kvs++[(k,v)]
def cR(kvs:List (κ×V))(k:κ):List (κ×V):=kvs.filter fun kv=>decide (kv.1≠k)
def bO{p:κ×V}{r:List (κ×V)}{k:κ}(e:p.1=k):aT (p::r) k=some p.2:=by simp[aT,find?_cons,e]
def bP{p:κ×V}{r:List (κ×V)}{k:κ}(e:¬ p.1=k):aT (p::r) k=aT r k:=by simp[aT,find?_cons,e]
def cH(k:κ):∀kvs:List (κ×V),(kvs.any fun kv=>decide (kv.1=k))=(aT kvs k).isSome
 | []=>rfl
 | p::r=>by
  rw[any_cons];by_cases e:p.1=k
  ·simp only [bO e,decide_eq_true e,Bool.true_or,Option.isSome_some]
  ·rw[bP e,decide_eq_false e,Bool.false_or];exact cH k r
def sW(k j:κ)(y:V):∀kvs:List (κ×V),aT (kvs.map fun kv=>if kv.1=k then (kv.1,y) else kv) j=(aT kvs j).map fun x=>if j=k then y else x
 | []=>rfl
 | p::r=>by
  have ih:=sW k j y r;rw[map_cons];by_cases h:p.1=k
  ·rw[if_pos h];by_cases e:p.1=j
   ·rw[bO (p:=(p.1,y)) e,bO e,Option.map_some,if_pos (e.symm.trans h)]
   ·rw[bP (p:=(p.1,y)) e,bP e,ih]
  ·rw[if_neg h];by_cases e:p.1=j
   ·rw[bO (p:=p) e,bO e,Option.map_some,if_neg (fun z=>h (e.trans z))]
   ·rw[bP (p:=p) e,bP e,ih]
def pE(k j:κ)(y:V):∀kvs:List (κ×V),aT kvs k=none->aT (kvs++[(k,y)]) j=if j=k then some y else aT kvs j
 | [],_=>by
  by_cases e:k=j
  ·rw[if_pos e.symm];exact bO (p:=(k,y)) e
  ·rw[if_neg (fun z=>e z.symm)];exact bP (p:=(k,y)) e
 | p::r,hn=>by
  rw[cons_append];have hk:¬ p.1=k:=fun z=>by rw[bO z]at hn;cases hn
  rw[bP hk]at hn;have ih:=pE k j y r hn;by_cases e:p.1=j
  ·rw[bO e,bO e,if_neg (fun z=>hk (e.trans z))]
  ·rw[bP e,bP e,ih]
def Ct(kvs:List (κ×V))(k j:κ)(y:V):aT (cG kvs k y) j=if j=k then some y else aT kvs j:=by
 unfold cG;by_cases a:(kvs.any fun kv=>decide (kv.1=k))=true
 ·rw[if_pos a,sW];rw[cH]at a;by_cases e:j=k
  ·obtain⟨x,hx⟩:=Option.isSome_iff_exists.mp a;rw[if_pos e,e,hx,Option.map_some,if_pos rfl]
  ·rw[if_neg e];cases aT kvs j with
   | none=>rfl
   | some x=>rw[Option.map_some,if_neg e]
 ·rw[if_neg a];refine pE k j y kvs ?_;rw[cH]at a;cases q:aT kvs k with
  | none=>rfl
  | some x=>rw[q]at a;exact(a rfl).elim
def dQ(kvs:List (κ×V))(k:κ)(v:V):(cG kvs k v).length<=kvs.length+1:=by
 unfold cG;split
 ·rw[gZ];omega
 ·rw[wW,Bn,length_nil];omega
def hU{kvs:List (κ×V)}{k:κ}(v:V)(h:aT kvs k=none):cG kvs k v=kvs++[(k,v)]:=by
 unfold cG;rw[cH,h];exact if_neg Zd
def RelO.isSome_eq{o:Option V}{u:Option Value}(r:RelO o u):o.isSome=u.isSome:=by
 cases o with
 | none=>cases u with
  | none=>rfl
  | some _=>exact(show False from r).elim
 | some _=>cases u with
  | none=>exact(show False from r).elim
  | some _=>rfl
def KV.val{kvs:List (κ×V)}{vs:List (κ×Value)}(r:KV kvs vs)(k:κ):RelO (aT kvs k) (valueAt vs k):=by
 unfold KV at r;induction r with
 | nil=>exact True.intro
 | @cons p q ps qs h t ih=>
  obtain⟨h1,h2⟩:=h;by_cases e:p.1=k
  ·have e':q.1=k:=h1.symm.trans e;have b:valueAt (q::qs) k=some q.2:=by simp[valueAt,find?_cons,e']
   rw[bO e,b];exact h2
  ·have e':¬ q.1=k:=fun z=>e (h1.trans z)
   have b:valueAt (q::qs) k=valueAt qs k:=by simp[valueAt,find?_cons,e']
   rw[bP e,b];exact ih
def KV.any{kvs:List (κ×V)}{vs:List (κ×Value)}(r:KV kvs vs)(k:κ):(kvs.any fun kv=>decide (kv.1=k))=vs.any fun kv=>decide (kv.1=k):=by
 unfold KV at r;induction r with
 | nil=>rfl
 | cons h t ih=>rw[any_cons,any_cons,ih,h.1]
def KV.repl{kvs:List (κ×V)}{vs:List (κ×Value)}(r:KV kvs vs)(k:κ){y:V}{u:Value}(ry:RelV y u) :
  KV (kvs.map fun kv=>if kv.1=k then (kv.1,y) else kv) (vs.map fun kv=>if kv.1=k then (kv.1,u) else kv):=by
 unfold KV at r ⊢
 induction r with
 | nil=>exact .nil
 | @cons p q ps qs h t ih=>
  rw[map_cons,map_cons];refine .cons ?_ ih;obtain⟨h1,h2⟩:=h;by_cases e:p.1=k
  ·rw[if_pos e,if_pos (h1.symm.trans e)];exact⟨h1,ry⟩
  ·rw[if_neg e,if_neg (fun z=>e (h1.trans z))];exact⟨h1,h2⟩
def KV.put{kvs:List (κ×V)}{vs:List (κ×Value)}(r:KV kvs vs)(k:κ){y:V}{u:Value}(ry:RelV y u):KV (cG kvs k y) (stored vs k u):=by
 unfold cG stored;rw[r.any k];by_cases e:(vs.any fun kv=>decide (kv.1=k))=true
 ·rw[if_pos e,if_pos e];exact r.repl k ry
 ·rw[if_neg e,if_neg e];exact Paired.snoc r ⟨rfl,ry⟩
def KV.keys{kvs:List (κ×V)}{vs:List (κ×Value)}(r:KV kvs vs):kvs.map (·.1)=vs.map (·.1):=by
 unfold KV at r;induction r with
 | nil=>rfl
 | cons h t ih=>rw[map_cons,map_cons,ih,h.1]
def KV.length{kvs:List (κ×V)}{vs:List (κ×Value)}(r:KV kvs vs):kvs.length=vs.length:=Paired.length r
def sX(kvs:List (κ×V))(k:κ):(cR kvs k).length<=kvs.length:=List.length_filter_le _ _
end
def pF{P:Program}{w:World}{k:bJ}{u:Value}(r:RelV (kV k) u):(aW P w).is k u=true:=by
 cases k with
 | inl i=>obtain⟨t,e⟩:=(show ∃t,u=Value.int i t from r);subst e;exact sO P w i t
 | inr x=>obtain⟨t,e⟩:=(show ∃t,u=Value.str x t from r);subst e;exact sP P w x t
def pG{P:Program}{w:World}:∀ {ks:List bJ}{us:List Value},Vals (ks.map kV) us->ItemsAre (aW P w) ks us
 | [],_,r=>by rw[map_nil]at r;cases r;exact .nil
 | k::ks,_,r=>by
  rw[map_cons]at r;cases r with
  | cons h t=>exact .cons (pF h) (pG t)
abbrev KT(H:Hp):List (List bJ×V)->List (List bJ×Addr×Value)->Prop:=Paired fun p q=>p.1=q.1/\H q.2.1=some (.tup (p.1.map kV))/\RelV p.2 q.2.2
def KT.val{H:Hp}{kvs:List (List bJ×V)}{xs:List (List bJ×Addr×Value)}(r:KT H kvs xs)(k:List bJ):RelO (aT kvs k) ((atKey xs k).map (·.2)):=by
 induction r with
 | nil=>exact True.intro
 | @cons p q ps qs h t ih=>
  obtain⟨h1,_,h2⟩:=h;by_cases e:p.1=k
  ·have e':q.1=k:=h1.symm.trans e;have b:atKey (q::qs) k=some q.2:=by simp[atKey,find?_cons,e']
   rw[bO e,b];exact h2
  ·have e':¬ q.1=k:=fun z=>e (h1.trans z)
   have b:atKey (q::qs) k=atKey qs k:=by simp[atKey,find?_cons,e']
   rw[bP e,b];exact ih
def KT.repl{H:Hp}{kvs:List (List bJ×V)}{xs:List (List bJ×Addr×Value)}(r:KT H kvs xs)(k:List bJ){y:V}{u:Value}(ry:RelV y u) :
  KT H (kvs.map fun kv=>if kv.1=k then (kv.1,y) else kv) (xs.map (putAt k u)):=by
 induction r with
 | nil=>exact .nil
 | @cons p q ps qs h t ih=>
  rw[map_cons,map_cons];refine .cons ?_ ih;obtain⟨h1,h2,h3⟩:=h;unfold putAt;by_cases e:p.1=k
  ·rw[if_pos e,if_pos (h1.symm.trans e)];exact⟨h1,h2,ry⟩
  ·rw[if_neg e,if_neg (fun z=>e (h1.trans z))];exact⟨h1,h2,h3⟩
def KT.put{H:Hp}{kvs:List (List bJ×V)}{xs:List (List bJ×Addr×Value)}(r:KT H kvs xs)(k:List bJ){b:Addr}{y:V}{u:Value}(hb:H b=some (.tup (k.map kV)))(ry:RelV y u) :
  KT H (cG kvs k y) (storedH xs k b u):=by
 have e:(kvs.any fun kv=>decide (kv.1=k))=(atKey xs k).isSome:=by
  rw[cH,(r.val k).isSome_eq,Option.isSome_map]
 unfold cG storedH;rw[e];by_cases q:(atKey xs k).isSome=true
 ·rw[if_pos q,if_pos q];exact r.repl k ry
 ·rw[if_neg q,if_neg q];exact Paired.snoc r ⟨rfl,hb,ry⟩
def KT.keeps{H H':Hp}{kvs:List (List bJ×V)}{xs:List (List bJ×Addr×Value)}(r:KT H kvs xs)(ht:∀b ys,H b=some (.tup ys)->H' b=some (.tup ys)):KT H' kvs xs:=
 Paired.mapP r fun _ _ z=>⟨z.1,ht _ _ z.2.1,z.2.2⟩
section
variable {P:Program}{w:World}{H:Hp}{h:Heap}{a:Addr}
def Kv{u:HO}(ok:HOk P w H h)(e:Rd H a u):ObjOk P w H h a u:=e.ok ok
def lI{kvs:List (bJ×V)}(ok:HOk P w H h)(e:Rd H a (.dK kvs)):kvs.length<=sizeLine/\(a==sysModules)=false/\∃vs,KV kvs vs/\h.DictOf (aW P w) a vs:=
 show ObjOk P w H h a (.dK kvs) from Kv ok e
def Kw{kvs:List (bJ×V)}(ok:HOk P w H h)(e:H a=some (.dK kvs)):kvs.length<=sizeLine/\(a==sysModules)=false/\∃vs,KV kvs vs/\h.DictOf (aW P w) a vs:=lI ok (.inl e)
def jN{ks:List bJ}(ok:HOk P w H h)(e:H a=some (.tup (ks.map kV))):(tupleKind (aW P w)).is h ks a:=by
 obtain⟨_,its,r,o,h1,h2,n,h3⟩:=(show ObjOk P w H h a (.tup (ks.map kV)) from ok a _ e);exact⟨o,its.toArray,n,h1,h2,h3,by simpa using pG r⟩
def pH{kvs:List (List bJ×V)}(ok:HOk P w H h)(e:Rd H a (.dT kvs)):kvs.length<=sizeLine/\(a==sysModules)=false ∧
  ∃xs,KT H kvs xs/\h.DictOfH (tupleKind (aW P w)) a xs:=by
 obtain⟨z,y,xs,r,o,es,ep,h1,h2,h3,h4,h5⟩:=(show ObjOk P w H h a (.dT kvs) from Kv ok e);refine⟨z,y,xs,r,o,es,ep,h1,h2,h3,h4,fun x hx=>?_,h5⟩;have all:∀ {l:List (List bJ×V)}{m:List (List bJ×Addr×Value)},KT H l m->∀x∈m,(tupleKind (aW P w)).is h x.1 x.2.1:=by
  intro l m q;induction q with
  | nil=>intro x hx;exact nomatch hx
  | @cons p q ps qs hq t ih=>
   intro x hx;rcases mem_cons.mp hx with e|hx
   ·subst e;exact jN ok (by rw[<- hq.1];exact hq.2.1)
   ·exact ih x hx
 exact all r x hx
def Cu{kvs:List (List bJ×V)}(ok:HOk P w H h)(e:H a=some (.dT kvs)):kvs.length<=sizeLine/\(a==sysModules)=false ∧
  ∃xs,KT H kvs xs/\h.DictOfH (tupleKind (aW P w)) a xs:=pH ok (.inl e)
end
def DGet(H:Hp)(a:Addr)(y:V)(r:Option V):Prop:=
 (∃kvs k,Rd H a (.dK kvs)/\y=kV k/\r=aT kvs k)∨∃kvs k b,Rd H a (.dT kvs)/\y=.ref b/\H b=some (.tup (k.map kV))/\r=aT kvs k
def DPut(H:Hp)(a:Addr)(y v:V)(H':Hp):Prop:=
 (∃kvs k,H a=some (.dK kvs)/\y=kV k/\kvs.length<sizeLine/\H'=aH H a (.dK (cG kvs k v)))∨
 ∃kvs k b,H a=some (.dT kvs)/\y=.ref b/\H b=some (.tup (k.map kV))/\kvs.length<sizeLine/\H'=aH H a (.dT (cG kvs k v))
def DGet.k{H:Hp}{a:Addr}{kvs:List (bJ×V)}{k:bJ}(e:H a=some (.dK kvs)):DGet H a (kV k) (aT kvs k):=.inl ⟨kvs,k,.inl e,rfl,rfl⟩
def DGet.t{H:Hp}{a b:Addr}{kvs:List (List bJ×V)}{k:List bJ}(e:H a=some (.dT kvs))(eb:H b=some (.tup (k.map kV))):DGet H a (.ref b) (aT kvs k):=.inr ⟨kvs,k,b,.inl e,rfl,eb,rfl⟩
def DPut.k{H:Hp}{a:Addr}{kvs:List (bJ×V)}{k:bJ}{v:V}(e:H a=some (.dK kvs))(hl:kvs.length<sizeLine):DPut H a (kV k) v (aH H a (.dK (cG kvs k v))):=.inl ⟨kvs,k,e,rfl,hl,rfl⟩
def DPut.t{H:Hp}{a b:Addr}{kvs:List (List bJ×V)}{k:List bJ}{v:V}(e:H a=some (.dT kvs))(eb:H b=some (.tup (k.map kV)))(hl:kvs.length<sizeLine) :
  DPut H a (.ref b) v (aH H a (.dT (cG kvs k v))):=.inr ⟨kvs,k,b,e,rfl,eb,hl,rfl⟩
section
variable {X:Cx}{pins:List (Addr×Obj)}{σ:St}{H:Hp}{s:Shared}{a:Addr}{y v:V}{u r:Value}{o:Option V}{A:Around}{E:Value->Shared->Prop}
def Inv.big(I:Inv X pins σ H s):sysModules<s.heap.objs.size:=by
 have h:mainGlobals<s.heap.objs.size:=(I.mod.glob.keeps I.bk).lt;exact lt_trans Zd h
def zR{Q:Value->Shared->Prop}(hu:A.units+1<cLine)(I:Inv X pins σ H s)(g:DGet H a y (some v))(ry:RelV y u)(h:∀w' s',Inv X pins σ H s'->RelV v w'->Q w' s') :
  wpAny (model X.prog X.w) A (getItem (.ref a) u) Q E s:=by
 rcases g with⟨kvs,k,e,ey,l⟩|⟨kvs,k,b,e,ey,eb,l⟩
 ·subst ey;obtain⟨z,hd,vs,rel,dd⟩:=lI I.hok e;obtain⟨w',hw,um⟩:=RelO.some_of (v:=v) (o:=valueAt vs k) (by rw[l];exact rel.val k);exact wpAny_getItem_of (pF ry) dd.mapOf hw (h w' _ (I.tok _) um)
 ·subst ey;cases(show u=Value.ref b from ry);obtain⟨z,hd,xs,rel,dd⟩:=pH I.hok e;obtain⟨w',hw,um⟩:=RelO.some_of (v:=v) (o:=(atKey xs k).map (·.2)) (by rw[l];exact rel.val k);obtain⟨p,hp,FC⟩:=Option.map_eq_some_iff.mp hw;refine wpAny_getItem_heap (tupleKind_room_in1 hu) (jN I.hok eb) dd hp ?_;rw[FC];exact h w' _ (I.tok _) um
def Rz{Q:Value->Shared->Prop}(hu:A.units+1<cLine)(I:Inv X pins σ H s)(g:DGet H a y o)(ry:RelV y u)(h:∀s',Inv X pins σ H s'->Q (.bool o.isSome) s') :
  wpAny (model X.prog X.w) A (compareOp .In u (.ref a)) Q E s:=by
 rcases g with⟨kvs,k,e,ey,l⟩|⟨kvs,k,b,e,ey,eb,l⟩
 ·subst ey;obtain⟨z,hd,vs,rel,dd⟩:=lI I.hok e;refine wpAny_in_of (pF ry) hd dd.mapOf ?_;rw[<- (rel.val k).isSome_eq,<- l];exact h _ (I.tok _)
 ·subst ey;cases(show u=Value.ref b from ry);obtain⟨z,hd,xs,rel,dd⟩:=pH I.hok e;refine wpAny_in_heap (tupleKind_room_in1 hu) (jN I.hok eb) hd dd ?_;have q:=(rel.val k).isSome_eq;rw[Option.isSome_map]at q;rw[<- q,<- l];exact h _ (I.tok _)
def xM{Q:Value->Shared->Prop}(hu:A.units+1<cLine)(I:Inv X pins σ H s)(g:DGet H a y o)(ry:RelV y u)(h:∀s',Inv X pins σ H s'->Q (.bool (!o.isSome)) s') :
  wpAny (model X.prog X.w) A (compareOp .NotIn u (.ref a)) Q E s:=by
 rcases g with⟨kvs,k,e,ey,l⟩|⟨kvs,k,b,e,ey,eb,l⟩
 ·subst ey;obtain⟨z,hd,vs,rel,dd⟩:=lI I.hok e;refine wpAny_notIn_of (pF ry) hd dd.mapOf ?_;rw[<- (rel.val k).isSome_eq,<- l];exact h _ (I.tok _)
 ·subst ey;cases(show u=Value.ref b from ry);obtain⟨z,hd,xs,rel,dd⟩:=pH I.hok e;refine wpAny_notIn_heap (tupleKind_room_in1 hu) (jN I.hok eb) hd dd ?_;have q:=(rel.val k).isSome_eq;rw[Option.isSome_map]at q;rw[<- q,<- l];exact h _ (I.tok _)
def qT{h':Heap}{t':Nat}{ob:HO}(I:Inv X pins σ H s)(mu:Qw (H a))(hs:Heap.SameBut a s.heap h')(he:∃q,h'.get? a=some q)(new:ObjOk X.prog X.w (aH H a ob) h' a ob) :
  Inv X pins σ (aH H a ob) {s with heap:=h',toks:=t' }:=
 I.write (x:=a) (e:=a) mu (.inl rfl) (fun b q hb z=>(hs.2 b hb).trans z) he new
def Ny{P:Program}{w:World}{H':Hp}{h':Heap}{kvs:List (bJ×V)}{vs:List (bJ×Value)}(z:kvs.length<=sizeLine)(hd:(a==sysModules)=false)(rel:KV kvs vs)(dd:h'.DictOf (aW P w) a vs) :
  ObjOk P w H' h' a (.dK kvs):=⟨z,hd,vs,rel,dd⟩
def zS{H':Hp}{Q:Unit->Shared->Prop}(hu:A.units+1<cLine)(I:Inv X pins σ H s)(g:DPut H a y v H')(ry:RelV y u)(rv:RelV v r)(h:∀s',Inv X pins σ H' s'->Q () s') :
  wpAny (model X.prog X.w) A (setItem (.ref a) u r) Q E s:=by
 rcases g with⟨kvs,k,e,ey,l,eH⟩|⟨kvs,k,b,e,ey,eb,l,eH⟩
 ·subst ey eH;obtain⟨z,hd,vs,rel,dd⟩:=Kw I.hok e;have hz:vs.length<=sizeLine:=by rw[<- rel.length];exact z
  have hl:(cG kvs k v).length<=sizeLine:=by have:=dQ kvs k v;omega
  refine wpAny_setItem_pairs (hsz:=hz) (pF ry) dd fun h' OP hs=>h _ ?_;have he:∃q,h'.get? a=some q:=let ⟨q,_,_,hq,_⟩:=OP;⟨q,hq⟩;exact qT I (by rw[e];exact True.intro) hs he (Ny hl hd (rel.put k rv) OP)
 ·subst ey eH;cases(show u=Value.ref b from ry);obtain⟨z,hd,xs,rel,dd⟩:=Cu I.hok e;have hz:xs.length<=sizeLine:=by rw[<- Paired.length rel];exact z
  have hl:(cG kvs k v).length<=sizeLine:=by have:=dQ kvs k v;omega
  refine wpAny_setItem_heap (hsz:=hz) (tupleKind_room_in1 hu) (jN I.hok eb) dd fun h' OP hs=>h _ ?_;obtain⟨q,es,ep,hq,h2,h3,h4,_,h5⟩:=OP;refine qT I (by rw[e];exact True.intro) hs ⟨q,hq⟩ ⟨hl,hd,_,(rel.put k eb rv).keeps fun c ys ec=>?_,q,es,ep,hq,h2,h3,h4,h5⟩;rw[aE (bF ec e nofun)];exact ec
end
def Nz(i:Expr):Prop:=∀ov iv,subscripted i false ov iv=operate [ov,iv] (getItem ov iv)
def Ig{prog:Program}{w:World}{A:Around}{E:Value->Shared->Prop}{s:Shared}{env:Env}{value slice:Expr}{pos:Pos}{T id:String}{Q:Value->Shared->Prop}(hl:typeLookup (.type T) "__getitem__"=pure (some (.builtin id)))(hs:Nz slice)(h:wpAny (model prog w) A (eval value env) (fun o s₁=>wpAny (model prog w) A (eval slice env) (fun i s₂=>s₂.TypeIs o T/\wpAny (model prog w) A (getItem o i) Q E s₂) E s₁) E s) :
  wpAny (model prog w) A (eval (.Subscript value slice pos) env) Q E s:=by
 refine Subscript_ (wpAny_mono h (fun o s₁ h₁=>wpAny_mono h₁ (fun i s₂ h₂=>?_) fun _ _ x=>x) fun _ _ x=>x);obtain⟨hT,h₂⟩:=h₂;unfold subscriptTail;refine wpAny_bind ?_;rw[getitemInPython_of_ne hT.not_modules];refine wpAny_bind (wpAny_specialOf hT hl ?_);have fin:wpAny (model prog w) A (subscripted slice false o i) (fun r s₃=>wpAny (model prog w) A (letTemporaryGo value o r>>=fun _=>pure r) Q E s₃) E s₂:=by
  rw[hs o i];exact wpAny_operating (wpAny_mono h₂ (fun r s₃ h₃=>wpAny_bind (wpAny_letTemporaryGo (wpAny_pure h₃))) fun _ _ x=>x)
 first
  | exact wpAny_pure (wpAny_bind fin)
  | exact wpAny_bind (wpAny_pure (wpAny_bind fin))
  | exact wpAny_bind fin
def sY{X:Cx}{pins:List (Addr×Obj)}{σ:St}{H:Hp}{s:Shared}{a:Addr}{y:V}{o:Option V}(I:Inv X pins σ H s)(g:DGet H a y o):s.TypeIs (.ref a) "dict":=by
 rcases g with⟨kvs,k,e,_,_⟩|⟨kvs,k,b,e,_,_,_⟩
 ·obtain⟨_,_,vs,_,dd⟩:=lI I.hok e;exact dd.typeIs
 ·obtain⟨_,_,xs,_,dd⟩:=pH I.hok e;exact dd.typeIs
def Kx(td ty:TE):TE:=fun σ H Q=>td σ H fun x H1=>ty σ H1 fun y H2=>∃a v,x=.ref a/\DGet H2 a y (some v)/\Q v H2
section
variable {X:Cx}{o i e value:Expr}{pos pos' MM:Pos}{td ty tv:TE}
def Ih(hu:X.A.units+1<cLine)(ho:PE X o td)(hi:PE X i ty)(hs:Nz i):PE X (.Subscript o i pos) (Kx td ty):=by
 intro pins s σ H Q I h;refine Ig PySem.F.slot_dict_getitem.lookup hs (bH (ho pins s σ H _ I h) fun u s1 ⟨x,H1,I1,rx,q1⟩=>bH (hi pins s1 σ H1 _ I1 q1) fun iv s2 ⟨y,H2,I2,ry,a,v,ex,g,q2⟩=>?_);subst ex;obtain rfl:u=Value.ref a:=rx;exact⟨sY I2 g,zR hu I2 g ry fun w' s3 I3 um=>⟨v,H2,I3,um,q2⟩⟩
end
def Cv{P:Program}{w:World}{H:Hp}(h:Heap)(hb:sysModules<h.objs.size):ObjOk P w H (h.push {cls:=.type "dict",data:=.dict #[] }) h.objs.size (.dK []):=
 ⟨zero_le _,beq_eq_false_iff_ne.mpr (Ne.symm (ne_of_lt hb)),[],.nil,Heap.DictOf.new h⟩
def Cw{P:Program}{w:World}{H:Hp}(h:Heap)(hb:sysModules<h.objs.size):ObjOk P w H (h.push {cls:=.type "dict",data:=.dict #[] }) h.objs.size (.dT []):=
 ⟨zero_le _,beq_eq_false_iff_ne.mpr (Ne.symm (ne_of_lt hb)),[],.nil,_,#[],0,Heap.get?_push_size _ rfl,⟨rfl,rfl,rfl⟩,rfl,rfl,nodup_nil⟩
def Cy:TE:=fun _ H Q=>∀p,H p=none->Q (.ref p) (aH H p (.dK []))
def Cz:TE:=fun _ H Q=>∀p,H p=none->Q (.ref p) (aH H p (.dT []))
section
variable {X:Cx}{pos:Pos}
def Db:PE X (.Dict [] [] pos) Cy:=fun pins s σ H Q I h=>
 wpAny_Dict_empty ⟨.ref s.heap.objs.size,_,I.laid (a:=s.heap.objs.size) (o:=.dK []) (t':=s.toks) (fun _ _ q=>fX _ q) (bY _) (Cv s.heap I.big),rfl,h _ (I.hok.fresh (bY _))⟩
def Dc:PE X (.Dict [] [] pos) Cz:=fun pins s σ H Q I h=>
 wpAny_Dict_empty ⟨.ref s.heap.objs.size,_,I.laid (a:=s.heap.objs.size) (o:=.dT []) (t':=s.toks) (fun _ _ q=>fX _ q) (bY _) (Cw s.heap I.big),rfl,h _ (I.hok.fresh (bY _))⟩
end
def dI(kvs more:List (bJ×V)):List (bJ×V):=more.foldl (fun acc kv=>cG acc kv.1 kv.2) kvs
def jE:∀(more kvs:List (bJ×V)),(dI kvs more).length<=kvs.length+more.length
 | [],kvs=>by show kvs.length<=kvs.length+0;omega
 | p::r,kvs=>by
  have h1:=jE r (cG kvs p.1 p.2);have h2:=dQ kvs p.1 p.2;show(dI (cG kvs p.1 p.2) r).length<=_;rw[Bn];omega
structure M1(X:Cx)(o:Expr)(m:Str)(apos:Pos)(e:Expr)(cpos:Pos):Prop where
 base:attributeBase o m X.env (eval o X.env)=eval o X.env
 few:((backTo cpos (starEach [e] X.env)).all (fun x=>!x.1)&&(backToKw cpos (keywordEach [] X.env)).all (fun x=>x.1.isSome)
  && decide (([e]:List Expr).length+([]:List Keyword).length+(if ([]:List Keyword).isEmpty then 0 else 1)<30))=true
 line:(apos.endLine==cpos.line)=true
 trees:backTo cpos (starEach [e] X.env)=[(false,eval e X.env)]
structure M2(X:Cx)(o:Expr)(m:Str)(apos:Pos)(e f:Expr)(cpos:Pos):Prop where
 base:attributeBase o m X.env (eval o X.env)=eval o X.env
 few:((backTo cpos (starEach [e,f] X.env)).all (fun x=>!x.1)&&(backToKw cpos (keywordEach [] X.env)).all (fun x=>x.1.isSome)
  && decide (([e,f]:List Expr).length+([]:List Keyword).length+(if ([]:List Keyword).isEmpty then 0 else 1)<30))=true
 line:(apos.endLine==cpos.line)=true
 trees:backTo cpos (starEach [e,f] X.env)=[(false,eval e X.env),(false,eval f X.env)]
def Ux(H:Hp)(a:Addr):Prop:=(∃kvs,Rd H a (.dK kvs))∨∃kvs,Rd H a (.dT kvs)
def De{X:Cx}{pins:List (Addr×Obj)}{σ:St}{H:Hp}{s:Shared}{a:Addr}(I:Inv X pins σ H s)(d:Ux H a) :
  s.TypeIs (.ref a) "dict"/\(∀b,Value.ref a=.ref b->∃ob,s.heap.get? b=some ob/\ob.dict=none)/\(a==sysModules)=false:=by
 rcases d with⟨kvs,e⟩|⟨kvs,e⟩
 ·obtain⟨_,hd,vs,_,dd⟩:=lI I.hok e;refine⟨dd.typeIs,fun b q=>?_,hd⟩;cases q;obtain⟨ob,_,_,h1,h2,_⟩:=dd;exact⟨ob,h1,h2.2.1⟩
 ·obtain⟨_,hd,xs,_,dd⟩:=pH I.hok e;refine⟨dd.typeIs,fun b q=>?_,hd⟩;cases q;obtain⟨ob,_,_,h1,h2,_⟩:=dd;exact⟨ob,h1,h2.2.1⟩
end L2
namespace YM
open PySem PySem.W PySem.Calls PyProof.Rows
def lO{P:Params}{h:Heap}:∀(ns:List Int)(vs:List Value),WellAll P h vs (ns.map WData.int)->IntsAre vs ns:=by
 intro ns;induction ns with
 | nil=>
  intro vs w;rw[map_nil]at w;cases w;exact .nil
 | cons n ns ih=>
  intro vs w;rw[map_cons]at w;cases w with
  | cons a b=>
   cases a;exact .cons _ _ (ih _ b)
def zT{l:OpenLaw}{n:Nat}(hn:l.most=some n){P:Params}{h:Heap}{args:List WData}{vals:List Value}(JP:l.row.toRowW.claim.pre args=true)(QC:WellAll P h vals args) :
  ∃a vs ns,vals=[Value.ref a]/\args=[WData.list (ns.map WData.int)]/\h.get? a=some {cls:=.type "list",data:=.seq vs.toArray }/\IntsAre vs ns/\ns.length<=n:=by
 have hsh:WShape.hasAll [] args [.list .int]=true:=(pre_splitW JP).1;have hc:l.pre.holds [] {args:=args }=true:=(pre_splitW JP).2;obtain⟨d,r,rfl,h1,h2⟩:=hasAllW_cons hsh;obtain rfl:=hasAllW_nil h2;obtain⟨xs,rfl,h3⟩:=hasW_list h1;obtain⟨ns,rfl⟩:=items_int h3;have hlen:ns.length<=n:=by
  unfold OpenLaw.pre at hc;have h4:(WTm.not (.lt (.lit (.int (n:Int))) (.len (.arg 0)))).holds [] {args:=[.list (ns.map .int)] }=true:=by
   have h4:=(holds_andW hc).1;rw[hn]at h4;exact h4
  have h5:=condW_of h4 (w_not (w_lt w_lit (w_len_list (w_arg rfl))));rw[gZ]at h5;refine Nat.le_of_not_lt fun q=>?_
  have q':(n:Int)<((ns.length:Nat):Int):=by omega
  first
   | (rw[decide_eq_true q']at h5;exact absurd h5 Zd)
   | (simp at h5;omega)
 cases QC with
 | cons w1 w2=>
  cases w2
  cases w1 with
  | list ho GL=>exact⟨_,_,ns,rfl,rfl,ho,lO ns _ GL,hlen⟩
def zU(l:OpenLaw)(args:List WData):l.row.toRowW.claim.post args (.bool true) args=true:=
 postW_of (r:=l.row.toRowW) (X:=(true==true))
  (show WShape.has [] (.bool true) .bool=true by first|rfl|decide|simp[WShape.has,WShape.arms,WShape.armsAll])
  (show(WTm.eq .res (.lit (.bool true))).value [] {args:=args,res:=some (.bool true),after:=args }=some (.bool (true==true)) from w_eq_bool (w_res rfl) w_lit) rfl
def attach_call{l:OpenLaw}{n:Nat}{q:Program}{loose:List Str}{XP:(Str->Option Value)->Heap->Prop}{YP:World->Heap->Prop}{d:DefRec}(hn:l.most=some n)(QD:d.params.defaults=[])(call:∀(w:World)(s₀ s₁:Shared)(mg mb:Str->Option Value)(fa:Addr)(o:Obj)(pm cd doc:Value)(a:Addr)(vs:List Value)(ns:List Int),
   Ground q loose [] XP w s₀ mg mb s₁.heap->YP w s₁.heap →
   s₁.heap.get? fa=some o->o.data=.func (docDef d.name d.params d.body d.scope pm cd doc)->s₁.heap.CodeRec cd d.name->mg d.name=some (.ref fa) →
   s₁.heap.get? a=some {cls:=.type "list",data:=.seq vs.toArray }->IntsAre vs ns->ns.length<=n->s₁.gens=#[] →
   codeAny (model l.prog w) callerA (.call (.ref fa) ⟨[.ref a],[]⟩) (fun r s'=>r=.ok (.ret (.bool true))/\OldK s₁.heap s'.heap/\s'.os=s₁.os/\AllBare s'.gens) s₁) :
  WalkO q loose XP YP l.row.toRowW d [] (fun f vs=>PySem.call f vs):=by
 intro w s₀ s₁ mg mb G Y fa o pm cd doc dV kV ho hd ya hD LC hg args vals as JP aT' hrd QC Wz;obtain rfl:dV=.none:=Dflts.none hD QD;obtain rfl:kV=.none:=Dflts.noKw hD;obtain⟨a,vs,ns,rfl,rfl,MN,hints,hlen⟩:=zT hn JP QC;refine enter_call (codeAny_mono (call w s₀ s₁ mg mb fa o pm cd doc a vs ns G Y ho (fd_plain hd) ya LC MN hints hlen hg) fun r s' hq=>?_);obtain⟨rfl,h2,h3,h4⟩:=hq;exact⟨.inl ⟨.bool true,.bool true,[],rfl,fun _=>rfl,.bool true,zU l _,fun _=>⟨List.Pairwise.nil,fun _ hm=>(nomatch hm)⟩⟩,h2,h3,h4⟩
end YM
namespace L2
open PySem PySem.Spec PyProof.Rows
def pI:∀ {vs:List Value}{ns:List Int},IntsAre vs ns->Vals (ns.map V.int) vs
 | _,_,.nil=>.nil
 | _,_,.cons n t h=>.cons ⟨t,rfl⟩ (pI h)
def Oa(H:Hp):Prop:=∀b,H b=none∨∃o xs,H b=some (.frz o (.lst xs))
def Df{P:Program}{w:World}{K:W.Frag}{mg mb:Str->Option Value}{CX:Ci}{k:Nat}{fa a:Addr}{fd:FuncData}{x:Str}{sp:Sp}{s₁:Shared}{vs:List Value}{ns:List Int}(KX:K.In s₁.heap)(QE:s₁.heap.Ns mainGlobals mg)(hb:s₁.heap.Ns builtinsNs mb)(WA:∀x:Str,x≠"__name__"->mb x=bootBuiltins x)(WB:s₁.heap.NoLimit)(hg:s₁.gens=#[])(ha:s₁.heap.get? a=some {cls:=.type "list",data:=.seq vs.toArray })(hi:IntsAre vs ns)(hl:ns.length<=sizeLine)(hr:Room k callerA)(F:∀base:Heap,K.In base->base.Ns mainGlobals mg->gC P w K mg base CX k fa fd [x] sp)(QF:∀(s:Shared)(u:Value),BindsTo s fd ⟨[u],[]⟩ [(x,u)])(ER:∀H:Hp,Oa H->SqL K H a (ns.map V.int)->sp [.ref a] H (fun v _=>v=.bl true) fun _ _ _=>False)(WC:∀H e s',CX [] H s₁ (fun _ _ _=>False) e s'->False) :
  codeAny (model P w) callerA (.call (.ref fa) ⟨[.ref a],[]⟩) (fun r s'=>r=.ok (.ret (.bool true))/\OldK s₁.heap s'.heap/\s'.os=s₁.os/\AllBare s'.gens) s₁:=by
 have rv:=pI hi;have WD:=hi.length;have core:∀H:Hp,Oa H->SqL K H a (ns.map V.int)->HOk P w H s₁.heap->(∀b,H b≠none->b=a)->(H a≠none->K.lookup a=none) →
   codeAny (model P w) callerA (.call (.ref fa) ⟨[.ref a],[]⟩) (fun r s'=>r=.ok (.ret (.bool true))/\OldK s₁.heap s'.heap/\s'.os=s₁.os/\AllBare s'.gens) s₁:=by
  intro H hO hS hok hA hK;have ET:∀ {b:Addr}{o:Obj},s₁.heap.get? b=some o->H b=none->(qF s₁.heap H).get? b=some o:=fun e n=>Br e n
  have PU:∀ {b:Addr}{o:Obj}{es:Array DictEntry}{ep:Nat},s₁.heap.get? b=some o->o.data=.dict es ep->H b=none:=fun {b o es ep} e d=>by
   cases q:H b with
   | none=>rfl
   | some u=>
    have e':b=a:=hA b (by rw[q];simp);subst e';rw[ha]at e;cases e;have d':Data.seq vs.toArray _=Data.dict es ep:=d;cases d'
  have UK:∀ {b:Addr}{m:Str->Option Value},s₁.heap.Ns b m->(qF s₁.heap H).Ns b m:=fun {b m} ⟨o,es,ep,e,d,r⟩=>⟨o,es,ep,ET e (PU e d),d,r⟩
  have YN:K.In (qF s₁.heap H):=fun b o e=>ET (KX b o e) (by
   cases q:H b with
   | none=>rfl
   | some u=>
    have e':b=a:=hA b (by rw[q];simp);subst e';rw[hK (by rw[q];simp)]at e;cases e)
  have hM:Mod K mg (qF s₁.heap H):=⟨YN,UK QE,⟨mb,UK hb,WA⟩,let ⟨mc,h1,h2⟩:=WB;⟨mc,UK h1,h2⟩⟩;have e0:Env0 P w K mg (qF s₁.heap H) callerA [] s₁ H:=⟨rfl,hM,fun b o e=>He e,le_of_eq (zD _ _),trivial,fun b hb=>absurd (show b∈([]:List Addr) from hb) Zs,hok,.of_eq hg⟩;refine codeAny_mono ((F _ YN (UK QE)).run callerA [] s₁ H ⟨[.ref a],[]⟩ [.ref a] [.ref a] _ _ hr e0 (QF s₁ (.ref a)) (.cons rfl .nil) (ER H hO hS)) fun r s' h=>?_
  cases r with
  | error e=>exact(WC H e s' h).elim
  | ok fl=>
   cases fl with
   | next=>exact False.elim h
   | brk=>exact False.elim h
   | cont=>exact False.elim h
   | ret u=>
    obtain⟨v,H',os,bare,un,WE,r',q⟩:=h;have q':v=.bl true:=q;subst q';obtain rfl:u=Value.bool true:=r';refine⟨rfl,OldK.of_keep fun b o e=>?_,os,bare⟩
    cases q:H b with
    | none=>exact un.keep b o e q (by intro z;exact absurd (show b∈([]:List Addr) from z) Zs) Zs
    | some u=>
     rcases hO b with z|⟨ob,xs,z⟩
     ·rw[q]at z;cases z
     ·have z2:=un.frzs b ob _ z;obtain⟨e1,_⟩:=hok b _ z;obtain⟨e2,_⟩:=WE b _ z2;rw[e]at e1;cases e1;exact e2
 cases hk:K.lookup a with
 | some o=>
  have e:=KX a o hk;rw[ha]at e;cases e;refine core (fun _=>none) (fun _=>.inl rfl) (.inr ⟨_,vs.toArray,_,hk,rfl,rfl,rfl,by rw[eE,WD];exact hl,by simpa using rv⟩) (fun b u z=>by have z':(none:Option HO)=some u:=z;cases z') (fun b z=>absurd rfl z) fun z=>absurd rfl z
 | none=>
  refine core (fun b=>if b=a then some (.frz {cls:=.type "list",data:=.seq vs.toArray } (.lst (ns.map V.int))) else none) (fun b=>?_) (.inl (.inr ⟨{cls:=.type "list",data:=.seq vs.toArray },if_pos rfl⟩)) (fun b u z=>?_) (fun b z=>?_) fun _=>hk
  ·by_cases hb:b=a
   ·exact .inr ⟨_,_,if_pos hb⟩
   ·exact .inl (if_neg hb)
  ·by_cases hb:b=a
   ·have z':=(if_pos hb).symm.trans z;cases z';subst hb;exact⟨ha,by rw[gZ];exact hl,vs,_,rv,ha⟩
   ·have z':=(if_neg hb).symm.trans z;cases z'
  ·by_cases hb:b=a
   ·exact hb
   ·exact absurd (if_neg hb) z
def xO{l:W.OpenLaw}{n k:Nat}{q:Program}{loose:List Str}{XP:(Str->Option Value)->Heap->Prop}{YP:World->Heap->Prop}{d:DefRec}{K:Params->W.Frag}{CX:World->Ci}{sp:World->Sp}{x:Str}(hn:l.most=some n)(OO:n<=sizeLine)(QD:d.params.defaults=[])(hr:Room k callerA)(hY:∀(w:World)(h:Heap),YP w h->(K w.params).In h)(F:∀(w:World)(mg:Str->Option Value)(fa:Addr)(h:Heap),(K w.params).In h->h.Ns mainGlobals mg->mg d.name=some (.ref fa) →
   ∃fd:FuncData,(∀(s:Shared)(u:Value),BindsTo s fd ⟨[u],[]⟩ [(x,u)]) ∧
    ∀base:Heap,(K w.params).In base->base.Ns mainGlobals mg->gC l.prog w (K w.params) mg base (CX w) k fa fd [x] (sp w))(ER:∀(w:World)(H:Hp)(a:Addr)(ns:List Int),ns.length<=n->Oa H->SqL (K w.params) H a (ns.map V.int)->sp w [.ref a] H (fun v _=>v=.bl true) fun _ _ _=>False)(WC:∀(w:World)(H:Hp)(s:Shared)(e:Value)(s':Shared),CX w [] H s (fun _ _ _=>False) e s'->False) :
  W.WalkO q loose XP YP l.row.toRowW d [] (fun f vs=>PySem.call f vs):=by
 refine YM.attach_call hn QD fun w s₀ s₁ mg mb fa o pm cd doc a vs ns G Y ho hd ya LC MN hints hlen hg=>?_;have KX:=hY w _ Y;obtain⟨fd,hb,hF⟩:=F w mg fa _ KX G.T.g LC;exact Df KX G.T.g G.T.b G.T.builtins G.T.nolimit hg MN hints (fO hlen OO) hr hF hb (fun H hO hS=>ER w H a ns hlen hO hS) fun H e s'=>WC w H s₁ e s'
end L2
/- THE aU' UL (shape;LID,My.* are YO):
   My.Adr: a structure of the addresses that aV' YQ names (classes,OQ);My.Txt K t: a structure (Prop) of the equations over K;
   My.txt_mk:{K} {implicit addresses ..} (e1:nsIn K mainGlobals "law"=some (some (.ref f))) (e2:K.lookup f=some ⟨oc,od,.func (fnOf "law" "law" params body scope dV kV doc pm an cdv ct),sl⟩) (e3:codeIn K cdv "law"=true) ..:∃t,My.Txt K t
set_option maxRecDepth 100000 in
set_option maxHeartbeats 0 in
def PySem.Challenge.cw_LID_holds : PySem.Challenge.rw_LID.Holds := by
 w_on;o_law;k_head;(case hw=>w_witness2)
 k_fill
 refine L2.xO (l:=PySem.Challenge.rw_LID) (n:=63) (k:=40) (x:="script") (CX:=fun w=>..) (sp:=fun _=>My.sp_law) rfl Zd rfl ⟨rfl,Zd,Zd⟩ (fun w h Y=>W.kIn_of Y) ?F ?S ?C
 case F=>
  intro w mg fa h KX G LC;have T:∃t,My.Txt (L2.KOf KX) t:=by
   dsimp only [L2.KOf]                          -- K aW' YR as «<heap const> w.params» for k_is
   refine' My.txt_mk ?e1 ?e2 ?e3 ..
   (case e1=>W.k_is)                    -- in the order: a name->its address->its object->its parts
   (case e2=>W.k_is)
   ..
  obtain⟨t,T⟩:=T;have e0:=LC.symm.trans (W.mg_of KX G T.law);cases e0                                       -- fa is the YS own address;exact⟨_,fun s u=>.of_eq rfl,fun base kb nb=>My.law_fn T kb nb⟩     -- if «.of_eq rfl» comes too early: refine' ⟨_,?b,fun base kb nb=>My.law_fn T kb nb⟩;exact fun s u=>.of_eq rfl
 case S=>exact fun w H a ns hl hO hS=>..
 case C=>exact ..
(the tactic k_is has no namespace: write k_is) -/
namespace L2
open PySem PySem.Spec PyProof.Rows
def aO(s:Stmt)(j:Nat):Stmt:=match s with
 | .ClassDef _ _ _ body _ _ _ _ _ _ _=>body.getD j (.Pass ⟨0,0,0,0⟩)
 | _=>.Pass ⟨0,0,0,0⟩
def aX(s:Stmt):Arguments:=match s with
 | .FunctionDef _ a _ _ _ _ _ _ _ _=>a
 | _=>{posonlyargs:=[],args:=[],vararg:=none,kwonlyargs:=[],kw_defaults:=[],kwarg:=none,defaults:=[] }
def aM(s:Stmt):List Stmt:=match s with
 | .FunctionDef _ _ b _ _ _ _ _ _ _=>b
 | _=>[]
def aD(s:Stmt):Scope:=match s with
 | .FunctionDef _ _ _ _ _ _ sc _ _ _=>sc
 | _=>{kind:=.function,names:=[],isGenerator:=false,isCoroutine:=false }
abbrev pJ:Ci:=fun _ _ _ _ _ _=>False
abbrev E0:XK:=fun _ _ _=>False
def sZ{X:Cx}:kM pJ X E0:=fun _ _ _ _ _ _ _ h=>h.elim
structure Fun(K:W.Frag)(x qual:Str)(st:Stmt)(f:Addr)(fd:FuncData):Prop where
 ex:∃(oc:Value)(od:Option Addr)(kV doc pm:Value)(an:Option Addr)(cdv ct:Value)(osl:Array (Option Value)),
  fd=W.fnOf x qual (aX st) (aM st) (aD st) .none kV doc pm an cdv ct/\K.lookup f=some ⟨oc,od,.func fd,osl⟩/\W.codeIn K cdv qual=true
 kp:W.keepIn K (.ref f)=true
section
variable {P:Program}{w:World}{K:W.Frag}{mg:Str->Option Value}{base:Heap}
def Fun.ok{x qual:Str}{st:Stmt}{f:Addr}{fd:FuncData}{N ps:List Str}{k:Nat}{sp:Sp}(F:Fun K x qual st f fd)(S:aG N ps (aD st))(len:∀vs H Q E,sp vs H Q E->vs.length=ps.length)(o9:∀(cdv:Value)(A:Around)(outer:List Env)(s:Shared)(H:Hp)(vs:List V)(Q:VK)(E:XK),Room k (A.deeper (envOfC qual (aD st) s.heap.objs.size f cdv))->sp vs H Q E →
   ∃t,PSs (dH pJ P w K mg base N qual (aD st) f cdv A outer s H E).nox (aM st) t/\t {nx:=fun _ H'=>Q .non H',rt:=Q } (start N vs) H):gC P w K mg base pJ (k+1) f fd ps sp:=by
 obtain⟨oc,od,kV,doc,pm,an,cdv,ct,osl,rfl,lk,ya⟩:=F.ex;refine Ck lk ya S len fun A outer s H vs Q E hr ER=>?_;obtain⟨t,h,q⟩:=o9 cdv A outer s H vs Q E hr ER;exact⟨t,h.nox,q⟩
def Fun.binds{x qual:Str}{st:Stmt}{f:Addr}{fd:FuncData}{ps:List Str}(F:Fun K x qual st f fd)(h:∀(kV doc pm:Value)(an:Option Addr)(cdv ct:Value)(us:List Value),us.length=ps.length->bindArgs (W.fnOf x qual (aX st) (aM st) (aD st) .none kV doc pm an cdv ct) ⟨us,[]⟩=pure (ps.zip us)):Binds K fd ps []:=by
 obtain⟨oc,od,kV,doc,pm,an,cdv,ct,osl,rfl,lk,ya⟩:=F.ex;exact .all (h kV doc pm an cdv ct)
def jO{x qual:Str}{st:Stmt}{f:Addr}{oc:Value}{od an:Option Addr}{osl:Array (Option Value)}{kV doc pm cdv ct:Value}(l:K.lookup f=some ⟨oc,od,.func (W.fnOf x qual (aX st) (aM st) (aD st) .none kV doc pm an cdv ct),osl⟩)(c:W.codeIn K cdv qual=true)(k:W.keepIn K (.ref f)=true):Fun K x qual st f (W.fnOf x qual (aX st) (aM st) (aD st) .none kV doc pm an cdv ct):=⟨⟨oc,od,kV,doc,pm,an,cdv,ct,osl,rfl,l,c⟩,k⟩
end
def hV{A:Around}{k:Nat}(hr:Room k A):A.units+1<cLine:=Hd (Nat.add_le_add_left (by decide:1<=64) _) hr.units
def Same(H H':Hp):Prop:=∀b o,H b=some o->H' b=some o
def Same.refl(H:Hp):Same H H:=fun _ _ h=>h
def Same.trans{H H1 H2:Hp}(a:Same H H1)(b:Same H1 H2):Same H H2:=fun c o h=>b c o (a c o h)
def Same.free{H H':Hp}(e:Same H H'){l:Addr}(h:H' l=Option.none):H l=Option.none:=by
 cases q:H l with
 | none=>rfl
 | some o=>
  rw[e l o q]at h;cases h
def Same.seq{K:W.Frag}{H H':Hp}{a:Addr}{xs:List V}(e:Same H H')(h:SqL K H a xs):SqL K H' a xs:=by
 rcases h with(h|⟨o,h⟩)|h
 ·exact .inl (.inl (e _ _ h))
 ·exact .inl (.inr ⟨o,e _ _ h⟩)
 ·exact .inr h
section
variable {κ:Type} [DecidableEq κ]
def fQ{kvs:List (κ×V)}{k:κ}(h:aT kvs k=none):¬ k∈kvs.map (·.1):=by
 intro m;obtain⟨p,hp,e⟩:=Zmm.mp m;have q:(kvs.any fun kv=>decide (kv.1=k))=true:=List.any_eq_true.mpr ⟨p,hp,decide_eq_true e⟩;rw[cH,h]at q;exact absurd q Zs
def Ii{kvs:List (κ×V)}{k:κ}{v:V}(h:aT kvs k=some v):k∈kvs.map (·.1):=by
 have q:(kvs.any fun kv=>decide (kv.1=k))=true:=by
  rw[cH,h];all_goals rfl
 obtain⟨p,hp,e⟩:=List.any_eq_true.mp q;exact Zmm.mpr ⟨p,hp,of_decide_eq_true e⟩
def xP:∀ {l:List κ}{k:κ},l.Nodup->¬ k∈l->(l++[k]).Nodup
 | [],k,_,_=>by simp
 | a::r,k,h,hk=>by
  obtain⟨h1,h2⟩:=nodup_cons.mp h;show(a::(r++[k])).Nodup;refine nodup_cons.mpr ⟨fun m=>?_,xP h2 fun m=>hk (mem_cons.mpr (Or.inr m))⟩;rcases Zma.mp m with q|q
  ·exact h1 q
  ·exact hk (mem_cons.mpr (Or.inl (Zms.mp q).symm))
def Ij{kvs:List (κ×V)}{k:κ}(v:V)(hn:(kvs.map (·.1)).Nodup)(h:aT kvs k=none):((cG kvs k v).map (·.1)).Nodup:=by
 rw[hU v h,mF];exact xP hn (fQ h)
def zV{p:κ×V}{r:List (κ×V)}{k:κ}(e:p.1=k):cR (p::r) k=cR r k:=by
 unfold cR;rw[filter_cons,if_neg (by simp[e])]
def pL{p:κ×V}{r:List (κ×V)}{k:κ}(e:¬ p.1=k):cR (p::r) k=p::cR r k:=by
 unfold cR;rw[filter_cons,if_pos (by simp[e])]
def mM:∀ {kvs:List (κ×V)}{k:κ},¬ k∈kvs.map (·.1)->cR kvs k=kvs
 | [],_,_=>rfl
 | p::r,k,h=>by
  have h':¬ k∈r.map (·.1):=fun m=>by
   obtain⟨q,hq,e⟩:=Zmm.mp m;exact h (Zmm.mpr ⟨q,mem_cons.mpr (Or.inr hq),e⟩)
  rw[pL fun e=>h (Zmm.mpr ⟨p,mem_cons.mpr (Or.inl rfl),e⟩),mM h']
def pM{kvs:List (κ×V)}{k:κ}{p:κ×V}(h:p∈cR kvs k):p∈kvs:=(mem_filter.mp h).1
def mO:∀ {kvs:List (κ×V)}{k:κ},(kvs.map (·.1)).Nodup->((cR kvs k).map (·.1)).Nodup
 | [],_,_=>nodup_nil
 | p::r,k,h=>by
  have h:(p.1::r.map (·.1)).Nodup:=h;obtain⟨h1,h2⟩:=nodup_cons.mp h;by_cases e:p.1=k
  ·rw[zV e];exact mO h2
  ·rw[pL e];show(p.1::(cR r k).map (·.1)).Nodup;refine nodup_cons.mpr ⟨fun m=>h1 ?_,mO h2⟩;obtain⟨q,hq,eq⟩:=Zmm.mp m;exact Zmm.mpr ⟨q,pM hq,eq⟩
end
def hW(env:Env):List (Str×NameKind)->List (Str×Addr)->List (Str×Addr)
 | [],cs=>cs
 | (n,k)::r,cs=>hW env r (if k=.free then (match env.cells.lookup n with|some c=>(n,c)::cs|none=>cs) else cs)
def jP{env:Env}:∀(names:List (Str×NameKind))(cs:List (Str×Addr)),(∀x∈names,x.2=.free->∃c,env.cells.lookup x.1=some c) →
  (forIn names cs fun(x:Str × NameKind) (r:List (Str × Addr))=>(do
   if x.2 == .free then do
    let c←cellOf env x.1
    pure (ForInStep.yield ((x.1,c)::r))
   else pure (ForInStep.yield r):Sem _))=pure (hW env names cs)
 | [],cs,_=>rfl
 | (n,k)::r,cs,h=>by
  rw[List.forIn_cons];by_cases hk:k=.free
  ·subst hk;obtain⟨c,hc⟩:=h (n,.free) sN rfl;have GD:env.cells.lookup n=some c:=hc;have e1:cellOf env n=pure c:=by unfold cellOf;rw[GD]
   simp only [beq_self_eq_true,if_true,e1,pure_bind];rw[jP r ((n,c)::cs) fun x hx=>h x (sM _ hx)];simp[hW,GD]
  ·have hb:(k==NameKind.free)=false:=by simpa using hk
   simp only [hb,Bool.false_eq_true,if_false,pure_bind];rw[jP r cs fun x hx=>h x (sM _ hx)];simp[hW,hk]
def mP{scope:Scope}{env:Env}(h:∀x∈scope.names,x.2=.free->∃c,env.cells.lookup x.1=some c):closureFor scope env=pure (hW env scope.names []):=by
 have e:=jP scope.names [] h;unfold closureFor;exact(congrArg (fun z=>z>>=fun(r:List (Str×Addr))=>(pure r:Sem _)) e).trans (pure_bind _ _)
def tD{env:Env}:∀(names:List (Str×NameKind))(cs:List (Str×Addr)),(∀y d,(y,d)∈cs->env.cells.lookup y=some d)->∀y d,(y,d)∈hW env names cs->env.cells.lookup y=some d
 | [],_,h=>h
 | (n,k)::r,cs,h=>by
  unfold hW;refine tD r _ fun y d hm=>?_
  split at hm
  ·split at hm
   ·rename_i c hc;rcases mem_cons.mp hm with e|e
    ·cases e;exact hc
    ·exact h y d e
   ·exact h y d hm
  ·exact h y d hm
def xQ{env:Env}:∀(names:List (Str×NameKind))(cs:List (Str×Addr))(y:Str)(d:Addr),(y,d)∈hW env names cs->(y,.free)∈names∨(y,d)∈cs
 | [],_,_,_,h=>.inr h
 | (n,k)::r,cs,y,d,h=>by
  unfold hW at h;rcases xQ r _ y d h with e|hm
  ·exact .inl (sM _ e)
  ·split at hm
   ·rename_i hk;split at hm
    ·rcases mem_cons.mp hm with e|e
     ·cases e;subst hk;exact .inl sN
     ·exact .inr e
    ·exact .inr hm
   ·exact .inr hm
def Dg{env:Env}:∀(names:List (Str×NameKind))(cs:List (Str×Addr))(y:Str),((∃d,(y,d)∈cs)∨(y,.free)∈names)->(∀x∈names,x.2=.free->∃c,env.cells.lookup x.1=some c)->∃d,(y,d)∈hW env names cs
 | [],_,_,h,_=>by
  rcases h with h|h
  ·exact h
  ·cases h
 | (n,k)::r,cs,y,h,hf=>by
  unfold hW;refine Dg r _ y ?_ fun x hx=>hf x (sM _ hx)
  rcases h with⟨d,hd⟩|h
  ·refine .inl ⟨d,?_⟩;split
   ·split
    ·exact sM _ hd
    ·exact hd
   ·exact hd
  ·rcases mem_cons.mp h with e|e
   ·have e1:y=n:=congrArg Prod.fst e;have e2:NameKind.free=k:=congrArg Prod.snd e;subst e1 e2;obtain⟨c,hc⟩:=hf (y,.free) sN rfl;have GD:env.cells.lookup y=some c:=hc;refine .inl ⟨c,?_⟩;rw[if_pos rfl,GD];exact sN
   ·exact .inr e
def mQ{α:Type}:∀ {l:List (Str×α)}{y:Str}{d:α},(y,d)∈l->∃d',l.lookup y=some d'/\(y,d')∈l
 | (n,c)::r,y,d,h=>by
  by_cases e:y=n
  ·subst e;exact⟨c,by simp[lookup_cons],sN⟩
  ·rcases mem_cons.mp h with q|q
   ·cases q;exact absurd rfl e
   ·obtain⟨d',h1,h2⟩:=mQ q;have hb:(y==n)=false:=by simpa using e
    exact⟨d',by rw[lookup_cons,hb];exact h1,sM _ h2⟩
def cS{env:Env}{names:List (Str×NameKind)}{y:Str}{c:Addr}(h:(hW env names []).lookup y=some c):env.cells.lookup y=some c/\(y,.free)∈names:=by
 have hm:=PySem.mem_of_lookup h;refine⟨tD names [] (fun _ _ z=>nomatch z) y c hm,?_⟩;rcases xQ names [] y c hm with e|e
 ·exact e
 ·cases e
def xR{env:Env}{names:List (Str×NameKind)}{y:Str}(h:(y,.free)∈names)(hf:∀x∈names,x.2=.free->∃c,env.cells.lookup x.1=some c):∃c,(hW env names []).lookup y=some c/\env.cells.lookup y=some c:=by
 obtain⟨d,hd⟩:=Dg names [] y (.inr h) hf;obtain⟨c,hc,_⟩:=mQ hd;exact⟨c,hc,(cS hc).1⟩
def qU{scope:Scope}{env:Env}(uf:∀y∈scope.names,y.2≠.cell){x:Str}(h:(relabel scope env).names.lookup x=some .cell∨(relabel scope env).names.lookup x=some .free):(x,.free)∈scope.names:=by
 have go:∀ {k:NameKind},k=.cell∨k=.free->(relabel scope env).names.lookup x=some k->(x,.free)∈scope.names:=fun {k} hk h=>by
  have hm:=PySem.mem_of_lookup h;unfold relabel at hm;obtain⟨⟨n,j⟩,hp,e⟩:=Zmm.mp hm;dsimp only at e;split at e
  ·rename_i hc;cases e;have:j=.free:=by
    have:=(Bool.and_eq_true_iff.mp (Bool.and_eq_true_iff.mp hc).1).1;simpa using this
   subst this;exact hp
  ·cases e;rcases hk with q|q
   ·exact absurd q (uf _ hp)
   ·subst q;exact hp
 rcases h with h|h
 ·exact go (.inl rfl) h
 ·exact go (.inr rfl) h
def jX{env:Env}:∀ {names:List (Str×NameKind)}{x:Str},names.lookup x=some .free →
  (names.map fun(n,k)=>if (k==NameKind.free&&env.scope.kind == .function&&env.kindOf n==some .cell) then (n,NameKind.cell) else (n,k)).lookup x=some .cell∨
  (names.map fun(n,k)=>if (k==NameKind.free&&env.scope.kind == .function&&env.kindOf n==some .cell) then (n,NameKind.cell) else (n,k)).lookup x=some .free
 | [],_,h=>by simp at h
 | (n,k)::r,x,h=>by
  have ih:=@jX env r x;rw[map_cons];dsimp only;cases hx:x==n with
  | true=>
   simp only [lookup_cons,hx]at h;cases h;split
   ·left;simp[lookup_cons,hx]
   ·right;simp[lookup_cons,hx]
  | false=>
   simp only [lookup_cons,hx]at h;split
   ·simp only [lookup_cons,hx];exact ih h
   ·simp only [lookup_cons,hx];exact ih h
def kH(X:Cx)(scope:Scope)(C:Addr)(N:List Str)(s₂:Shared)(H₂:Hp)(fp:List Addr):Cx where
 prog:=X.prog
 w:=X.w
 K:=X.K
 mg:=X.mg
 base:=X.base
 A:=X.A
 N:=N
 s₀:=s₂
 H₀:=H₂
 env:=compEnvC scope (hW X.env scope.names []) C X.env
 outer:=X.stack
 stack:=X.stack
 ex:=fp
 fn:=fun _=>false
 calm:=X.calm
 pn:=[]
 xe:=fun _ _=>False
def rZ(js:List (Option Nat))(σ:St):St:=js.map fun o=>match o with|some j=>(σ[j]?).getD none|none=>none
structure CompScope(X:Cx)(scope:Scope)(N:List Str)(js:List (Option Nat)):Prop where
 kind:scope.kind=.function
 nocell:∀y∈scope.names,y.2≠.cell
 loc:∀y∈scope.names,y.2=.local->scope.names.lookup y.1=some .local
 len:js.length=N.length
 cap:∀(i j:Nat),js[i]?=some (some j)->∃x,N[i]?=some x/\X.N[j]?=some x/\scope.names.lookup x=some .free
 out:∀y∈scope.names,y.2=.free->X.env.kindOf y.1=some .cell∨X.env.kindOf y.1=some .free
def zW(js:List (Option Nat))(g:TG):Prop:=∀x σ H Q,g x σ H Q->g x σ H fun σ2 H2=>Q σ2 H2/\σ2.length=σ.length/\∀(i j:Nat),js[i]?=some (some j)->σ2[i]?=σ[i]?
def aS{js:List (Option Nat)}{k:Nat}(h:js[k]?=some none):zW js (aL k):=fun x σ H Q q=>by
 refine⟨q,Zs,fun i j e=>?_⟩;have:k≠i:=fun z=>by subst z;rw[h]at e;cases e
 rw[getElem?_set_ne this]
section
variable {X:Cx}{pins:List (Addr×Obj)}{σ:St}{H H':Hp}{s:Shared}
def Un.more{fs ex:List Addr}{H H':Hp}{h h':Heap}{D:Addr}{o:HO}(u:Un fs ex H H' h h')(hD:h.get? D=none)(hH:H D=none):Un fs ex H (aH H' D o) h h' where
 keep:=u.keep
 slot:=u.slot
 free:=fun b ob q n hx=>by
  have:b≠D:=fun z=>by rw[z,hD]at q;cases q
  rw[aE this];exact u.free b ob q n hx
 there:=u.there
 tups:=fun b xs q=>by rw[aE (aB q hH)];exact u.tups b xs q
 frzs:=fun b ob xs q=>by rw[aE (aB q hH)];exact u.frzs b ob xs q
 tbls:=fun b ps q=>by rw[aE (aB q hH)];exact u.tbls b ps q
def HOk.more{P:Program}{w:World}{h:Heap}{D:Addr}{o:HO}(k:HOk P w H h)(hH:H D=none)(new:ObjOk P w (aH H D o) h D o):HOk P w (aH H D o) h:=fun b u e=>by
 by_cases hb:b=D
 ·subst hb;rw[aA]at e;cases e;exact new
 ·rw[aE hb]at e;exact(k b u e).stay (fun _ _ _ q=>q) (fun c q=>by rw[aE (aB q hH)];exact q) fun c xs q=>by rw[aE (aB q hH)];exact q
def CompScope.ok{scope:Scope}{N:List Str}{js:List (Option Nat)}{C:Addr}{fp:List Addr}(S:CompScope X scope N js)(I:Inv X pins σ H s)(hC:s.heap.objs.size<=C)(hf:∀b∈fp,kJ X pins H b)(hl:∀b∈fp,b<s.heap.objs.size) :
  (kH X scope C N s H fp).Ok where
 mod:=I.ok.mod
 kind:=S.kind
 glob:=I.ok.glob
 blt:=I.ok.blt
 above:=hC
 inj:=fun x y c h1 h2=>I.ok.inj x y c (cS h1).1 (cS h2).1
 has:=fun x hx=>by
  have hm:(x,.free)∈scope.names:=qU S.nocell hx;obtain⟨c,h1,_⟩:=xR (env:=X.env) hm fun y hy hk=>I.ok.has y.1 (S.out y hy hk)
  exact⟨c,h1⟩
 cab:=fun x c z=>nomatch z
 hd:=I.ok.hd
 frames:=I.ok.frames
 stk:=.inl rfl
 exf:=fun b hb=>⟨ne_of_lt (lt_of_lt_of_le (hl b hb) hC),fun x c e=>(hf b hb).2.2.2.2.1 x c (cS e).1⟩
 bs:=I.bs
 bsz:=fO I.ok.bsz I.sz
 noex:=fun b o e hb=>by
  rcases(hf b hb).2.2.2.1 with z|z
  ·exact I.ok.noex b o e z
  ·exact absurd (lt_of_lt_of_le (Heap.lt_size e) (fO I.ok.bsz z)) (lt_irrefl _)
 exfs:=fun b hb hm=>by
  rcases mem_cons.mp (I.stkSub b hm) with z|z
  ·exact(hf b hb).2.1 z
  ·exact(hf b hb).2.2.1 z
 funs:=I.stack
 frf:=I.stkFree
def CompScope.start{scope:Scope}{N:List Str}{js:List (Option Nat)}{C D:Addr}{fp:List Addr}{ob:Obj}{h₁:Heap}{m:Str->Option Value}{tk:Nat}(S:CompScope X scope N js)(I:Inv X pins σ H s)(hC:s.heap.objs.size<=C)(hD:s.heap.objs.size<=D)(GN:D≠C)(hf:∀b∈fp,kJ X pins H b)(hl:∀b∈fp,b<s.heap.objs.size)(k:∀b o,s.heap.get? b=some o->h₁.get? b=some o)(QE:h₁.Ns C m)(eD:h₁.get? D=some ob)(nc:∀v,ob.data≠.cell v) :
  Inv (kH X scope C N s H fp) [(D,ob)] (rZ js σ) H {s with heap:=h₁,toks:=tk } where
 ok:=S.ok I hC hf hl
 os:=rfl
 bare:=I.bare
 base:=Un.kept k
 loc:=by
  refine⟨m,QE,fun i x v h1 h2 h3=>?_⟩;have h1:N[i]?=some x:=h1;unfold rZ at h2;rw[jS]at h2;cases e:js[i]? with
  | none=>rw[e]at h2;cases h2
  | some o=>
   rw[e]at h2;cases o with
   | none=>cases h2
   | some j=>
    have zc:(σ[j]?).getD none=some v:=Option.some.inj h2;have hσ:σ[j]?=some (some v):=by
     cases q:σ[j]? with
     | none=>rw[q]at zc;cases zc
     | some z=>rw[q]at zc;exact congrArg some zc
    obtain⟨y,e1,e2,e3⟩:=S.cap i j e;rw[h1]at e1;cases e1;have oq:(x,.free)∈scope.names:=PySem.mem_of_lookup e3;have ho:=S.out (x,.free) oq rfl;obtain⟨mX,_,hlX⟩:=I.loc;have hvX:Qx X.env.scope x:=by
     rcases ho with z|z
     ·exact .inr (.inl z)
     ·exact .inr (.inr z)
    obtain⟨u,r,l⟩:=hlX j x v e2 hσ hvX;refine⟨u,r,.inr ?_⟩;rcases l with⟨hk,_⟩|⟨hk,c,hc,uf⟩
    ·rcases ho with z|z
     ·have z':X.env.kindOf x=some .cell:=z;rw[hk]at z';cases z'
     ·have z':X.env.kindOf x=some .free:=z;rw[hk]at z';cases z'
    ·obtain⟨c',oh,QG⟩:=xR (env:=X.env) oq fun y hy hk=>I.ok.has y.1 (S.out y hy hk)
     rw[hc]at QG;cases QG;refine⟨jX e3,c,oh,?_⟩;obtain⟨oc,q1,q2⟩:=uf;exact⟨oc,k c oc q1,q2⟩
 cell:=fun x c e=>by
  obtain⟨v,oc,q1,q2⟩:=I.cell x c (cS e).1;exact⟨v,oc,k c oc q1,q2⟩
 free:=I.hok.fresh hC
 freeC:=fun x c e=>I.freeC x c (cS e).1
 pin:=fun p hp=>by
  have e:p=(D,ob):=by
   rcases Zma.mp hp with z|z
   ·exact absurd (show p∈([]:List (Addr×Obj)) from z) Zs
   ·simpa using z
  subst e;refine⟨eD,I.hok.fresh hD,GN,fun hm=>?_,nc⟩;rcases mem_cons.mp (I.stkSub D hm) with z|z
  ·have z:D=X.env.locals:=z;have:=I.lt;rw[<- z]at this;exact absurd (lt_of_lt_of_le this hD) (lt_irrefl _)
  ·exact I.nofs hD z
 hok:=I.hok.kept k
 len:=by
  unfold rZ;rw[gZ];exact S.len
end
def Qr(X:Cx)(cs:List Expr)(t:TT):Prop:=
 ∀(pins:List (Addr×Obj))(s:Shared)(σ:St)(H:Hp)(Q:Bool->Hp->Prop)(E:Value->Shared->Prop),Inv X pins σ H s->t σ H Q →
  wpAny (model X.prog X.w) X.A (forIn cs true fun c r=>if r=true then do let ok←isTrue c X.env (eval c X.env);pure (ForInStep.yield ok) else pure (ForInStep.yield r)) (TP X pins σ Q) E s
def Ky:TT:=fun _ H Q=>Q true H
def Ik{X:Cx}:Qr X [] Ky:=fun pins s σ H Q E I h=>wpAny_tests_nil ⟨H,I,h⟩
def Il{X:Cx}{c:Expr}{t:TT}(h:PT X c t)(hx:X.xe=fun _ _=>False:=by rfl):Qr X [c] t:=fun pins s σ H Q E I q=>
 wpAny_tests_one (wpAny_mono (h pins s σ H Q I q) (fun _ _ z=>z) fun e s' z=>by rw[hx]at z;exact z.elim)
def lJ(js:List (Option Nat))(g:TG)(tt:TT)(te:TE)(σ:St)(J:It)(H1:Hp)(Q:List V->Hp->Prop):Prop:=
 ∃W:Nat->Nat->List V->Hp->Prop,(∃m,W 0 m [] H1)/\∀i m ys H,W i m ys H →
  (J.stop i H/\Q ys H)∨
  (J.go i H/\ys.length<sizeLine/\∃N:List V->Hp->Prop,(∀QH H',N QH H'->∃m',m'<m/\W (i+1) m' QH H') ∧
   ∀x H',J.yld i H x H'->g x (rZ js σ) H' fun σ2 H2=>tt σ2 H2 fun b H3=>if b=true then te σ2 H3 fun y H4=>N (ys++[y]) H4 else N ys H3)
def Kz(wi:TI)(js:List (Option Nat))(g:TG)(tt:TT)(te:TE):TE:=fun σ H Q=>wi σ H fun J H1=>
 lJ js g tt te σ J H1 fun ys H2=>∀p,H2 p=none->Q (.ref p) (aH H2 p (.lst ys))
def La(i:Nat)(wi:TI)(js:List (Option Nat))(g:TG)(tt:TT)(te:TE):TS:=fun D σ H=>wi σ H fun J H1=>
 lJ js g tt te σ J H1 fun ys H2=>∀p,H2 p=none->D.nx (σ.set i (some (.ref p))) (aH H2 p (.lst ys))
section
variable {X:Cx}{tg iter elt:Expr}{ifs:List Expr}{scope:Scope}{N:List Str}{js:List (Option Nat)}{wi:TI}{g:TG}{tt:TT}{te:TE}{pos:Pos}
def mU{pins:List (Addr×Obj)}{σ:St}{H2:Hp}{s2:Shared}{it:Addr}{fp:List Addr}{tn:Nat->Heap->Prop}{J:It}{Qf:List V->Hp->Prop}{RR:Value->Addr->Result->Shared->Prop}{E:Value->Shared->Prop}(hc:X.calm=true)(S:CompScope X scope N js)(go:zW js g)(hb:∀(C:Addr)(s₂:Shared)(H₂:Hp)(fp:List Addr),PG (kH X scope C N s₂ H₂ fp) tg g/\Qr (kH X scope C N s₂ H₂ fp) ifs tt/\PE (kH X scope C N s₂ H₂ fp) elt te)(I2:Inv X pins σ H2 s2)(T:qH X.prog X.w X.K tg J fp it tn)(JN:tn 0 s2.heap)(f2:∀b∈fp,kJ X pins H2 b)(hw:lJ js g tt te σ J H2 Qf)(hRR:∀(C D:Addr)(ys:List V)(H3:Hp)(s3:Shared)(m:Str->Option Value),s2.heap.objs.size<=C->s2.heap.objs.size<=D->D≠C->Inv X pins σ (aH H3 D (.lst ys)) s3->H3 C=none->H3 D=none->s3.heap.Ns C m->Qf ys H3->RR (.ref D) C (.ok .next) s3) :
  wpAny (model X.prog X.w) X.A (newList []) (fun acc s₃=>wpAny (model X.prog X.w) X.A (newFunctionEnv scope X.env.globals (hW X.env scope.names []) [] X.env.qual none .none (some X.env)) (fun QI s₄=>
   codeAny (model X.prog X.w) X.A (.compStart (.ListComp elt [⟨tg,iter,ifs,0⟩] scope pos) 0 (.ref it) acc {QI with scope:=relabel scope X.env }) (RR acc QI.locals) s₄) E s₃) E s2:=by
 obtain⟨W,⟨m0,w0⟩,turn⟩:=hw;refine wpAny_newObj_type (wpAny_newFunctionEnv S.nocell (by intro y hy;simp at hy) (fun h₁ JQ JR=>?_) S.kind);dsimp only at JQ JR ⊢;generalize WG:s2.heap.push {cls:=.type "list",dict:=none,data:=.seq ([]:List Value).toArray }=HP at JQ JR ⊢;have hC:HP.objs.size=s2.heap.objs.size+1:=by rw[<- WG,Heap.size_push]
 have GN:s2.heap.objs.size≠HP.objs.size:=by rw[hC];exact ne_of_lt (lt_succ_self _)
 have MO:s2.heap.objs.size<=HP.objs.size:=by rw[hC];exact le_succ _
 have old:∀b o,s2.heap.get? b=some o->h₁.get? b=some o:=fun b o e=>JR.extBut b o (by rw[hC];exact ne_of_lt (lt_succ_of_lt (Heap.lt_size e))) (fX _ (WG▸fX _ e))
 have yb:h₁.get? s2.heap.objs.size=some {cls:=.type "list",data:=.seq ([]:List Value).toArray 0 }:=JR.extBut _ _ GN (fX _ (WG▸Heap.get?_push_size _ rfl));have UM:∀b∈fp,b<s2.heap.objs.size:=fun b hb=>by
  obtain⟨o,e,_⟩:=T.obj _ _ JN b hb;exact Heap.lt_size e
 generalize YT:s2.heap.objs.size=D at GN MO yb ⊢;generalize hCn:HP.objs.size=C at GN MO JQ ⊢;have UN:s2.heap.objs.size<=C:=by rw[YT];exact MO
 have MP:s2.heap.objs.size<=D:=le_of_eq YT;obtain⟨pg,pt,pe⟩:=hb C s2 H2 fp;have I0:=S.start (D:=D) (fp:=fp) (tk:=s2.toks+([]:List (Str×Value)).length) I2 UN MP GN f2 UM old JQ yb (fun v z=>nomatch z);have WH:∀ {H':Hp}{pl:List (Addr×Obj)},(∀b∈fp,H' b=none)->(∀p∈pl,p.1∉fp)->∀b∈fp,kJ (kH X scope C N s2 H2 fp) pl H' b:=fun hn hp b hb=>
  ⟨hn b hb,ne_of_lt (lt_of_lt_of_le (UM b hb) UN),(S.ok I2 UN f2 UM).exfs b hb,.inl hb,fun x c e=>(f2 b hb).2.2.2.2.1 x c (cS e).1,fun p hm z=>by
   rcases Zma.mp hm with q|q
   ·exact absurd (show p∈([]:List (Addr×Obj)) from q) Zs
   ·exact hp p q (z ▸ hb)⟩
 have YU:D∉fp:=fun z=>absurd (lt_of_lt_of_le (UM D z) MP) (lt_irrefl _)
 have one:∀ {ob:Obj},∀p∈[(D,ob)],p.1∉fp:=fun p hp=>by
  have e:=Zms.mp hp;subst e;exact YU
 have loop:∀s₃:Shared,s₃={s2 with heap:=h₁,toks:=s2.toks+([]:List (Str×Value)).length } →
   codeAny (model X.prog X.w) X.A (.compLoop (.ListComp elt [⟨tg,iter,ifs,0⟩] scope pos) 0 (.ref it) (.ref D) (compEnvC scope (hW X.env scope.names []) C X.env)) (RR (.ref D) C) s₃:=by
  rintro s₃ rfl;refine codeAny_loop rfl (fun n s'=>∃(i:Nat)(ys:List V)(H':Hp)(its:List Value)(k:Nat),Inv (kH X scope C N s2 H2 fp) [(D,{cls:=.type "list",data:=.seq its.toArray k })] (rZ js σ) H' s'/\Vals ys its/\ys.length<=sizeLine/\tn i s'.heap/\(∀b∈fp,H' b=none)/\W i n ys H') ?_ m0 ?_
  ·rintro n s3 ⟨i,ys,H3,its,k,I3,rv,hz,PR,LB,w3⟩;show wpAny _ X.A ((compTurn (.ListComp elt [⟨tg,iter,ifs,0⟩] scope pos) 0 (.ref it) (.ref D) (compEnvC scope (hW X.env scope.names []) C X.env)).onRaise (fun x=>do noteFrame x _;theTreesLotGoes x)) _ _ s3;refine wpAny_noted (wpAny_noRaise ?_);rw[compTurn_list];rcases turn i n ys H3 w3 with⟨stop,qn⟩|⟨goes,X1,Nx,hN,step⟩
   ·refine wpAny_bind (wpAny_standAt (wpAny_bind (bH (T.done (kH X scope C N s2 H2 fp) rfl rfl rfl hc i _ s3 (rZ js σ) H3 (fun _ _=>False) I3 (WH LB one) PR stop) fun r s4 ⟨hr,I4⟩=>?_)));subst hr;refine wpAny_pure ?_;have pD:=I4.pin (D,{cls:=.type "list",data:=.seq its.toArray k }) (by simp[kH]);obtain⟨mC,hnC,_⟩:=id I4.loc;have IX:Inv X pins σ (aH H3 D (.lst ys)) s4:=by
     refine I2.call' (ch:=fp) I4.os (Un.more I4.base (Heap.get?_none_of_le MP) (I2.hok.fresh MP)) (HOk.more I4.hok pD.2.1 ⟨hz,its,k,rv,pD.1⟩) I4.bare fun b hb=>?_;obtain⟨_,f1,_,f3,f4,f5⟩:=f2 b hb;exact⟨f3,f1,f4,f5⟩
    exact hRR C D ys H3 s4 mC UN MP GN IX I4.free pD.2.1 hnC qn
   ·refine wpAny_bind (wpAny_standAt (wpAny_bind (bH (T.item (kH X scope C N s2 H2 fp) rfl rfl rfl hc i _ s3 (rZ js σ) H3 (fun _ _=>False) I3 (WH LB one) PR goes) fun r s4 ⟨u,hr,h4⟩=>?_)));subst hr;refine wpAny_bind (bH h4 fun _ s5 ⟨x,H5,I5,r5,y5,MG,VX⟩=>?_);have VY:=I5.pinned (WH VX one) (T.obj _ _ MG);refine wpAny_bind (bH (pg _ s5 (rZ js σ) H5 x u _ VY r5 (go _ _ _ _ (step x H5 y5))) fun _ s6 ⟨σ6,H6,I6,⟨q6,l6,e6⟩⟩=>?_);have weak:∀ {pl:List (Addr×Obj)}{H7:Hp}{s7:Shared},Inv (kH X scope C N s2 H2 fp) pl σ6 H7 s7->Inv (kH X scope C N s2 H2 fp) pl (rZ js σ) H7 s7:=fun {pl H7 s7} I7=>by
     refine I7.weak l6.symm fun j v hj=>?_
     cases e:js[j]? with
     | none=>unfold rZ at hj;rw[jS,e]at hj;cases hj
     | some o=>
      cases o with
      | none=>unfold rZ at hj;rw[jS,e]at hj;cases hj
      | some j'=>rw[e6 j j' e];exact hj
    have LD:∀ {H7:Hp}{s7:Shared}{pl:List (Addr×Obj)},Inv (kH X scope C N s2 H2 fp) (pl++mJ fp s5.heap) (rZ js σ) H7 s7->tn (i+1) s7.heap/\∀b∈fp,H7 b=none:=fun {H7 s7 pl} I7=>by
     refine⟨T.keep _ _ _ MG fun b hb o e=>(I7.pin (b,o) (mem_append_right _ (mem_append_right _ (gA hb e)))).1,fun b hb=>?_⟩;obtain⟨o,e,d⟩:=T.obj _ _ MG b hb;exact(I7.pin (b,o) (mem_append_right _ (mem_append_right _ (gA hb e)))).2.1
    refine wpAny_bind (bH (pt _ s6 σ6 H6 _ _ I6 q6) fun ok s7 ⟨H7,I7,q7⟩=>?_)
    cases ok with
    | false=>
     rw[if_neg Bool.false_ne_true]at q7;refine wpAny_pure ⟨rfl,?_⟩;obtain⟨m',hm,w7⟩:=hN ys H7 q7;have YV:=weak I7;obtain⟨k1,k2⟩:=LD YV;exact⟨m',hm,i+1,ys,H7,its,k,YV.unpinned,rv,hz,k1,k2,w7⟩
    | true=>
     rw[if_pos rfl]at q7;show wpAny _ _ ((eval elt _>>=fun x=>call (.builtin "list.append") [.ref D,x]>>=fun _=>pure ())>>=fun _=>again _) _ _ _;refine wpAny_bind (wpAny_bind (bH (pe _ s7 σ6 H7 _ I7 q7) fun y s8 ⟨yv,H8,I8,r8,q8⟩=>?_));obtain⟨m',hm,w8⟩:=hN (ys++[yv]) H8 q8;have WI:=weak I8;obtain⟨k1,k2⟩:=LD WI;have pD:=WI.pin (D,{cls:=.type "list",data:=.seq its.toArray k }) (by simp[kH]);have hln:=rv.length;refine wpAny_bind (call_meets F.slot_list_append ⟨_,pD.1,rfl⟩ F.entry_list_append (F.args_list_append_2 _ _) (PySem.list_append D its.toArray k y (by rw[eE];omega)) ⟨pD.1,?_⟩);refine wpAny_pure (wpAny_pure ⟨rfl,m',hm,i+1,ys++[yv],H8,its++[y],?_⟩);have q:=PySem.IsL.update pD.1 (fun z=>z.push y);have eA:its.toArray.push y=(its++[y]).toArray:=by simp
     rw[eA]at q;have I9:Inv (kH X scope C N s2 H2 fp) [] (rZ js σ) H8 s8:=WI.pins_of fun p hp=>absurd hp Zs
     have LF:∀b o,b≠D->s8.heap.get? b=some o->(s8.heap.update D (Obj.mapSeq fun z=>z.push y)).get? b=some o:=fun b o hb hu=>(Heap.get?_update_other s8.heap _ (Ne.symm hb)).trans hu
     have I10:Inv (kH X scope C N s2 H2 fp) [] (rZ js σ) H8 {s8 with heap:=s8.heap.update D (Obj.mapSeq fun z=>z.push y),toks:=s8.toks }:=I9.turned LF pD.2.1 pD.2.2.1 (.inr MP)
      (fun x c e z=>by
       obtain⟨v,oc,q1,q2⟩:=I2.cell x c (cS e).1;rw[z]at q1;exact absurd (lt_of_lt_of_le (Heap.lt_size q1) MP) (lt_irrefl _))
      (fun p hp=>by
       rcases Zma.mp hp with q|q
       ·exact absurd (show p∈([]:List (Addr×Obj)) from q) Zs
       ·exact absurd q Zs)
     refine⟨(if ((its++[y]).toArray).size==its.toArray.size then k else k+1),I10.pins_of fun p hp=>?_,rv.append (.cons r8 .nil),?_,?_,k2,w8⟩
     ·have e:=Zms.mp hp;subst e;exact⟨q,pD.2.1,pD.2.2.1,pD.2.2.2.1,fun v z=>nomatch z⟩
     ·rw[wW,List.length_singleton];omega
     ·exact T.keep _ _ _ k1 fun b hb o e=>LF b o (fun z=>YU (z▸hb)) e
  ·exact⟨0,[],H2,[],0,I0,.nil,zero_le _,T.keep _ _ _ JN fun b _ o e=>old b o e,fun b hb=>(f2 b hb).1,w0⟩
 exact codeAny_compStart_list (loop _ rfl) (T.self _ 0 _ _ _ (T.keep _ _ _ JN fun b _ o e=>old b o e) (loop _ rfl))
def Im(hc:X.calm=true)(S:CompScope X scope N js)(go:zW js g)(hi:PI X tg iter wi)(hb:∀(C:Addr)(s₂:Shared)(H₂:Hp)(fp:List Addr),PG (kH X scope C N s₂ H₂ fp) tg g/\Qr (kH X scope C N s₂ H₂ fp) ifs tt/\PE (kH X scope C N s₂ H₂ fp) elt te)(hs:∀x,foldedSetIterable iter X.env x=pure x:=by intro _;rfl):PE X (.ListComp elt [⟨tg,iter,ifs,0⟩] scope pos) (Kz wi js g tt te):=by
 intro pins s σ H Q I h;rw[eval_ListComp];refine wpAny_comprehension_free (use:=none) rfl hs (mP fun y hy hk=>I.ok.has y.1 (S.out y hy hk)) S.kind S.loc (bH (hi pins s σ H _ I h) fun v s1 h1=>bH h1 fun UG s2 h2=>?_);obtain⟨it,fp,tn,J,H2,e,I2,T,JN,f2,hw⟩:=h2;subst e;refine mU (RR:=fun acc C=>compPost (model X.prog X.w) X.A X.xe none (EP X pins σ Q) acc C) hc S go hb I2 T JN f2 hw ?_;intro C D ys H3 s3 m hC hD GN I3 fC fD hn q;refine⟨m,hn,fun h' WJ=>?_⟩;refine⟨.ref D,aH H3 D (.lst ys),I3.turned (it:=C) (t':=s3.toks) (fun b o hb e=>(WJ.2 b hb).trans e) (by rw[aE (Ne.symm GN)];exact fC) ?_ (.inr (fO I2.sz hC)) ?_ ?_,rfl,q D fD⟩
 ·exact ne_of_gt (lt_of_lt_of_le I2.lt hC)
 ·intro x c e z;obtain⟨v,oc,q1,q2⟩:=I2.cell x c e;rw[z]at q1;exact absurd (lt_of_lt_of_le (Heap.lt_size q1) hC) (lt_irrefl _)
 ·intro p hp z;have:=Heap.lt_size (I2.pin p hp).1;rw[z]at this;exact absurd (lt_of_lt_of_le this hC) (lt_irrefl _)
def Io{i:Nat}{y:Str}{py GO:Pos}(hN:X.N.Nodup)(hy:X.N[i]?=some y)(hx:Bo X.env.scope y)(hc:X.calm=true)(S:CompScope X scope N js)(go:zW js g)(hi:PI X tg iter wi)(hb:∀(C:Addr)(s₂:Shared)(H₂:Hp)(fp:List Addr),PG (kH X scope C N s₂ H₂ fp) tg g/\Qr (kH X scope C N s₂ H₂ fp) ifs tt/\PE (kH X scope C N s₂ H₂ fp) elt te)(WK:swapsWith (.ListComp elt [⟨tg,iter,ifs,0⟩] scope pos) (some (.Name y py)) GO.line X.env=pure true)(hs:∀x,foldedSetIterable iter X.env x=pure x:=by intro _;rfl)(hf:X.fn y=true∨X.env.scope.names.lookup y=some .local:=by first|exact .inl rfl|exact .inr rfl|assumption) :
  PS X (.Assign [.Name y py] (.ListComp elt [⟨tg,iter,ifs,0⟩] scope pos) GO) (La i wi js g tt te):=by
 intro pins s σ H D I h;rw[exec_Assign_Name_used _ _ _ _ WK];refine wpAny_bind (wpAny_standAt (wpAny_bind ?_));show wpAny _ X.A (do let _ ← comprehension (.ListComp elt [⟨tg,iter,ifs,0⟩] scope pos) scope X.env _ (newList []) false (eval iter X.env) (some (assign (.Name y py) X.env))) _ _ s;refine wpAny_bind (bH (wpAny_comprehension_free (use:=some (assign (.Name y py) X.env)) (Q:=fun _ s'=>SP X pins D .next s') rfl hs (mP fun y hy hk=>I.ok.has y.1 (S.out y hy hk)) S.kind S.loc
  (bH (hi pins s σ H _ I h) fun v s1 h1=>bH h1 fun UG s2 h2=>?_)) fun _ s' hq=>wpAny_pure (wpAny_pure hq))
 obtain⟨it,fp,tn,J,H2,e,I2,T,JN,f2,hw⟩:=h2;subst e;refine mU (RR:=fun acc C=>compPost (model X.prog X.w) X.A X.xe (some (assign (.Name y py) X.env)) (fun _ s'=>SP X pins D .next s') acc C) hc S go hb I2 T JN f2 hw ?_;intro C Da ys H3 s3 m hC hD GN I3 fC fD hn q;have cne:∀x c,X.env.cells.lookup x=some c->c≠C:=fun x c e z=>by
  obtain⟨v,oc,q1,q2⟩:=I2.cell x c e;rw[z]at q1;exact absurd (lt_of_lt_of_le (Heap.lt_size q1) hC) (lt_irrefl _)
 have YW:C≠X.env.locals:=ne_of_gt (lt_of_lt_of_le I2.lt hC);show wpAny _ X.A (assign (.Name y py) X.env (.ref Da)) _ _ _;refine wpAny_assign_Name (oS (v:=.ref Da) I3 hN hy hx rfl (fun s4 I4 hs4=>?_) hf);obtain⟨a,hsb,ha⟩:=hs4;have aC:C≠a:=by
  rcases ha with z|z
  ·rw[z];exact YW
  ·exact Ne.symm (cne y a z)
 refine⟨m,hn.sameBut hsb aC,fun h' WJ=>?_⟩;refine⟨_,_,I4.turned (it:=C) (t':=s4.toks) (fun b o hb e=>(WJ.2 b hb).trans e) (by rw[aE (Ne.symm GN)];exact fC) YW (.inr (fO I2.sz hC)) cne ?_,q Da fD⟩;intro p hp z;have:=Heap.lt_size (I2.pin p hp).1;rw[z]at this;exact absurd (lt_of_lt_of_le this hC) (lt_irrefl _)
end
def Ug(x:Str):It:=⟨fun i _=>i<x.cps.size,fun i H v H'=>H'=H/\∃c,x.cps[i]?=some c/\v=.str ⟨#[c]⟩,fun i _=>x.cps.size<=i⟩
def vN{P:Program}{w:World}{K:W.Frag}{tg:Expr}(it:Addr)(x:Str)(t:Tok):qH P w K tg (Ug x) [it] it (fun i h=>h.IsStrIter it "str_ascii_iterator" x t i) where
 mem:=by simp
 obj:=fun i h st b hb=>by
  have e:b=it:=by simpa using hb
  subst e;obtain⟨o,e,c,d⟩:=st;exact⟨o,e,fun v z=>by rw[d]at z;cases z⟩
 keep:=fun i h h' st k=>let ⟨o,ho,r⟩:=st;⟨o,k it Zs o ho,r⟩
 item:=by
  intro X hP hw hK hc i pins s σ H E I hf st hg;subst hP hw hK;obtain⟨f0,f1,f2,f3,f4,f5⟩:=hf it Zs;have hi:i<x.cps.size:=hg;refine wpAny_pyNext_ascii_item st (c:=x.cps[i]) (by simp[hi]) fun h' uo sb=>?_;have I1:Inv X pins σ H {s with heap:=h',toks:=s.toks+1 }:=I.turned (fun b o hb e=>(sb.2 b hb).trans e) f0 f1 f3 f4 f5;obtain⟨o,e,c,d⟩:=id uo;exact⟨_,rfl,oU (s:={s with heap:=h',toks:=s.toks+1 }) e c d Zd ⟨.str ⟨#[x.cps[i]]⟩,H,I1,⟨_,rfl⟩,⟨rfl,_,by simp[hi],rfl⟩,uo,fun b hb=>(hf b hb).1⟩⟩
 done:=by
  intro X hP hw hK hc i pins s σ H E I hf st hg;subst hP hw hK;obtain⟨f0,f1,f2,f3,f4,f5⟩:=hf it Zs;have hi:x.cps.size<=i:=hg;exact wpAny_pyNext_ascii_end (I.ok.hd hc) st (by simp[hi]) fun h' eb=>⟨rfl,I.turned (t':=s.toks) (fun b o hb e=>eb b o hb e) f0 f1 f3 f4 f5⟩
 self:=fun _ _ _ _ _ st h=>wpAny_pyIter_striter_ascii st h
def zX{P:Program}{w:World}{K:W.Frag}{tg:Expr}(it:Addr)(x:Str)(t:Tok):qH P w K tg (Ug x) [it] it (fun i h=>h.IsStrIter it "str_iterator" x t i) where
 mem:=by simp
 obj:=fun i h st b hb=>by
  have e:b=it:=by simpa using hb
  subst e;obtain⟨o,e,c,d⟩:=st;exact⟨o,e,fun v z=>by rw[d]at z;cases z⟩
 keep:=fun i h h' st k=>let ⟨o,ho,r⟩:=st;⟨o,k it Zs o ho,r⟩
 item:=by
  intro X hP hw hK hc i pins s σ H E I hf st hg;subst hP hw hK;obtain⟨f0,f1,f2,f3,f4,f5⟩:=hf it Zs;have hi:i<x.cps.size:=hg;refine wpAny_pyNext_wide_item st (c:=x.cps[i]) (by simp[hi]) fun h' uo sb=>?_;have I1:Inv X pins σ H {s with heap:=h',toks:=s.toks+1 }:=I.turned (fun b o hb e=>(sb.2 b hb).trans e) f0 f1 f3 f4 f5;obtain⟨o,e,c,d⟩:=id uo;exact⟨_,rfl,oU (s:={s with heap:=h',toks:=s.toks+1 }) e c d Zd ⟨.str ⟨#[x.cps[i]]⟩,H,I1,⟨_,rfl⟩,⟨rfl,_,by simp[hi],rfl⟩,uo,fun b hb=>(hf b hb).1⟩⟩
 done:=by
  intro X hP hw hK hc i pins s σ H E I hf st hg;subst hP hw hK;obtain⟨f0,f1,f2,f3,f4,f5⟩:=hf it Zs;have hi:x.cps.size<=i:=hg;exact wpAny_pyNext_wide_end (I.ok.hd hc) st (by simp[hi]) fun h' eb=>⟨rfl,I.turned (t':=s.toks) (fun b o hb e=>eb b o hb e) f0 f1 f3 f4 f5⟩
 self:=fun _ _ _ _ _ st h=>wpAny_pyIter_striter_wide st h
section
variable {X:Cx}{tg:Expr}
def Sa(tl:TE):TI:=fun σ H R=>tl σ H fun x H1=>∃z,x=.str z/\R (Ug z) H1
def Ob{l:Expr}{tl:TE}(hl:PE X l tl):PI X tg l (Sa tl):=by
 intro pins s σ H R I h;refine bH (hl pins s σ H _ I h) fun v s1 ⟨x,H1,I1,r1,q1⟩=>?_
 obtain⟨z,rfl,q⟩:=q1;obtain⟨t,rfl⟩:=r1;have fp:∀b∈[s1.heap.objs.size],kJ X pins H1 b:=fun b hb=>by
  have e:b=s1.heap.objs.size:=by simpa using hb
  subst e;exact I1.fpOk (bY _) (I1.hok.fresh (bY _))
 cases ha:z.cps.all (·<128)
 ·refine wpAny_pyIter_wide ha ?_;exact⟨s1.heap.objs.size,[s1.heap.objs.size],_,_,H1,rfl,I1.kept (t':=s1.toks) fun b o e=>fX _ e,zX _ z t,⟨_,Heap.get?_push_size _ rfl,rfl,rfl⟩,fp,q⟩
 ·refine wpAny_pyIter_ascii ha ?_;exact⟨s1.heap.objs.size,[s1.heap.objs.size],_,_,H1,rfl,I1.kept (t':=s1.toks) fun b o e=>fX _ e,vN _ z t,⟨_,Heap.get?_push_size _ rfl,rfl,rfl⟩,fp,q⟩
end
abbrev tx(l:List Nat):Str:=⟨l.toArray⟩
def vO(x:Str):tx x.cps.toList=x:=by cases x;simp
def cP(l:List Nat):(tx l).length=l.length:=by simp[Str.length]
def qV(a b:List Nat):tx a++tx b=tx (a++b):=by
 show Str.append (tx a) (tx b)=_;unfold Str.append;simp
def iI(x y:Str):(x++y).cps.toList=x.cps.toList++y.cps.toList:=by
 show(Str.append x y).cps.toList=_;unfold Str.append;simp
def dX{α:Type}(xs:List α)(lo hi:Option Int):List α:=(xs.drop (HT.sIx xs.length 0 lo)).take (HT.sIx xs.length xs.length hi-HT.sIx xs.length 0 lo)
def xS(n d:Nat)(v:Option Int):(match v with|none=>(d:Int)|some i=>max 0 (min (if i<0 then i+(n:Int) else i) (n:Int)))=((HT.sIx n d v:Nat):Int):=by
 cases v with
 | none=>rfl
 | some i=>
  show max 0 (min (if i<0 then i+(n:Int) else i) (n:Int))=(((if i<0 then (i+(n:Int)).toNat else min i.toNat n):Nat):Int);by_cases h:i<0
  ·rw[if_pos h,if_pos h];omega
  ·rw[if_neg h,if_neg h];omega
def Dh(lo hi:Option Int)(n:Nat):Builtin.Str.strSliceIndices lo hi 1 n=(List.range (HT.sIx n n hi-HT.sIx n 0 lo)).map (HT.sIx n 0 lo+·):=by
 rw[<- sliceRange_one,<- xS n 0 lo,<- xS n n hi];unfold Builtin.Str.strSliceIndices;simp only [show(1:Int)>0 by decide,if_true];cases lo<;>cases hi<;>rfl
def Ip(n d:Nat)(hd:d<=n)(v:Option Int):HT.sIx n d v<=n:=by
 cases v with
 | none=>exact hd
 | some i=>
  show(if i<0 then (i+(n:Int)).toNat else min i.toNat n)<=n;split<;>omega
def zY(x:Str)(lo hi:Option Int):(Txt.slice x lo hi).cps.toList=dX x.cps.toList lo hi:=by
 have hl:x.cps.toList.length=x.length:=by simp[Str.length]
 unfold Txt.slice dX;rw[hl,Dh];have key:=pick_run x.cps (HT.sIx x.length 0 lo) (HT.sIx x.length x.length hi-HT.sIx x.length 0 lo);split
 ·rename_i h;have h2:(HT.sIx x.length x.length hi-HT.sIx x.length 0 lo)=x.length:=by simpa using h
  have h3:=Ip x.length x.length (bY _) hi;have h4:HT.sIx x.length 0 lo=0∨x.length=0:=by omega
  rw[h2];rcases h4 with h4|h4
  ·rw[h4,drop_zero,Hc (by rw[hl];exact bY _)]
  ·have e:x.cps.toList=[]:=List.eq_nil_of_length_eq_zero (by rw[hl];exact h4);rw[e];simp
 ·simpa using key
def Dl(x:Str)(lo hi:Option Int):Txt.slice x lo hi=tx (dX x.cps.toList lo hi):=by
 rw[<- zY,vO]
section
variable {X:Cx}
def Uy:V->Option Int->Option Int->Hp->VK->Prop:=fun x lo hi H Q=>∃z,x=.str z/\z.length<=sizeLine/\Q (.str (tx (dX z.cps.toList lo hi))) H
def vP{h:Heap}{sl:Addr}{vl vu:Value}{lo hi:Option Int}(hs:h.IsSliceOf sl vl vu .none)(pl:IsPart vl lo)(pu:IsPart vu hi):∃l u:Option (Int×Tok),h.IsSlice sl l u none/\l.map (·.1)=lo/\u.map (·.1)=hi:=by
 cases pl with
 | none=>
  cases pu with
  | none=>exact⟨none,none,hs,rfl,rfl⟩
  | int j t=>exact⟨none,some (j,t),hs,rfl,rfl⟩
 | int i t=>
  cases pu with
  | none=>exact⟨some (i,t),none,hs,rfl,rfl⟩
  | int j u=>exact⟨some (i,t),some (j,u),hs,rfl,rfl⟩
def Oc:SlR X Uy:=by
 intro pins s σ H x v vl vu lo hi sl Q I rx hs pl pu h;obtain⟨z,rfl,hz,q⟩:=h;obtain⟨t,rfl⟩:=rx;obtain⟨l,u,hS,e1,e2⟩:=vP hs pl pu;refine⟨"str",_,F.slot_str_getitem.lookup,typeIs_str _ _ _,wpAny_getItem_str_slice hS rfl ?_⟩;have fin:∀t' k,EP X pins σ Q (.str (Txt.slice z lo hi) t') {s with toks:=k }:=fun t' k=>⟨.str (tx (dX z.cps.toList lo hi)),H,I.tok _,⟨t',by rw[Dl]⟩,q⟩
 subst e1 e2;exact post_val_or_str ⟨fO (Txt.slice_le z _ _) hz,fun t' k=>fin t' k⟩
def vQ{ns:List Str}:∀ {us:List Value},Vals (ns.map V.str) us->StrsAre us ns:=by
 induction ns with
 | nil=>intro us r;rw[map_nil]at r;cases r;exact .nil
 | cons n ns ih=>
  intro us r;rw[map_cons]at r;cases r with
  | cons r1 r2=>
   obtain⟨t,e⟩:=r1;subst e;exact .cons n t (ih r2)
def Dm(K:W.Frag):V->List V->Hp->VK->Prop:=fun x vs H Q=>∃sep p ys,x=.str sep/\vs=[.ref p]/\SqL K H p (ys.map V.str)/\(ys.map (·.length)).sum+ys.length*sep.length<=16777216/\Q (.str (Txt.join sep ys)) H
def Iq:Qo X "str.join" (Dm X.K):=by
 intro pins s σ H x vs v us Q I rx rv h;obtain⟨sep,p,ys,rfl,rfl,hq,hz,q⟩:=h;obtain⟨t,rfl⟩:=rx;obtain⟨u,rfl,ru⟩:=rv.one;cases ru;obtain⟨its,r,pl,_⟩:=I.list hq;exact join_list pl.isList (by simpa using vQ r) hz fun t' k=>⟨.str _,H,I.tok _,⟨_,rfl⟩,q⟩
def Uz(K:W.Frag):List V->Hp->VK->Prop:=fun vs H Q=>∃x T t b,vs=[x,.ty T]/\jU K H x t/\W.kitOne K t (.type T)=some b/\Q (.bl b) H
def Dn:CallR X (.builtin "isinstance") (Uz X.K):=by
 intro pins s σ H xs us Q I r h;obtain⟨x,T,t,b,rfl,ty,e,q⟩:=h;obtain⟨u,c,rfl,ru,rc⟩:∃u c,us=[u,c]/\RelV x u/\RelV (.ty T) c:=by
  cases r with
  | cons p q=>
   cases q with
   | cons p' q'=>
    cases q';exact⟨_,_,rfl,p,p'⟩
 cases(show c=Value.type T from rc);exact zL I ru ty e fun tk=>⟨.bl b,H,I.tok _,rfl,q⟩
def tE{ns:List Bool}:∀ {us:List Value},Vals (ns.map V.bl) us->PyProof.Rows.LSm.BoolsAre us ns:=by
 induction ns with
 | nil=>intro us r;rw[map_nil]at r;cases r;exact .nil
 | cons n ns ih=>
  intro us r;rw[map_cons]at r;cases r with
  | cons r1 r2=>
   have e:=r1;cases(show _=Value.bool n from e);exact .cons n (ih r2)
def Od(K:W.Frag):List V->Hp->VK->Prop:=fun vs H Q=>∃(p:Addr)(bs:List Bool),vs=[.ref p]/\SqL K H p (bs.map V.bl)/\Q (.bl (bs.all id)) H
def Oe(K:W.Frag):List V->Hp->VK->Prop:=fun vs H Q=>∃(p:Addr)(ns:List Int),vs=[.ref p]/\SqL K H p (ns.map V.int)/\Q (.int (List.sum ns)) H
def Do(hc:X.calm=true):CallR X (.builtin "all") (Od X.K):=by
 intro pins s σ H xs us Q I r h;obtain⟨p,bs,rfl,hq,q⟩:=h;obtain⟨u,rfl,ru⟩:=hI r;cases ru;obtain⟨its,rv,pl,hz⟩:=I.list hq;have hl:=pl.isList;have hb:=tE rv;have X1:p<s.heap.objs.size:=by obtain⟨_,e,_⟩:=hl;exact Heap.lt_size e
 refine call_all_walk (wpAny_pyIter_list hl ?_);refine⟨s.heap.objs.size,[s.heap.objs.size,p],[s.heap.objs.size],its.toArray.size,_,_,fun i=>(bs[i]?).getD true,rfl,Walks.list (A:=X.A.in1) (I.ok.hd hc) _ p (ne_of_lt X1) its.toArray,
  ⟨⟨_,Heap.get?_push_size _ rfl,rfl,rfl⟩,hl.push _⟩,fun i v s' Q' E' hP hQ=>?_,fun h' tk hk=>?_⟩
 ·obtain⟨b,e,rfl⟩:=hb.get i v (by simpa using hP);simp only [e,Option.getD_some]at hQ;exact wpAny_truthy_bool hQ
 ·have e:((List.range its.toArray.size).all fun i=>(bs[i]?).getD true)=bs.all id:=by
   rw[eE,hb.length];exact PyProof.Rows.LSm.range_all bs
  rw[e];exact⟨.bl _,H,I.kept (PyProof.Rows.LSm.kept_iter hk),rfl,q⟩
def Dp(hc:X.calm=true):CallR X (.builtin "sum") (Oe X.K):=by
 intro pins s σ H xs us Q I r h;obtain⟨p,ns,rfl,hq,q⟩:=h;obtain⟨u,rfl,ru⟩:=hI r;cases ru;obtain⟨its,rv,pl,hz⟩:=I.list hq;have hi:=mL rv;obtain⟨xs,hx⟩:=hi.allInts.items;have MC:s.heap.IsList p (intItems xs):=hx▸pl.isList;refine sum_intListG (I.ok.hd hc) MC fun h' tk t' hk=>?_;have e1:ns=xs.toList.map (·.1):=by
  rw[<- nums_intItems,<- hx];exact(show numsOf its.toArray.toList=ns from hi.numsOf).symm
 have e2:preSum (numAt xs) xs.size=ns.sum:=by
  rw[preSum_eq,Hc Zs,e1]
 rw[e2];exact⟨.int _,H,I.kept hk,⟨_,rfl⟩,q⟩
end
section
variable {X:Cx}
def kN(K:W.Frag)(neg:Bool):R2:=fun x y H Q=>∃(a b:Addr)(xs:List V),x=.ref a/\y=.ref b/\SqL K H a xs/\SqL K H b []/\Q (.bl (if neg then !xs.isEmpty else xs.isEmpty)) H
def iJ{us:List Value}(r:Vals [] us):us=[]:=by cases r;rfl
def Dq(hu:X.A.units<cLine):OpR X (compareOp .Eq) (kN X.K false):=by
 intro pins s σ H x y v u Q I rx ry h;obtain⟨a,b,xs,rfl,rfl,h1,h2,q⟩:=h;cases rx;cases ry;obtain⟨its,r1,p1,_⟩:=I.list h1;obtain⟨u6,r2,p2,_⟩:=I.list h2;have e2:=iJ r2;subst e2;have hl:=r1.length
 cases xs with
 | nil=>
  have e1:=iJ r1;subst e1;exact SeqAt.eq_listAt (e:=fun _=>true) p1.isList p2.isList rfl hu (fun j h=>absurd h Zs) ⟨.bl true,H,I,rfl,q⟩
 | cons z zs=>
  exact SeqAt.eq_list_lengthsAt p1.isList p2.isList (by simp only [eE,<- hl];simp) hu ⟨.bl false,H,I,rfl,q⟩
def Dr(hu:X.A.units<cLine):OpR X (compareOp .NotEq) (kN X.K true):=by
 intro pins s σ H x y v u Q I rx ry h;obtain⟨a,b,xs,rfl,rfl,h1,h2,q⟩:=h;cases rx;cases ry;obtain⟨its,r1,p1,_⟩:=I.list h1;obtain⟨u6,r2,p2,_⟩:=I.list h2;have e2:=iJ r2;subst e2;have hl:=r1.length
 cases xs with
 | nil=>
  have e1:=iJ r1;subst e1;exact SeqAt.RcNeAt.lists (e:=fun _=>true) p1.isList p2.isList rfl hu (fun j h=>absurd h Zs) _ _ _ _ ⟨.bl false,H,I,rfl,q⟩
 | cons z zs=>
  exact SeqAt.RcNeAt.lists_lengths p1.isList p2.isList (by simp only [eE,<- hl];simp) hu _ _ _ _ ⟨.bl true,H,I,rfl,q⟩
end
def mB(x:V)(k:Bool->Prop):Prop:=match x with|.bl b=>k b|_=>False
def mI(x:V)(k:Int->Prop):Prop:=match x with|.int b=>k b|_=>False
def mS(x:V)(k:Str->Prop):Prop:=match x with|.str b=>k b|_=>False
def mR(x:V)(k:Addr->Prop):Prop:=match x with|.ref b=>k b|_=>False
def tF(x:V)(k:Bool->Prop):mB x k=∃b,x=.bl b/\k b:=by
 cases x<;>simp[mB]
def jF(x:V)(k:Int->Prop):mI x k=∃b,x=.int b/\k b:=by
 cases x<;>simp[mI]
def jG(x:V)(k:Str->Prop):mS x k=∃b,x=.str b/\k b:=by
 cases x<;>simp[mS]
def cI(x:V)(k:Addr->Prop):mR x k=∃b,x=.ref b/\k b:=by
 cases x<;>simp[mR]
def eY{n:Nat}(h:Nat.ble n 1000=true):n<=sizeLine:=fO (Nat.le_of_ble_eq_true h) Zd
def gE{n:Nat}(h:n<=1000):n<=sizeLine:=fO h Zd
section
variable {X:Cx}{a b c e:Expr}{ta tb tc te:TE}{pos:Pos}
def vr(i:Nat):TE:=fun σ H Q=>match σ[i]? with|some (some v)=>Q v H|_=>False
def Sb(i:Nat):vr i=Mc i:=by
 funext σ H Q
 unfold vr Mc;apply propext
 cases σ[i]? with
 | none=>simp
 | some o=>cases o<;>simp
def xv(i:Nat){x:Str}{pos:Pos}(hN:X.N[i]?=some x:=by rfl)(hv:Qx X.env.scope x:=by first|exact Or.inl rfl|exact Or.inr (Or.inl rfl)|exact Or.inr (Or.inr rfl))(hd:(x==("__debug__":Str))=false:=by decide)(ya:(x==("__classdict__":Str))=false:=by decide):PE X (.Name x pos) (vr i):=by
 rw[Sb];exact Md hN hv hd ya
def OpR.imp{f:Value->Value->Sem Value}{r r':R2}(h:OpR X f r)(hi:∀x y H Q,r' x y H Q->r x y H Q):OpR X f r':=fun pins s σ H x y v u Q I rx ry q=>h pins s σ H x y v u Q I rx ry (hi x y H Q q)
def UnR.imp{f:Value->Sem Value}{r r':V->Hp->VK->Prop}(h:UnR X f r)(hi:∀x H Q,r' x H Q->r x H Q):UnR X f r':=fun pins s σ H x v Q I rx q=>h pins s σ H x v Q I rx (hi x H Q q)
def CallR.imp{f:Value}{r r':List V->Hp->VK->Prop}(h:CallR X f r)(hi:∀xs H Q,r' xs H Q->r xs H Q):CallR X f r':=fun pins s σ H xs us Q I rs q=>h pins s σ H xs us Q I rs (hi xs H Q q)
def IxR.imp{r r':R2}(h:IxR X r)(hi:∀x y H Q,r' x y H Q->r x y H Q):IxR X r':=fun value slice pins s σ H x y v u Q I rx ry q=>h value slice pins s σ H x y v u Q I rx ry (hi x y H Q q)
def SlR.imp{r r':V->Option Int->Option Int->Hp->VK->Prop}(h:SlR X r)(hi:∀x l u H Q,r' x l u H Q->r x l u H Q):SlR X r':=fun pins s σ H x v vl vu lo GP sl Q I rx hs pl pu q=>h pins s σ H x v vl vu lo GP sl Q I rx hs pl pu (hi x lo GP H Q q)
def m2(C:Int->Int->Prop)(g:Int->Int->V):R2:=fun x y H Q=>mI x fun i=>mI y fun j=>C i j/\Q (g i j) H
def xT(g:Int->Int->V):R2:=fun x y H Q=>mI x fun i=>mI y fun j=>Q (g i j) H
def iK{g:Int->Int->V}(x y:V)(H:Hp)(Q:VK)(h:xT g x y H Q):Hn g x y H Q:=by
 unfold xT at h;rw[jF]at h;obtain⟨i,rfl,h⟩:=h;rw[jF]at h;obtain⟨j,rfl,h⟩:=h;exact⟨i,j,rfl,rfl,h⟩
def qW{C:Int->Int->Prop}{g:Int->Int->V}(x y:V)(H:Hp)(Q:VK)(h:m2 C g x y H Q):rI C g x y H Q:=by
 unfold m2 at h;rw[jF]at h;obtain⟨i,rfl,h⟩:=h;rw[jF]at h;obtain⟨j,rfl,hc,h⟩:=h;exact⟨i,j,rfl,rfl,hc,h⟩
def Sc:OpR X (binaryOp .Add) (xT fun i j=>.int (i+j)):=Nf.imp iK
def Sd:OpR X (binaryOp .Sub) (xT fun i j=>.int (i-j)):=Ng.imp iK
def Se:OpR X (binaryOp .Mult) (m2 CMul fun i j=>.int (i*j)):=Nh.imp qW
def Sf:OpR X (binaryOp .Mod) (m2 (fun _ j=>0<j) fun i j=>.int (i%j)):=Ni.imp qW
def Sg:OpR X (binaryOp .Pow) (m2 Nd fun i j=>.int (i^j.toNat)):=Nj.imp qW
def Va:OpR X (compareOp .Lt) (xT fun i j=>.bl (decide (i<j))):=Ro.imp iK
def Vb:OpR X (compareOp .LtE) (xT fun i j=>.bl (decide (i<=j))):=Rp.imp iK
def Vc:OpR X (compareOp .Gt) (xT fun i j=>.bl (decide (j<i))):=Rq.imp iK
def Vd:OpR X (compareOp .GtE) (xT fun i j=>.bl (decide (j<=i))):=Rr.imp iK
def Ds:R2:=fun x y H Q=>mS x fun i=>mS y fun j=>i.length+j.length<=sizeLine/\Q (.str (i++j)) H
def Of:OpR X (binaryOp .Add) Ds:=uZ.imp fun x y H Q h=>by
 unfold Ds at h;rw[jG]at h;obtain⟨i,rfl,h⟩:=h;rw[jG]at h;obtain⟨j,rfl,hc,h⟩:=h;exact⟨i,j,rfl,rfl,hc,h⟩
def Wf:R2:=fun x y H Q=>match x,y with
 | .int i,.int j=>Q (.bl (decide (i=j))) H
 | .str i,.str j=>Q (.bl (decide (i=j))) H
 | .bl i,.bl j=>Q (.bl (decide (i=j))) H
 | .non,.non=>Q (.bl true) H
 | .int _,.non=>Q (.bl false) H|.non,.int _=>Q (.bl false) H
 | .str _,.non=>Q (.bl false) H|.non,.str _=>Q (.bl false) H
 | .bl _,.non=>Q (.bl false) H|.non,.bl _=>Q (.bl false) H
 | .int _,.str _=>Q (.bl false) H|.str _,.int _=>Q (.bl false) H
 | .bl _,.str _=>Q (.bl false) H|.str _,.bl _=>Q (.bl false) H
 | _,_=>False
def Wg:R2:=fun x y H Q=>match x,y with
 | .int i,.int j=>Q (.bl (!decide (i=j))) H
 | .str i,.str j=>Q (.bl (!decide (i=j))) H
 | .bl i,.bl j=>Q (.bl (!decide (i=j))) H
 | .non,.non=>Q (.bl false) H
 | .int _,.non=>Q (.bl true) H|.non,.int _=>Q (.bl true) H
 | .str _,.non=>Q (.bl true) H|.non,.str _=>Q (.bl true) H
 | .bl _,.non=>Q (.bl true) H|.non,.bl _=>Q (.bl true) H
 | .int _,.str _=>Q (.bl true) H|.str _,.int _=>Q (.bl true) H
 | .bl _,.str _=>Q (.bl true) H|.str _,.bl _=>Q (.bl true) H
 | _,_=>False
def Ve:OpR X (compareOp .Eq) Wf:=Kq.imp fun x y H Q h=>by
 unfold Wb;cases x<;>cases y<;>first|exact h.elim|exact⟨rfl,h⟩|(refine⟨rfl,?_⟩;have h:Q (.bl _) H:=h;simpa using h)
def Vf:OpR X (compareOp .NotEq) Wg:=Kr.imp fun x y H Q h=>by
 unfold Wc;cases x<;>cases y<;>first|exact h.elim|exact⟨rfl,h⟩|(refine⟨rfl,?_⟩;have h:Q (.bl _) H:=h;simpa using h)
def Og(neg:Bool):R2:=fun x y H Q=>mS x fun i=>mS y fun j=>∃c,i=tx [c]/\Q (.bl (if neg then !decide (c∈j.cps.toList) else decide (c∈j.cps.toList))) H
def Sh:OpR X (compareOp .In) (Og false):=zI.imp fun x y H Q h=>by
 unfold Og at h;rw[jG]at h;obtain⟨i,rfl,h⟩:=h;rw[jG]at h;obtain⟨j,rfl,c,rfl,h⟩:=h;refine⟨_,j,rfl,rfl,?_⟩;have e:=StrLaws.found_one j c;have e':(!(Builtin.Str.occurrences j (tx [c]) 0 j.length 1).isEmpty)=decide (c∈j.cps.toList):=e;rw[e'];exact h
def Si:OpR X (compareOp .Is) (fun x y H Q=>match y with|.non=>Q (.bl (decide (x=.non))) H|_=>False):=Nm.imp fun x y H Q h=>by
 cases y<;>first|exact⟨rfl,h⟩|exact h.elim
def Oh:OpR X (compareOp .IsNot) (fun x y H Q=>match y with|.non=>Q (.bl (!decide (x=.non))) H|_=>False):=Hq.imp fun x y H Q h=>by
 cases y<;>first|exact⟨rfl,h⟩|exact h.elim
def mT(t:TE):TT:=fun σ H Q=>t σ H fun x H'=>mB x fun k=>Q k H'
def Lb(t:TE):mT t=xB t:=by
 funext σ H Q
 unfold mT xB;congr 1
 funext x H'
 exact tF x _
def Oi(t:TE):mT t=tB t:=by
 funext σ H Q
 unfold mT tB;congr 1
 funext x H'
 exact tF x _
def Sj{op:CmpOp}{r:R2}(ho:OpR X (compareOp op) r)(ha:PE X a ta)(hb:PE X b tb)(hm:behindInMarks op b=false:=by first|exact qI _|rfl):PT X (.Compare a [op] [b] pos) (mT (Cc r ta tb)):=by
 rw[Lb];exact Hs ho ha hb hm
def Sk{op:CmpOp}{r:R2}(ho:OpR X (compareOp op) r)(ha:PE X a ta)(hb:PE X b tb)(hm:behindInMarks op b=false:=by first|exact qI _|rfl):PE X (.Compare a [op] [b] pos) (Cc r ta tb):=Hr ho ha hb hm
def kO(r r':R2)(ta tb tc:TE):TE:=fun σ H Q=>ta σ H fun x H1=>tb σ H1 fun y H2=>r x y H2 fun z H3=>mB z fun k=>(if k=true then tc σ H3 fun w' H4=>r' y w' H4 Q else Q (.bl false) H3)
def pN(r r':R2)(ta tb tc:TE):kO r r' ta tb tc=qJ r r' ta tb tc:=by
 funext σ H Q
 unfold kO qJ;congr 1
 funext x H1
 congr 1
 funext y H2
 congr 1
 funext z H3
 exact tF z _
def Ir{op ow:CmpOp}{r r':R2}(ho:OpR X (compareOp op) r)(og:OpR X (compareOp ow) r')(ha:PE X a ta)(hb:PE X b tb)(hc:PE X c tc)(hm:lastMarks [op,ow] [b,c]=false:=by with_unfolding_all rfl):PE X (.Compare a [op,ow] [b,c] pos) (kO r r' ta tb tc):=by
 rw[pN];exact Ce ho og ha hb hc hm
def Iu{op ow:CmpOp}{r r':R2}(ho:OpR X (compareOp op) r)(og:OpR X (compareOp ow) r')(ha:PE X a ta)(hb:PE X b tb)(hc:PE X c tc)(hm:lastMarks [op,ow] [b,c]=false:=by with_unfolding_all rfl):PT X (.Compare a [op,ow] [b,c] pos) (mT (kO r r' ta tb tc)):=by
 rw[Lb,pN];exact Cf ho og ha hb hc hm
def Sl{t:TE}(h:PE X e t)(he:∀whole,isTrue e X.env whole=(do let v←whole;standAt e.pos;holding [v] (truthy v)):=by intro _;rfl):PT X e (mT t):=by
 rw[Oi];exact Mh h he
def xU(ta tb:TE):TE:=fun σ H Q=>ta σ H fun x H1=>mB x fun c=>if c=true then tb σ H1 Q else Q (.bl false) H1
def Iv(ta tb:TE):TE:=fun σ H Q=>ta σ H fun x H1=>mB x fun c=>if c=true then Q (.bl true) H1 else tb σ H1 Q
def Sm{rest:List Expr}(ha:PE X a ta)(hb:PE X (.BoolOp .And (b::rest) pos) tb):PE X (.BoolOp .And (a::b::rest) pos) (xU ta tb):=by
 have:xU ta tb=Bs ta tb:=by
  funext σ H Q;unfold xU Bs;congr 1;funext x H1;exact tF x _
 rw[this];exact Mo ha hb
def Vg{rest:List Expr}(ha:PE X a ta)(hb:PE X (.BoolOp .Or (b::rest) pos) tb):PE X (.BoolOp .Or (a::b::rest) pos) (Iv ta tb):=by
 have:Iv ta tb=Mm ta tb:=by
  funext σ H Q;unfold Iv Mm;congr 1;funext x H1;exact tF x _
 rw[this];exact Rc ha hb
def Sn(ha:PE X a ta):PE X (.UnaryOp .USub a pos) (Uq (fun x H Q=>mI x fun i=>Q (.int (-i)) H) ta):=Rl (Nk.imp fun x H Q h=>by
 rw[jF]at h;obtain⟨i,rfl,h⟩:=h;exact⟨i,rfl,h⟩) ha
def Iw(K:W.Frag):R2:=fun x y H Q=>mR x fun p=>mI y fun i=>∃xs,SqL K H p xs/\∃v,oH xs i=some v/\Q v H
def Ix(K:W.Frag):R2:=fun x y H Q=>mR x fun p=>mI y fun i=>∃xs,SqT K H p xs/\∃v,oH xs i=some v/\Q v H
def Oj:R2:=fun x y H Q=>mS x fun z=>mI y fun i=>z.length<=sizeLine/\∃c,oH z.cps.toList i=some c/\Q (.str (tx [c])) H
def Ol:IxR X (Iw X.K):=Ib.imp fun x y H Q h=>by
 unfold Iw at h;rw[cI]at h;obtain⟨p,rfl,h⟩:=h;rw[jF]at h;obtain⟨i,rfl,xs,hq,v,hv,h⟩:=h;exact⟨p,xs,i,v,rfl,rfl,hq,hv,h⟩
def So:IxR X (Ix X.K):=Nr.imp fun x y H Q h=>by
 unfold Ix at h;rw[cI]at h;obtain⟨p,rfl,h⟩:=h;rw[jF]at h;obtain⟨i,rfl,xs,hq,v,hv,h⟩:=h;exact⟨p,xs,i,v,rfl,rfl,hq,hv,h⟩
def Sq:IxR X Oj:=Nt.imp fun x y H Q h=>by
 unfold Oj at h;rw[jG]at h;obtain⟨z,rfl,h⟩:=h;rw[jF]at h;obtain⟨i,rfl,hz,c,hc,h⟩:=h;exact⟨z,i,c,rfl,rfl,hz,hc,h⟩
def Vh{r:R2}(hr:IxR X r)(ha:PE X a ta)(hb:PE X b tb)(hs:qN b:=by exact fun _ _=>rfl):PE X (.Subscript a b pos) (Cc r ta tb):=Rx hr ha hb hs
def xV(t:TE):TO:=fun σ H Q=>t σ H fun x H1=>mI x fun i=>Q (some i) H1
def Om(h:PE X e te):PO X (some e) (xV te):=by
 have:xV te=Cm te:=by
  funext σ H Q;unfold xV Cm;congr 1;funext x H1;exact jF x _
 rw[this];exact Hz h
def On:V->Option Int->Option Int->Hp->VK->Prop:=fun x lo hi H Q=>mS x fun z=>z.length<=sizeLine/\Q (.str (tx (dX z.cps.toList lo hi))) H
def Sr:SlR X On:=Oc.imp fun x l u H Q h=>by
 unfold On at h;rw[jG]at h;obtain⟨z,rfl,hz,h⟩:=h;exact⟨z,rfl,hz,h⟩
def Iy(K:W.Frag):V->Option Int->Option Int->Hp->VK->Prop:=fun x lo hi H Q=>mR x fun a=>∃xs,SqL K H a xs/\∀p,H p=none->Q (.ref p) (aH H p (.lst (dX xs lo hi)))
def Oo:SlR X (Iy X.K):=Ic.imp fun x l u H Q h=>by
 unfold Iy at h;rw[cI]at h;obtain⟨a,rfl,xs,hq,h⟩:=h;exact⟨a,xs,rfl,hq,h⟩
def Op:CallR X (.builtin "len") (fun vs H Q=>match vs with|[.str z]=>z.length<=sizeLine/\Q (.int z.length) H|_=>False):=qR.imp fun vs H Q h=>by
 split at h
 ·rename_i z;exact⟨z,rfl,h.1,h.2⟩
 ·exact h.elim
def Oq:CallR X (.builtin "len") (fun vs H Q=>match vs with|[.ref p]=>∃ys,(SqL X.K H p ys∨SqT X.K H p ys)/\Q (.int ys.length) H|_=>False):=qQ.imp fun vs H Q h=>by
 split at h
 ·rename_i p;obtain⟨ys,hq,h⟩:=h;exact⟨p,ys,rfl,hq,h⟩
 ·exact h.elim
def Ss:CallR X (.type "int") (fun vs H Q=>match vs with|[.bl k]=>Q (.int (if k then 1 else 0)) H|_=>False):=zK.imp fun vs H Q h=>by
 split at h
 ·rename_i k;exact .inr ⟨k,rfl,h⟩
 ·exact h.elim
end
inductive Kd where|non|bl|int|str|lst|tup|dct
def Iz:Kd->String|.non=>"NoneType"|.bl=>"bool"|.int=>"int"|.str=>"str"|.lst=>"list"|.tup=>"tuple"|.dct=>"dict"
def Kof(H:Hp):V->Kd->Prop
 | .non,.non=>True|.bl _,.bl=>True|.int _,.int=>True|.str _,.str=>True
 | .ref a,.lst=>(∃xs,H a=some (.lst xs))∨∃o xs,H a=some (.frz o (.lst xs))
 | .ref a,.tup=>∃xs,H a=some (.tup xs)
 | .ref a,.dct=>∃kvs,H a=some (.dK kvs)
 | _,_=>False
def Su:Kd->Kd->Bool|.non,.non=>true|.bl,.bl=>true|.int,.int=>true|.int,.bl=>true|.str,.str=>true|.lst,.lst=>true|.tup,.tup=>true|.dct,.dct=>true|_,_=>false
def Sv(K:W.Frag)(want k:Kd):W.kitOne K (.type (Iz k)) (.type (Iz want))=some (Su want k):=by
 cases want<;>cases k<;>first|rfl|kernel_rfl
def Vi{K:W.Frag}{H:Hp}{x:V}{k:Kd}(h:Kof H x k):jU K H x (.type (Iz k)):=by
  cases x<;>cases k<;>first
    | exact h.elim
    | exact .non
    | exact .bl _
    | exact .int _
    | exact .str _
    | (obtain⟨xs,e⟩:=h;exact .tup e)
    | (obtain⟨xs,e⟩:=h;exact .dK e)
    | (rcases h with⟨xs,e⟩ | ⟨o,xs,e⟩
       . exact .lst e
       . exact .frz e)
def Os(want:Kd):List V->Hp->VK->Prop:=fun vs H Q=>match vs with
 | [x,y]=>y=.ty (Iz want)/\∃k,Kof H x k/\Q (.bl (Su want k)) H
 | _=>False
section
variable {X:Cx}
def Sw(want:Kd):CallR X (.builtin "isinstance") (Os want):=Dn.imp fun vs H Q h=>by
 unfold Os at h;split at h
 ·rename_i x y;obtain⟨rfl,k,hk,h⟩:=h;exact⟨x,_,_,_,rfl,Vi hk,Sv X.K want k,h⟩
 ·exact h.elim
variable {e:Expr}{te:TE}{p p2 pos:Pos}{T:Str}
def Ou(want:Kd)(te:TE):TE:=fun σ H Q=>te σ H fun x H1=>∃k,Kof H1 x k/\Q (.bl (Su want k)) H1
def Sx(want:Kd)(he:PE X e te)(hg:Gl X "isinstance")(hm:X.mg "isinstance"=none)(QJ:Gl X T)(QK:X.mg T=none)(hT:bootBuiltins T=some (.type (Iz want)))(hs:starEach [e,.Name T p2] X.env=(false,eval e X.env)::starEach [.Name T p2] X.env:=by rfl)(UH:starEach [.Name T p2] X.env=(false,eval (.Name T p2) X.env)::starEach [] X.env:=by rfl)(hn:T≠"__name__":=by decide)(hd:(T==("__debug__":Str))=false:=by decide)(uq:(backTo pos (starEach [.Name T p2] X.env)).any (·.1)=false:=by rfl) :
  PE X (.Call (.Name "isinstance" p) [e,.Name T p2] [] pos) (Ou want te):=by
 have h:=sV (X:=X) (x:="isinstance") (p:=p) (pos:=pos) (Sw want) hg hm PyProof.Rows.boot_isinstance (qL he (qL (wX (v:=.ty (Iz want)) (pos:=p2) QJ QK hT rfl hn hd) vG UH) hs) Zd Zd hs uq;intro pins s σ H Q I q;exact h pins s σ H Q I (by
  show te σ H _;have:(fun(x:V) (H1:Hp)=>Os want [x,.ty (Iz want)] H1 Q)=(fun x H1=>∃k,Kof H1 x k/\Q (.bl (Su want k)) H1):=by
   funext x H1
   apply propext;constructor
   ·rintro⟨_,z⟩;exact z
   ·intro z;exact⟨rfl,z⟩
  exact this ▸ q)
end
structure aI(P:Program)(w:World)(K:W.Frag)(mg:Str->Option Value)(base:Heap)(n:Nat)(x:Str)(ps:List Str)(sp:Sp):Prop where
 ex:∃(f:Addr)(fd:FuncData),gC P w K mg base pJ n f fd ps sp/\mg x=some (.ref f)/\W.keepIn K (.ref f)=true/\Binds K fd ps []
section
variable {X:Cx}{n:Nat}{x:Str}{ps:List Str}{sp:Sp}{p pos:Pos}{e:Expr}{es:List Expr}{t:TA}
def Vj(sp:Sp)(t:TA):TE:=fun σ H Q=>t σ H fun vs H1=>sp vs H1 Q E0
def Vk(c:aI X.prog X.w X.K X.mg X.base n x ps sp)(hr:Room n X.A)(hg:Gl X x)(ha:PA X (e::es) t)(K5:(x==("__debug__":Str))=false:=by decide)(he:starEach (e::es) X.env=(false,eval e X.env)::starEach es X.env:=by rfl)(uq:(backTo pos (starEach es X.env)).any (·.1)=false:=by rfl):PE X (.Call (.Name x p) (e::es) [] pos) (Vj sp t):=by
 obtain⟨f,fd,F,hm,hk,hb⟩:=c.ex;have h:=Hw (X:=X) (p:=p) (pos:=pos) (E:=E0) F hr hg hm hk hb (dvs:=[]) .nil sZ ha K5 he uq;intro pins s σ H Q I q;exact h pins s σ H Q I (by
  show t σ H _;have:(fun(vs:List V) (H1:Hp)=>sp (vs++[]) H1 Q E0)=(fun vs H1=>sp vs H1 Q E0):=by
   funext vs H1;rw[append_nil]
  rw[this];exact q)
end
structure DefAt(K:W.Frag)(mg:Str->Option Value)(x:Str)(st:Stmt)(ps:List Str):Prop where
 ex:∃(f:Addr)(fd:FuncData),Fun K x x st f fd/\mg x=some (.ref f)/\Binds K fd ps []
def DefAt.ok{P:Program}{w:World}{K:W.Frag}{mg:Str->Option Value}{base:Heap}{x:Str}{st:Stmt}{N ps:List Str}{k:Nat}{sp:Sp}(D:DefAt K mg x st ps)(S:aG N ps (aD st))(len:∀vs H Q E,sp vs H Q E->vs.length=ps.length)(o9:∀(f:Addr)(cdv:Value)(A:Around)(outer:List Env)(s:Shared)(H:Hp)(vs:List V)(Q:VK)(E:XK),Room k (A.deeper (envOfC x (aD st) s.heap.objs.size f cdv))->sp vs H Q E →
   ∃t,PSs (dH pJ P w K mg base N x (aD st) f cdv A outer s H E).nox (aM st) t/\t {nx:=fun _ H'=>Q .non H',rt:=Q } (start N vs) H):aI P w K mg base (k+1) x ps sp:=by
 obtain⟨f,fd,F,hm,hb⟩:=D.ex;exact⟨f,fd,F.ok S len (o9 f),hm,F.kp,hb⟩
def Dt(LH:Scope)(N0:List Str)(scope:Scope)(N:List Str)(js:List (Option Nat)):Bool:=
 (scope.kind == .function)&&scope.names.all (fun y=>y.2 != .cell)&&scope.names.all (fun y=>y.2 != .local||scope.names.lookup y.1==some .local)&&(js.length==N.length)&&
 (List.range js.length).all (fun i=>match js[i]? with|some (some j)=>(match N[i]? with|some x=>N0[j]? == some x&&scope.names.lookup x==some .free|none=>false)|_=>true)&&
 scope.names.all (fun y=>y.2 != .free||LH.names.lookup y.1==some .cell||LH.names.lookup y.1==some .free)
def CompScope.by{X:Cx}{scope:Scope}{N:List Str}{js:List (Option Nat)}(LH:Scope)(N0:List Str)(h0:X.env.scope=LH)(hN:X.N=N0)(ok:Dt LH N0 scope N js=true):CompScope X scope N js:=by
 unfold Dt at ok;simp only [Bool.and_eq_true]at ok;obtain⟨⟨⟨⟨⟨h1,h2⟩,h3⟩,h4⟩,h5⟩,h6⟩:=ok;refine⟨by simpa using h1,fun y hy=>?_,fun y hy hk=>?_,by simpa using h4,fun i j e=>?_,fun y hy hk=>?_⟩
 ·have:=all_eq_true.mp h2 y hy;simpa using this
 ·have:=all_eq_true.mp h3 y hy;rw[hk]at this;simpa using this
 ·have hi:i<js.length:=(Zgs.mp e).1;have:=all_eq_true.mp h5 i (mem_range.mpr hi);rw[e]at this;cases q:N[i]? with
  | none=>simp[q]at this
  | some x=>
   simp only [q,Bool.and_eq_true,beq_iff_eq]at this;exact⟨x,rfl,by rw[hN];exact this.1,this.2⟩
 ·have:=all_eq_true.mp h6 y hy;rw[hk]at this;have z:(LH.names.lookup y.1==some .cell)=true∨(LH.names.lookup y.1==some .free)=true:=by simpa using this
  have ek:X.env.kindOf y.1=LH.names.lookup y.1:=by rw[<- h0];rfl
  rw[ek];rcases z with z|z
  ·exact .inl (by simpa using z)
  ·exact .inr (by simpa using z)
def aJ:Expr->Bool|.Starred _ _=>false|_=>true
def aZ{e:Expr}{es:List Expr}{env:Env}(h:aJ e=true):starEach (e::es) env=(false,eval e env)::starEach es env:=by
 cases e<;>first|rfl|cases h
def cV{es:List Expr}{env:Env}{pos:Pos}(h:es.all aJ=true):(backTo pos (starEach es env)).any (·.1)=false:=by
 induction es with
 | nil=>rfl
 | cons e es ih=>
  rw[all_cons,Bool.and_eq_true]at h;rw[aZ h.1];have:=ih h.2;show(false||(backTo pos (starEach es env)).any (·.1))=false;rw[this];rfl
section
variable {X:Cx}{e o:Expr}{es:List Expr}{te to:TE}{t:TA}{x:Str}{p pos apos cpos:Pos}{id T:String}{r:List V->Hp->VK->Prop}
def Du(ha:PE X e te)(hr:PA X es t)(h:aJ e=true:=by rfl):PA X (e::es) (sQ te t):=qL ha hr (aZ h)
def Ja(hc:CallR X (.builtin id) r)(hg:Gl X x)(hm:X.mg x=none)(hv:bootBuiltins x=some (.builtin id))(ha:PA X (e::es) t)(hn:x≠"__name__":=by decide)(K5:(x==("__debug__":Str))=false:=by decide)(h1:aJ e=true:=by rfl)(h2:es.all aJ=true:=by rfl):PE X (.Call (.Name x p) (e::es) [] pos) (Qn r t):=sV hc hg hm hv ha hn K5 (aZ h1) (cV h2)
def Dw(hc:CallR X (.type T) r)(hg:Gl X x)(hm:X.mg x=none)(hv:bootBuiltins x=some (.type T))(ha:PA X (e::es) t)(hn:x≠"__name__":=by decide)(K5:(x==("__debug__":Str))=false:=by decide)(h1:aJ e=true:=by rfl)(h2:es.all aJ=true:=by rfl):PE X (.Call (.Name x p) (e::es) [] pos) (Qn r t):=zN hc hg hm hv ha hn K5 (aZ h1) (cV h2)
def Sy{n:Nat}{ps:List Str}{sp:Sp}(c:aI X.prog X.w X.K X.mg X.base n x ps sp)(hr:Room n X.A)(hg:Gl X x)(ha:PA X (e::es) t)(K5:(x==("__debug__":Str))=false:=by decide)(h1:aJ e=true:=by rfl)(h2:es.all aJ=true:=by rfl):PE X (.Call (.Name x p) (e::es) [] pos) (Vj sp t):=Vk c hr hg ha K5 (aZ h1) (cV h2)
def Dx{es:List Expr}{env:Env}{cpos:Pos}(h:es.all aJ=true):(backTo cpos (starEach es env)).all (fun x=>!x.1)=true:=by
 induction es with
 | nil=>rfl
 | cons e es ih=>
  rw[all_cons,Bool.and_eq_true]at h;rw[aZ h.1];show(!false&&(backTo cpos (starEach es env)).all (fun x=>!x.1))=true;rw[ih h.2];rfl
def Vl{name:Str}{r:V->List V->Hp->VK->Prop}(pa:PlainAttrs T)(slot:Slot T name id)(MK:typeOf (.builtin id)=pure (.type "method_descriptor"))(hm:Qo X id r)(ho:PE X o to)(ha:PA X (e::es) t)(oy:attributeBase o name X.env (eval o X.env)=eval o X.env:=by rfl)(oz:(apos.endLine==cpos.line)=true:=by rfl)(h1:aJ e=true:=by rfl)(h2:es.all aJ=true:=by rfl)(hn:es.length+1<30:=by decide) :
  PE X (.Call (.Attribute o name apos) (e::es) [] cpos) (Ue X.K T r to t):=by
 refine Ry pa slot MK hm ho ha oy ?_ oz (aZ h1) (cV h2);rw[Dx (by rw[all_cons,h1,h2];rfl)];show(true&&true&&decide (es.length+1+0+0<30))=true;simp;omega
def Ov{p2:Pos}{T:Str}(want:Kd)(he:PE X e te)(hg:Gl X "isinstance")(hm:X.mg "isinstance"=none)(QJ:Gl X T)(QK:X.mg T=none)(hT:bootBuiltins T=some (.type (Iz want)))(hn:T≠"__name__":=by decide)(hd:(T==("__debug__":Str))=false:=by decide)(h1:aJ e=true:=by rfl):PE X (.Call (.Name "isinstance" p) [e,.Name T p2] [] pos) (Ou want te):=
 Sx want he hg hm QJ QK hT (aZ h1) (aZ rfl) hn hd (cV rfl)
end
def gF:bootBuiltins "len"=some (.builtin "len"):=by decide +kernel
def bE:bootBuiltins "isinstance"=some (.builtin "isinstance"):=by decide +kernel
def Dy:bootBuiltins "all"=some (.builtin "all"):=by decide +kernel
def Ow:bootBuiltins "sum"=some (.builtin "sum"):=by decide +kernel
def kP:bootBuiltins "sorted"=some (.builtin "sorted"):=by decide +kernel
def Dz:bootBuiltins "max"=some (.builtin "max"):=by decide +kernel
def Ox:bootBuiltins "min"=some (.builtin "min"):=by decide +kernel
def xW:bootBuiltins "list"=some (.type "list"):=by decide +kernel
def Ea:bootBuiltins "str"=some (.type "str"):=by decide +kernel
def qX:bootBuiltins "int"=some (.type "int"):=by decide +kernel
def Jb:bootBuiltins "bool"=some (.type "bool"):=by decide +kernel
def Eb:bootBuiltins "tuple"=some (.type "tuple"):=by decide +kernel
def xX:bootBuiltins "dict"=some (.type "dict"):=by decide +kernel
structure Dk(H:Hp)(d b:Addr):Prop where
 ex:∃(ns:List Int)(s k:Int),H d=some (.lst [.ref b,.int s,.int k])/\H b=some (.lst (ns.map V.int))/\ns.length<=63
def Kp(d b:Addr)(H H':Hp):Prop:=∀c o,H c=some o->c≠d->c≠b->H' c=some o
def Kp.refl{d b:Addr}{H:Hp}:Kp d b H H:=fun _ _ e _ _=>e
def Kp.trans{d b:Addr}{H H1 H2:Hp}(x:Kp d b H H1)(y:Kp d b H1 H2):Kp d b H H2:=fun c o e h1 h2=>y c o (x c o e h1 h2) h1 h2
def Kp.new{d b p:Addr}{H:Hp}{o:HO}(h:H p=none):Kp d b H (aH H p o):=fun c u e _ _=>by rw[aE (aB e h)];exact e
def Dk.new{d b p:Addr}{H:Hp}{o:HO}(x:Dk H d b)(h:H p=none):Dk (aH H p o) d b:=by
 obtain⟨ns,s,k,h1,h2,h3⟩:=x.ex;exact⟨ns,s,k,by rw[aE (aB h1 h)];exact h1,by rw[aE (aB h2 h)];exact h2,h3⟩
def Ec(K:W.Frag):Sp:=fun vs H Q _=>∃(a:Addr)(ns:List Int),vs=[.ref a]/\SqL K H a (ns.map V.int)/\∀d b H',H d=none->H b=none->Dk H' d b->Same H H'->Q (.ref d) H'
end L2
namespace L2
def Vm{c:Bool}{A B:Prop}(h:c=true)(k:A):if c=true then A else B:=by rw[if_pos h];exact k
def Oy{c:Bool}{A B:Prop}(h:c=false)(k:B):if c=true then A else B:=by rw[if_neg (by rw[h];exact Bool.false_ne_true)];exact k
def iY{c:Bool}{A B:Prop}(ht:c=true->A)(hf:c=false->B):if c=true then A else B:=by
 cases h:c with
 | true=>rw[if_pos rfl];exact ht h
 | false=>rw[if_neg Bool.false_ne_true];exact hf h
open PySem PySem.Spec PyProof.Rows
structure tG(J:It)(xs:List V)(A:Hp->Prop):Prop where
 go:∀i H,i<xs.length->A H->J.go i H
 yld:∀i H x H',i<xs.length->A H->J.yld i H x H'->H'=H/\xs[i]?=some x
 stop:∀H,A H->J.stop xs.length H
def pO(x:Str):List V:=x.cps.toList.map fun c=>V.str (tx [c])
def Jc(x:Str):tG (Ug x) (pO x) (fun _=>True):=by
 have hl:(pO x).length=x.cps.size:=by simp[pO]
 refine⟨fun i H hi _=>by rw[hl]at hi;exact hi,fun i H v H' _ _ ⟨e,c,hc,ev⟩=>⟨e,?_⟩,fun H _=>by rw[hl];exact bY _⟩;subst ev;unfold pO;rw[jS,Array.getElem?_toList,hc];rfl
def hX(lo:Int)(n:Nat):List V:=(List.range n).map fun(i:Nat)=>V.int (lo+(i:Int))
def eQ(lo:Int)(n:Nat):tG (Uc lo n) (hX lo n) (fun _=>True):=by
 have hl:(hX lo n).length=n:=by simp[hX]
 refine⟨fun i H hi _=>by rw[hl]at hi;exact hi,fun i H v H' hi _ ⟨e,ev⟩=>⟨e,?_⟩,fun H _=>by rw[hl];exact bY _⟩;subst ev;rw[hl]at hi;unfold hX;rw[jS,List.getElem?_range hi];rfl
def eR(K:W.Frag)(a:Addr)(xs:List V):tG (Bz K a) xs (fun H=>SqL K H a xs):=
 ⟨fun i H hi h=>⟨xs,xs[i],h,by simp[hi]⟩,fun i H x H' _ h ⟨e,y⟩=>⟨e,y xs h⟩,fun H h=>⟨xs,h,bY _⟩⟩
def xY(K:W.Frag)(a:Addr)(xs:List V):tG (Up K a) xs (fun H=>SqT K H a xs):=
 ⟨fun i H hi h=>⟨xs,xs[i],h,by simp[hi]⟩,fun i H x H' _ h ⟨e,y⟩=>⟨e,y xs h⟩,fun H h=>⟨xs,h,bY _⟩⟩
def bQ{J:It}{xs:List V}{A:Hp->Prop}{js:List (Option Nat)}{g:TG}{tt:TT}{te:TE}{σ:St}{H:Hp}{Q:List V->Hp->Prop}(S:tG J xs A)(hz:xs.length<=100000)(Pv:Nat->List V->Hp->Prop)(hA:∀i ys H,Pv i ys H->A H/\ys.length<=i)(h0:Pv 0 [] H)(hs:∀i x ys H,xs[i]?=some x->Pv i ys H->g x (rZ js σ) H fun σ2 H2=>tt σ2 H2 fun b H3=>if b=true then te σ2 H3 fun y H4=>Pv (i+1) (ys++[y]) H4 else Pv (i+1) ys H3)(hd:∀ys H,Pv xs.length ys H->Q ys H):lJ js g tt te σ J H Q:=by
 refine⟨fun i m ys H=>m=xs.length-i/\i<=xs.length/\Pv i ys H,⟨xs.length,Zs,zero_le _,h0⟩,?_⟩;rintro i m ys H ⟨rfl,hi,p⟩;obtain⟨pa,hy⟩:=hA i ys H p;by_cases X1:i<xs.length
 ·refine .inr ⟨S.go i H X1 pa,Hd (m:=100000) Zo Zd,Pv (i+1),fun QH H' p'=>⟨xs.length-(i+1),Zo,rfl,X1,p'⟩,fun x H' y=>?_⟩;obtain⟨rfl,hx⟩:=S.yld i H x H' X1 pa y;exact hs i x ys H' hx p
 ·have e:i=xs.length:=by omega
  subst e;exact .inl ⟨S.stop H pa,hd ys H p⟩
def zZ{J:It}{xs:List V}{A:Hp->Prop}{js:List (Option Nat)}{g:TG}{tt:TT}{te:TE}{σ:St}{H:Hp}{Q:List V->Hp->Prop}(S:tG J xs A)(hz:xs.length<=100000)(p:V->Bool)(f:V->V)(hA:A H)(hs:∀(x:V)(ys:List V)(N:List V->Hp->Prop),x∈xs->(p x=true->N (ys++[f x]) H)->(p x=false->N ys H)->g x (rZ js σ) H fun σ2 H2=>tt σ2 H2 fun b H3=>if b=true then te σ2 H3 fun y H4=>N (ys++[y]) H4 else N ys H3)(hd:Q ((xs.filter p).map f) H):lJ js g tt te σ J H Q:=by
 refine bQ S hz (fun i ys H'=>ys=((xs.take i).filter p).map f/\H'=H) (fun i ys H' ⟨e,e2⟩=>⟨by rw[e2];exact hA,?_⟩) ⟨Zs,rfl⟩ (fun i x ys H' hx ⟨e,e2⟩=>?_) (fun ys H' ⟨e,e2⟩=>?_)
 ·rw[e,gZ];exact fO (List.length_filter_le _ _) (by rw[oR];exact Nat.min_le_left _ _)
 ·subst e2;have key:(xs.take (i+1)).filter p=(xs.take i).filter p++(if p x=true then [x] else []):=take_succ_filter p xs i x hx;refine hs x ys (fun QH H3=>QH=((xs.take (i+1)).filter p).map f/\H3=H') (lN hx) (fun h=>⟨?_,rfl⟩) (fun h=>⟨?_,rfl⟩)
  ·rw[key,if_pos h,mF,e];rfl
  ·rw[key,if_neg (by rw[h];exact Bool.false_ne_true),append_nil,e]
 ·subst e2;rw[e,Hc (bY _)];exact hd
def lX{J:It}{xs:List V}{A:Hp->Prop}{g:TG}{tb:TS}{D:iX}{σ:St}{H:Hp}(S:tG J xs A)(Pv:Nat->St->Hp->Prop)(hA:∀i σ H,Pv i σ H->A H)(h0:Pv 0 σ H)(hs:∀(i:Nat)(x:V) σ H,xs[i]?=some x->Pv i σ H->g x σ H fun σ2 H2=>tb {D with nx:=Pv (i+1),ct:=Pv (i+1),bk:=D.nx } σ2 H2)(hd:∀ σ H,Pv xs.length σ H->D.nx σ H) :
  ∃W:Nat->Nat->St->Hp->Prop,(∃m,W 0 m σ H)/\∀i m σ H,W i m σ H →
   (J.stop i H/\D.nx σ H)∨(J.go i H/\∃N:St->Hp->Prop,(∀ σ' H',N σ' H'->∃m',m'<m/\W (i+1) m' σ' H')/\∀x H',J.yld i H x H'->g x σ H' fun σ2 H2=>tb {D with nx:=N,ct:=N,bk:=D.nx } σ2 H2):=by
 refine⟨fun i m σ H=>m=xs.length-i/\i<=xs.length/\Pv i σ H,⟨xs.length,Zs,zero_le _,h0⟩,?_⟩;rintro i m σ H ⟨rfl,hi,p⟩;have pa:=hA i σ H p;by_cases X1:i<xs.length
 ·refine .inr ⟨S.go i H X1 pa,Pv (i+1),fun σ' H' p'=>⟨xs.length-(i+1),Zo,rfl,X1,p'⟩,fun x H' y=>?_⟩;obtain⟨rfl,hx⟩:=S.yld i H x H' X1 pa y;exact hs i x σ H' hx p
 ·have e:i=xs.length:=by omega
  subst e;exact .inl ⟨S.stop H pa,hd σ H p⟩
end L2
namespace L2
open PySem
def aF{H:Hp}{p:Addr}{o:HO}(h:H p=none):Same H (aH H p o):=fun b u q=>by rw[aE (aB q h)];exact q
def hZ{α:Type}(xs:List α)(k:Nat):dX xs none (some (k:Int))=xs.take k:=by
 unfold dX;rw[HT.sIx_none,HT.sIx_nat,drop_zero,Nat.sub_zero,<- List.take_take,Hc (bY _)]
def tH{α:Type}(xs:List α)(k:Nat):dX xs (some (k:Int)) none=xs.drop k:=by
 unfold dX;rw[HT.sIx_none,HT.sIx_nat];by_cases h:k<=xs.length
 ·rw[Nat.min_eq_left h,Hc (by rw[length_drop];exact bY _)]
 ·rw[Nat.min_eq_right Zo,List.drop_of_length_le (bY _),List.drop_of_length_le Zo,List.take_nil]
def Jd{α β:Type}(f:α->β)(xs:List α)(lo hi:Option Int):dX (xs.map f) lo hi=(dX xs lo hi).map f:=by
 unfold dX;rw[gZ,<- List.map_drop,<- map_take]
open PySem PySem.Spec PyProof.Rows
def jY{α:Type}{xs:List α}{i:Int}(h0:0<=i)(h1:i<xs.length):∃v,oH xs i=some v/\v∈xs:=by
 obtain⟨j,rfl⟩:=Int.eq_ofNat_of_zero_le h0;have hj:j<xs.length:=by omega
 exact⟨xs[j],cU (by simp[hj]),getElem_mem hj⟩
def xZ(g:Array Nat):∀(ps:List Str)(acc:Array Nat),(ps.foldl (fun acc p=>acc++g++p.cps) acc).toList=acc.toList++(ps.map fun p=>g.toList++p.cps.toList).flatten
 | [],acc=>by simp
 | p::ps,acc=>by
  rw[List.foldl_cons,xZ g ps];simp
def Ed(ps:List Str):(Txt.join (tx []) ps).cps.toList=(ps.map fun p=>p.cps.toList).flatten:=by
 unfold Txt.join Builtin.Str.glued;rw[xZ];cases ps with
 | nil=>simp[Str.empty]
 | cons p ps=>simp
def Je(ps:List Str):Txt.join (tx []) ps=tx (ps.map fun p=>p.cps.toList).flatten:=by rw[<- Ed,vO]
def vR(ts:List Nat):Txt.join (tx []) (ts.map fun c=>tx [c])=tx ts:=by
 rw[Je,map_map];congr 1
 congr 1
 induction ts with
 | nil=>rfl
 | cons c r ih=>rw[map_cons,List.flatten_cons,ih];rfl
def Ee:("":Str)=tx []:=by decide +kernel
end L2
namespace L2
open PySem
def Dk.ne{H:Hp}{d b p:Addr}(x:Dk H d b)(h:H p=none):p≠d/\p≠b:=by
 obtain⟨ns,s,k,h1,h2,h3⟩:=x.ex;exact⟨(aB h1 h).symm,(aB h2 h).symm⟩
def tI(x:Str):x=tx x.cps.toList:=(vO x).symm
end L2
namespace L2
open PySem
def tJ:∀ts:List Nat,((ts.map fun c=>tx [c]).map (·.length)).sum=ts.length
 | []=>rfl
 | c::ts=>by
  rw[map_cons,map_cons,List.sum_cons,tJ ts,Bn];show 1+ts.length=_;omega
end L2
namespace L2
open PySem
def Sz{t:TS}{D:iX}{σ:St}{H:Hp}(R:St->Hp->Prop)(h:∀nx:St->Hp->Prop,(∀ σ' H',R σ' H'->nx σ' H')->t {D with nx:=nx } σ H)(h2:∀ σ' H',R σ' H'->D.nx σ' H'):t D σ H:=h D.nx h2
def Kof.same{H H':Hp}{x:V}{k:Kd}(s:Same H H')(h:Kof H x k):Kof H' x k:=by
  cases x<;>cases k<;>first
    | exact h
    | (obtain⟨xs,e⟩:=h;exact⟨xs,s _ _ e⟩)
    | (rcases h with⟨xs,e⟩ | ⟨o,xs,e⟩
       . exact .inl ⟨xs,s _ _ e⟩
       . exact .inr ⟨o,xs,s _ _ e⟩)
def Dk.same{H H':Hp}{d b:Addr}(s:Same H H')(h:Dk H d b):Dk H' d b:=by
 obtain⟨ns,s0,k,h1,h2,h3⟩:=h.ex;exact⟨ns,s0,k,s _ _ h1,s _ _ h2,h3⟩
open PySem PySem.Spec PyProof.Rows
structure XE(X:Cx)(e:Expr)(t:TE):Prop where
 h:PE X e t
structure XT(X:Cx)(e:Expr)(t:TT):Prop where
 h:PT X e t
structure XW(X:Cx)(e:Expr)(t:TT):Prop where
 h:PW X e t
structure XA(X:Cx)(es:List Expr)(t:TA):Prop where
 h:PA X es t
structure XS(X:Cx)(st:Stmt)(t:TS):Prop where
 h:PS X st t
structure XB(X:Cx)(st:List Stmt)(t:TS):Prop where
 h:PSs X st t
structure XI(X:Cx)(tg iter:Expr)(t:TI):Prop where
 h:PI X tg iter t
structure XG(X:Cx)(e:Expr)(t:TG):Prop where
 h:PG X e t
structure Ta(X:Cx)(es:List Expr)(t:Bw):Prop where
 h:Rg X es t
structure XO(X:Cx)(e:Option Expr)(t:TO):Prop where
 h:PO X e t
structure Uh(X:Cx)(cs:List Expr)(t:TT):Prop where
 h:Qr X cs t
structure Oz(X:Cx)(t:zE):Prop where
 h:Hj X t
structure fR(X:Cx)(f:Value->Value->Sem Value)(r:R2):Prop where
 h:OpR X f r
structure Pa(X:Cx)(r:R2):Prop where
 h:IxR X r
structure Tb(X:Cx)(r:V->Option Int->Option Int->Hp->VK->Prop):Prop where
 h:SlR X r
structure XC(X:Cx)(f:Value)(r:List V->Hp->VK->Prop):Prop where
 h:CallR X f r
structure XM(X:Cx)(id:String)(r:V->List V->Hp->VK->Prop):Prop where
 h:Qo X id r
namespace R
section
variable {X:Cx}{a b c e o i:Expr}{es rest:List Expr}{ta tb tc te to ti:TE}{tA JM:TT}{t u:TA}{pos p p2 apos cpos pos':Pos}{x:Str}{n:Nat}{r r':R2}
def v(i:Nat){x:Str}{pos:Pos}(hN:X.N[i]?=some x:=by rfl)(hv:Qx X.env.scope x:=by first|exact Or.inl rfl|exact Or.inr (Or.inl rfl)|exact Or.inr (Or.inr rfl))(hd:(x==("__debug__":Str))=false:=by decide)(ya:(x==("__classdict__":Str))=false:=by decide):XE X (.Name x pos) (vr i):=⟨xv i hN hv hd ya⟩
def ad{i j pos}:XE X (.Constant (.int i) j pos) (tC (.int i)):=⟨Me⟩
def bl{b j pos}:XE X (.Constant (.bool b) j pos) (tC (.bl b)):=⟨Qy⟩
def bo{j pos}:XE X (.Constant .none j pos) (tC .non):=⟨Mf⟩
def ag{x j pos}:XE X (.Constant (.str x) j pos) (tC (.str x)):=⟨Mg⟩
def gS{z:Str}(hg:Gl X x)(hm:∃t,X.mg x=some (.str z t))(hd:(x==("__debug__":Str))=false:=by decide):XE X (.Name x pos) (tC (.str z)):=by
 obtain⟨t,hm⟩:=hm;exact⟨qG hg hm ⟨t,rfl⟩ hd⟩
def gI{z:Int}(hg:Gl X x)(hm:∃t,X.mg x=some (.int z t))(hd:(x==("__debug__":Str))=false:=by decide):XE X (.Name x pos) (tC (.int z)):=by
 obtain⟨t,hm⟩:=hm;exact⟨qG hg hm ⟨t,rfl⟩ hd⟩
def gR{a:Addr}(hg:Gl X x)(hm:X.mg x=some (.ref a))(hd:(x==("__debug__":Str))=false:=by decide):XE X (.Name x pos) (tC (.ref a)):=⟨qG hg hm rfl hd⟩
def op{op:Operator}(ho:fR X (binaryOp op) r)(ha:XE X a ta)(hb:XE X b tb):XE X (.BinOp a op b pos) (Cc r ta tb):=⟨Rk ho.h ha.h hb.h⟩
def ba:fR X (binaryOp .Add) (xT fun i j=>.int (i+j)):=⟨Sc⟩
def ie:fR X (binaryOp .Sub) (xT fun i j=>.int (i-j)):=⟨Sd⟩
def dm:fR X (binaryOp .Mult) (m2 CMul fun i j=>.int (i*j)):=⟨Se⟩
def bz:fR X (binaryOp .Mod) (m2 (fun _ j=>0<j) fun i j=>.int (i%j)):=⟨Sf⟩
def cw:fR X (binaryOp .Pow) (m2 Nd fun i j=>.int (i^j.toNat)):=⟨Sg⟩
def bp:fR X (binaryOp .Add) Ds:=⟨Of⟩
def lt:fR X (compareOp .Lt) (xT fun i j=>.bl (decide (i<j))):=⟨Va⟩
def le:fR X (compareOp .LtE) (xT fun i j=>.bl (decide (i<=j))):=⟨Vb⟩
def gt:fR X (compareOp .Gt) (xT fun i j=>.bl (decide (j<i))):=⟨Vc⟩
def ge:fR X (compareOp .GtE) (xT fun i j=>.bl (decide (j<=i))):=⟨Vd⟩
def eq:fR X (compareOp .Eq) Wf:=⟨Ve⟩
def ne:fR X (compareOp .NotEq) Wg:=⟨Vf⟩
def ii:fR X (compareOp .In) (Og false):=⟨Sh⟩
def inQ:fR X (compareOp .In) (Qp X.K false):=⟨zP⟩
def notInQ:fR X (compareOp .NotIn) (Qp X.K true):=⟨qP⟩
def iz:fR X (compareOp .Is) (fun x y H Q=>match y with|.non=>Q (.bl (decide (x=.non))) H|_=>False):=⟨Si⟩
def dq:fR X (compareOp .IsNot) (fun x y H Q=>match y with|.non=>Q (.bl (!decide (x=.non))) H|_=>False):=⟨Oh⟩
def eqNil(hu:X.A.units<cLine):fR X (compareOp .Eq) (kN X.K false):=⟨Dq hu⟩
def neNil(hu:X.A.units<cLine):fR X (compareOp .NotEq) (kN X.K true):=⟨Dr hu⟩
def bj{op:CmpOp}(ho:fR X (compareOp op) r)(ha:XE X a ta)(hb:XE X b tb)(hm:behindInMarks op b=false:=by first|exact qI _|rfl):XE X (.Compare a [op] [b] pos) (Cc r ta tb):=⟨Sk ho.h ha.h hb.h hm⟩
def am{op:CmpOp}(ho:fR X (compareOp op) r)(ha:XE X a ta)(hb:XE X b tb)(hm:behindInMarks op b=false:=by first|exact qI _|rfl):XT X (.Compare a [op] [b] pos) (mT (Cc r ta tb)):=⟨Sj ho.h ha.h hb.h hm⟩
def ij{op ow:CmpOp}(ho:fR X (compareOp op) r)(og:fR X (compareOp ow) r')(ha:XE X a ta)(hb:XE X b tb)(hc:XE X c tc)(hm:lastMarks [op,ow] [b,c]=false:=by with_unfolding_all rfl):XE X (.Compare a [op,ow] [b,c] pos) (kO r r' ta tb tc):=⟨Ir ho.h og.h ha.h hb.h hc.h hm⟩
def ig{op ow:CmpOp}(ho:fR X (compareOp op) r)(og:fR X (compareOp ow) r')(ha:XE X a ta)(hb:XE X b tb)(hc:XE X c tc)(hm:lastMarks [op,ow] [b,c]=false:=by with_unfolding_all rfl):XT X (.Compare a [op,ow] [b,c] pos) (mT (kO r r' ta tb tc)):=⟨Iu ho.h og.h ha.h hb.h hc.h hm⟩
def bw(ha:XE X a ta):XE X (.UnaryOp .USub a pos) (Uq (fun x H Q=>mI x fun i=>Q (.int (-i)) H) ta):=⟨Sn ha.h⟩
def az{t:TE}(h:XE X e t)(he:∀whole,isTrue e X.env whole=(do let v←whole;standAt e.pos;holding [v] (truthy v)):=by intro _;rfl):XT X e (mT t):=⟨Sl h.h he⟩
def bi(ha:XT X a tA):XT X (.UnaryOp .Not a pos) (Ra tA):=⟨Ml ha.h⟩
def cn(ha:XT X a tA):XW X (.BoolOp .And [a] pos) tA:=⟨Hf ha.h⟩
def cc(ha:XT X a tA):XW X (.BoolOp .Or [a] pos) tA:=⟨Mi ha.h⟩
def cm(ha:XT X a tA)(hb:XW X (.BoolOp .And (b::rest) pos) JM):XW X (.BoolOp .And (a::b::rest) pos) (Qz tA JM):=⟨Mj ha.h hb.h⟩
def cb(ha:XT X a tA)(hb:XW X (.BoolOp .Or (b::rest) pos) JM):XW X (.BoolOp .Or (a::b::rest) pos) (Vz tA JM):=⟨Rb ha.h hb.h⟩
def tw(h:XW X e tA):XT X e tA:=⟨h.h.pt⟩
def dh{op}(h:XE X a ta):XE X (.BoolOp op [a] pos) ta:=⟨Mn h.h⟩
def gy(ha:XE X a ta)(hb:XE X (.BoolOp .And (b::rest) pos) tb):XE X (.BoolOp .And (a::b::rest) pos) (xU ta tb):=⟨Sm ha.h hb.h⟩
def or(ha:XE X a ta)(hb:XE X (.BoolOp .Or (b::rest) pos) tb):XE X (.BoolOp .Or (a::b::rest) pos) (Iv ta tb):=⟨Vg ha.h hb.h⟩
def ix(hr:Pa X r)(ha:XE X a ta)(hb:XE X b tb)(hs:qN b:=by exact fun _ _=>rfl):XE X (.Subscript a b pos) (Cc r ta tb):=⟨Vh hr.h ha.h hb.h hs⟩
def iL:Pa X (Iw X.K):=⟨Ol⟩
def iT:Pa X (Ix X.K):=⟨So⟩
def iS:Pa X Oj:=⟨Sq⟩
def pn:XO X none xG:=⟨Hy⟩
def ps(h:XE X e te):XO X (some e) (xV te):=⟨Om h.h⟩
def sl{r:V->Option Int->Option Int->Hp->VK->Prop}{lo hi:Option Expr}{tl th:TO}(hr:Tb X r)(he:XE X e te)(hl:XO X lo tl)(hu:XO X hi th):XE X (.Subscript e (.Slice lo hi none p2) pos) (Wd r te tl th):=⟨Cn hr.h he.h hl.h hu.h⟩
def sS:Tb X On:=⟨Sr⟩
def sL:Tb X (Iy X.K):=⟨Oo⟩
def ac:XA X [] qK:=⟨vG⟩
def aa(ha:XE X e te)(hr:XA X es t)(h:aJ e=true:=by rfl):XA X (e::es) (sQ te t):=⟨Du ha.h hr.h h⟩
def dn{x1}(h:XA X es t):XE X (.Tuple es x1 pos) (Rt t):=⟨Nn h.h⟩
def aw(h:XA X es t):XE X (.List es pos) (Ru t):=⟨No h.h⟩
def ax{id:String}{r:List V->Hp->VK->Prop}(hc:XC X (.builtin id) r)(hg:Gl X x)(hm:X.mg x=none)(hv:bootBuiltins x=some (.builtin id))(ha:XA X (e::es) t)(hn:x≠"__name__":=by decide)(K5:(x==("__debug__":Str))=false:=by decide)(h1:aJ e=true:=by rfl)(h2:es.all aJ=true:=by rfl):XE X (.Call (.Name x p) (e::es) [] pos) (Qn r t):=⟨Ja hc.h hg hm hv ha.h hn K5 h1 h2⟩
def ce{T:String}{r:List V->Hp->VK->Prop}(hc:XC X (.type T) r)(hg:Gl X x)(hm:X.mg x=none)(hv:bootBuiltins x=some (.type T))(ha:XA X (e::es) t)(hn:x≠"__name__":=by decide)(K5:(x==("__debug__":Str))=false:=by decide)(h1:aJ e=true:=by rfl)(h2:es.all aJ=true:=by rfl):XE X (.Call (.Name x p) (e::es) [] pos) (Qn r t):=⟨Dw hc.h hg hm hv ha.h hn K5 h1 h2⟩
def cv:XC X (.builtin "len") (fun vs H Q=>match vs with|[.str z]=>z.length<=sizeLine/\Q (.int z.length) H|_=>False):=⟨Op⟩
def lenL:XC X (.builtin "len") (fun vs H Q=>match vs with|[.ref p]=>∃ys,(SqL X.K H p ys∨SqT X.K H p ys)/\Q (.int ys.length) H|_=>False):=⟨Oq⟩
def fc:XC X (.type "int") (fun vs H Q=>match vs with|[.bl k]=>Q (.int (if k then 1 else 0)) H|_=>False):=⟨Ss⟩
def all(hc:X.calm=true):XC X (.builtin "all") (Od X.K):=⟨Do hc⟩
def sum(hc:X.calm=true):XC X (.builtin "sum") (Oe X.K):=⟨Dp hc⟩
def fn{n:Nat}{ps:List Str}{sp:Sp}(c:aI X.prog X.w X.K X.mg X.base n x ps sp)(hr:Room n X.A)(hg:Gl X x)(ha:XA X (e::es) t)(K5:(x==("__debug__":Str))=false:=by decide)(h1:aJ e=true:=by rfl)(h2:es.all aJ=true:=by rfl):XE X (.Call (.Name x p) (e::es) [] pos) (Vj sp t):=⟨Sy c hr hg ha.h K5 h1 h2⟩
def bm{T id:String}{name:Str}{r:V->List V->Hp->VK->Prop}(pa:PlainAttrs T)(slot:Slot T name id)(MK:typeOf (.builtin id)=pure (.type "method_descriptor"))(hm:XM X id r)(ho:XE X o to)(ha:XA X (e::es) t)(oy:attributeBase o name X.env (eval o X.env)=eval o X.env:=by rfl)(oz:(apos.endLine==cpos.line)=true:=by rfl)(h1:aJ e=true:=by rfl)(h2:es.all aJ=true:=by rfl)(hn:es.length+1<30:=by decide) :
  XE X (.Call (.Attribute o name apos) (e::es) [] cpos) (Ue X.K T r to t):=⟨Vl pa slot MK hm.h ho.h ha.h oy oz h1 h2 hn⟩
def ib:XM X "list.append" xJ:=⟨zQ⟩
def ir:XM X "list.pop" Cr:=⟨Cs⟩
def join:XM X "str.join" (Dm X.K):=⟨Iq⟩
def cu{T:Str}(want:Kd)(he:XE X e te)(hg:Gl X "isinstance")(hm:X.mg "isinstance"=none)(QJ:Gl X T)(QK:X.mg T=none)(hT:bootBuiltins T=some (.type (Iz want)))(hn:T≠"__name__":=by decide)(hd:(T==("__debug__":Str))=false:=by decide)(h1:aJ e=true:=by rfl):XE X (.Call (.Name "isinstance" p) [e,.Name T p2] [] pos) (Ou want te):=⟨Ov want he.h hg hm QJ QK hT hn hd h1⟩
def cj:XE X (.Dict [] [] pos) (Cy):=⟨Db⟩
variable {tg:Expr}
def wL(hl:XE X e te):XI X tg e (Ca X.K te):=⟨Hm hl.h⟩
def wT(hl:XE X e te):XI X tg e (Mz X.K te):=⟨Na hl.h⟩
def wS(hl:XE X e te):XI X tg e (Sa te):=⟨Ob hl.h⟩
def cq(hg:Gl X "range")(hm:X.mg "range"=none)(ha:XA X [a] t)(h1:aJ a=true:=by rfl):XI X tg (.Call (.Name "range" p) [a] [] pos) (Ko t):=⟨zG hg hm ha.h (aZ h1)⟩
def gn{i:Nat}(hN:X.N.Nodup)(hi:X.N[i]?=some x:=by rfl)(hx:Bo X.env.scope x:=by first|exact Or.inl rfl|exact Or.inr rfl)(hf:X.fn x=true∨X.env.scope.names.lookup x=some .local:=by first|exact .inl rfl|exact .inr rfl|assumption):XG X (.Name x pos) (aL i):=⟨Hk hN hi hx hf⟩
def du:Ta X [] Rh:=⟨Hl⟩
def bg{YX:TG}{LJ:Bw}(h1:XG X e YX)(h2:Ta X es LJ)(hs:(assignEach (e::es) X.env).map (·.2)=assign e X.env::(assignEach es X.env).map (·.2):=by rfl):Ta X (e::es) (Kn YX LJ):=⟨Bx h1.h h2.h hs⟩
def gt'{k:Nat}{LJ:Bw}(hc:X.calm=true)(h:Ta X es LJ)(hn:(assignEach es X.env).length=n:=by rfl)(GF:(assignEach es X.env).findIdx? (·.1)=none:=by rfl):XG X (.Tuple es k pos) (Mq X.K n LJ):=⟨Mr hc h.h hn GF⟩
def ip:Oz X Ku:=⟨Co⟩
def dl{ts:zE}(ho:XE X o to)(hi:XE X i ti)(hs:Oz X ts)(ha:∀v,assign (.Subscript o i pos) X.env v=(do
   let ov←holding [v] (eval o X.env)
   let iv←holding [v,ov] (eval i X.env)
   standAt pos
   holding [v,ov,iv] (setItem ov iv v)
   release [v,ov,iv] []):=by intro _;rfl):XG X (.Subscript o i pos) (Ms to ti ts):=⟨Mt ho.h hi.h hs.h ha⟩
end
section
variable {X:Cx}{c e tg iter elt:Expr}{ifs:List Expr}{te:TE}{tc tt:TT}{g:TG}{wi:TI}{st:Stmt}{ss sa sb:List Stmt}{t u:TS}{pos pos' GO py:Pos}{x y:Str}{scope:Scope}{N:List Str}{js:List (Option Nat)}
def bn:Uh X [] Ky:=⟨Ik⟩
def cg(h:XT X c tt)(hx:X.xe=fun _ _=>False:=by rfl):Uh X [c] tt:=⟨Il h.h hx⟩
def bb(hc:X.calm=true)(S:CompScope X scope N js)(go:zW js g)(hi:XI X tg iter wi)(hb:∀(C:Addr)(s₂:Shared)(H₂:Hp)(fp:List Addr),XG (kH X scope C N s₂ H₂ fp) tg g/\Uh (kH X scope C N s₂ H₂ fp) ifs tt/\XE (kH X scope C N s₂ H₂ fp) elt te)(hs:∀x,foldedSetIterable iter X.env x=pure x:=by intro _;rfl):XE X (.ListComp elt [⟨tg,iter,ifs,0⟩] scope pos) (Kz wi js g tt te):=
 ⟨Im hc S go hi.h (fun C s₂ H₂ fp=>let ⟨a,b,c⟩:=hb C s₂ H₂ fp;⟨a.h,b.h,c.h⟩) hs⟩
def fb{i:Nat}(hN:X.N.Nodup)(hy:X.N[i]?=some y)(hx:Bo X.env.scope y)(hc:X.calm=true)(S:CompScope X scope N js)(go:zW js g)(hi:XI X tg iter wi)(hb:∀(C:Addr)(s₂:Shared)(H₂:Hp)(fp:List Addr),XG (kH X scope C N s₂ H₂ fp) tg g/\Uh (kH X scope C N s₂ H₂ fp) ifs tt/\XE (kH X scope C N s₂ H₂ fp) elt te)(WK:swapsWith (.ListComp elt [⟨tg,iter,ifs,0⟩] scope pos) (some (.Name y py)) GO.line X.env=pure true)(hs:∀x,foldedSetIterable iter X.env x=pure x:=by intro _;rfl)(hf:X.fn y=true∨X.env.scope.names.lookup y=some .local:=by first|exact .inl rfl|exact .inr rfl|assumption) :
  XS X (.Assign [.Name y py] (.ListComp elt [⟨tg,iter,ifs,0⟩] scope pos) GO) (La i wi js g tt te):=
 ⟨Io hN hy hx hc S go hi.h (fun C s₂ H₂ fp=>let ⟨a,b,c⟩:=hb C s₂ H₂ fp;⟨a.h,b.h,c.h⟩) WK hs hf⟩
def ar:XB X [] eX:=⟨Hg⟩
def af(h1:XS X st t):XB X [st] t:=⟨Hh h1.h⟩
def ae(h1:XS X st t)(h2:XB X ss u):XB X (st::ss) (oG t u):=⟨Bt h1.h h2.h⟩
def ah(he:XE X e te):XS X (.Return (some e) pos) (Re te):=⟨Mp he.h⟩
def bc(he:XE X e te)(hs:swapsWith e none pos.line X.env=pure false:=by rfl):XS X (.Expr e pos) (Km te):=⟨Hi he.h hs⟩
def aq(hc:XT X c tc)(ha:XB X sa t)(hb:XB X sb u):XS X (.If c sa sb pos) (Bu tc t u):=⟨Rf hc.h ha.h hb.h⟩
def ai{i:Nat}(hN:X.N.Nodup)(he:XE X e te)(hi:X.N[i]?=some x:=by rfl)(hx:Bo X.env.scope x:=by first|exact Or.inl rfl|exact Or.inr rfl)(hs:swapsWith e (some (.Name x pos')) pos.line X.env=pure false:=by rfl)(hf:X.fn x=true∨X.env.scope.names.lookup x=some .local:=by first|exact .inl rfl|exact .inr rfl|assumption):XS X (.Assign [.Name x pos'] e pos) (By te (aL i)):=⟨Mw hN hi hx he.h hs hf⟩
def dj(he:XE X e te)(hg:XG X tg g)(hs:swapsWithSole [tg] e pos.line X.env=pure false:=by rfl)(hw:swappedStores [tg] e X.env=pure none:=by rfl)(h1:(assignEach [tg] X.env).map (·.2)=[assign tg X.env]:=by rfl) :
  XS X (.Assign [tg] e pos) (By te g):=⟨Mu he.h hg.h hs hw h1⟩
def bt(hp:PassesOwn (model X.prog X.w) X.A X.env X.xe)(hc:X.calm=true)(hi:XI X tg iter wi)(hg:XG X tg g)(hb:XB X ss t)(hs:∀x,foldedSetIterable iter X.env x=pure x:=by intro _;rfl):XS X (.For tg iter ss [] pos) (Rj wi g t):=⟨Nb hp hc hi.h hg.h hb.h hs⟩
end
end R
def DefAt.go{P:Program}{w:World}{K:W.Frag}{mg:Str->Option Value}{base:Heap}{x:Str}{st:Stmt}{N ps:List Str}{k:Nat}{sp:Sp}(D:DefAt K mg x st ps)(S:aG N ps (aD st))(len:∀vs H Q E,sp vs H Q E->vs.length=ps.length)(o9:∀(f:Addr)(cdv:Value)(A:Around)(outer:List Env)(s:Shared)(H:Hp)(vs:List V)(Q:VK)(E:XK),Room k (A.deeper (envOfC x (aD st) s.heap.objs.size f cdv))->sp vs H Q E →
   ∃t,XB (dH pJ P w K mg base N x (aD st) f cdv A outer s H E).nox (aM st) t/\t {nx:=fun _ H'=>Q .non H',rt:=Q } (start N vs) H):aI P w K mg base (k+1) x ps sp:=
 D.ok S len fun f cdv A outer s H vs Q E hr h=>let ⟨t,h1,h2⟩:=o9 f cdv A outer s H vs Q E hr h;⟨t,h1.h,h2⟩
def Fun.go{P:Program}{w:World}{K:W.Frag}{mg:Str->Option Value}{base:Heap}{x qual:Str}{st:Stmt}{f:Addr}{fd:FuncData}{N ps:List Str}{k:Nat}{sp:Sp}(F:Fun K x qual st f fd)(S:aG N ps (aD st))(len:∀vs H Q E,sp vs H Q E->vs.length=ps.length)(o9:∀(cdv:Value)(A:Around)(outer:List Env)(s:Shared)(H:Hp)(vs:List V)(Q:VK)(E:XK),Room k (A.deeper (envOfC qual (aD st) s.heap.objs.size f cdv))->sp vs H Q E →
   ∃t,XB (dH pJ P w K mg base N qual (aD st) f cdv A outer s H E).nox (aM st) t/\t {nx:=fun _ H'=>Q .non H',rt:=Q } (start N vs) H):gC P w K mg base pJ (k+1) f fd ps sp:=
 F.ok S len fun cdv A outer s H vs Q E hr h=>let ⟨t,h1,h2⟩:=o9 cdv A outer s H vs Q E hr h;⟨t,h1.h,h2⟩
def Pb{K:W.Frag}{h:Heap}{mg:Str->Option Value}{x:Str}{st:Stmt}{ps:List Str}{f:Addr}{od an:Option Addr}{sl:Array (Option Value)}{oc kV dc pm cd ct:Value}(X:K.In h)(G:h.Ns mainGlobals mg)(a:W.nsIn K mainGlobals x=some (some (.ref f)))(l:K.lookup f=some ⟨oc,od,.func (W.fnOf x x (aX st) (aM st) (aD st) .none kV dc pm an cd ct),sl⟩)(c:W.codeIn K cd x=true)(k:W.keepIn K (.ref f)=true)(hb:∀(kV doc pm:Value)(an:Option Addr)(cdv ct:Value)(us:List Value),us.length=ps.length->bindArgs (W.fnOf x x (aX st) (aM st) (aD st) .none kV doc pm an cdv ct) ⟨us,[]⟩=pure (ps.zip us)):DefAt K mg x st ps:=
 ⟨f,_,jO l c k,W.mg_of X G a,(jO (st:=st) l c k).binds hb⟩
namespace R
section
variable {X:Cx}{K:W.Frag}{a b c e o i tg:Expr}{es rest:List Expr}{te to:TE}{t:TA}{pos p p2 apos cpos:Pos}{x:Str}{n:Nat}
def au(hK:X.K=K:=by rfl):Pa X (Iw K):=hK▸iL
def ao(hK:X.K=K:=by rfl):Pa X (Ix K):=hK▸iT
def cf(hK:X.K=K:=by rfl):Tb X (Iy K):=hK▸sL
def ia(hK:X.K=K:=by rfl):fR X (compareOp .In) (Qp K false):=hK▸inQ
def im(hK:X.K=K:=by rfl):fR X (compareOp .NotIn) (Qp K true):=hK▸notInQ
def jc(hu:X.A.units<cLine)(hK:X.K=K:=by rfl):fR X (compareOp .Eq) (kN K false):=hK▸eqNil hu
def iq(hu:X.A.units<cLine)(hK:X.K=K:=by rfl):fR X (compareOp .NotEq) (kN K true):=hK▸neNil hu
def de(hK:X.K=K:=by rfl):XC X (.builtin "len") (fun vs H Q=>match vs with|[.ref p]=>∃ys,(SqL K H p ys∨SqT K H p ys)/\Q (.int ys.length) H|_=>False):=hK▸lenL
def gq(hc:X.calm=true)(hK:X.K=K:=by rfl):XC X (.builtin "all") (Od K):=hK▸all hc
def io(hc:X.calm=true)(hK:X.K=K:=by rfl):XC X (.builtin "sum") (Oe K):=hK▸sum hc
def iu(hK:X.K=K:=by rfl):XM X "str.join" (Dm K):=hK▸join
def cp{T id:String}{name:Str}{r:V->List V->Hp->VK->Prop}(pa:PlainAttrs T)(slot:Slot T name id)(MK:typeOf (.builtin id)=pure (.type "method_descriptor"))(hm:XM X id r)(ho:XE X o to)(ha:XA X (e::es) t)(hK:X.K=K:=by rfl)(oy:attributeBase o name X.env (eval o X.env)=eval o X.env:=by rfl)(oz:(apos.endLine==cpos.line)=true:=by rfl)(h1:aJ e=true:=by rfl)(h2:es.all aJ=true:=by rfl)(hn:es.length+1<30:=by decide) :
  XE X (.Call (.Attribute o name apos) (e::es) [] cpos) (Ue K T r to t):=hK▸bm pa slot MK hm ho ha oy oz h1 h2 hn
def be(hl:XE X e te)(hK:X.K=K:=by rfl):XI X tg e (Ca K te):=hK▸wL hl
def gv(hl:XE X e te)(hK:X.K=K:=by rfl):XI X tg e (Mz K te):=hK▸wT hl
def dt{k:Nat}{LJ:Bw}(hc:X.calm=true)(h:Ta X es LJ)(hK:X.K=K:=by rfl)(hn:(assignEach es X.env).length=n:=by rfl)(GF:(assignEach es X.env).findIdx? (·.1)=none:=by rfl):XG X (.Tuple es k pos) (Mq K n LJ):=hK▸gt' hc h hn GF
end
end R
section
variable {X:Cx}
def Ef{z:Str}{n:Int}(hz:z.length<=1000)(h0:0<=n)(h1:n<=1000):MulOk z n:=by
 refine⟨?_,fun _ _=>?_,fun _ _=>?_⟩
 ·rw[Bool.or_eq_false_iff];exact⟨decide_eq_false Zo,decide_eq_false Zo⟩
 ·rename_i hn _;have:((2:Int)^63-1)/n≥((2:Int)^63-1)/1000:=by
   apply Int.le_ediv_of_mul_le Zo;have h2:((2:Int)^63-1)/1000*n<=((2:Int)^63-1)/1000*1000:=Int.mul_le_mul_of_nonneg_left h1 Zd;have h3:((2:Int)^63-1)/1000*1000<=(2:Int)^63-1:=by decide
   omega
  have h4:((2:Int)^63-1)/1000≥1000:=by decide
  omega
 ·unfold Builtin.Str.tooLong;apply decide_eq_false;have:z.length*n.toNat<=1000*1000:=Nat.mul_le_mul hz Zo;have h2:(1000*1000:Nat)<=sizeLine:=by decide
  omega
def Vn:List V->Hp->VK->Prop:=fun vs H Q=>match vs with
 | [.int i]=>(0<=i/\i<10^40)/\Q (.str (Str.ofString (toString i))) H
 | [.str z]=>Q (.str z) H
 | _=>False
def Wh:List V->Hp->VK->Prop:=fun vs H Q=>match vs with
 | [.str z]=>NumText.AllDigits z.cps.toList/\z.cps.toList≠[]/\z.length<=640/\Q (.int (NumText.digitsVal z.cps.toList:Nat)) H
 | _=>False
end
def LET:List Nat:=[97,98,99,100,101,102,103,104,105,106,107,108,109,110,111,112,113,114,115,116,117,118,119,120,121,122]
def tK:List Nat:=[48,49,50,51,52,53,54,55,56,57]
def qY:(("abcdefghijklmnopqrstuvwxyz":Str)).cps.toList=LET:=by decide +kernel
def Eg:(("0123456789":Str)).cps.toList=tK:=by decide +kernel
def aP(x:V)(cs:List Nat)(n:Int):Bool:=match x with|.str z=>decide (1<=(z.length:Int))&&decide ((z.length:Int)<=n)&&z.cps.toList.all (fun c=>decide (c∈cs))|_=>false
def cQ(z:Str)(cs:List Nat)(n:Int):aP (.str z) cs n=(decide (1<=(z.length:Int))&&decide ((z.length:Int)<=n)&&z.cps.toList.all (fun c=>decide (c∈cs))):=rfl
def vS:Sp:=fun vs H Q _=>∃x sg n k,vs=[x,.str sg,.int n]/\Kof H x k/\(∀z,x=.str z->z.length<=1000)/\∀H',Same H H'->Q (.bl (aP x sg.cps.toList n)) H'
def kQ(cs:List Nat)(n:Int):Sp:=fun vs H Q _=>∃x k,vs=[x]/\Kof H x k/\(∀z,x=.str z->z.length<=1000)/\∀H',Same H H'->Q (.bl (aP x cs n)) H'
def isNm(z:Str):Prop:=1<=z.length/\z.length<=8/\∀c∈z.cps.toList,c∈LET
section
variable {prog:Program}{w:World}{A:Around}{E:Value->Shared->Prop}{s:Shared}
def Aa{t:Addr}{items:Array Value}{Q:Bool->Shared->Prop}(ht:IsTup s.heap t items)(h:Q true s):wpAny (model prog w) A (Builtin.Tuple.tupleIsExact (.ref t)) Q E s:=by
 unfold Builtin.Tuple.tupleIsExact;refine wpAny_bind (wpAny_typeOf ht.typeIs ?_);exact wpAny_pure h
def iZ{t sl:Addr}{items:Array Value}{vl vu:Value}{lo hi:Option Int}{Q:Value->Shared->Prop}(ht:IsTup s.heap t items)(hs:s.heap.IsSliceOf sl vl vu .none)(pl:IsPart vl lo)(pu:IsPart vu hi)(hw:HT.sIx items.size 0 lo=0/\HT.sIx items.size items.size hi=items.size)(h:Q (.ref t) s):wpAny (model prog w) A (getItem (.ref t) (.ref sl)) Q E s:=by
 obtain⟨os,MI,UJ,PY⟩:=id hs;have Wx:s.TypeIs (.ref sl) "slice":=⟨os,MI,UJ⟩;unfold getItem;try with_reducible refine wpAny_holding ?_
 first|refine wpAny_bind (wpAny_pure ?_)|skip
 refine wpAny_bind (wpAny_sequenceKey ht.typeIs Zd ?_);refine wpAny_bind (wpAny_callSpecial?_slot (name:=Str.ofString "__getitem__") ht.typeIs PyProof.Rows.slot_tuple_getitem
  (wpAny_call_entry PyProof.Rows.slot_tuple_getitem ht.typeIs entry_tuple_getitem ?_ (args_tuple_getitem _ _)))
 show wpAny _ _ (Builtin.Tuple.tupleItemsOf (.ref t)>>=_) _ _ s;refine wpAny_bind (tupleItemsOf_ ht ?_);refine wpAny_bind (wpAny_typeOf Wx ?_);rw[if_pos Zd];refine wpAny_bind (HT.sliceApplied_gen hs pl pu ?_);have WL:(((HT.sIx items.size 0 lo:Nat):Int)==0&&(1:Int)==1&&(HT.sIx items.size items.size hi-HT.sIx items.size 0 lo)==items.size)=true:=by
  rw[hw.1,hw.2];simp
 show wpAny _ _ (if (((HT.sIx items.size 0 lo:Nat):Int)==0&&(1:Int)==1&&(HT.sIx items.size items.size hi-HT.sIx items.size 0 lo)==items.size)=true then _ else _) _ _ s;rw[if_pos WL];refine wpAny_bind (Aa ht ?_);rw[if_pos rfl];exact wpAny_bind (wpAny_rule (wpAny_pure ⟨_,rfl,wpAny_pure h⟩))
def Eh{t b:Addr}{ws:List Value}{Q:Value->Shared->Prop}(ht:IsTup s.heap t ([]:List Value).toArray)(hb:IsTup s.heap b ws.toArray)(h1:Q (.ref b) s):wpAny (model prog w) A (binaryOp .Add (.ref t) (.ref b)) Q E s:=by
 obtain⟨⟨cls,dd,data,sl⟩,ho,hc,n,hd⟩:=id ht;obtain⟨⟨Ww,UI,data2,MH⟩,IZ,PX,n2,hd2⟩:=id hb;simp only at hc hd PX hd2;subst hc hd PX hd2;exact concat_meets ⟨_,ho,rfl⟩ ⟨_,IZ,rfl⟩ noFill_tuple_add seq_tuple_add PySem.F.slot_tuple_add PySem.F.entry_tuple_add (PySem.F.args_tuple_add_2 _ _)
   (tuple_addW0 t b _ ws.toArray n n2 dd UI sl MH Zs) ⟨ho,IZ,h1⟩
end
section
variable {X:Cx}{e o e1 e2:Expr}{te:TE}{pos p2 p3:Pos}
def Pc:V->Option Int->Option Int->Hp->VK->Prop:=fun x lo hi H Q=>mR x fun a=>∃xs,H a=some (.tup xs)/\∀p H',Same H H'->H' p=some (.tup (dX xs lo hi))->Q (.ref p) H'
def Tc:SlR X Pc:=by
 intro pins s σ H x v vl vu lo hi sl Q I rx hs pl pu h;unfold Pc at h;rw[cI]at h;obtain⟨a,rfl,xs,hx,q⟩:=h;by_cases hw:HT.sIx xs.length 0 lo=0/\HT.sIx xs.length xs.length hi=xs.length
 ·cases rx;obtain⟨its,r,ht,hz⟩:=I.tuple (SqT.of hx);have hlen:its.toArray.size=xs.length:=by rw[eE];exact r.length.symm
  refine⟨"tuple",_,PyProof.Rows.slot_tuple_getitem.lookup,ht.typeIs,?_⟩;refine iZ ht hs pl pu (by rw[hlen];exact hw) ⟨.ref a,H,I,rfl,q a H (Same.refl H) ?_⟩;rw[hx];unfold dX;rw[hw.1,hw.2,drop_zero,Nat.sub_zero,Hc (bY _)]
 ·exact Nq pins s σ H (.ref a) v vl vu lo hi sl Q I rx hs pl pu ⟨a,xs,rfl,SqT.of hx,hw,fun p hp=>q p _ (aF hp) aA⟩
def Ei:R2:=fun x y H Q=>mR x fun a=>mR y fun b=>∃xs ys,H a=some (.tup xs)/\H b=some (.tup ys)/\xs.length+ys.length<=1000/\∀p H',Same H H'->H' p=some (.tup (xs++ys))->Q (.ref p) H'
def Pd:OpR X (binaryOp .Add) Ei:=by
 intro pins s σ H x y v u Q I rx ry h;unfold Ei at h;rw[cI]at h;obtain⟨a,rfl,h⟩:=h;rw[cI]at h;obtain⟨b,rfl,xs,ys,ha,hb,hz,q⟩:=h;by_cases h0:xs=[]
 ·subst h0;cases rx;cases ry;obtain⟨its,r1,p1,_⟩:=I.tuple (SqT.of ha);obtain⟨u6,r2,p2,_⟩:=I.tuple (SqT.of hb);cases r1;exact Eh p1 p2 ⟨.ref b,H,I,rfl,q b H (Same.refl H) (by rw[hb];rfl)⟩
 ·exact Ia pins s σ H _ _ v u Q I rx ry ⟨a,b,xs,ys,rfl,rfl,SqT.of ha,SqT.of hb,h0,fO hz Zd,(fun h1=>q a H (Same.refl H) (by rw[ha,h1,append_nil])),fun _ p hp=>q p _ (aF hp) aA⟩
end
def Tab(P:Params):List DictEntry->List (Str×Int)->Prop
 | [],[]=>True
 | e::r,(x,i)::q=>(∃t,e.key=.str x t)/\e.hash=PyData.keyHash P x/\(∃t,e.val=.int i t)/\Tab P r q
 | _,_=>False
def Tab.keys{P:Params}:∀ {es:List DictEntry}{ws:List (Str×Int)},Tab P es ws->W.KeysLit P es
 | [],[],_=>trivial
 | e::r,(x,i)::q,h=>⟨let ⟨t,ht⟩:=h.1;⟨x,t,ht,h.2.1⟩,Tab.keys h.2.2.2⟩
 | [],_::_,h=>h.elim
 | _::_,[],h=>h.elim
def Tab.find{P:Params}(z:Str):∀ {es:List DictEntry}{ws:List (Str×Int)},Tab P es ws->(match ws.lookup z with|some i=>∃t,(es.find? fun e=>Value.isStrOf z e.key).map (·.val)=some (.int i t)|none=>(es.find? fun e=>Value.isStrOf z e.key).map (·.val)=none)
 | [],[],_=>rfl
 | [],_::_,h=>h.elim
 | _::_,[],h=>h.elim
 | e::r,(x,i)::q,h=>by
  obtain⟨⟨t,ht⟩,h2,⟨t',hv⟩,h4⟩:=h;have ih:=Tab.find z h4;rw[lookup_cons,find?_cons];have e1:Value.isStrOf z e.key=(z==x):=by
   rw[ht];show(x==z)=(z==x);exact Bool.beq_comm
  rw[e1];cases hz:z==x with
  | true=>exact⟨t',by rw[<- hv];rfl⟩
  | false=>exact ih
structure KTab(K:W.Frag)(P:Params)(a:Addr)(ws:List (Str×Int)):Prop where
 ex:∃es n,K.lookup a=some ⟨.type "dict",none,.dict (toArray es) n,#[]⟩/\Tab P es ws/\(a==sysModules)=false
def KTab.map{K:W.Frag}{prog:Program}{w:World}{a:Addr}{ws:List (Str×Int)}{h:Heap}(T:KTab K w.params a ws)(X:K.In h) :
  ∃f:Str->Option Value,h.MapOf (strKind prog w) a f/\(a==sysModules)=false/\∀z,(match ws.lookup z with|some i=>∃t,f z=some (.int i t)|none=>f z=none):=by
 obtain⟨es,n,hl,ht,lo⟩:=T.ex;refine⟨_,W.mapOf_K (prog:=prog) X hl ht.keys,lo,fun z=>?_⟩;have:=ht.find z;unfold findBy;rw[List.find?_toArray];exact this
section
variable {X:Cx}
def Pe(K:W.Frag)(P:Params)(neg:Bool):R2:=fun x y H Q=>mS x fun z=>mR y fun a=>∃ws,KTab K P a ws/\Q (.bl (if neg then !(ws.lookup z).isSome else (ws.lookup z).isSome)) H
def Ab{f:Option Value}{o:Option Int}(h:match o with|some i=>∃t,f=some (.int i t)|none=>f=none):f.isSome=o.isSome:=by
 cases o with
 | none=>rw[h];rfl
 | some i=>obtain⟨t,h⟩:=h;rw[h];rfl
def Ej:OpR X (compareOp .NotIn) (Pe X.K X.w.params true):=by
 intro pins s σ H x y v u Q I rx ry h;unfold Pe at h;rw[jG]at h;obtain⟨z,rfl,h⟩:=h;rw[cI]at h;obtain⟨a,rfl,ws,T,h⟩:=h;obtain⟨t,rfl⟩:=rx;cases ry;obtain⟨f,hm,lo,hf⟩:=T.map (prog:=X.prog) I.kIn;exact wpAny_notIn_of (strKind_is X.prog X.w z t) lo hm ⟨.bl (!(ws.lookup z).isSome),H,I.tok _,by rw[Ab (hf z)];rfl,h⟩
def Pf(K:W.Frag)(P:Params):R2:=fun x y H Q=>mR x fun a=>mS y fun z=>∃ws i,KTab K P a ws/\ws.lookup z=some i/\Q (.int i) H
def Wq:IxR X (Pf X.K X.w.params):=by
 intro value slice pins s σ H x y v u Q I rx ry h hs;unfold Pf at h;rw[cI]at h;obtain⟨a,rfl,h⟩:=h;rw[jG]at h;obtain⟨z,rfl,ws,i,T,hi,h⟩:=h;obtain⟨t,rfl⟩:=ry;cases rx;obtain⟨f,hm,lo,hf⟩:=T.map (prog:=X.prog) I.kIn;have hz:=hf z;rw[hi]at hz;obtain⟨t',hz⟩:=hz;exact tail_any hm.typeIs slot_dict_getitem.lookup (wpAny_getItem_of (strKind_is X.prog X.w z t) hm hz ⟨.int i,H,I.tok _,⟨t',rfl⟩,h⟩) hs
end
namespace R
section
variable {X:Cx}{K:W.Frag}{P:Params}{e e1 k v o f:Expr}{te t1 tk tv td ty tx':TE}{pos p2 apos cpos:Pos}{ks:List (Option Expr)}{vs:List Expr}{trs:List (TE×TE)}
def sT:Tb X Pc:=⟨Tc⟩
def di:fR X (binaryOp .Add) Ei:=⟨Pd⟩
def ik(hK:X.K=K:=by rfl)(hP:X.w.params=P:=by rfl):fR X (compareOp .NotIn) (Pe K P true):=hK▸hP▸⟨Ej⟩
def il(hK:X.K=K:=by rfl)(hP:X.w.params=P:=by rfl):Pa X (Pf K P):=hK▸hP▸⟨Wq⟩
def gz(hK:X.K=K:=by rfl):XC X (.type "list") (fun vs H Q=>match vs with | [.ref p]=>∃ys,(SqL K H p ys∨SqT K H p ys)/\∀l,H l=none->Q (.ref l) (aH H l (.lst ys)) | _=>False):=hK ▸ ⟨qS.imp fun vs H Q h=>by
 split at h
 ·rename_i p;obtain⟨ys,hq,h⟩:=h;exact⟨p,ys,rfl,hq,h⟩
 ·exact h.elim⟩
end
end R
def WS:List (Str×Int):=[("add",1),("take",1),("move",2),("send",2),("fetch",2),("pass",3)]
def UW:List V:=[.str "move",.str "pass"]
def oF(x:V):Bool:=aP x LET 8
def tL(lo hi:Int)(x:V):Bool:=match x with|.int n=>decide (lo<=n)&&decide (n<=hi)|_=>false
def bZ(x:V)(ns:List V):Bool:=match x with
 | .str z=>(match WS.lookup z with
  | some i=>decide ((ns.length:Int)=i)&&ns.all oF&&(!Bp (.str z) UW||!decide (oH ns 0=oH ns 1))
  | none=>false)
 | _=>false
def qZ(xs:List V):List V:=dX xs (some 1) (some (-1))
def iA(xs:List V):Bool:=decide (3<=xs.length)&&bZ ((oH xs 0).getD .non) (qZ xs)&&tL 1 1000000000000 ((oH xs (-1)).getD .non)
def Pt(H:Hp)(x:V):Prop:=∃k,Kof H x k/\∀z,x=.str z->z.length<=1000
def Pt.same{H H':Hp}{x:V}(s:Same H H')(h:Pt H x):Pt H' x:=let ⟨k,h1,h2⟩:=h;⟨k,h1.same s,h2⟩
def dR(H:Hp)(x:V):Bool:=match x with|.ref a=>(match H a with|some (.tup xs)=>iA xs|_=>false)|_=>false
def Th(H:Hp)(x:V):Prop:=Pt H x/\∀a xs,x=.ref a->H a=some (.tup xs)->∀y∈xs,Pt H y
def yA:Sp:=fun vs H Q _=>∃x lo hi,vs=[x,.int lo,.int hi]/\Pt H x/\∀H',Same H H'->Q (.bl (tL lo hi x)) H'
def Ek:Sp:=fun vs H Q _=>∃x a ns,vs=[x,.ref a]/\Pt H x/\H a=some (.tup ns)/\ns.length<=1000/\(∀y∈ns,Pt H y)/\∀H',Same H H'->Q (.bl (bZ x ns)) H'
def tM:Sp:=fun vs H Q _=>∃x,vs=[x]/\Th H x/\(∀a xs,x=.ref a->H a=some (.tup xs)->xs.length<=1000)/\∀H',Same H H'->Q (.bl (dR H x)) H'
def Td{z:Str}{i:Int}(h:WS.lookup z=some i)(u:Bp (.str z) UW=true):2<=i:=by
 have e:z="move"∨z="pass":=by
  unfold Bp UW at u;simp only [any_cons,List.any_nil,Bool.or_false,Bool.or_eq_true,Id,beq_iff_eq,decide_eq_true_iff]at u;rcases u with u|u
  ·exact .inl u.symm
  ·exact .inr u.symm
 rcases e with rfl|rfl
 ·have:WS.lookup ("move":Str)=some 2:=by decide +kernel
  rw[this]at h;injection h with h;omega
 ·have:WS.lookup ("pass":Str)=some 3:=by decide +kernel
  rw[this]at h;injection h with h;omega
def yB{xs:List V}(h:3<=xs.length):qZ xs=(xs.drop 1).take (xs.length-2):=by
 unfold qZ dX HT.sIx;simp only [Int.reduceNeg,Int.reduceLT,if_true,if_false];have e1:min (Int.toNat 1) xs.length=1:=by
  show min 1 xs.length=1;omega
 have e2:((-1:Int)+(xs.length:Int)).toNat=xs.length-1:=by omega
 rw[e2];show((xs.drop (min (Int.toNat 1) xs.length)).take (xs.length-1-min (Int.toNat 1) xs.length))=_;rw[e1];congr 1
def Jf{xs:List V}(h:3<=xs.length):(qZ xs).length=xs.length-2:=by
 rw[yB h,oR,length_drop];omega
def Jg{xs:List V}{y:V}(h:3<=xs.length)(m:y∈qZ xs):y∈xs:=by
 rw[yB h]at m;exact List.mem_of_mem_drop (mem_of_mem_take m)
def Te:R2:=fun x y H Q=>mR x fun l=>mR y fun b=>∃xs zs,H l=some (.lst xs)/\H b=some (.lst zs)/\xs.length+zs.length<=sizeLine/\∀p,H p=none->Q (.ref p) (aH H p (.lst (xs++zs)))
def R.bh{X:Cx}:fR X (binaryOp .Add) Te:=⟨Nw.imp fun x y H Q h=>by
 unfold Te at h;rw[cI]at h;obtain⟨a,rfl,h⟩:=h;rw[cI]at h;obtain⟨b,rfl,xs,zs,h⟩:=h;exact⟨a,b,xs,zs,rfl,rfl,h⟩⟩
inductive DeedIs:List V->Prop
 | one (z a:Str) (n:Int):(z="add"∨z="take")->isNm a->1<=n->n<=1000000000000->DeedIs [.str z,.str a,.int n]
 | two (z a b:Str) (n:Int):(z="move"∨z="send"∨z="fetch")->isNm a->isNm b->a≠b->1<=n->n<=1000000000000->DeedIs [.str z,.str a,.str b,.int n]
 | three (a b c:Str) (n:Int):isNm a->isNm b->isNm c->a≠b->1<=n->n<=1000000000000->DeedIs [.str "pass",.str a,.str b,.str c,.int n]
def dY{z:Str}(h:isNm z):oF (.str z)=true:=by
 unfold oF;rw[cQ,decide_eq_true (by have:=h.1;omega),decide_eq_true (by have:=h.2.1;omega),all_eq_true.mpr fun c hc=>decide_eq_true (h.2.2 c hc)];rfl
def DeedIs.ok{xs:List V}(h:DeedIs xs):iA xs=true:=by
 cases h with
 | one z a n hz ha h1 h2=>
  show(bZ (.str z) [.str a]&&tL 1 1000000000000 (.int n))=true;have e:bZ (.str z) [.str a]=true:=by
   rcases hz with rfl|rfl
   ·show(true&&(oF (.str a)&&true)&&_)=true;rw[dY ha];rfl
   ·show(true&&(oF (.str a)&&true)&&_)=true;rw[dY ha];rfl
  rw[e];show(decide (1<=n)&&decide (n<=1000000000000))=true;rw[decide_eq_true h1,decide_eq_true h2];rfl
 | two z a b n hz ha hb hn h1 h2=>
  show(bZ (.str z) [.str a,.str b]&&tL 1 1000000000000 (.int n))=true;have ne:decide (some (V.str a)=some (V.str b))=false:=decide_eq_false fun e=>hn (by injection e with e;injection e)
  have e:bZ (.str z) [.str a,.str b]=true:=by
   rcases hz with rfl|rfl|rfl
   all_goals
    show(true&&(oF (.str a)&&(oF (.str b)&&true))&&(_||!decide (some (V.str a)=some (V.str b))))=true;rw[dY ha,dY hb,ne,Bool.not_false,Bool.or_true];rfl
  rw[e];show(decide (1<=n)&&decide (n<=1000000000000))=true;rw[decide_eq_true h1,decide_eq_true h2];rfl
 | three a b c n ha hb hc hn h1 h2=>
  show(bZ (.str "pass") [.str a,.str b,.str c]&&tL 1 1000000000000 (.int n))=true;have ne:decide (some (V.str a)=some (V.str b))=false:=decide_eq_false fun e=>hn (by injection e with e;injection e)
  have e:bZ (.str "pass") [.str a,.str b,.str c]=true:=by
   show(true&&(oF (.str a)&&(oF (.str b)&&(oF (.str c)&&true)))&&(_||!decide (some (V.str a)=some (V.str b))))=true;rw[dY ha,dY hb,dY hc,ne,Bool.not_false,Bool.or_true];rfl
  rw[e];show(decide (1<=n)&&decide (n<=1000000000000))=true;rw[decide_eq_true h1,decide_eq_true h2];rfl
def isNm.len{z:Str}(h:isNm z):z.length<=1000:=fO h.2.1 Zd
def El:("add":Str).length<=1000/\("take":Str).length<=1000/\("move":Str).length<=1000/\("send":Str).length<=1000/\("fetch":Str).length<=1000/\("pass":Str).length<=1000:=by decide +kernel
def Dk.tup_ne{H:Hp}{d b p:Addr}{xs:List V}(D:Dk H d b)(h:H p=some (.tup xs)):p≠d/\p≠b:=by
 obtain⟨ns,s,k,h1,h2,h3⟩:=D.ex;exact⟨fun e=>(by rw[e,h1]at h;cases h),fun e=>(by rw[e,h2]at h;cases h)⟩
inductive TV where
 | sc (v:V)
 | tp (xs:List TV)
 | ls (xs:List TV)
def Ac:V->Bool|.non=>true|.bl _=>true|.int _=>true|.str _=>true|_=>false
def Rep(H:Hp):Nat->TV->V->Prop
 | 0,.sc v,x=>x=v/\Ac v=true
 | _+1,.sc v,x=>x=v/\Ac v=true
 | n+1,.tp ts,x=>∃a xs,x=.ref a/\H a=some (.tup xs)/\Paired (Rep H n) ts xs
 | n+1,.ls ts,x=>∃a xs,x=.ref a/\H a=some (.lst xs)/\Paired (Rep H n) ts xs
 | 0,_,_=>False
def Paired.map'{α β:Type}{R S:α->β->Prop}(f:∀a b,R a b->S a b){xs:List α}{ys:List β}(h:Paired R xs ys):Paired S xs ys:=by
 induction h with
 | nil=>exact .nil
 | cons h t ih=>exact .cons (f _ _ h) ih
def Rep.same{H H':Hp}(s:Same H H'):∀ {n:Nat}{t:TV}{x:V},Rep H n t x->Rep H' n t x
 | 0,.sc v,x,h=>h
 | n+1,.sc v,x,h=>h
 | n+1,.tp ts,x,⟨a,xs,e,g,p⟩=>⟨a,xs,e,s _ _ g,Paired.map' (fun _ _=>Rep.same s) p⟩
 | n+1,.ls ts,x,⟨a,xs,e,g,p⟩=>⟨a,xs,e,s _ _ g,Paired.map' (fun _ _=>Rep.same s) p⟩
def Paired.get'{α β:Type}{R:α->β->Prop}:∀ {xs:List α}{ys:List β}{j:Nat},Paired R xs ys->∀(h:j<ys.length),∃h':j<xs.length,R xs[j] ys[j]
 | _,_,0,.cons h t,_=>⟨Nat.succ_pos _,h⟩
 | _,_,j+1,.cons h t,hj=>let ⟨h',r⟩:=Paired.get' (j:=j) t (by simpa using hj);⟨by simpa using h',by simpa using r⟩
section
variable {X:Cx}{pins:List (Addr×Obj)}{s:Shared}{σ:St}{H:Hp}
def Jh(B:Around):B.in1.units=B.units+1:=rfl
def iB(n:Nat):(List.range n).all (fun _=>true)=true:=all_eq_true.mpr fun _ _=>rfl
def Em(I:Inv X pins σ H s):∀(n:Nat){t:TV}{x y:V}{v u:Value}{A:Around},Rep H n t x->Rep H n t y->RelV x v->RelV y u->A.units+n<cLine->SeqAt.EqAt A s v u true:=by
 have sc:∀ {v:V}{x y:V}{v1 u1:Value}{A:Around},(x=v/\Ac v=true)->(y=v/\Ac v=true)->RelV x v1->RelV y u1->SeqAt.EqAt A s v1 u1 true:=by
  rintro v x y v1 u1 A ⟨rfl,hx⟩ ⟨rfl,_⟩ r1 r2
  cases y with
  | non=>cases r1;cases r2;exact SeqAt.EqAt.same _
  | bl i=>cases r1;cases r2;exact SeqAt.EqAt.same _
  | int i=>
   obtain⟨t1,rfl⟩:=r1;obtain⟨t2,rfl⟩:=r2;have:=SeqAt.EqAt.int_int (A:=A) (s:=s) i t1 i t2
   rwa [beq_self_eq_true]at this
  | str i=>
   obtain⟨t1,rfl⟩:=r1;obtain⟨t2,rfl⟩:=r2;have:=SeqAt.EqAt.str_str (A:=A) (s:=s) i t1 i t2
   rwa [beq_self_eq_true]at this
  | _=>cases hx
 intro n;induction n with
 | zero=>
  intro t x y v u A h1 h2 r1 r2 hu;cases t with
  | sc z=>exact sc h1 h2 r1 r2
  | _=>exact h1.elim
 | succ n ih=>
  intro t x y v u A h1 h2 r1 r2 hu;cases t with
  | sc z=>exact sc h1 h2 r1 r2
  | tp ts=>
   obtain⟨a,xs,rfl,g1,p1⟩:=h1;obtain⟨b,ys,rfl,g2,p2⟩:=h2;cases r1;cases r2;by_cases QL:a=b
   ·subst QL;exact SeqAt.EqAt.same _
   ·obtain⟨its,ri,ti,_⟩:=I.tuple (SqT.of g1);obtain⟨u6,GQ,JS,_⟩:=I.tuple (SqT.of g2);have LK:its.length=ts.length:=by rw[<- ri.length,p1.length]
    have LL:u6.length=ts.length:=by rw[<- GQ.length,p2.length]
    have key:=SeqAt.RcAt.tuples (A:=A) (s:=s) (e:=fun _=>true) ti JS Zo (fun j h1 h2=>by
     rw[eE]at h1 h2;obtain⟨oh,q1⟩:=Paired.get' (j:=j) ri h1;obtain⟨zc,q2⟩:=Paired.get' (j:=j) GQ h2;obtain⟨h3,q3⟩:=Paired.get' (j:=j) p1 oh;obtain⟨h4,q4⟩:=Paired.get' (j:=j) p2 zc;simpa using ih q3 q4 q1 q2 (by rw[Jh];omega))
    have e:((List.range (min its.toArray.size u6.toArray.size)).all (fun _=>true)&&its.toArray.size==u6.toArray.size)=true:=by
     rw[iB,eE,eE,LK,LL,beq_self_eq_true];rfl
    rw[e]at key;exact SeqAt.EqAt.of_refs QL key
  | ls ts=>
   obtain⟨a,xs,rfl,g1,p1⟩:=h1;obtain⟨b,ys,rfl,g2,p2⟩:=h2;cases r1;cases r2;by_cases QL:a=b
   ·subst QL;exact SeqAt.EqAt.same _
   ·obtain⟨its,ri,ti,_⟩:=I.list (SqL.of g1);obtain⟨u6,GQ,JS,_⟩:=I.list (SqL.of g2);have LK:its.length=ts.length:=by rw[<- ri.length,p1.length]
    have LL:u6.length=ts.length:=by rw[<- GQ.length,p2.length]
    have key:=SeqAt.RcAt.lists (A:=A) (s:=s) (e:=fun _=>true) ti.isList JS.isList (by rw[eE,eE,LK,LL]) Zo (fun j h1 h2=>by
     rw[eE]at h1 h2;obtain⟨oh,q1⟩:=Paired.get' (j:=j) ri h1;obtain⟨zc,q2⟩:=Paired.get' (j:=j) GQ h2;obtain⟨h3,q3⟩:=Paired.get' (j:=j) p1 oh;obtain⟨h4,q4⟩:=Paired.get' (j:=j) p2 zc;simpa using ih q3 q4 q1 q2 (by rw[Jh];omega))
    rw[iB]at key;exact SeqAt.EqAt.of_refs QL key
end
section
variable {X:Cx}
def Pg(neg:Bool):R2:=fun x y H Q=>∃n t,n<=50/\Rep H n t x/\Rep H n t y/\Q (.bl (!neg)) H
def yC(neg:Bool){pins:List (Addr×Obj)}{s:Shared}{σ:St}{H:Hp}{x y:V}{v u:Value}{Q:VK}{op:CmpOp}(OR:op=if neg then .NotEq else .Eq)(hu:X.A.units+64<cLine)(I:Inv X pins σ H s)(rx:RelV x v)(ry:RelV y u)(h:Pg neg x y H Q) :
  wpAny (model X.prog X.w) X.A (compareOp op v u) (EP X pins σ Q) X.xe s:=by
 obtain⟨n,t,hn,h1,h2,q⟩:=h;have sc:∀z,t=.sc z->wpAny (model X.prog X.w) X.A (compareOp op v u) (EP X pins σ Q) X.xe s:=by
  rintro z rfl;have e1:x=z/\Ac z=true:=by cases n<;>exact h1
  have e2:y=z/\Ac z=true:=by cases n<;>exact h2
  obtain⟨rfl,hx⟩:=e1;obtain⟨rfl,_⟩:=e2;have hs:L2.Nl y y=true:=by cases y<;>first|rfl|cases hx
  cases neg with
  | true=>
   subst OR;exact Kr pins s σ H y y v u Q I rx ry ⟨hs,by simpa using q⟩
  | false=>
   subst OR;exact Kq pins s σ H y y v u Q I rx ry ⟨hs,by simpa using q⟩
 cases n with
 | zero=>
  cases t with
  | sc z=>exact sc z rfl
  | _=>exact h1.elim
 | succ n=>
  cases t with
  | sc z=>exact sc z rfl
  | tp ts=>
   obtain⟨a,xs,rfl,g1,p1⟩:=h1;obtain⟨b,ys,rfl,g2,p2⟩:=h2;cases rx;cases ry;obtain⟨its,ri,ti,_⟩:=I.tuple (SqT.of g1);obtain⟨u6,GQ,JS,_⟩:=I.tuple (SqT.of g2);have LK:its.length=ts.length:=by rw[<- ri.length,p1.length]
   have LL:u6.length=ts.length:=by rw[<- GQ.length,p2.length]
   have each:∀j (h1:j<its.toArray.size) (h2:j<u6.toArray.size),SeqAt.EqAt X.A.in1 s its.toArray[j] u6.toArray[j] true:=fun j h1 h2=>by
    rw[eE]at h1 h2;obtain⟨oh,q1⟩:=Paired.get' (j:=j) ri h1;obtain⟨zc,q2⟩:=Paired.get' (j:=j) GQ h2;obtain⟨h3,q3⟩:=Paired.get' (j:=j) p1 oh;obtain⟨h4,q4⟩:=Paired.get' (j:=j) p2 zc;simpa using Em I n q3 q4 q1 q2 (by rw[Jh];omega)
   have e:((List.range (min its.toArray.size u6.toArray.size)).all (fun _=>true)&&its.toArray.size==u6.toArray.size)=true:=by
    rw[iB,eE,eE,LK,LL,beq_self_eq_true];rfl
   cases neg with
   | true=>
    subst OR;have key:=SeqAt.RcNeAt.tuples (A:=X.A) (s:=s) (e:=fun _=>true) ti JS Zo each;rw[e]at key;exact key _ _ _ _ ⟨.bl false,H,I,rfl,q⟩
   | false=>
    subst OR;have key:=SeqAt.RcAt.tuples (A:=X.A) (s:=s) (e:=fun _=>true) ti JS Zo each;rw[e]at key;exact key _ _ _ _ ⟨.bl true,H,I,rfl,q⟩
  | ls ts=>
   obtain⟨a,xs,rfl,g1,p1⟩:=h1;obtain⟨b,ys,rfl,g2,p2⟩:=h2;cases rx;cases ry;obtain⟨its,ri,ti,_⟩:=I.list (SqL.of g1);obtain⟨u6,GQ,JS,_⟩:=I.list (SqL.of g2);have LK:its.length=ts.length:=by rw[<- ri.length,p1.length]
   have LL:u6.length=ts.length:=by rw[<- GQ.length,p2.length]
   have each:∀j (h1:j<its.toArray.size) (h2:j<u6.toArray.size),SeqAt.EqAt X.A.in1 s its.toArray[j] u6.toArray[j] true:=fun j h1 h2=>by
    rw[eE]at h1 h2;obtain⟨oh,q1⟩:=Paired.get' (j:=j) ri h1;obtain⟨zc,q2⟩:=Paired.get' (j:=j) GQ h2;obtain⟨h3,q3⟩:=Paired.get' (j:=j) p1 oh;obtain⟨h4,q4⟩:=Paired.get' (j:=j) p2 zc;simpa using Em I n q3 q4 q1 q2 (by rw[Jh];omega)
   cases neg with
   | true=>
    subst OR;have key:=SeqAt.RcNeAt.lists (A:=X.A) (s:=s) (e:=fun _=>true) ti.isList JS.isList (by rw[eE,eE,LK,LL]) Zo each;rw[iB]at key;exact key _ _ _ _ ⟨.bl false,H,I,rfl,q⟩
   | false=>
    subst OR;have key:=SeqAt.RcAt.lists (A:=X.A) (s:=s) (e:=fun _=>true) ti.isList JS.isList (by rw[eE,eE,LK,LL]) Zo each;rw[iB]at key;exact key _ _ _ _ ⟨.bl true,H,I,rfl,q⟩
def R.fg(hu:X.A.units+64<cLine):fR X (compareOp .Eq) (Pg false):=⟨fun pins s σ H x y v u Q I rx ry h=>yC false rfl hu I rx ry h⟩
def R.bv(hu:X.A.units+64<cLine):fR X (compareOp .NotEq) (Pg true):=⟨fun pins s σ H x y v u Q I rx ry h=>yC true rfl hu I rx ry h⟩
def R.ay{st:Stmt}:XS X st (fun _ _ _=>False):=⟨fun pins s σ H D I h=>h.elim⟩
end
end L2
namespace L2
open PySem PySem.Spec PyProof.Rows PySem.Builtin PySem.Builtin.Str
def yD:∀l:List (Str×Tok),Vals ((l.map (·.1)).map V.str) (strValues l)
 | []=>.nil
 | p::l=>.cons ⟨p.2,rfl⟩ (yD l)
section
variable {X:Cx}
def vT:V->List V->Hp->VK->Prop:=fun x vs H Q=>mS x fun z=>match vs with
 | [.str y]=>(y.length==0)=false/\z.length<=1000/\∀l,H l=none->Q (.ref l) (aH H l (.lst ((Txt.split z y).map V.str)))
 | _=>False
def En:Qo X "str.split" vT:=by
 intro pins s σ H x vs v us Q I rx rv h;unfold vT at h;rw[jG]at h;obtain⟨z,rfl,h⟩:=h;split at h
 ·rename_i y;obtain⟨hy,hz,q⟩:=h;obtain⟨t,rfl⟩:=rx;obtain⟨uu,rfl,u,rfl⟩:=rv.one;have fin:∀(l:List (Str×Tok))(k:Nat),l.map (·.1)=Txt.split z y->EP X pins σ Q (.ref s.heap.objs.size) {s with heap:=s.heap.push {cls:=.type "list",data:=.seq (strValues l).toArray },toks:=k }:=fun l k e=>by
   refine⟨.ref s.heap.objs.size,_,I.laid (t':=k) (o:=.lst ((Txt.split z y).map V.str)) (fun b ob q=>fX _ q) (bY _) ?_,rfl,q _ (I.hok.fresh (bY _))⟩;refine⟨?_,strValues l,0,by rw[<- e];exact yD l,Heap.get?_push_size _ rfl⟩;rw[gZ];have:=split_le z y;exact fO this (fO (show z.length+2<=1002 by omega) Zd)
  have hsz:z.length<=sizeLine:=gE hz;have WM:(partsBetween z (occurrences z y 0 z.length (z.length+1)) y.length).length<=sizeLine:=by
   rw[length_partsBetween];have:=StrLaws.occ_length_le z y 0 z.length (z.length+1);exact fO (show _<=1002 by omega) Zd
  cases h1:(decide (z.length<y.length)||decide (strKind z<strKind y))
  ·cases hf:(occurrences z y 0 z.length (z.length+1)).isEmpty
   ·refine call_meets F.slot_str_split (typeIs_str _ _ _) F.entry_str_split (F.args_str_split_2 _ _) (meets_str_split_sep z y t u h1 hy hf hsz WM) ?_;show wants (EP X pins σ Q) X.xe _ {s with toks:=_,heap:=s.heap.push {cls:=.type "list",data:=.seq (strsFrom s.toks (partsBetween z (occurrences z y 0 z.length (z.length+1)) y.length)).toArray } };rw[strsFrom_eq];exact fin (numbered s.toks _) _ ((numbered_texts _ _).trans ((if_neg (ne_true_of_eq_false h1)).trans (if_neg (ne_true_of_eq_false hf))).symm)
   ·exact call_meets F.slot_str_split (typeIs_str _ _ _) F.entry_str_split (F.args_str_split_2 _ _) (meets_str_split_not_found z y t u h1 hy hf)
     (fin [(z,t)] s.toks ((if_neg (ne_true_of_eq_false h1)).trans (if_pos hf)).symm)
  ·exact call_meets F.slot_str_split (typeIs_str _ _ _) F.entry_str_split (F.args_str_split_2 _ _) (meets_str_split_cannot_occur z y t u h1)
    (fin [(z,t)] s.toks (if_pos h1).symm)
 ·exact h.elim
def R.fh:XM X "str.split" vT:=⟨En⟩
end
open PySem PySem.Spec PyProof.Rows
def Ph(a b:Str):ltCps b.cps.toList a.cps.toList=false↔a.cps.toList<=b.cps.toList:=by
 rw[ltCps_eq,decide_eq_false_iff_not];exact Iff.rfl
def Eo{a b:Str}(h:a.cps.toList=b.cps.toList):a=b:=by rw[tI a,tI b,h]
def fT:∀(l:List Str)(p:Str),risingS p l=true->(p::l).Pairwise (fun a b=>a.cps.toList<=b.cps.toList)
 | [],p,_=>List.pairwise_singleton _ _
 | x::r,p,h=>by
  unfold risingS at h;rw[Bool.and_eq_true]at h;obtain⟨h1,h2⟩:=h;have ih:=fT r x h2;have OS:p.cps.toList<=x.cps.toList:=(Ph p x).mp (by simpa using h1);refine pairwise_cons.mpr ⟨fun y hy=>?_,ih⟩;rcases mem_cons.mp hy with rfl|hy
  ·exact OS
  ·exact le_trans OS ((pairwise_cons.mp ih).1 y hy)
def kR:∀(l:List Str),sortedS l=true->l.Pairwise (fun a b=>a.cps.toList<=b.cps.toList)
 | [],_=>List.Pairwise.nil
 | x::r,h=>fT r x h
def lK:∀(l m:List Str),l.Perm m->l.Pairwise (fun a b=>a.cps.toList<=b.cps.toList)->m.Pairwise (fun a b=>a.cps.toList<=b.cps.toList)->l=m
 | [],m,hp,_,_=>(nil_perm.mp hp).symm
 | a::l,[],hp,_,_=>(perm_nil.mp hp)
 | a::l,b::m,hp,h1,h2=>by
  obtain⟨p1,p2⟩:=pairwise_cons.mp h1;obtain⟨q1,q2⟩:=pairwise_cons.mp h2;have e:a=b:=by
   have ma:a∈b::m:=hp.mem_iff.mp sN;have mb:b∈a::l:=hp.mem_iff.mpr sN;rcases mem_cons.mp ma with h|h
   ·exact h
   ·rcases mem_cons.mp mb with h'|h'
    ·exact h'.symm
    ·exact Eo (List.le_antisymm (p1 b h') (q1 a h))
  subst e;rw[lK l m (List.Perm.cons_inv hp) p2 q2]
def tO(ss:List Str):List Str:=ss.mergeSort (fun a b=>decide (a.cps.toList<=b.cps.toList))
def mV(ss:List Str):(tO ss).Perm ss:=List.mergeSort_perm _ _
def vU(ss:List Str):(tO ss).Pairwise (fun a b=>a.cps.toList<=b.cps.toList):=by
 have:=List.pairwise_mergeSort (le:=fun(a b:Str)=>decide (a.cps.toList<=b.cps.toList)) (fun a b c h1 h2=>decide_eq_true (le_trans (of_decide_eq_true h1) (of_decide_eq_true h2))) (fun a b=>by
  rcases List.le_total a.cps.toList b.cps.toList with h|h
  ·simp[h]
  ·simp [h]) ss
 exact this.imp fun h=>of_decide_eq_true h
def Pi{ss UO:List Str}(hp:UO.Perm ss)(hs:sortedS UO=true):UO=tO ss:=
 lK _ _ (hp.trans (mV ss).symm) (kR _ hs) (vU ss)
def rA(ss:List Str):(tO ss).length=ss.length:=(mV ss).length_eq
def pP:∀ {vs:List Value}{ss:List Str},StrsAre vs ss->Vals (ss.map V.str) vs
 | _,_,.nil=>.nil
 | _,_,.cons x t h=>.cons ⟨t,rfl⟩ (pP h)
def TK(H H':Hp):Prop:=∀a xs,H a=some (.tup xs)->H' a=some (.tup xs)
def TK.trans{H H1 H2:Hp}(a:TK H H1)(b:TK H1 H2):TK H H2:=fun p xs h=>b p xs (a p xs h)
def Kp.tk{H H':Hp}{d b:Addr}(D:Dk H d b)(k:Kp d b H H'):TK H H':=fun a xs h=>k _ _ h (D.tup_ne h).1 (D.tup_ne h).2
section
variable {X:Cx}{es:List Expr}{t:TA}{pos:Pos}
def Lc(t:TA):TE:=fun σ H Q=>t σ H fun xs H1=>xs.length<=1000/\∀p H',Same H1 H'->H' p=some (.tup xs)->Q (.ref p) H'
def Ji{x1}(h:PA X es t):PE X (.Tuple es x1 pos) (Lc t):=by
 intro pins s σ H Q I hq;refine wpAny_Tuple_spliced (bH (h pos pins s σ H _ I hq) fun us s1 ⟨xs,H1,I1,r,z,q⟩=>⟨by rw[<- r.length];exact gE z,?_⟩);have hf:H1 s1.heap.objs.size=none:=I1.hok.fresh (bY _);refine⟨.ref s1.heap.objs.size,aH H1 s1.heap.objs.size (.tup xs),I1.laid (t':=s1.toks) (fun b u e=>fX _ e) (bY _) ?_,rfl,q _ _ (aF hf) aA⟩;exact⟨gE z,us,r,⟨_,Heap.get?_push_size _ rfl,rfl,_,rfl⟩⟩
def R.aj{x1}(h:XA X es t):XE X (.Tuple es x1 pos) (Lc t):=⟨Ji h.h⟩
end
abbrev Z:=Addr×Str×Int
def Wr(x y:Z):Prop:=x.2.1.cps.toList<=y.2.1.cps.toList
def ZAt(H:Hp)(zs:List Z):Prop:=∀z∈zs,H z.1=some (.tup [.str z.2.1,.int z.2.2])
def ZAt.same{H H':Hp}{zs:List Z}(h:ZAt H zs)(s:Same H H'):ZAt H' zs:=fun z hz=>s _ _ (h z hz)
def rB(zs:List Z):List V:=zs.map fun z=>V.ref z.1
section
variable {X:Cx}{pins:List (Addr×Obj)}{σ:St}{H:Hp}{s:Shared}
def pQ:∀ {xs:List V}{vs:List Value} (i:Nat),Vals xs vs->i<xs.length->∀x,xs[i]?=some x->RelV x (vs.getD i Value.none)
 | x::xs,v::vs,0,.cons r rs,_,y,hy=>by
  cases hy;exact r
 | x::xs,v::vs,i+1,.cons r rs,hi,y,hy=>by
  have:=pQ i rs (by simpa using hi) y (by simpa using hy);simpa using this
def Tf(K:W.Frag):List V->Hp->VK->Prop:=fun vs H Q=>match vs with
 | [.ref a]=>∃zs:List Z,SqL K H a (rB zs)/\ZAt H zs/\(zs.map (·.2.1)).Nodup/\zs.length<64/\∀l WN,H l=none->WN.Perm zs->WN.Pairwise Wr->Q (.ref l) (aH H l (.lst (rB WN)))
 | _=>False
end
def mW:∀ {ks:List Str}{vs:List Value},vs.length=ks.length->(∀(i:Nat)(v:Value),vs[i]?=some v->∃x t,ks[i]?=some x/\v=Value.str x t)->StrsAre vs ks
 | [],[],_,_=>.nil
 | k::ks,v::vs,hl,h=>by
  obtain⟨x,t,e1,rfl⟩:=h 0 v rfl;cases e1;exact .cons k t (mW (by simpa using hl) fun i v hv=>by simpa using h (i+1) v (by simpa using hv))
section
variable {prog:Program}{w:World}{A:Around}{E:Value->Shared->Prop}{s:Shared}
def tP{d:Addr}{ss:List Str}{kvs:List (bJ×Value)}{Q:Value->Shared->Prop}(hh:A.handled=none)(lo:(d==sysModules)=false)(hd:s.heap.DictOf (aW prog w) d kvs)(hk:kvs.map (·.1)=ss.map Sum.inr)(GR:ss.length<64)(h:∀(h1 h':Heap)(tk:Nat)(out:Array Value)(e:Nat),(∀b ob,s.heap.get? b=some ob->h1.get? b=some ob)->(∀b ob,h1.get? b=some ob->h'.get? b=some ob)->h'.get? h1.objs.size=some (seqObj "list" out e)->StrsAre out.toList (tO ss)->Q (.ref h1.objs.size) {s with heap:=h',toks:=tk }) :
  wpAny (model prog w) A (call (.builtin "sorted") [.ref d]) Q E s:=by
 have hl:kvs.length=ss.length:=by simpa using congrArg length hk
 obtain⟨ep,hm⟩:=hd.dictAt;apply Calls.call_function_entry kind_sorted plain_sorted entry_sorted (args_sorted1 _);unfold Builtin.«sorted»;apply wpAny_bind (m:=checkCount "sorted" 1 1 _);apply wpAny_pure;apply wpAny_bind;refine W.kdu_collect (W.kdl_dict lo) hh hm (by rw[hl];exact fO (le_of_lt GR) Zd) fun h1 tk acc k1 yb=>?_;have hS:StrsAre acc.toList ss:=mW (by rw[Array.length_toList,yb.1,hl]) fun i v hv=>by
  obtain⟨k,x,e1,e2⟩:=yb.2 i v (by simpa using hv);have e3:(kvs.map (·.1))[i]?=some k:=by rw[jS,e1];rfl
  rw[hk,jS]at e3;cases e4:ss[i]? with
  | none=>rw[e4]at e3;cases e3
  | some y=>
   rw[e4]at e3;cases e3;rcases bA (show jT (Sum.inr y) v=true from e2) with⟨_,_,e,_⟩|⟨z,t,e,ev⟩
   ·cases e
   ·cases e;exact⟨_,t,rfl,ev⟩
 generalize acc.toList=vs at hS;have MQ:vs.length<64:=by rw[hS.length];exact GR
 apply wpAny_bind;apply wpAny_newList
 ·have g2:(h1.push (seqObj "list" vs.toArray 0)).get? h1.objs.size=some (seqObj "list" vs.toArray 0):=Heap.get?_push_size _ rfl;apply wpAny_bind;apply wpAny_holding;refine wpAny_call_entry slot_list_sort ⟨_,g2,rfl⟩ entry_list_sort (list_sort_treeK (s:={s with heap:=h1.push (seqObj "list" vs.toArray 0),toks:=tk }) strKind_oneLt g2 hS.keysOf (fun v₁ v₂ rest e=>keyKind_strs (by rw[<- e];exact hS)) MQ fun uo hp hs=>⟨_,rfl,wpAny_pure ⟨_,rfl,?_⟩⟩) (args_list_sort _);obtain⟨UO,q1,q2,q3⟩:=sorted_out_str hS hp hs;obtain⟨e,he⟩:=sortedHeap_at (out:=(arrOf uo).map (·.2)) g2;refine h h1 _ _ _ e k1 (fun b ob QM=>?_) he (Pi q2 q3▸q1);have X1:=Heap.lt_size QM;rw[sortedHeap_old (ne_of_lt X1) (by rw[size_push'];exact lt_succ_of_lt X1)];exact fX _ QM
 ·exact fO (le_of_lt MQ) Zd
end
section
variable {X:Cx}
def mY:List V->Hp->VK->Prop:=fun vs H Q=>match vs with
 | [.ref a]=>∃(ss:List Str)(kvs:List (bJ×V)),Rd H a (.dK kvs)/\kvs.map (·.1)=ss.map Sum.inr/\ss.length<64/\∀l,H l=none->Q (.ref l) (aH H l (.lst ((tO ss).map V.str)))
 | _=>False
def Ad(GS:X.calm=true):CallR X (.builtin "sorted") mY:=by
 intro pins s σ H xs us Q I r h;unfold mY at h;split at h
 ·rename_i a;obtain⟨ss,kvs,hq,hk,GR,q⟩:=h;obtain⟨u,rfl,ru⟩:=hI r;cases ru;obtain⟨_,hd,vs,rel,dd⟩:=lI I.hok hq;refine tP (I.ok.hd GS) hd dd (by rw[<- rel.keys];exact hk) GR fun h1 h' tk out e k1 k he hS=>?_;have I1:=I.kept (t':=s.toks) k1;refine⟨.ref h1.objs.size,_,I1.laid (t':=tk) (o:=.lst ((tO ss).map V.str)) k (bY _) ⟨?_,out.toList,e,pP hS,he⟩,rfl,q _ (I1.hok.fresh (bY _))⟩;rw[gZ,rA];exact fO (le_of_lt GR) Zd
 ·exact h.elim
def R.fi(GS:X.calm=true):XC X (.builtin "sorted") mY:=⟨Ad GS⟩
end
def rC:typeLookup (.type "list") "keys"=pure none:=am_miss_of_fast (by kernel_rfl)
def iM:plainId "dict.update.loop"=true:=by decide +kernel
def pR:entryFor table "dict.update.loop"=some Builtin.«dict.update.loop»:=entryFor_of_tree (by kernel_rfl)
section
variable {prog:Program}{w:World}{A:Around}{E:Value->Shared->Prop}{s:Shared}
def Jj{a:Addr}{o:Obj}{xs:Array Value}{k:Nat}{Q:Option Value->Shared->Prop}(hx:s.heap.get? a=some o)(hc:o.cls=.type "list")(QN:o.data=.seq xs k)(hd:o.dict=none)(hA:A.handled=none)(h:∀h' tk,(∀b ob,s.heap.get? b=some ob->h'.get? b=some ob)->Q none {s with heap:=h',toks:=tk }):wpAny (model prog w) A (getAttr? (.ref a) "keys") Q E s:=by
 obtain⟨c,dct,dat,sl⟩:=o;simp only at hc QN hd;subst hc QN hd;obtain⟨hp,g,d,tk,os⟩:=s;have hT:∀JU,(⟨hp,g,d,JU,os⟩:Shared).TypeIs (.ref a) "list":=fun _=>⟨_,hx,rfl⟩
 have f1:=sub_AttributeError;have f3:=F.slot_list_getattribute.lookup;have f4:=F.slot_list_getattribute.bind (.ref a);have f5:=am_list_getattr_none;have f6:=rC;unfold getAttr? getAttrBy? getAttrBy
 repeat (any_goals (first|assumption|exact hT _|((with_reducible show wpAny _ _ (call (Value.builtin "list.__getattribute__") _ _) _ _ _);refine call_meets F.slot_list_getattribute (hT _) am_entry_list_getattribute (F.args_list_getattribute_2 _ _) (meets_getattribute_miss_list a xs k sl "keys" _ f6 Zk) ⟨hx,hA,fun h' JU e EO=>?_⟩)|wp_step))
 obtain⟨t',u',he⟩:=EO.there;show wpAny _ _ (getattributeRaised _ _ _ _ _ _ _) _ _ _;unfold getattributeRaised;repeat (any_goals (first|assumption|wp_step))
 exact h _ _ EO.keeps
def Ld(h:Heap)(v:Value)(q:bJ×V):Prop:=∃a u x,v=Value.ref a/\IsTup h a #[u,x]/\RelV (kV q.1) u/\RelV q.2 x
def Ep(hh:A.handled=none){I l d:Addr}{its:List Value}{qs:List (bJ×V)}{R:Result->Shared->Prop}{res:Value}(hIl:I≠l)(WO:I≠d)(QO:l≠d) :
  ∀(k i:Nat)(s:Shared)(kvs:List (bJ×V))(vs:List (bJ×Value))(z:Int),its.length-i=k->i<=its.length->qs.length=its.length->s.heap.IsListIter I l i->s.heap.IsList l its.toArray->(∀(j:Nat)(v:Value)(q:bJ×V),its[j]?=some v->qs[j]?=some q->Ld s.heap v q) →
  (∀(j:Nat)(v:Value)(a:Addr),its[j]?=some v->v=Value.ref a->a≠I/\a≠d)->s.heap.DictOf (aW prog w) d vs->KV kvs vs->kvs.length+k<=1000 →
  (∀h' tk pd,(∀b ob,b≠I->b≠d->s.heap.get? b=some ob->h'.get? b=some ob)->h'.DictOf (aW prog w) d pd->KV (dI kvs (qs.drop i)) pd->R (.ok (.ret res)) {s with heap:=h',toks:=tk }) →
  codeAny (model prog w) A (.builtin "dict.update.loop" ⟨[.ref d,.ref I,.int z 0,res],[]⟩) R s:=by
 intro k;induction k with
 | zero=>
  intro i s kvs vs z hk hi MR hit hl hp O3 hd rel hz hR;obtain rfl:i=its.length:=by omega
  refine codeAny_builtin pR ?_;rw[Around.under_plainId iM _];show wpAny _ A.in1 (pyNext (.ref I)>>=_) _ _ s;apply wpAny_bind;refine wpAny_pyNext_list_end hh hit hl Zs fun h' eb=>?_;show wpAny _ A.in1 (Builtin.Dict.addKeywords d []>>=_) _ _ _;apply wpAny_bind;apply wpAny_pure;apply wpAny_pure;refine hR h' s.toks vs (fun b ob hb _ e=>eb b ob hb e) (hd.extBut eb WO.symm) ?_;rw[<- MR,List.drop_length];exact rel
 | succ k ih=>
  intro i s kvs vs z hk hi MR hit hl hp O3 hd rel hz hR;have X1:i<its.length:=by omega
  obtain⟨v,hv⟩:∃v,its[i]?=some v:=⟨its[i],by simp[X1]⟩;obtain⟨q,hq⟩:∃q,qs[i]?=some q:=⟨qs[i],by simp[MR,X1]⟩;obtain⟨a,u,x,rfl,⟨ob,LF,ON,n,hod⟩,ru,rx⟩:=hp i v q hv hq;obtain⟨na,nd⟩:=O3 i _ a hv rfl;refine codeAny_builtin pR ?_;rw[Around.under_plainId iM _];show wpAny _ A.in1 (pyNext (.ref I)>>=_) _ _ s;apply wpAny_bind;refine wpAny_pyNext_list_item hit hl (x:=.ref a) (by simpa using hv) fun h' WQ sb=>?_;have QP:h'.get? a=some ob:=(sb.2 a na).trans LF;have LY:h'.DictOf (aW prog w) d vs:=hd.extBut sb.extBut WO.symm;apply wpAny_bind;apply wpAny_holding;apply wpAny_bind;apply wpAny_tryCatch;unfold Builtin.Dict.pairItems;apply wpAny_bind;refine wpAny_typeOf (T:="tuple") ⟨ob,QP,ON⟩ ?_;rw[if_pos Zd];apply wpAny_bind;refine wpAny_seqItems QP hod ?_;apply wpAny_pure;show wpAny _ _ (holding [u,x] (dictSet d u x)) _ _ _;apply wpAny_holding;have MQ:vs.length<=sizeLine:=by rw[<- rel.length];exact gE Zo
  refine wpAny_dictSet_pairs (s:={s with heap:=h' }) (pF ru) LY (fun h2 hd2 YY=>?_) MQ;apply wpAny_pure;refine⟨plainId_quiet iM _,?_⟩;have YZ:=dQ kvs q.1 q.2;have ex:∀b o,b≠I->b≠d->s.heap.get? b=some o->h2.get? b=some o:=fun b o b1 b2 e=>(YY.2 b b2).trans ((sb.2 b b1).trans e)
  refine ih (i+1) _ (cG kvs q.1 q.2) (stored vs q.1 x) _ Zo Zo MR ?_ ?_ ?_ O3 hd2 (rel.put q.1 rx) Zo fun h3 tk pd k3 hd3 WR=>?_
  ·exact WQ.at fun o e=>(YY.2 I WO).trans e
  ·obtain⟨o,e,r⟩:=hl;exact⟨o,ex l o hIl.symm QO e,r⟩
  ·intro j v q' hj sh;obtain⟨a',u',x',rfl,⟨o',og,r'⟩,rr⟩:=hp j v q' hj sh;obtain⟨n1,n2⟩:=O3 j _ a' hj rfl;exact⟨a',u',x',rfl,⟨o',ex a' o' n1 n2 og,r'⟩,rr⟩
  ·refine hR h3 tk pd (fun b o b1 b2 e=>k3 b o b1 b2 (ex b o b1 b2 e)) hd3 ?_;have e1:qs.drop i=q::qs.drop (i+1):=by
    rw[List.drop_eq_getElem_cons Zo]
    congr 1
    have:qs[i]?=some qs[i]:=kI Zo;rw[this]at hq;exact Option.some.inj hq
   rw[e1];exact WR
def tQ(hh:A.handled=none){l:Addr}{o:Obj}{n:Nat}{its:List Value}{qs:List (bJ×V)}{Q:Value->Shared->Prop}(Wz:s.heap.get? l=some o)(UP:o.cls=.type "list")(QO:o.data=.seq its.toArray n)(WT:o.dict=none)(MR:qs.length=its.length)(hp:∀(j:Nat)(v:Value)(q:bJ×V),its[j]?=some v->qs[j]?=some q->Ld s.heap v q)(hz:its.length<=1000)(h:∀h' tk pd,(∀b ob,s.heap.get? b=some ob->h'.get? b=some ob)->h'.DictOf (aW prog w) s.heap.objs.size pd->KV (dI [] qs) pd->Q (.ref s.heap.objs.size) {s with heap:=h',toks:=tk }) :
  wpAny (model prog w) A (call (.type "dict") [.ref l]) Q E s:=by
 refine callType_codes (Q₁:=fun obj s₁=>obj=.ref s.heap.objs.size/\s₁={s with heap:=s.heap.push {cls:=.type "dict",data:=.dict #[] } }) F.kt_called_dict (F.kt_typeCall_dict_1 _) F.entry_dict_init (kt_code_dict_new _ ⟨rfl,rfl⟩) ?_;rintro obj s₁ ⟨rfl,rfl⟩;have MS:(s.heap.push {cls:=.type "dict",data:=.dict #[] }).DictOf (aW prog w) s.heap.objs.size []:=Heap.DictOf.new s.heap;have OT:(s.heap.push {cls:=.type "dict",data:=.dict #[] }).get? l=some o:=fX _ Wz;refine⟨MS.typeIs,F.args_dict_init_2 _ _,?_⟩;unfold Builtin.«dict.__init__»;apply wpAny_bind;unfold Builtin.Dict.selfAndRest;apply wpAny_bind;refine wpAny_notOrdered_dict MS.typeIs ?_;show wpAny _ _ (pure (s.heap.objs.size,[Value.ref l])) _ _ _;apply wpAny_pure;show wpAny _ _ (Builtin.Dict.updateFrom "dict.__init__" s.heap.objs.size (.ref l) [] .none) _ _ _;unfold Builtin.Dict.updateFrom;apply wpAny_bind;refine wpAny_typeOf (T:="list") ⟨o,OT,UP⟩ ?_;rw[if_pos Zd];apply wpAny_bind;refine Jj OT UP QO WT hh fun h1 tk k1=>?_;rw[if_pos (show(none:Option Value).isNone=true from rfl)];apply wpAny_bind;apply wpAny_rule;have ur:h1.get? l=some o:=k1 _ _ OT;have hL2:h1.IsList l its.toArray:=⟨o,ur,UP,n,QO⟩;have hd2:h1.DictOf (aW prog w) s.heap.objs.size []:=by
  obtain⟨oo,es,ep,ho,r⟩:=MS;exact⟨oo,es,ep,k1 _ _ ho,r⟩
 have JV:s.heap.objs.size<h1.objs.size:=by
  obtain⟨oo,es,ep,ho,r⟩:=hd2;exact Heap.lt_size ho
 have Za:l<s.heap.objs.size:=Heap.lt_size Wz;apply wpAny_bind;refine wpAny_pyIter_list (s:={s with heap:=h1,toks:=tk }) hL2 ?_;apply wpAny_pure;refine⟨plainId_quiet iM _,?_⟩;refine Ep (A:=A.in1) (s:={s with heap:=h1.push {cls:=.type "list_iterator",data:=.fields #[.ref l,.int 0 0] },toks:=tk }) (its:=its) (qs:=qs) (l:=l) hh (ne_of_gt (lt_trans Za JV)) (ne_of_gt JV) (ne_of_lt Za) its.length 0 [] [] 0 rfl (zero_le _) MR ⟨_,Heap.get?_push_size _ rfl,rfl,rfl⟩ ?_ ?_ ?_ (hd2.push _) .nil (by simpa using hz) ?_
 ·exact⟨o,fX _ ur,UP,n,QO⟩
 ·intro j v q hj hq;obtain⟨a,u,x,rfl,⟨ob,LF,r⟩,rr⟩:=hp j v q hj hq;exact⟨a,u,x,rfl,⟨ob,fX _ (k1 _ _ (fX _ LF)),r⟩,rr⟩
 ·intro j v a hj e;obtain⟨q,hq⟩:∃q,qs[j]?=some q:=by
   have:j<its.length:=(Zgs.mp hj).1;exact⟨qs[j],by simp[MR,this]⟩
  obtain⟨a',u,x,e',⟨ob,LF,r⟩,rr⟩:=hp j v q hj hq;rw[e]at e';cases e';have:=Heap.lt_size LF;exact⟨ne_of_lt (lt_trans this JV),ne_of_lt this⟩
 ·intro h' JU pd k' LY WU;refine⟨rfl,h h' JU pd (fun b ob e=>?_) LY WU⟩;have:=Heap.lt_size e;exact k' b ob (ne_of_lt (lt_trans this JV)) (ne_of_lt this) (fX _ (k1 _ _ (fX _ e)))
end
section
variable {X:Cx}
abbrev W:=Addr×bJ×V
def Tg(H:Hp)(zs:List W):Prop:=∀z∈zs,H z.1=some (.tup [kV z.2.1,z.2.2])
def rD(K:W.Frag):List V->Hp->VK->Prop:=fun vs H Q=>match vs with
 | [.ref a]=>∃zs:List W,SqL K H a (zs.map fun z=>V.ref z.1)/\Tg H zs/\zs.length<=1000/\∀d,H d=none->Q (.ref d) (aH H d (.dK (dI [] (zs.map (·.2)))))
 | _=>False
def Er(GS:X.calm=true):CallR X (.type "dict") (rD X.K):=by
 intro pins s σ H xs us Q I r h;unfold rD at h;split at h
 ·rename_i a;obtain⟨zs,hq,hz,Zb,q⟩:=h;obtain⟨u,rfl,ru⟩:=hI r;cases ru;obtain⟨its,r1,p1,_⟩:=I.list hq;obtain⟨o,n,ho,hc,OU,hd⟩:=p1;have hl:zs.length=its.length:=by
   have:=r1.length;rw[gZ]at this;exact this
  refine tQ (I.ok.hd GS) ho hc hd OU (qs:=zs.map (·.2)) (by rw[gZ];exact hl) (fun j v q' hj sh=>?_) Zo fun h' tk pd k hd rel=>?_
  ·rw[jS]at sh;cases QQ:zs[j]? with
   | none=>rw[QQ]at sh;cases sh
   | some z=>
    rw[QQ]at sh;cases sh;have e:=hz z (lN QQ);obtain⟨_,u6,r2,it⟩:=(show ObjOk X.prog X.w H s.heap z.1 (.tup [kV z.2.1,z.2.2]) from I.hok _ _ e);have hj2:j<zs.length:=(Zgs.mp QQ).1;have rv:RelV (V.ref z.1) (its.getD j Value.none):=pQ j r1 (by rw[gZ];exact hj2) _ (by rw[jS,QQ];rfl);have ev:its.getD j Value.none=v:=by rw[getD_eq_getElem?_getD,hj];rfl
    rw[ev]at rv;cases rv
    cases r2 with
    | cons a1 r3=>
     cases r3 with
     | cons a2 r4=>
      cases r4;exact⟨z.1,_,_,rfl,it,a1,a2⟩
  ·have hf:H s.heap.objs.size=none:=I.hok.fresh (bY _);refine⟨.ref s.heap.objs.size,_,I.laid (t':=tk) (o:=.dK (dI [] (zs.map (·.2)))) k (bY _) ⟨?_,?_,pd,rel,hd⟩,rfl,q _ hf⟩
   ·have:=jE (zs.map (·.2)) [];rw[gZ]at this;exact gE (by simp at this;omega)
   ·have hb:=I.big;exact beq_eq_false_iff_ne.mpr (ne_of_gt hb)
 ·exact h.elim
def R.dz{K:W.Frag}(GS:X.calm=true)(hK:X.K=K:=by rfl):XC X (.type "dict") (rD K):=hK▸⟨Er GS⟩
end
def Ui(a:Addr)(o:Obj)(kvs:List (bJ×V)):It:=
 ⟨fun i H=>H a=some (.frz o (.dK kvs))/\i<kvs.length,fun i H x H'=>H'=H/\(kvs.map fun q=>kV q.1)[i]?=some x,fun i H=>H a=some (.frz o (.dK kvs))/\kvs.length<=i⟩
def yE(a:Addr)(o:Obj)(kvs:List (bJ×V)):tG (Ui a o kvs) (kvs.map fun q=>kV q.1) (fun H=>H a=some (.frz o (.dK kvs))):=
 ⟨fun i H hi e=>⟨e,by rwa [gZ]at hi⟩,fun i H x H' _ _ y=>y,fun H e=>⟨e,by rw[gZ];exact bY _⟩⟩
section
variable {X:Cx}{pins:List (Addr×Obj)}{σ:St}{H:Hp}{s:Shared}{a:Addr}{o:Obj}{kvs:List (bJ×V)}
def vV{P:Program}{w:World}{h:Heap}(ok:HOk P w H h)(e:H a=some (.frz o (.dK kvs))):h.get? a=some o/\(a==sysModules)=false/\∃vs ep,KV kvs vs/\(∃es,o.data=.dict es ep)/\h.DictAt (aW P w) a vs ep:=by
 obtain⟨h1,z,hd,vs,rel,dd⟩:=(show ObjOk P w H h a (.frz o (.dK kvs)) from ok a _ e);obtain⟨ep,d2⟩:=dd.dictAt;obtain⟨o',es,g,r1,r2,r3⟩:=id d2;rw[h1]at g;cases g;exact⟨h1,hd,vs,ep,rel,⟨es,r2⟩,d2⟩
def Es{P:Program}{w:World}{K:W.Frag}{tg:Expr}(a it:Addr){ep:Nat}(he:∃es,o.data=.dict es ep):qH P w K tg (Ui a o kvs) [it] it (fun i h=>h.IsKeyIter it a i kvs.length ep) where
 mem:=by simp
 obj:=fun i h st b hb=>by
  obtain rfl:b=it:=by simpa using hb
  obtain⟨ob,e,c,d⟩:=st;exact⟨ob,e,fun v z=>by rw[d]at z;cases z⟩
 keep:=fun i h h' st k=>st.at fun ob e=>k it Zs ob e
 item:=by
  intro X hP hw hK hc i pins s σ H E I hf st hg;subst hP hw hK;obtain⟨ef,hi⟩:=hg;obtain⟨h1,lo,vs,MB,rel,⟨OM,e'⟩,dd⟩:=vV I.hok ef;obtain⟨es,e0⟩:=he;obtain rfl:MB=ep:=by
   rw[e0]at e';cases e';rfl
  have hl:=rel.length;obtain⟨⟨k,x⟩,hx⟩:∃p,vs[i]?=some p:=⟨vs[i],kI Zo⟩;have hk:(kvs.map (·.1))[i]?=some k:=by rw[rel.keys,jS,hx];rfl
  obtain⟨f0,f1,f2,f3,f4,f5⟩:=hf it Zs;rw[hl]at st;refine wpAny_pyNext_dict_item st dd hx fun key h' sf uo sb=>?_
  have I1:Inv X pins σ H {s with heap:=h' }:=I.turned (t':=s.toks) (fun b ob hb e=>(sb.2 b hb).trans e) f0 f1 f3 f4 f5;obtain⟨ob,e,c,d⟩:=id uo;have rk:RelV (kV k) key:=by
   rcases bA (show jT k key=true from sf) with⟨j,t,rfl,rfl⟩|⟨z,t,rfl,rfl⟩
   ·exact⟨t,rfl⟩
   ·exact⟨t,rfl⟩
  refine⟨key,rfl,oU (s:={s with heap:=h' }) e c d Zd ⟨kV k,H,I1,rk,⟨rfl,?_⟩,by rw[hl];exact uo,fun b hb=>(hf b hb).1⟩⟩;rw[jS]at hk ⊢;cases z:kvs[i]? with
  | none=>rw[z]at hk;cases hk
  | some q=>rw[z]at hk;cases hk;rfl
 done:=by
  intro X hP hw hK hc i pins s σ H E I hf st hg;subst hP hw hK;obtain⟨ef,hi⟩:=hg;obtain⟨h1,lo,vs,MB,rel,⟨OM,e'⟩,dd⟩:=vV I.hok ef;obtain⟨es,e0⟩:=he;obtain rfl:MB=ep:=by
   rw[e0]at e';cases e';rfl
  have hl:=rel.length;rw[hl]at st;obtain⟨f0,f1,f2,f3,f4,f5⟩:=hf it Zs;exact wpAny_pyNext_dict_end (I.ok.hd hc) st dd (List.getElem?_eq_none Zo) fun h' eb=>⟨rfl,I.turned (t':=s.toks) (fun b ob hb e=>eb b ob hb e) f0 f1 f3 f4 f5⟩
 self:=fun _ _ _ _ _ st h=>wpAny_pyIter_keyiter st h
def Inv.freeze(I:Inv X pins σ H s)(e:H a=some (.dK kvs)):∃ob,s.heap.get? a=some ob/\Inv X pins σ (aH H a (.frz ob (.dK kvs))) s:=by
 obtain⟨z,hd,vs,rel,dd⟩:=Kw I.hok e;obtain⟨ob,es,ep,g,r⟩:=id dd;refine⟨ob,g,?_⟩;have:=I.write (t':=s.toks) (h':=s.heap) (x:=a) (e:=a) (o:=.frz ob (.dK kvs)) (by rw[e];exact True.intro) (.inl rfl) (fun b u _ q=>q) ⟨ob,g⟩ ⟨g,z,hd,vs,rel,dd⟩;exact this
def Inv.thaw(I:Inv X pins σ H s)(e:H a=some (.frz o (.dK kvs)))(hn:∀o' u,X.H₀ a≠some (.frz o' u)):Inv X pins σ (aH H a (.dK kvs)) s where
 ok:=I.ok
 os:=I.os
 bare:=I.bare
 base:=by
  have na:∀b,H b=none->b≠a:=fun b z q=>by rw[q,e]at z;cases z
  refine⟨I.base.keep,I.base.slot,fun b ob q n hx=>?_,I.base.there,fun b xs q=>?_,fun b ob u q=>?_,fun b ps q=>?_⟩
  ·have:=I.base.free b ob q n hx;rw[aE (na b this)];exact this
  ·have:=I.base.tups b xs q;rw[aE (bF this e nofun)];exact this
  ·have:=I.base.frzs b ob u q;by_cases hb:b=a
   ·subst hb;exact absurd q (hn ob u)
   ·rw[aE hb];exact this
  ·obtain⟨more,q2⟩:=I.base.tbls b ps q;exact⟨more,by rw[aE (bF q2 e nofun)];exact q2⟩
 loc:=I.loc
 cell:=I.cell
 free:=by
  have z:=I.free;rw[aE (fun q=>by rw[q,e]at z;cases z)];exact z
 freeC:=fun x c h=>by
  have z:=I.freeC x c h;rw[aE (fun q=>by rw[q,e]at z;cases z)];exact z
 pin:=fun p hp=>by
  obtain⟨p1,p2,p3⟩:=I.pin p hp;refine⟨p1,?_,p3⟩;rw[aE (fun q=>by rw[q,e]at p2;cases p2)];exact p2
 hok:=by
  intro b u hb;by_cases q:b=a
  ·subst q;rw[aA]at hb;cases hb;exact(show ObjOk X.prog X.w H s.heap b (.frz o (.dK kvs)) from I.hok b _ e).2
  ·rw[aE q]at hb;refine(I.hok b u hb).stay (fun c v _ h=>h) (fun c h=>?_) fun c xs h=>?_
   ·rw[aE (bF h e nofun)];exact h
   ·rw[aE (bF h e nofun)];exact h
 len:=I.len
def Ti(te:TE):TI:=fun σ H R=>te σ H fun x H1=>mR x fun a=>∃kvs,H1 a=some (.dK kvs)/\∀o,R (Ui a o kvs) (aH H1 a (.frz o (.dK kvs)))
def Pj{tg l:Expr}{tl:TE}(hl:PE X l tl):PI X tg l (Ti tl):=by
 intro pins s σ H R I h;refine bH (hl pins s σ H _ I h) fun v s1 ⟨x,H1,I1,r1,q1⟩=>?_
 dsimp only at q1;rw[cI]at q1;obtain⟨a,rfl,kvs,e,q⟩:=q1;cases r1;obtain⟨ob,g,I2⟩:=I1.freeze e;obtain⟨h1,lo,vs,ep,rel,he,dd⟩:=vV I2.hok (aA (a:=a));have hn:(aH H1 a (.frz ob (.dK kvs))) s1.heap.objs.size=none:=I2.hok.fresh (bY _);refine wpAny_pyIter_dict lo dd ?_;refine⟨s1.heap.objs.size,[s1.heap.objs.size],_,_,_,rfl,I2.kept (t':=s1.toks) fun b o e=>fX _ e,Es a _ he,⟨_,Heap.get?_push_size _ rfl,rfl,?_⟩,fun b hb=>?_,q ob⟩
 ·rw[rel.length];rfl
 ·obtain rfl:b=s1.heap.objs.size:=by simpa using hb
  exact I2.fpOk (bY _) hn
def Le(t:TE):TE:=fun σ H Q=>t σ H fun v H2=>∃a kvs o,(∃GU,H a=some (.dK GU))/\H2 a=some (.frz o (.dK kvs))/\Q v (aH H2 a (.dK kvs))
def Jk{e:Expr}{t:TE}(he:PE X e t):PE X e (Le t):=by
 intro pins s σ H Q I h;refine bH (he pins s σ H _ I h) fun u s1 ⟨v,H2,I2,rv,a,kvs,o,⟨GU,e0⟩,e2,q⟩=>⟨v,_,I2.thaw e2 (fun o' u' z=>?_),rv,q⟩
 have:=I.base.frzs a o' u' z;rw[e0]at this;cases this
end
def Tj(K:W.Frag)(te:TE)(f:Str):TE:=fun σ H Q=>te σ H fun x H1=>mR x fun a=>∃C dx fs v,H1 a=some (.ins C dx fs)/\Cls K C/\NoAttr K C f/\fs.lookup f=some v/\Q v H1
def Lf(K:W.Frag)(ta tv:TE)(f:Str):TS:=fun D σ H=>tv σ H fun y H1=>ta σ H1 fun x H2=>mR x fun a=>∃C dx fs,H2 a=some (.ins C dx fs)/\Cls K C/\NoAttr K C f/\fs.length<1000/\D.nx σ (aH H2 a (.ins C dx (bC f y fs)))
section
variable {X:Cx}{e o value:Expr}{f:Str}{pos pos':Pos}{te ta tv:TE}{K:W.Frag}
def Jl(he:PE X e te)(hb:attributeBase e f X.env (eval e X.env)=eval e X.env):PE X (.Attribute e f pos) (Tj X.K te f):=by
 intro pins s σ H Q I h;refine xC hb (bH (he pins s σ H _ I h) fun u s1 ⟨x,H1,I1,rx,q1⟩=>?_);dsimp only at q1;rw[cI]at q1;obtain⟨a,rfl,C,dx,fs,v,ea,c,n,l,q⟩:=q1;obtain rfl:u=Value.ref a:=rx;exact vB I1 ea c n l fun u' s2 I2 ru=>⟨v,H1,I2,ru,q⟩
def Jm(ha:PE X o ta)(hv:PE X value tv)(hs:swapsWith value (some (.Attribute o f pos')) pos.line X.env=pure false):PS X (.Assign [.Attribute o f pos'] value pos) (Lf X.K ta tv f):=by
 intro pins s σ H D I h;refine plainObj_wpAny_Assign_Attribute (bH (hv pins s σ H _ I h) fun u s1 ⟨y,H1,I1,ry,q⟩=>bH (ha pins s1 σ H1 _ I1 q) fun ov s2 ⟨x,H2,I2,rx,q1⟩=>?_) hs;dsimp only at q1;rw[cI]at q1;obtain⟨a,rfl,C,dx,fs,ea,c,n,l,q2⟩:=q1;obtain rfl:ov=Value.ref a:=rx;exact vC I2 ea c n l ry fun s3 I3=>⟨σ,_,I3,q2⟩
end
structure eW(P:Program)(w:World)(K:W.Frag)(mg:Str->Option Value)(base:Heap)(n:Nat)(C:Addr)(m:Str)(ps:List Str)(sp:Sp):Prop where
 ex:∃f fd,Cls K C/\Hv K C m f/\gC P w K mg base pJ n f fd ps sp/\Binds K fd ps []
structure rE(P:Program)(w:World)(K:W.Frag)(mg:Str->Option Value)(base:Heap)(n:Nat)(x:Str)(C:Addr)(ps:List Str)(dvs:List V)(sp:Sp):Prop where
 ex:∃f fd ds,mg x=some (.ref C)/\Mk K C f/\gC P w K mg base pJ n f fd ps sp/\Binds K fd ps ds/\Vals dvs ds
def yF(C:Addr)(m:Str)(sp:Sp)(ta:TE)(t:TA):TE:=fun σ H Q=>ta σ H fun x H1=>mR x fun a=>∃dx fs,H1 a=some (.ins C dx fs)/\fs.lookup m=none/\t σ H1 fun vs H2=>sp (.ref a::vs) H2 Q E0
section
variable {X:Cx}{e o:Expr}{es:List Expr}{m x:Str}{p pos apos:Pos}{ta:TE}{t:TA}{C:Addr}{n:Nat}{ps:List Str}{sp:Sp}{dvs:List V}
def Et{pl:Sem Bool}(he:PE X o ta)(c:eW X.prog X.w X.K X.mg X.base n C m ps sp)(hr:Room n X.A)(ha:PA X (e::es) t)(hs:aJ e=true)(uq:(backTo pos (starEach es X.env)).any (·.1)=false)(ht:eval (.Call (.Attribute o m apos) (e::es) [] pos) X.env=(do
   let ov←eval o X.env
   standAt apos.atName
   let (f,first)←holding [ov] (getMethod ov m pl)
   callWith pos f first (backTo pos (starEach (e::es) X.env)) (backToKw pos (keywordEach [] X.env)))) :
  PE X (.Call (.Attribute o m apos) (e::es) [] pos) (yF C m sp ta t):=by
 obtain⟨f,fd,cl,hm,F,hb⟩:=c.ex;intro pins s σ H Q I h;refine W.methodCall_KW (pl:=pl) (bH (he pins s σ H _ I h) fun u s1 ⟨x,H1,I1,rx,q1⟩=>?_) ht;dsimp only at q1;rw[cI]at q1;obtain⟨a,rfl,dx,fs,ea,l,q⟩:=q1;obtain rfl:u=Value.ref a:=rx;refine gB I1 ea cl hm l ?_;refine W.callWith_K (first:=[.ref a]) (h₀:=X.base) I.ok.mod.kin hm.kp (bH (ha pos pins s1 σ H1 _ I1 q) fun us s2 ⟨vs,H2,I2,r,q2⟩=>⟨I2.kIn,?_⟩) (aZ hs) uq;exact vH (us:=.ref a::us) (vs:=.ref a::vs) (dvs:=[]) (ds:=[]) F hr hb .nil sZ I2 (.cons rfl r) (by rw[append_nil];exact q2)
def Ae{pl:Sem Bool}(he:PE X o ta)(c:eW X.prog X.w X.K X.mg X.base n C m ps sp)(hr:Room n X.A)(ht:eval (.Call (.Attribute o m apos) [] [] pos) X.env=(do
   let ov←eval o X.env
   standAt apos.atName
   let (f,first)←holding [ov] (getMethod ov m pl)
   callWith pos f first (backTo pos (starEach [] X.env)) (backToKw pos (keywordEach [] X.env)))) :
  PE X (.Call (.Attribute o m apos) [] [] pos) (yF C m sp ta qK):=by
 obtain⟨f,fd,cl,hm,F,hb⟩:=c.ex;intro pins s σ H Q I h;refine W.methodCall_KW (pl:=pl) (bH (he pins s σ H _ I h) fun u s1 ⟨x,H1,I1,rx,q1⟩=>?_) ht;dsimp only at q1;rw[cI]at q1;obtain⟨a,rfl,dx,fs,ea,l,q⟩:=q1;obtain rfl:u=Value.ref a:=rx;refine gB I1 ea cl hm l ?_;exact W.callWith_K0 (first:=[.ref a]) I1.kIn hm.kp (vH (us:=[.ref a]) (vs:=[.ref a]) (dvs:=[]) (ds:=[]) F hr hb .nil sZ I1 (.cons rfl .nil) (by rw[append_nil];exact q))
end
structure FunD(K:W.Frag)(x qual:Str)(st:Stmt)(dv:Value)(f:Addr)(fd:FuncData):Prop where
 ex:∃(oc:Value)(od:Option Addr)(kV doc pm:Value)(an:Option Addr)(cdv ct:Value)(osl:Array (Option Value)),
  fd=W.fnOf x qual (aX st) (aM st) (aD st) dv kV doc pm an cdv ct/\K.lookup f=some ⟨oc,od,.func fd,osl⟩/\W.codeIn K cdv qual=true
section
variable {P:Program}{w:World}{K:W.Frag}{mg:Str->Option Value}{base:Heap}{x qual:Str}{st:Stmt}{dv:Value}{f C:Addr}{fd:FuncData}{N ps:List Str}{k:Nat}{sp:Sp}
def FunD.go(F:FunD K x qual st dv f fd)(S:aG N ps (aD st))(len:∀vs H Q E,sp vs H Q E->vs.length=ps.length)(o9:∀(cdv:Value)(A:Around)(outer:List Env)(s:Shared)(H:Hp)(vs:List V)(Q:VK)(E:XK),Room k (A.deeper (envOfC qual (aD st) s.heap.objs.size f cdv))->sp vs H Q E →
   ∃t,XB (dH pJ P w K mg base N qual (aD st) f cdv A outer s H E).nox (aM st) t/\t {nx:=fun _ H'=>Q .non H',rt:=Q } (start N vs) H):gC P w K mg base pJ (k+1) f fd ps sp:=by
 obtain⟨oc,od,kV,doc,pm,an,cdv,ct,osl,rfl,lk,ya⟩:=F.ex;refine Ck lk ya S len fun A outer s H vs Q E hr ER=>?_;obtain⟨t,h,q⟩:=o9 cdv A outer s H vs Q E hr ER;exact⟨t,h.h.nox,q⟩
structure MethAt(K:W.Frag)(C:Addr)(m qual:Str)(st:Stmt)(ps:List Str):Prop where
 cl:Cls K C
 ex:∃f fd,Fun K m qual st f fd/\Hv K C m f/\Binds K fd ps []
def MethAt.go{m:Str}(D:MethAt K C m qual st ps)(S:aG N ps (aD st))(len:∀vs H Q E,sp vs H Q E->vs.length=ps.length)(o9:∀(f:Addr)(cdv:Value)(A:Around)(outer:List Env)(s:Shared)(H:Hp)(vs:List V)(Q:VK)(E:XK),Room k (A.deeper (envOfC qual (aD st) s.heap.objs.size f cdv))->sp vs H Q E →
   ∃t,XB (dH pJ P w K mg base N qual (aD st) f cdv A outer s H E).nox (aM st) t/\t {nx:=fun _ H'=>Q .non H',rt:=Q } (start N vs) H):eW P w K mg base (k+1) C m ps sp:=by
 obtain⟨f,fd,F,hm,hb⟩:=D.ex;exact⟨f,fd,D.cl,hm,F.go S len (o9 f),hb⟩
structure ClsAt(K:W.Frag)(mg:Str->Option Value)(x:Str)(C:Addr)(qual:Str)(st:Stmt)(ps:List Str)(dvs:List (List V)):Prop where
 ex:∃f fd dv,mg x=some (.ref C)/\FunD K "__init__" qual st dv f fd/\Mk K C f/\∀d∈dvs,∃ds,Binds K fd ps ds/\Vals d ds
def ClsAt.go{dvs:List (List V)}(D:ClsAt K mg x C qual st ps dvs)(S:aG N ps (aD st))(len:∀vs H Q E,sp vs H Q E->vs.length=ps.length)(o9:∀(f:Addr)(cdv:Value)(A:Around)(outer:List Env)(s:Shared)(H:Hp)(vs:List V)(Q:VK)(E:XK),Room k (A.deeper (envOfC qual (aD st) s.heap.objs.size f cdv))->sp vs H Q E →
   ∃t,XB (dH pJ P w K mg base N qual (aD st) f cdv A outer s H E).nox (aM st) t/\t {nx:=fun _ H'=>Q .non H',rt:=Q } (start N vs) H):∀d∈dvs,rE P w K mg base (k+1) x C ps d sp:=by
 intro d hd;obtain⟨f,fd,dv,e,F,M,hb⟩:=D.ex;obtain⟨ds,b,v⟩:=hb d hd;exact⟨f,fd,ds,e,M,F.go S len (o9 f),b,v⟩
end
namespace R
section
variable {X:Cx}{e o i value:Expr}{es:List Expr}{m x f:Str}{p pos pos' apos:Pos}{te ta tv td ty:TE}{t:TA}{C:Addr}{n:Nat}{ps:List Str}{sp:Sp}{dvs:List V}{K:W.Frag}{tg:Expr}
def wD(hl:XE X e te):XI X tg e (Ti te):=⟨Pj hl.h⟩
def iy(he:XE X e te):XE X e (Le te):=⟨Jk he.h⟩
def al(he:XE X e te)(hK:X.K=K:=by rfl)(hb:attributeBase e f X.env (eval e X.env)=eval e X.env:=by rfl):XE X (.Attribute e f pos) (Tj K te f):=hK▸⟨Jl he.h hb⟩
def av(ha:XE X o ta)(hv:XE X value tv)(hK:X.K=K:=by rfl)(hs:swapsWith value (some (.Attribute o f pos')) pos.line X.env=pure false:=by rfl):XS X (.Assign [.Attribute o f pos'] value pos) (Lf K ta tv f):=hK▸⟨Jm ha.h hv.h hs⟩
def bq(hu:X.A.units+1<cLine)(ho:XE X o td)(hi:XE X i ty)(hs:Nz i:=by exact fun _ _=>rfl):XE X (.Subscript o i pos) (Kx td ty):=⟨Ih hu ho.h hi.h hs⟩
def br{pl:Sem Bool}(c:eW X.prog X.w X.K X.mg X.base n C m ps sp)(hr:Room n X.A)(he:XE X o ta)(ha:XA X (e::es) t)(hs:aJ e=true:=by rfl)(h2:es.all aJ=true:=by rfl)(ht:eval (.Call (.Attribute o m apos) (e::es) [] pos) X.env=(do
   let ov←eval o X.env
   standAt apos.atName
   let (f,first)←holding [ov] (getMethod ov m pl)
   callWith pos f first (backTo pos (starEach (e::es) X.env)) (backToKw pos (keywordEach [] X.env))):=by rfl):XE X (.Call (.Attribute o m apos) (e::es) [] pos) (yF C m sp ta t):=⟨Et he.h c hr ha.h hs (cV h2) ht⟩
def bf{pl:Sem Bool}(c:eW X.prog X.w X.K X.mg X.base n C m ps sp)(hr:Room n X.A)(he:XE X o ta)(ht:eval (.Call (.Attribute o m apos) [] [] pos) X.env=(do
   let ov←eval o X.env
   standAt apos.atName
   let (f,first)←holding [ov] (getMethod ov m pl)
   callWith pos f first (backTo pos (starEach [] X.env)) (backToKw pos (keywordEach [] X.env))):=by rfl):XE X (.Call (.Attribute o m apos) [] [] pos) (yF C m sp ta qK):=⟨Ae he.h c hr ht⟩
def ck(c:rE X.prog X.w X.K X.mg X.base n x C ps [] sp)(hr:Room (n+1) X.A)(hg:Gl X x)(ha:XA X (e::es) t)(K5:(x==("__debug__":Str))=false:=by decide)(hs:aJ e=true:=by rfl)(h2:es.all aJ=true:=by rfl) :
  XE X (.Call (.Name x p) (e::es) [] pos) (xE C sp [] E0 t):=by
 obtain⟨f,fd,ds,hm,M,F,hb,hd⟩:=c.ex;exact⟨Hx M F hr hg hm hb hd sZ ha.h K5 (aZ hs) (cV h2)⟩
def ic(c:rE X.prog X.w X.K X.mg X.base n x C ps dvs sp)(hr:Room (n+1) X.A)(hg:Gl X x)(K5:(x==("__debug__":Str))=false:=by decide) :
  XE X (.Call (.Name x p) [] [] pos) (xE C sp dvs E0 qK):=by
 obtain⟨f,fd,ds,hm,M,F,hb,hd⟩:=c.ex;exact⟨Cj M F hr hg hm hb hd sZ K5⟩
end
end R
def vW(prs:List (Str×Int)):List (bJ×V):=prs.map fun q=>(Sum.inr q.1,V.int q.2)
def Qs(prs:List (Str×Int))(n:Str):Int:=(prs.lookup n).getD 0
def tR(prs:List (Str×Int)):(vW prs).map (·.1)=(prs.map (·.1)).map Sum.inr:=by
 unfold vW;rw[map_map,map_map];rfl
def yG(n:Str):∀(prs:List (Str×Int)),aT (vW prs) (Sum.inr n)=(prs.lookup n).map V.int
 | []=>rfl
 | q::r=>by
  unfold vW;rw[map_cons,lookup_cons];by_cases h:n=q.1
  ·subst h;rw[bO rfl];simp
  ·have hb:(n==q.1)=false:=beq_eq_false_iff_ne.mpr h;rw[bP (by intro z;exact h (Sum.inr.inj z).symm),hb];exact yG n r
def kS:∀(more kvs:List (bJ×V)),(more.map (·.1)).Nodup->(∀k∈more.map (·.1),aT kvs k=none)->dI kvs more=kvs++more
 | [],kvs,_,_=>(append_nil _).symm
 | p::r,kvs,hn,h=>by
  obtain⟨h1,h2⟩:=nodup_cons.mp hn;show dI (cG kvs p.1 p.2) r=_;have e0:aT kvs p.1=none:=h p.1 Zs;rw[kS r _ h2 fun k hk=>?_,hU _ e0]
  ·simp
  ·rw[Ct,if_neg (fun(z:k=p.1)=>h1 (by dsimp only;rw[<- z];exact hk))];exact h k (sM _ hk)
def kT:∀ {l:List Str},l.Nodup->(l.map (Sum.inr:Str->bJ)).Nodup
 | [],_=>nodup_nil
 | a::l,h=>by
  obtain⟨h1,h2⟩:=nodup_cons.mp h;refine nodup_cons.mpr ⟨fun z=>?_,kT h2⟩;obtain⟨b,hb,e⟩:=Zmm.mp z;cases e;exact h1 hb
def Af{prs:List (Str×Int)}(h:(prs.map (·.1)).Nodup):dI [] (vW prs)=vW prs:=by
 rw[kS _ _ (by rw[tR];exact kT h) fun _ _=>rfl];rfl
def Eu(prs:List (Str×Int)):List (Str×Int):=((tO (prs.map (·.1))).filter fun n=>decide (0<Qs prs n)).map fun n=>(n,Qs prs n)
def mZ{n:Str}:∀ {prs:List (Str×Int)},n∈prs.map (·.1)->∃a,prs.lookup n=some a
 | q::r,h=>by
  rw[lookup_cons];by_cases e:n=q.1
  ·subst e;exact⟨q.2,Zs⟩
  ·have hb:(n==q.1)=false:=beq_eq_false_iff_ne.mpr e;rw[hb];rcases mem_cons.mp h with z|z
   ·exact absurd z e
   ·exact mZ z
structure Vo(K:W.Frag)(C:Addr):Prop where
 cl:Cls K C
 nA:NoAttr K C "amounts"
structure Pk(C:Addr)(H:Hp)(p:Addr)(prs:List (Str×Int)):Prop where
 ex:∃dx d,H p=some (.ins C dx [("amounts",.ref d)])/\H d=some (.dK (vW prs))
 nd:(prs.map (·.1)).Nodup
def Pl(H:Hp)(r:V)(prs:List (Str×Int)):Prop:=(r=.non/\prs=[])∨∃l zs,r=.ref l/\H l=some (.lst (rB zs))/\ZAt H zs/\zs.map (·.2)=prs
def tS(C:Addr):Sp:=fun vs H Q _=>∃(p:Addr)(prs:List (Str×Int)),vs=[.ref p]/\Pk C H p prs/\prs.length<64 ∧
 ∀(l:Addr)(zs:List Z)(H':Hp),Same H H'->H l=none->H' l=some (.lst (rB zs))->ZAt H' zs->zs.map (·.2)=Eu prs->Q (.ref l) H'
def wz(zs:List Z):List W:=zs.map fun z=>(z.1,Sum.inr z.2.1,V.int z.2.2)
def Pn(zs:List Z):((wz zs).map fun z=>V.ref z.1)=rB zs:=by
 unfold wz rB;rw[map_map];rfl
def Tk{H:Hp}{zs:List Z}(h:ZAt H zs):Tg H (wz zs):=fun z hz=>by
 obtain⟨y,hy,rfl⟩:=Zmm.mp hz;exact h y hy
def Po(zs:List Z):(wz zs).map (·.2)=vW (zs.map (·.2)):=by
 unfold wz vW;rw[map_map,map_map];rfl
def Vp(y:V):bC "amounts" y []=[(("amounts":Str),y)]:=rfl
def Vq(x y:V):bC "amounts" y [(("amounts":Str),x)]=[(("amounts":Str),y)]:=by
 unfold bC;rw[if_pos rfl]
def iC(y:V):([(("amounts":Str),y)]:List (Str×V)).lookup ("amounts":Str)=some y:=by
 rw[lookup_cons];simp
section
variable {M:Model}{A:Around}{E:Value->Shared->Prop}{s:Shared}
def SD(oe zj:Obj):Prop:=zj.dict=oe.dict/\∀vs,oe.data=.fields vs->∃pd,zj.data=.fields pd/\pd[2]?=vs[2]?
def Ev(e:Addr)(oe:Obj)(h':Heap):Prop:=∃zj,h'.get? e=some zj/\SD oe zj
def Ew{base:Heap}{env:Env}{outer:List Env}{L e:Addr}{oe:Obj}{vs:Array Value}{head a0:Value}{JW:Bool}{Q:Unit->Shared->Prop}(EU:A.frames=some (env::outer))(hl:s.heap.FunFrames base (env::outer))(hf:env.frame=some L)(he:s.heap.get? e=some oe)(MT:base.StaysIn s.heap)(QR:base.get? e=none)(hd:oe.data=.fields vs)(hsz:1<vs.size)(h0:vs[0]?=some a0)(h:∀h',Heap.NotedW base (env::outer) e oe.cls a0 (rawInt L) s.heap h'->Ev e oe h'->Q () {s with heap:=h' }) :
  wpAny M A (do let a←frameOf env;let pl←entryPlaceOf L JW;let b←EntryCells.newEntry head a .none (rawInt L) .none pl;setField (.ref e) 1 b) Q E s:=by
 have WV:e∉(env::outer).filterMap (·.frame):=fun hm=>by
  obtain⟨_,o,ho,pf⟩:=hl.mem hm;rw[he]at ho;cases ho;exact pf vs hd
 refine wpAny_bind (wpAny_frameOf_fun EU hl hf fun k1 s1=>wpAny_bind (wpAny_entryPlaceOf fun pl uq=>?_));unfold EntryCells.newEntry newFields;refine wpAny_bind (wpAny_newObj_type ?_ (uq.sizeOk5 _ _ _ _ _));have e1:k1.get? e=some oe:=(s1.2.1 e WV).trans he;have b1:base.StaysIn k1:=fun b o zk=>(s1.2.1 b fun hm=>by rw[(hl.mem hm).1]at zk;cases zk).trans (MT b o zk)
 have e2:=fX (h:=k1) {cls:=.type "traceback",dict:=none,data:=.fields ([head,.ref L,.none,rawInt L,.none]++(if pl.isEmpty then replicate 6 Value.none else pl)).toArray } e1;have Zc:k1.objs.size≠e:=ne_of_gt (Heap.lt_size e1);have d3:=Obj.data_mapFields hd (·.setIfInBounds 1 (Value.ref k1.objs.size));have e3:=Heap.get?_update_self (Obj.mapFields (·.setIfInBounds 1 (Value.ref k1.objs.size))) e2 (Obj.isFreed_of_fields d3);have t3:=(Heap.get?_update_other (k1.push {cls:=.type "traceback",dict:=none,data:=.fields ([head,.ref L,.none,rawInt L,.none]++(if pl.isEmpty then replicate 6 Value.none else pl)).toArray }) (Obj.mapFields (·.setIfInBounds 1 (Value.ref k1.objs.size))) (Ne.symm Zc)).trans (Heap.get?_push_size k1 rfl);have kp:∀b o,b≠e->k1.get? b=some o->((k1.push {cls:=.type "traceback",dict:=none,data:=.fields ([head,.ref L,.none,rawInt L,.none]++(if pl.isEmpty then replicate 6 Value.none else pl)).toArray }).update e (Obj.mapFields (·.setIfInBounds 1 (Value.ref k1.objs.size)))).get? b=some o:=fun b o JL hb=>by rw[Heap.get?_update_other _ _ (Ne.symm JL)];exact fX _ hb
 have nr:∀b o,s.heap.get? b=some o->(∀vs,o.data≠.fields vs)->b≠e:=fun b o hb pf q=>by rw[q,he]at hb;cases hb;exact pf vs hd
 refine wpAny_setField e2 hd hsz (h _ ⟨fun b o zk=>kp b o (fun q=>by rw[q,QR]at zk;cases zk) (b1 b o zk),hl.of_keeps fun b o hb pf=>?_,?_,fun b o hb pf=>?_⟩ ⟨_,e3,?_⟩)
 ·obtain⟨sl,hs⟩:=s1.2.2 b o hb;exact⟨_,kp b _ (nr b o hb pf) hs,rfl⟩
 ·exact⟨_,_,k1.objs.size,_,_,e3,⟨Obj.cls_mapFields _ _,by rw[Array.getElem?_setIfInBounds_ne Zd];exact h0⟩,d3,by simp[hsz],b1.fresh,Zc,t3,rfl,by first|(simp;done)|(rcases uq with rfl|⟨_,_,_,_,_,_,_,rfl⟩<;>simp)⟩
 ·obtain⟨sl,hs⟩:=s1.2.2 b o hb;exact⟨sl,kp b _ (nr b o hb pf) hs⟩
 ·refine⟨by obtain⟨oc,od,odt,osl⟩:=oe;cases hd;rfl,fun pd hv=>⟨_,d3,?_⟩⟩;rw[hd]at hv;cases hv;exact Array.getElem?_setIfInBounds_ne Zd
def Tl{base:Heap}{env:Env}{outer:List Env}{L e:Addr}{oe:Obj}{cls a0:Value}{Q:Unit->Shared->Prop}(EU:A.frames=some (env::outer))(hl:s.heap.FunFrames base (env::outer))(hf:env.frame=some L)(he:s.heap.get? e=some oe)(ht:s.heap.TracedW base e cls a0)(MT:base.StaysIn s.heap)(QR:base.get? e=none)(h:∀h',Heap.NotedW base (env::outer) e cls a0 (rawInt L) s.heap h'->Ev e oe h'->Q () {s with heap:=h' }):wpAny M A (noteFrame (.ref e) env) Q E s:=by
 obtain⟨zj,vs,T,oT,ts,QS,⟨GK,h0⟩,hd,h1,UQ,QT,hT,LM,h3⟩:=ht;rw[he]at QS;cases QS;subst GK;unfold noteFrame;simp only [hf];refine wpAny_bind (wpAny_field he hd h1 ?_);rw[if_pos (show(Value.ref T != Value.none)=true from by simp)];refine wpAny_bind (wpAny_field hT LM h3 ?_);rw[if_neg (show ¬ ((Value.none==rawInt L)=true) from by simp[rawInt])];refine wpAny_bind (wpAny_setField hT LM (Array.getElem?_eq_some_iff.mp h3).1 ?_);have ot:∀b,b≠T->(s.heap.update T (Obj.mapFields (·.setIfInBounds 3 Value.none))).get? b=s.heap.get? b:=fun b hb=>Heap.get?_update_other _ _ (Ne.symm hb)
 have nr:∀b o,s.heap.get? b=some o->(∀vs,o.data≠.fields vs)->b≠T:=fun b o hb pf q=>by rw[q,hT]at hb;cases hb;exact pf ts LM
 refine Ew EU (hl.of_keeps fun b o hb pf=>⟨o,(ot b (nr b o hb pf)).trans hb,rfl⟩) hf ((ot e (Ne.symm QT)).trans he) (fun b o zk=>(ot b fun q=>by rw[q,UQ]at zk;cases zk).trans (MT b o zk)) QR hd (Array.getElem?_eq_some_iff.mp h1).1 h0
  fun h' ⟨x1,x2,x3,x4⟩ hD=>h h' ⟨x1,x2,x3,fun b o hb pf=>x4 b o ((ot b (nr b o hb pf)).trans hb) pf⟩ hD
def Lg{base:Heap}{l:List Env}{e:Addr}{oe:Obj}{cls a0 fl:Value}{Q:Unit->Shared->Prop}(MT:base.StaysIn s.heap)(hl:s.heap.FunFrames base l)(he:s.heap.get? e=some oe)(ht:s.heap.TracedAtW base e cls a0 fl)(h:∀h',base.StaysIn h'->h'.FunFrames base l->h'.TracedW base e cls a0->(∀b o,s.heap.get? b=some o->(∀vs,o.data≠.fields vs)->h'.get? b=some o)->h'.get? e=some oe->Q () {s with heap:=h' }):wpAny M A (setFlight (.ref e) none) Q E s:=by
 obtain⟨zj,vs,T,oT,ts,QS,GK,hd,h1,UQ,QT,hT,LM,h3⟩:=ht;rw[he]at QS;cases QS;have z3:3<ts.size:=(Array.getElem?_eq_some_iff.mp h3).1;have ot:∀b,b≠T->(s.heap.update T (Obj.mapFields (·.setIfInBounds 3 ((none:Option Addr).elim Value.none fun f=>rawInt f)))).get? b=s.heap.get? b:=fun b hb=>Heap.get?_update_other _ _ (Ne.symm hb)
 have nr:∀b o,s.heap.get? b=some o->(∀vs,o.data≠.fields vs)->b≠T:=fun b o hb pf q=>by rw[q,hT]at hb;cases hb;exact pf ts LM
 unfold setFlight;refine wpAny_bind (wpAny_field he hd h1 ?_);rw[if_pos (show(Value.ref T != Value.none)=true from by simp)];refine wpAny_setField hT LM z3 (h _ (fun b o zk=>(ot b fun q=>by rw[q,UQ]at zk;cases zk).trans (MT b o zk)) (hl.of_keeps fun b o hb pf=>⟨o,(ot b (nr b o hb pf)).trans hb,rfl⟩) ?_ (fun b o hb pf=>(ot b (nr b o hb pf)).trans hb) ((ot e (Ne.symm QT)).trans he));exact⟨oe,vs,T,_,_,(ot e (Ne.symm QT)).trans he,GK,hd,h1,UQ,QT,Heap.get?_update_self _ hT (Obj.isFreed_of_fields (Obj.data_mapFields LM _)),Obj.data_mapFields LM _,by simp[z3]⟩
def Pp{base:Heap}{env:Env}{outer:List Env}{L e:Addr}{oe:Obj}{vs:Array Value}{a0:Value}{Q:Unit->Shared->Prop}(EU:A.frames=some (env::outer))(hl:s.heap.FunFrames base (env::outer))(hf:env.frame=some L)(he:s.heap.get? e=some oe)(MT:base.StaysIn s.heap)(QR:base.get? e=none)(hd:oe.data=.fields vs)(h1:vs[1]?=some .none)(h0:vs[0]?=some a0)(h:∀h',Heap.LeftW base (env::outer) e oe.cls a0 s.heap h'->Ev e oe h'->Q () {s with heap:=h' }):wpAny M A (leaving env (.ref e)) Q E s:=by
 unfold leaving noteFrame;simp only [hf];refine wpAny_bind (wpAny_bind (wpAny_field he hd h1 ?_));rw[if_neg Zd];refine Ew EU hl hf he MT QR hd (Array.getElem?_eq_some_iff.mp h1).1 h0 fun k ⟨x1,x2,x3,x4⟩ ⟨zj,y1,y2⟩=>?_;exact Lg (s:={s with heap:=k }) x1 x2 y1 x3 fun h' z1 z2 z3 z4 z5=>h h' ⟨z1,z2,z3,fun b o hb pf=>let ⟨sl,q⟩:=x4 b o hb pf;⟨sl,z4 b _ q pf⟩⟩ ⟨zj,z5,y2⟩
end
section
variable {P:Program}{w:World}{H H0:Hp}{h h1 h2:Heap}{a:Addr}{o:HO}
def ObjOk.has(x:ObjOk P w H h a o):∃ob,h.get? a=some ob:=by
 cases o with
 | lst xs=>obtain⟨_,_,_,_,e⟩:=x;exact⟨_,e⟩
 | tup xs=>obtain⟨_,_,_,ob,e,_⟩:=x;exact⟨_,e⟩
 | dK kvs=>obtain⟨_,_,_,_,ob,_,_,e,_⟩:=x;exact⟨_,e⟩
 | dT kvs=>obtain⟨_,_,_,_,ob,_,_,e,_⟩:=x;exact⟨_,e⟩
 | set S n=>obtain⟨ob,_,_,_,e,_⟩:=x;exact⟨_,e⟩
 | ins C dx fs=>obtain⟨_,_,_,e,_⟩:=x;exact⟨_,e⟩
 | own y=>exact x
 | xd fs=>obtain⟨_,⟨ob,_,_,e,_⟩,_⟩:=x;exact⟨_,e⟩
 | rng lo hi=>obtain⟨_,_,_,e⟩:=x;exact⟨_,e⟩
 | frz ob u=>exact⟨_,x.1⟩
 | tbl ps=>exact⟨_,x⟩
 | met f y=>exact⟨_,x⟩
 | ext φ=>exact x.2.1
def HOk.none_of(x:HOk P w H h)(e:h.get? a=none):H a=none:=by
 cases q:H a with
 | none=>rfl
 | some u=>
  obtain⟨ob,z⟩:=(x a u q).has;rw[e]at z;cases z
def vX{fs JA:List Addr}{s0:Heap}(un:Un fs [] H0 H s0 h1)(hok:HOk P w H h1)(hh:∀b∈JA,b∈fs∨(s0.get? b=none/\H b=none))(QU:∀b∈fs,b∈JA)(EU:∀b∈fs,H0 b=none/\∃o,s0.get? b=some o/\∀vs,o.data≠.fields vs)(hB:(W.hideAll h1 JA).StaysIn h2)(hS:∀b o,h1.get? b=some o->(∀vs,o.data≠.fields vs)->∃sl,h2.get? b=some {o with slots:=sl }):Un fs [] H0 H s0 h2/\HOk P w H h2:=by
 have kp:∀b ob,h1.get? b=some ob->b∉JA->h2.get? b=some ob:=fun b ob q n=>hB b ob (W.hideAll_get _ q n)
 have nh:∀b ob,s0.get? b=some ob->b∉fs->b∉JA:=fun b ob q n z=>by
  rcases hh b z with y|y
  ·exact n y
  ·rw[y.1]at q;cases q
 have sl:∀b ob,s0.get? b=some ob->b∈fs->∃sl,h2.get? b=some {ob with slots:=sl }:=fun b ob q hb=>by
  obtain⟨h0,o',q',nf⟩:=EU b hb;rw[q]at q';cases q';obtain⟨sl,e⟩:=un.slot b ob q h0 hb Zs;obtain⟨MH,e2⟩:=hS b {ob with slots:=sl } e nf;exact⟨MH,e2⟩
 refine⟨⟨fun b ob q n hb hx=>kp b ob (un.keep b ob q n hb hx) (nh b ob q hb),fun b ob q n hb hx=>sl b ob q hb,un.free,fun b ob q hx=>?_,un.tups,un.frzs,un.tbls⟩,fun b u e=>?_⟩
 ·by_cases hb:b∈fs
  ·obtain⟨_,z⟩:=sl b ob q hb;exact⟨_,z⟩
  ·obtain⟨o',z⟩:=un.there b ob q hx;exact⟨o',kp b o' z (nh b ob q hb)⟩
 ·have nt:∀c v,H c=some v->c∉JA:=fun c v hc z=>by
   rcases hh c z with y|y
   ·obtain⟨h0,o',q',_⟩:=EU c y;rw[un.free c o' q' h0 Zs]at hc;cases hc
   ·rw[y.2]at hc;cases hc
  refine(hok b u e).stay (fun c v hc q=>kp c v q ?_) (fun _ q=>q) fun _ _ q=>q;rcases hc with z|z
  ·rw[z];exact nt b u e
  ·exact nt c _ z
def rF{fs JA:List Addr}{s0:Heap}{T:Addr}{oT:Obj}{ts:Array Value}(un:Un fs [] H0 H s0 h1)(hok:HOk P w H h1)(hh:∀b∈JA,b∈fs∨(s0.get? b=none/\H b=none))(EU:∀b∈fs,H0 b=none/\∃o,s0.get? b=some o/\∀vs,o.data≠.fields vs)(hS:∀b o,h1.get? b=some o->(∀vs,o.data≠.fields vs)->∃sl,h2.get? b=some {o with slots:=sl })(hn:(W.hideAll h1 JA).get? T=none)(hT:h2.get? T=some oT)(hd:oT.data=.fields ts):s0.get? T=none/\H T=none:=by
 by_cases hm:T∈JA
 ·rcases hh T hm with y|y
  ·obtain⟨h0,o',q',nf⟩:=EU T y;obtain⟨sl,e⟩:=un.slot T o' q' h0 y Zs;obtain⟨MH,e2⟩:=hS T _ e nf;rw[hT]at e2;cases e2;exact absurd hd (nf ts)
  ·exact y
 ·have z:h1.get? T=none:=by
   cases q:h1.get? T with
   | none=>rfl
   | some ob=>
    rw[W.hideAll_get _ q hm]at hn;cases hn
  refine⟨?_,hok.none_of z⟩
  cases q:s0.get? T with
  | none=>rfl
  | some ob=>
   obtain⟨o',e⟩:=un.there T ob q Zs;rw[z]at e;cases e
end
def Ws(h:Heap)(a:Addr)(cls fl:Value)(T:Addr):Prop:=
 ∃oe vs a0 oT ts,h.get? a=some oe/\oe.cls=cls/\vs[0]?=some a0/\oe.data=.fields vs/\vs[1]?=some (.ref T)/\T≠a/\h.get? T=some oT/\oT.data=.fields ts/\ts[3]?=some fl
def Wt(h:Heap)(a:Addr)(od:Option Addr):Prop:=∃oe vs,h.get? a=some oe/\oe.data=.fields vs/\(∀dx,od=some dx->oe.dict=some dx)/\(od=none->vs[2]?=some .none)
structure Fly(P:Program)(w:World)(l:List Env)(H0:Hp)(s0:Shared)(H:Hp)(a:Addr)(cls:Value)(od:Option Addr)(fl:Value)(s:Shared):Prop where
 na:s0.heap.get? a=none
 os:s.os=s0.os
 bare:AllBare s.gens
 un:Un (gU l) [] H0 H s0.heap s.heap
 hok:HOk P w H s.heap
 ha:H a=none
 tr:∃T,Ws s.heap a cls fl T/\s0.heap.get? T=none/\H T=none
 dd:Wt s.heap a od
def pS(P:Program)(w:World):Ci:=fun outer H s E e s'=>∃a cls od H',e=Value.ref a/\Fly P w outer H s H' a cls od .none s'/\E cls od H'
section
variable {X:Cx}{pins:List (Addr×Obj)}{σ:St}{H H0:Hp}{s s0:Shared}{a:Addr}{cls fl:Value}{od:Option Addr}{M:Model}{A:Around}{E:Value->Shared->Prop}{Q:Unit->Shared->Prop}
def rG{l:List Env}{env:Env}{b:Addr}(he:env∈l)(hb:env.frame=some b):b∈gU l:=mem_filterMap.mpr ⟨env,he,hb⟩
def Inv.frms(I:Inv X pins σ H s):∀b∈gU X.stack,H b=none/\∃o,s.heap.get? b=some o/\∀vs,o.data≠.fields vs:=fun b hb=>
 ⟨I.stkFree b hb,(I.stack.mem hb).2⟩
def Fly.inv(F:Fly X.prog X.w X.stack H0 s0 H a cls od fl s)(I0:Inv X pins σ H0 s0):Inv X pins σ H s:=I0.call' F.os F.un F.hok F.bare (fun _ z=>nomatch z)
def tT(I0:Inv X pins σ H0 s0)(F:Fly X.prog X.w X.stack H0 s0 H a cls od .none s)(hA:A.frames=some X.stack)(GF:X.stack=X.env::X.outer)(hf:X.env.frame=some X.env.locals)(k:∀s',Fly X.prog X.w X.stack H0 s0 H a cls od (rawInt X.env.locals) s'->Q () s'):wpAny M A (noteFrame (.ref a) X.env) Q E s:=by
 have I:=F.inv I0;obtain⟨T,⟨oe,vs,a0,oT,ts,e1,e2,e3,e4,e5,e6,e7,e8,e9⟩,nT,hT⟩:=F.tr;have JC:∀env∈X.stack,∀b,env.frame=some b->b∈gU X.stack++[a,T]:=fun env he b hb=>mem_append_left _ (rG he hb)
 have hh:∀b∈gU X.stack++[a,T],b∈gU X.stack∨(s0.heap.get? b=none/\H b=none):=fun b hb=>by
  rcases Zma.mp hb with z|z
  ·exact .inl z
  ·rcases mem_cons.mp z with y|y
   ·rw[y];exact .inr ⟨F.na,F.ha⟩
   ·rw[Zms.mp y];exact .inr ⟨nT,hT⟩
 have FD:a∈gU X.stack++[a,T]:=mem_append_right _ sN;have FE:T∈gU X.stack++[a,T]:=mem_append_right _ (sM _ sN);have ff:=W.funFrames_hide I.stack JC;have go:=Tl (M:=M) (A:=A) (E:=E) (Q:=Q) (s:=s) (base:=W.hideAll s.heap (gU X.stack++[a,T])) (env:=X.env) (outer:=X.outer) (L:=X.env.locals) (e:=a) (cls:=cls) (a0:=a0) (by rw[hA,GF]) (by rw[<- GF];exact ff) hf e1
  ⟨oe,vs,T,oT,ts,e1,⟨e2,e3⟩,e4,e5,W.hideAll_none _ FE,e6,e7,e8,e9⟩ (fun b o q=>W.of_hideAll _ q) (W.hideAll_none _ FD) ?_
 ·exact go
 ·rintro h' ⟨k1,k2,⟨zj,pd,T',QV,QW,q1,⟨q2,q3⟩,q4,q5,q6,q7,q8,q9,QX⟩,k4⟩ ⟨WW,d1,d2⟩;obtain⟨u2,QY⟩:=vX F.un F.hok hh (fun b hb=>mem_append_left _ hb) I0.frms k1 k4;obtain⟨n1,n2⟩:=rF F.un F.hok hh I0.frms k4 q6 q8 q9;refine k _ ⟨F.na,F.os,F.bare,u2,QY,F.ha,⟨T',⟨zj,pd,a0,QV,QW,q1,q2,q3,q4,q5,q7,q8,q9,QX⟩,n1,n2⟩,?_⟩;obtain⟨o1,v1,z1,z2,z3,z4⟩:=F.dd;rw[e1]at z1;cases z1;obtain⟨v2,y1,y2⟩:=d2.2 _ z2;exact⟨WW,v2,d1,y1,fun dx zd=>d2.1.trans (z3 dx zd),fun hn=>y2.trans (z4 hn)⟩
def nF(I0:Inv X pins σ H0 s0)(F:Fly X.prog X.w X.stack H0 s0 H a cls od fl s)(k:∀s',Fly X.prog X.w X.stack H0 s0 H a cls od .none s'->Q () s'):wpAny M A (setFlight (.ref a) none) Q E s:=by
 have I:=F.inv I0;obtain⟨T,⟨oe,vs,a0,oT,ts,e1,e2,e3,e4,e5,e6,e7,e8,e9⟩,nT,hT⟩:=F.tr;have JC:∀env∈X.stack,∀b,env.frame=some b->b∈gU X.stack++[a,T]:=fun env he b hb=>mem_append_left _ (rG he hb)
 have hh:∀b∈gU X.stack++[a,T],b∈gU X.stack∨(s0.heap.get? b=none/\H b=none):=fun b hb=>by
  rcases Zma.mp hb with z|z
  ·exact .inl z
  ·rcases mem_cons.mp z with y|y
   ·rw[y];exact .inr ⟨F.na,F.ha⟩
   ·rw[Zms.mp y];exact .inr ⟨nT,hT⟩
 have FE:T∈gU X.stack++[a,T]:=mem_append_right _ (sM _ sN);refine Lg (base:=W.hideAll s.heap (gU X.stack++[a,T])) (l:=X.stack) (cls:=cls) (a0:=a0) (fl:=fl) (fun b o q=>W.of_hideAll _ q) (W.funFrames_hide I.stack JC) e1 ⟨oe,vs,T,oT,ts,e1,⟨e2,e3⟩,e4,e5,W.hideAll_none _ FE,e6,e7,e8,e9⟩ ?_;rintro h' k1 k2 ⟨zj,pd,T',QV,QW,q1,⟨q2,q3⟩,q4,q5,q6,q7,q8,q9,QX⟩ k4 kE;have k5:∀b o,s.heap.get? b=some o->(∀vs,o.data≠.fields vs)->∃sl,h'.get? b=some {o with slots:=sl }:=fun b o q n=>⟨o.slots,k4 b o q n⟩
 obtain⟨u2,QY⟩:=vX F.un F.hok hh (fun b hb=>mem_append_left _ hb) I0.frms k1 k5;obtain⟨n1,n2⟩:=rF F.un F.hok hh I0.frms k5 q6 q8 q9;refine k _ ⟨F.na,F.os,F.bare,u2,QY,F.ha,⟨T',⟨zj,pd,a0,QV,QW,q1,q2,q3,q4,q5,q7,q8,q9,QX⟩,n1,n2⟩,?_⟩;obtain⟨o1,v1,z1,z2,z3,z4⟩:=F.dd;rw[e1]at z1;cases z1;exact⟨oe,v1,kE,z2,z3,z4⟩
def tV{pins:List (Addr×Obj)}{σ0 σ:St}{cls:Value}{P:Program}{w:World}{K:W.Frag}{mg:Str->Option Value}{base:Heap}{N:List Str}{qual:Str}{scope:Scope}{f:Addr}{cd:Value}{A:Around}{outer:List Env}{s s0 s1:Shared}{H H0 H1:Hp}{E:XK}{e t:Addr}{dx:Option Addr}{vs:Array Value}{sl:Array (Option Value)}(I0:Inv (dH (pS P w) P w K mg base N qual scope f cd A outer s H E) pins σ0 H0 s0)(n0:s0.heap.get? e=none)(Ze:H1 e=none)(I:Inv (dH (pS P w) P w K mg base N qual scope f cd A outer s H E) pins σ H1 s1)(hf:(envOfC qual scope s.heap.objs.size f cd).frame=some (envOfC qual scope s.heap.objs.size f cd).locals)(he:s1.heap.get? e=some {cls:=cls,dict:=dx,data:=.fields vs,slots:=sl })(hv0:vs[0]?=some (.ref t))(hv1:vs[1]?=some .none)(hv2:dx=none->vs[2]?=some .none)(q:E cls dx H1) :
  (dH (pS P w) P w K mg base N qual scope f cd A outer s H E).xe (.ref e) s1:=by
 have UR:Un (gU outer) [] H H1 s.heap s1.heap:=I.base;have WX:Un (gU outer) [] H H0 s.heap s0.heap:=I0.base;have Zf:∀b∈gU outer,H b=none/\∃o,s.heap.get? b=some o/\∀vs,o.data≠.fields vs:=fun b hb=>⟨I.ok.frf b hb,(I.ok.funs.mem hb).2⟩
 have st:(dH (pS P w) P w K mg base N qual scope f cd A outer s H E).stack=envOfC qual scope s.heap.objs.size f cd::outer:=rfl;have nL:s.heap.get? (envOfC qual scope s.heap.objs.size f cd).locals=none:=Heap.get?_none_of_le I.ok.above;have MU:s.heap.get? e=none:=by
  cases z:s.heap.get? e with
  | none=>rfl
  | some ob=>
   obtain⟨o',y⟩:=WX.there e ob z Zs;rw[n0]at y;cases y
 have JC:∀env∈(envOfC qual scope s.heap.objs.size f cd::outer),∀b,env.frame=some b->b∈gU (envOfC qual scope s.heap.objs.size f cd::outer)++[e]:=fun env he b hb=>mem_append_left _ (rG he hb)
 have hh:∀b∈gU (envOfC qual scope s.heap.objs.size f cd::outer)++[e],b∈gU outer∨(s.heap.get? b=none/\H1 b=none):=fun b hb=>by
  rcases Zma.mp hb with z|z
  ·unfold gU at z;rw[filterMap_cons,hf]at z;rcases mem_cons.mp z with y|y
   ·rw[y];exact .inr ⟨nL,I.free⟩
   ·exact .inl y
  ·rw[Zms.mp z];exact .inr ⟨MU,Ze⟩
 have QU:∀b∈gU outer,b∈gU (envOfC qual scope s.heap.objs.size f cd::outer)++[e]:=fun b hb=>by
  refine mem_append_left _ ?_;unfold gU;rw[filterMap_cons,hf];exact sM _ hb
 have FD:e∈gU (envOfC qual scope s.heap.objs.size f cd::outer)++[e]:=mem_append_right _ sN;have ff0:s1.heap.FunFrames base (envOfC qual scope s.heap.objs.size f cd::outer):=I.stack;have go:=Pp (M:=model P w) (A:=A.deeper (envOfC qual scope s.heap.objs.size f cd)) (E:=fun e' zi=>pS P w outer H s E e' zi) (Q:=fun _ zi=>pS P w outer H s E (.ref e) zi) (s:=s1) (base:=W.hideAll s1.heap (gU (envOfC qual scope s.heap.objs.size f cd::outer)++[e])) (env:=envOfC qual scope s.heap.objs.size f cd) (outer:=outer) (e:=e) (a0:=.ref t)
  I.ok.frames (W.funFrames_hide ff0 JC) hf he (fun b o q=>W.of_hideAll _ q) (W.hideAll_none _ FD) rfl hv1 hv0 ?_
 ·exact go
 ·rintro h2 ⟨k1,k2,⟨zj,pd,T',QV,QW,q1,⟨q2,q3⟩,q4,q5,q6,q7,q8,q9,QX⟩,k4⟩ ⟨WW,d1,d2⟩;obtain⟨u2,QY⟩:=vX UR I.hok hh QU Zf k1 k4;obtain⟨n1,n2⟩:=rF UR I.hok hh Zf k4 q6 q8 q9;exact⟨e,cls,dx,H1,rfl,⟨MU,I.os,I.bare,u2,QY,Ze,⟨T',⟨zj,pd,_,QV,QW,q1,q2,q3,q4,q5,q7,q8,q9,QX⟩,n1,n2⟩,let ⟨v2,y1,y2⟩:=d2.2 _ rfl;⟨WW,v2,d1,y1,fun dx' zd=>d2.1.trans zd,fun hn=>y2.trans (hv2 hn)⟩⟩,q⟩
def Ey{P:Program}{w:World}{K:W.Frag}{mg:Str->Option Value}{base:Heap}{N:List Str}{qual:Str}{scope:Scope}{f:Addr}{cd:Value}{A:Around}{outer:List Env}{s s1:Shared}{H H1:Hp}{E:XK}{e:Addr}{h':Heap}{args:List Value}(I:Inv (dH (pS P w) P w K mg base N qual scope f cd A outer s H E) pins σ H1 s1)(hf:(envOfC qual scope s.heap.objs.size f cd).frame=some (envOfC qual scope s.heap.objs.size f cd).locals)(hx:Heap.MadeExcOf s1.heap h' e cls args)(q:E cls none H1) :
  (dH (pS P w) P w K mg base N qual scope f cd A outer s H E).xe (.ref e) {s1 with heap:=h' }:=by
 obtain⟨t,he,_,_⟩:=hx.there;exact tV I hx.new (I.hok.none_of hx.new) (I.kept hx.keeps) hf he rfl rfl (fun _=>rfl) q
end
abbrev yH:List Value:=[.type "ValueError",.type "Exception",.type "BaseException",.type "object"]
structure XCls(K:W.Frag)(mg:Str->Option Value)(x:Str)(C:Addr):Prop where
 at_:mg x=some (.ref C)
 ok:W.excIn K C yH "ValueError.__new__"=true
def XCls.obj{K:W.Frag}{mg:Str->Option Value}{x:Str}{C:Addr}{h:Heap}(c:XCls K mg x C)(X:K.In h) :
  ∃bm N nm q bs hdct sn sub ab col dd k0 k1 k2 k3 k5 mN,h.get? C=some (excClassObj nm q C N bs bm hdct sn sub ab col dd k0 k1 k2 k3 k5 "ValueError.__new__")/\h.Ns N mN/\mN "__init__"=none/\OwnTail h yH bm:=by
 have q:=c.ok;unfold W.excIn at q;split at q
 ·rename_i dd cd sl ho;split at q
  ·rename_i C' bm k0 k1 k2 k3 n k5 hm hs;simp only [Bool.and_eq_true,beq_iff_eq,Bool.not_eq_true']at q;obtain⟨⟨⟨⟨⟨e1,e2⟩,GV⟩,ht⟩,hok⟩,GW⟩:=q;subst e1 e2;obtain⟨nm,bs,mro,ns,qn,hd,sn,sub,ab,col,del⟩:=cd;dsimp only at hm GV hok GW;subst hm GV;have OV:sl=#[k0,k1,k2,k3,some (.builtin "ValueError.__new__"),k5]:=by
    obtain⟨l⟩:=sl;simp only at hs;rw[hs]
   subst OV;exact⟨bm,ns,nm,qn,bs,hd,sn,sub,ab,col,dd,k0,k1,k2,k3,k5,_,X _ _ ho,.of_isNs (W.isNs_of_in X hok),W.nsMap_none_of_in X hok GW,W.tail_of_in X ht⟩
  ·cases q
 ·cases q
def Ez(C:Addr)(E:XK)(t:TA):TS:=fun _ σ H=>t σ H fun vs H1=>vs.length<=sizeLine/\E (.ref C) none H1
def vY(X:Cx)(E:XK):Prop:=∀(pins:List (Addr×Obj))(σ:St)(H:Hp)(s:Shared)(h':Heap)(e:Addr)(cls:Value)(args:List Value),Inv X pins σ H s->Heap.MadeExcOf s.heap h' e cls args->E cls none H->X.xe (.ref e) {s with heap:=h' }
def iN{P:Program}{w:World}{K:W.Frag}{mg:Str->Option Value}{base:Heap}{N:List Str}{qual:Str}{scope:Scope}{f:Addr}{cd:Value}{A:Around}{outer:List Env}{s:Shared}{H:Hp}{E:XK}(hf:(envOfC qual scope s.heap.objs.size f cd).frame=some (envOfC qual scope s.heap.objs.size f cd).locals:=by rfl):vY (dH (pS P w) P w K mg base N qual scope f cd A outer s H E) E:=
 fun pins σ H1 s1 h' e cls args I hx q=>Ey I hf hx q
section
variable {X:Cx}{x:Str}{C:Addr}{E:XK}{e:Expr}{es:List Expr}{t:TA}{np cpos pos:Pos}
def Fa(c:XCls X.K X.mg x C)(hl:vY X E)(hc:X.calm=true)(hg:Gl X x)(ha:PA X (e::es) t)(hs:aJ e=true)(h2:es.all aJ=true)(K5:(x==("__debug__":Str))=false) :
  PS X (.Raise (some (.Call (.Name x np) (e::es) [] cpos)) none pos) (Ez C E t):=by
 intro pins s σ H D I h;obtain⟨tl,N,nm,q,bs,hdct,sn,sub,ab,col,dd,k0,k1,k2,k3,k5,mN,hC,hN,GW,T⟩:=c.obj I.mod.kin;have he:starEach (e::es) X.env=(false,eval e X.env)::starEach es X.env:=aZ hs;refine wpAny_Raise_call_subT (C:=C) (nm:=nm) (q:=q) (N:=N) (bs:=bs) (bm:=tl) (hdct:=hdct) (sn:=sn) (sub:=sub) (ab:=ab) (col:=col) (dd:=dd) (k0:=k0) (k1:=k1) (k2:=k2) (k3:=k3) (k5:=k5)
  PySem.F.excBase_ValueError (mN:=mN) (T.hasType PySem.F.excBase_ValueError.hasBase) (I.ok.hd hc) (by rw[he];show(false||(backTo cpos (starEach es X.env)).any (·.1))=false;rw[cV h2];rfl) GW (fZ I hg c.at_ ⟨rfl,?_⟩ K5)
 have hp:=ha cpos pins s σ H _ I h;rw[he]at hp ⊢;refine Calls.evalArgs_plain (bH hp fun us s1 ⟨vs,H1,I1,r,z,q⟩=>⟨rfl,by rw[<- r.length];exact z,I1.bk _ _ hC,hN.keeps I1.bk,T.keeps I1.bk,fun h' e' hm=>hl pins σ H1 s1 h' e' _ _ I1 hm q⟩)
end
def nG(X:Cx)(Ex:St->Value->Option Addr->Hp->Prop):Prop:=∀(pins:List (Addr×Obj))(σ:St)(H:Hp)(s:Shared)(e:Value)(s':Shared),Inv X pins σ H s->pS X.prog X.w X.stack H s (fun cls od H'=>Ex σ cls od H') e s'->X.xe e s'
def XF(X:Cx)(Ex:St->Value->Option Addr->Hp->Prop):Value->Shared->Prop:=fun e s'=>∃ σ H s,Inv X [] σ H s/\pS X.prog X.w X.stack H s (fun cls od H'=>Ex σ cls od H') e s'
abbrev Cx.pin(X:Cx)(pn:List (Addr×Obj)):Cx:={X with pn:=pn }
abbrev Cx.trying(X:Cx)(pn:List (Addr×Obj))(Ex:St->Value->Option Addr->Hp->Prop):Cx:={X with pn:=pn,xe:=XF (X.pin pn) Ex }
abbrev Cx.handling(X:Cx)(a:Addr):Cx:={X with A:=X.A.mark (some (.ref a)),calm:=false,xe:=fun _ _=>False }
section
variable {X:Cx}{pins pn:List (Addr×Obj)}{σ:St}{H:Hp}{s:Shared}{Ex:St->Value->Option Addr->Hp->Prop}{a:Addr}
def Cx.Ok.pin(ok:X.Ok):(X.pin pn).Ok:=⟨ok.mod,ok.kind,ok.glob,ok.blt,ok.above,ok.inj,ok.has,ok.cab,ok.hd,ok.frames,ok.stk,ok.exf,ok.bs,ok.bsz,ok.noex,ok.exfs,ok.funs,ok.frf⟩
def Cx.Ok.handling(ok:X.Ok):(X.handling a).Ok:=⟨ok.mod,ok.kind,ok.glob,ok.blt,ok.above,ok.inj,ok.has,ok.cab,nofun,ok.frames,ok.stk,ok.exf,ok.bs,ok.bsz,ok.noex,ok.exfs,ok.funs,ok.frf⟩
def Inv.pnIn(I:Inv X pins σ H s):Inv (X.pin (X.pn++pins)) [] σ H s:=⟨I.ok.pin,I.os,I.bare,I.base,I.loc,I.cell,I.free,I.freeC,fun p hp=>I.pin p (by rw[append_nil]at hp;exact hp),I.hok,I.len⟩
def Inv.pnOut(I:Inv (X.pin (X.pn++pins)) [] σ H s)(ok:X.Ok):Inv X pins σ H s:=⟨ok,I.os,I.bare,I.base,I.loc,I.cell,I.free,I.freeC,fun p hp=>I.pin p (by rw[append_nil];exact hp),I.hok,I.len⟩
def Inv.handling(I:Inv X pins σ H s):Inv (X.handling a) pins σ H s:=⟨I.ok.handling,I.os,I.bare,I.base,I.loc,I.cell,I.free,I.freeC,I.pin,I.hok,I.len⟩
def Inv.handled(I:Inv (X.handling a) pins σ H s)(ok:X.Ok):Inv X pins σ H s:=⟨ok,I.os,I.bare,I.base,I.loc,I.cell,I.free,I.freeC,I.pin,I.hok,I.len⟩
def Inv.trying(I:Inv (X.pin pn) pins σ H s):Inv (X.trying pn Ex) pins σ H s:=I.wish _
def Inv.tried(I:Inv (X.trying pn Ex) pins σ H s):Inv (X.pin pn) pins σ H s:=Inv.unwish (X:=X.pin pn) (E:=XF (X.pin pn) Ex) I
def rH:nG (X.trying pn Ex) Ex:=fun pins σ H s e s' I h=>⟨σ,H,s,I.tried.pins_of (fun p hp=>nomatch hp),h⟩
def lP(a:Addr)(cls:Value)(od:Option Addr):Heap->Prop:=fun h=>∃o vs,h.get? a=some o/\o.cls=cls/\o.data=.fields vs/\∀dx,od=some dx->o.dict=some dx
def Inv.extA{φ:Heap->Prop}{H0:Hp}{s0:Shared}{σ0:St}(I:Inv X pins σ H s)(I0:Inv X pins σ0 H0 s0)(hex:X.ex=[])(na:s0.heap.get? a=none)(ha:H a=none)(hx:φ s.heap)(ho:∃o,s.heap.get? a=some o)(hk:∀h h':Heap,φ h->(∀o,h.get? a=some o->h'.get? a=some o)->φ h'):Inv X pins σ (aH H a (.ext φ)) s where
 ok:=I.ok
 os:=I.os
 bare:=I.bare
 base:=by
  have n0:∀b ob,X.s₀.heap.get? b=some ob->b≠a:=fun b ob q z=>by
   obtain⟨o',y⟩:=I0.base.there b ob q (by rw[hex];simp);rw[z,na]at y;cases y
  refine⟨I.base.keep,I.base.slot,fun b ob q n hx=>?_,I.base.there,fun b xs q=>?_,fun b ob u q=>?_,fun b ps q=>?_⟩
  ·rw[aE (n0 b ob q)];exact I.base.free b ob q n hx
  ·have:=I.base.tups b xs q;rw[aE (aB this ha)];exact this
  ·have:=I.base.frzs b ob u q;rw[aE (aB this ha)];exact this
  ·obtain⟨more,z⟩:=I.base.tbls b ps q;exact⟨more,by rw[aE (aB z ha)];exact z⟩
 loc:=I.loc
 cell:=I.cell
 free:=by
  have:X.env.locals≠a:=fun z=>by
   obtain⟨m,⟨o,_,_,ho,_⟩,_⟩:=I0.loc;rw[z,na]at ho;cases ho
  rw[aE this];exact I.free
 freeC:=fun x c h=>by
  have:c≠a:=fun z=>by
   obtain⟨v,o,ho,_⟩:=I0.cell x c h;rw[z,na]at ho;cases ho
  rw[aE this];exact I.freeC x c h
 pin:=fun p hp=>by
  obtain⟨p1,p2,p3⟩:=I.pin p hp;have:p.1≠a:=fun z=>by
   have ho:=(I0.pin p hp).1;rw[z,na]at ho;cases ho
  exact⟨p1,by rw[aE this];exact p2,p3⟩
 hok:=by
  intro b u hb;by_cases q:b=a
  ·subst q;rw[aA]at hb;cases hb;exact⟨hx,ho,hk⟩
  ·rw[aE q]at hb;refine(I.hok b u hb).stay (fun c v _ h=>h) (fun c h=>?_) fun c xs h=>?_
   ·rw[aE (aB h ha)];exact h
   ·rw[aE (aB h ha)];exact h
 len:=I.len
def Inv.exc{cls:Value}{od:Option Addr}{H0:Hp}{s0:Shared}{σ0:St}(I:Inv X pins σ H s)(I0:Inv X pins σ0 H0 s0)(hex:X.ex=[])(na:s0.heap.get? a=none)(ha:H a=none)(hx:lP a cls od s.heap):Inv X pins σ (aH H a (.ext (lP a cls od))) s:=
 I.extA I0 hex na ha hx (let ⟨o,_,h1,_⟩:=hx;⟨o,h1⟩) fun _ _ ⟨o',pd,q1,q2⟩ k=>⟨o',pd,k o' q1,q2⟩
def lY{M:Model}{A:Around}{E:Value->Shared->Prop}{i:Nat}{x:Str}{pos:Pos}{Q:Unit->Shared->Prop}(I:Inv X pins σ H s)(hN:X.N.Nodup)(hi:X.N[i]?=some x)(hx:X.env.kindOf x=some .local)(hl:Bo X.env.scope x)(xy:X.fn x=true∨X.env.scope.names.lookup x=some .local)(h:∀s',Inv X pins (σ.set i none) H s'->Q () s'):wpAny M A (do bindName X.env x .none;unbindBehindTheSuite X.env x pos) Q E s:=by
 have hp:(X.env.scope.kind == .class||(X.env.scope.kind == .module&&X.env.locals != X.env.globals))=false:=by rw[I.ok.kind];rfl
 refine wpAny_bind (wpAny_bindName (fP (v:=.non) I hN hi hl rfl (fun s1 I1=>?_) xy));unfold unbindBehindTheSuite;refine wpAny_onRaise ?_;unfold unbindName;refine wpAny_bind (wpAny_point (wpAny_bind ?_));unfold deleteName;simp only [hx,hp];rw[if_neg Zd];obtain⟨m,hn,OT⟩:=id I1.loc;have PM:i<σ.length:=by rw[I.len];exact(Zgs.mp hi).1
 have cne:=I1.cne;refine wpAny_bind (wpAny_nsDel_keeps hn fun h2 v OO hs=>?_);have hm:(m x).isSome=true:=by
  obtain⟨u,ru,lk⟩:=OT i x .non hi (getElem?_set_self PM) (Or.inl (by
   have:=hx;unfold Env.kindOf at this;first | exact this | simpa using this))
  rcases lk with⟨_,e⟩|⟨k,_⟩
  ·rw[e];rfl
  ·rcases k with k|k
   ·have:=hx;simp_all
   ·have:=hx;simp_all
 simp only [hm,if_true,Bool.not_true,Bool.false_eq_true,if_false];have bl:∀b o,X.s₀.heap.get? b=some o->b≠X.env.locals:=fun b o e=>ne_of_lt (lt_of_lt_of_le (Heap.lt_size e) I.ok.above)
 obtain⟨oL,_,_,YJ,_⟩:=id hn;refine wpAny_pure (wpAny_point (h _ ⟨I1.ok,I1.os,I1.bare,⟨fun b o e n hb EO=>(hs.2 b (bl b o e)).trans (I1.base.keep b o e n hb EO),fun b o e n hb EO=>?_,I1.base.free,fun b o e EO=>?_,I1.base.tups,I1.base.frzs,I1.base.tbls⟩,⟨_,OO,fun j y v' e1 e2 e3=>?_⟩,fun y c e=>?_,I1.free,I1.freeC,fun p si=>?_,fun b u e=>?_,by simpa using I.len⟩))
 ·obtain⟨sl,z⟩:=I1.base.slot b o e n hb EO;exact⟨sl,(hs.2 b (bl b o e)).trans z⟩
 ·obtain⟨o',z⟩:=I1.base.there b o e EO;exact⟨o',(hs.2 b (bl b o e)).trans z⟩
 ·by_cases hj:j=i
  ·subst hj;rw[getElem?_set_self PM]at e2;cases e2
  ·rw[getElem?_set_ne (Ne.symm hj)]at e2;obtain⟨u,r,q⟩:=OT j y v' e1 (by rw[getElem?_set_ne (Ne.symm hj)];exact e2) e3;refine⟨u,r,?_⟩;rcases q with⟨k,e⟩|⟨k,c,e,z⟩
   ·have O3:y≠x:=fun e=>hj (mG hN e1 (e▸hi))
    exact .inl ⟨k,by dsimp only;rw[if_neg O3];exact e⟩
   ·exact .inr ⟨k,c,e,z.sameBut hs (cne y c e)⟩
 ·obtain⟨w',z⟩:=I1.cell y c e;exact⟨w',z.sameBut hs (cne y c e)⟩
 ·obtain⟨e,n,ne,nf,d⟩:=I1.pin p si;exact⟨(hs.2 p.1 ne).trans e,n,ne,nf,d⟩
 ·refine(I1.hok b u e).stay (fun c w' hc q=>(hs.2 c ?_).trans q) (fun _ q=>q) fun _ _ q=>q;rintro rfl;rcases hc with z|z
  ·rw[<- z,I1.free]at e;cases e
  ·rw[I1.free]at z;cases z
def SP.goes{M:Model}{A:Around}{E:Value->Shared->Prop}{i:Nat}{x:Str}{pos:Pos}{D:iX}{f:Flow}(hq:SP X pins {nx:=fun σ' H'=>D.nx (σ'.set i none) H',rt:=D.rt,bk:=fun σ' H'=>D.bk (σ'.set i none) H',ct:=fun σ' H'=>D.ct (σ'.set i none) H' } f s)(hN:X.N.Nodup)(hi:X.N[i]?=some x)(hx:X.env.kindOf x=some .local)(hl:Bo X.env.scope x)(xy:X.fn x=true∨X.env.scope.names.lookup x=some .local) :
  wpAny M A (do bindName X.env x .none;unbindBehindTheSuite X.env x pos) (fun _ s'=>SP X pins D f s') E s:=by
 cases f with
 | next=>obtain⟨σ',H',I,q⟩:=hq;exact lY I hN hi hx hl xy fun s' I'=>⟨_,H',I',q⟩
 | brk=>obtain⟨σ',H',I,q⟩:=hq;exact lY I hN hi hx hl xy fun s' I'=>⟨_,H',I',q⟩
 | cont=>obtain⟨σ',H',I,q⟩:=hq;exact lY I hN hi hx hl xy fun s' I'=>⟨_,H',I',q⟩
 | ret u=>obtain⟨v,σ',H',I,r,q⟩:=hq;exact lY I hN hi hx hl xy fun s' I'=>⟨v,_,H',I',r,q⟩
def SP.handled{D:iX}{f:Flow}(h:SP (X.handling a) pins D f s)(ok:X.Ok):SP X pins D f s:=by
 cases f with
 | next=>obtain⟨σ',H',I,q⟩:=h;exact⟨σ',H',I.handled ok,q⟩
 | brk=>obtain⟨σ',H',I,q⟩:=h;exact⟨σ',H',I.handled ok,q⟩
 | cont=>obtain⟨σ',H',I,q⟩:=h;exact⟨σ',H',I.handled ok,q⟩
 | ret u=>obtain⟨v,σ',H',I,r,q⟩:=h;exact⟨v,σ',H',I.handled ok,r,q⟩
def SP.tried{D:iX}{f:Flow}(h:SP (X.trying (X.pn++pins) Ex) [] D f s)(ok:X.Ok):SP X pins D f s:=by
 cases f with
 | next=>obtain⟨σ',H',I,q⟩:=h;exact⟨σ',H',I.tried.pnOut ok,q⟩
 | brk=>obtain⟨σ',H',I,q⟩:=h;exact⟨σ',H',I.tried.pnOut ok,q⟩
 | cont=>obtain⟨σ',H',I,q⟩:=h;exact⟨σ',H',I.tried.pnOut ok,q⟩
 | ret u=>obtain⟨v,σ',H',I,r,q⟩:=h;exact⟨v,σ',H',I.tried.pnOut ok,r,q⟩
def Tm(K:W.Frag)(C:Addr)(i:Nat)(tb:(St->Value->Option Addr->Hp->Prop)->TS)(th:TS):TS:=fun D σ H=>
 tb (fun σ' cls od H'=>W.exmOne K cls (.ref C)=some true/\∀a,H' a=none->th {nx:=fun σ'' GX=>D.nx (σ''.set i none) GX,rt:=D.rt,bk:=fun σ'' GX=>D.bk (σ''.set i none) GX,ct:=fun σ'' GX=>D.ct (σ''.set i none) GX } (σ'.set i (some (.ref a))) (aH H' a (.ext (lP a cls od)))) D σ H
def Pq{C:Addr}{c n:Str}{i:Nat}{body yc:List Stmt}{s0:Stmt}{p MV pos:Pos}{tb:(St->Value->Option Addr->Hp->Prop)->TS}{th:TS}(hN:X.N.Nodup)(hi:X.N[i]?=some n)(hx:X.env.kindOf n=some .local)(hl:Bo X.env.scope n)(xy:X.fn n=true∨X.env.scope.names.lookup n=some .local)(GF:X.stack=X.env::X.outer)(hf:X.env.frame=some X.env.locals)(hex:X.ex=[])(hg:Gl X c)(hm:X.mg c=some (.ref C))(K5:(c==("__debug__":Str))=false)(hb:∀pn Ex,PSs (X.trying pn Ex) body (tb Ex))(hs:∀a,PSs (X.handling a) (s0::yc) th) :
  PS X (.Try body [.ExceptHandler (some (.Name c p)) (some n) (s0::yc) MV] [] [] pos) (Tm X.K C i tb th):=by
 intro pins s σ H D I h;refine wpAny_Try_except (wpAny_mono (hb (X.pn++pins) _ [] s σ H D I.pnIn.trying h) (fun f s1 q=>?_) fun e s1 q=>?_)
 ·have q':=q.tried I.ok
  cases f with
  | next=>exact wpAny_execs_nil q'
  | brk=>exact q'
  | cont=>exact q'
  | ret u=>exact q'
 ·obtain⟨σ',H0,sc,I0,a,cls,od,H',rfl,F,LN,hw⟩:=q;have OW:Inv X pins σ' H0 sc:=I0.pnOut I.ok;have F':Fly X.prog X.w X.stack H0 sc H' a cls od .none s1:=F;refine tT OW F' I.ok.frames GF hf fun s2 F2=>?_;refine nF OW F2 fun s3 F3=>?_;have I3:=F3.inv OW;refine wpAny_handleBy_cons (codeAny_handlers_test ?_) (by intro q;cases q);refine fZ (X:=X.handling a) (I3.handling (a:=a)) hg hm ?_ K5;obtain⟨T,⟨oe,vs,a0,oT,ts,e1,e2,_⟩,_⟩:=F3.tr;have LT:W.Looks (model X.prog X.w) s3.heap (typeOf (.ref a)) cls:=e2▸(W.Looks.ld e1).andThen .now;refine(W.exm_one I3.kIn LT LN).here ?_;show codeAny _ _ _ _ _;refine codeAny_handlers_suite_as ?_;refine nF OW F3 fun s4 F4=>?_;have I4:=F4.inv OW;obtain⟨T4,⟨oe4,vs4,a04,oT4,ts4,q1,q2,q3,q4,_⟩,_⟩:=F4.tr;have I5:=I4.exc OW hex F4.na F4.ha (od:=od) ⟨oe4,vs4,q1,q2,q4,fun dx zd=>by obtain⟨o1,_,z1,_,z2,_⟩:=F4.dd;rw[q1]at z1;cases z1;exact z2 dx zd⟩;refine fP (v:=.ref a) I5 hN hi hl rfl (fun s5 I6=>?_) xy;refine wpAny_mono (hs a pins s5 _ _ _ (I6.handling (a:=a)) (hw a F4.ha)) (fun f s6 q=>?_) (fun _ _ z=>False.elim z);exact SP.goes (q.handled I.ok) hN hi hx hl xy
end
structure gV(K:W.Frag)(D:Addr):Prop where
 ga:W.findIn K (.ref D) "__getattribute__"=some (some (.builtin "BaseException.__getattribute__"))
 gx:W.findIn K (.ref D) "__getattr__"=some none
 cl:W.findIn K (.ref D) "__class__"=some (some (.builtin "object.__class__"))
 gg:W.specialIn K (.builtin "object.__class__") "__get__"=some (some (.builtin "getset_descriptor.__get__"))
 tk:W.takesIn K (.builtin "object.__class__")=some true
 mo:W.mroIn K D (.type "object")=some true
 mb:W.mroIn K D (.type "BaseException")=some true
 ci:(W.clsIn K D).isSome=true
def OfCls(x D:Addr)(h:Heap):Prop:=∃o,h.get? x=some o/\o.cls=.ref D
section
variable {prog:Program}{w:World}{A:Around}{E:Value->Shared->Prop}{s:Shared}{K:W.Frag}{x D:Addr}
def OfCls.type{M:Model}{h:Heap}(c:OfCls x D h):W.Looks M h (typeOf (.ref x)) (.ref D):=by
 obtain⟨o,h1,h2⟩:=c;exact h2▸(W.Looks.ld h1).andThen .now
def pT{M:Model}{LO:Value}{Q:Unit->Shared->Prop}(LI:W.Looks M s.heap (isInstance (.ref x) (.type "BaseException")) true)(h:Q () s):wpAny M A (checkBuiltinCall "BaseException.__getattribute__" ⟨[.ref x,LO],[]⟩) Q E s:=by
 have hkd:builtinKind "BaseException.__getattribute__"=some .slot:=by decide +kernel
 have ER:splitId "BaseException.__getattribute__"=some ("BaseException","__getattribute__"):=by decide +kernel
 have har:=F.args_bexc_ga (.ref x) LO;simp only [checkBuiltinCall,hkd,ER];refine wpAny_bind (LI.here ?_);obtain⟨hh,g,d,t,os⟩:=s
 repeat (first|wp_step)
 exact h
def vZ{M:Model}{h:Heap}(X:K.In h)(k:gV K D):W.Looks M h (Builtin.ObjectAttr.find (.ref x) (.ref D) "__class__") (.bind (.builtin "getset_descriptor.__get__") (.builtin "object.__class__")):=by
 have l1:=W.looks_findIn (M:=M) X k.cl;have l2:W.Looks M h (Builtin.ObjectAttr.getOf (some (.builtin "object.__class__"))) (some (.builtin "getset_descriptor.__get__")):=W.looks_specialIn X k.gg;have l3:=W.looks_takesIn (M:=M) X k.tk;refine l1.andThen (l2.andThen ?_);exact(show W.Looks M h (Builtin.ObjectAttr.dataDescriptor? (some (.builtin "object.__class__")) (some (.builtin "getset_descriptor.__get__"))) (some (.builtin "getset_descriptor.__get__",.builtin "object.__class__")) from l3.andThen .now).andThen (W.Looks.tag .now)
open PySem.W Builtin Builtin.ObjectAttr Builtin.Getset_descriptor in
def Ag{R:Result->Shared->Prop}{tp:Value}(X:K.In s.heap)(c:OfCls x D s.heap)(hm:W.mroIn K D (.type "object")=some true)(h:R (.ok (.ret (.ref D))) s) :
  codeAny (model prog w) A (.call (.builtin "getset_descriptor.__get__") ⟨[.builtin "object.__class__",.ref x,tp],[]⟩) R s:=by
 obtain⟨hh,g,dr,t,os⟩:=s;have L0:=c.type (M:=model prog w);have L1:=W.looks_mroIn (M:=model prog w) X hm;refine codeAny_call_builtin KF.slot_gs.plain KF.entry_gs (KF.slot_gs.check _ _ _ _ _ _ _ _ KF.type_class (KF.args_gs _ _ _) ?_);unfold Builtin.«getset_descriptor.__get__» descrGet;rw[dga_obj];apply wpAny_bind;apply wpAny_pure;unfold descrGetter descrCheckInstance descrNameAndClass isInstance;simp only [KF.owner_class]
 repeat lk
 refine⟨Code.quiet_builtin _ Zk,codeAny_builtin KF.entry_class ?_⟩;unfold Builtin.«object.__class__» shownTypeOf
 repeat lk
 exact h
def Ah{Q:Option Value->Shared->Prop}(X:K.In s.heap)(c:OfCls x D s.heap)(k:gV K D)(h:Q (some (.ref D)) {s with toks:=s.toks+1 }):wpAny (model prog w) A (getAttr? (.ref x) "__class__") Q E s:=by
 obtain⟨hh,g,d,t,os⟩:=s;have L0:=c.type (M:=model prog w);have L1:=W.looks_findIn (M:=model prog w) X k.ga;have L2:=W.looks_findIn (M:=model prog w) X k.gx;have L3:=vZ (M:=model prog w) (x:=x) X k;have LI:W.Looks (model prog w) hh (isInstance (.ref x) (.type "BaseException")) true:=L0.andThen (W.looks_mroIn X k.mb);unfold getAttr? getAttrBy? getAttrBy;refine wpAny_bind (wpAny_mkText (wpAny_bind (wpAny_attempt (wpAny_holding (wpAny_bind (L0.at (wpAny_bind (L1.at ?_))))))));dsimp only;have MW:(Value.builtin "BaseException.__getattribute__"==Value.builtin "object.__getattribute__")=false:=by decide +kernel
 have LN:(onTheHeap (Value.ref D)&&Value.builtin "BaseException.__getattribute__"==Value.builtin "object.__getattribute__")=false:=by rw[MW];rfl
 rw[if_neg (by rw[LN];exact Bool.false_ne_true)];unfold getAttrByItsOwn hookBefore;rw[if_pos (show onTheHeap (Value.ref D)=true from rfl)];refine wpAny_bind (L2.at ?_);refine wpAny_bind (wpAny_attempt (wpAny_holding ?_));unfold callGetattribute;rw[if_neg Zd];unfold boundAndCalled;refine wpAny_bind (wpAny_of_eq (F.excAttr_ValueError.ga.bind _) ?_);show wpAny _ _ (call (.builtin "BaseException.__getattribute__") [.ref x,.str "__class__" t]) _ _ _;refine wpAny_call (codeAny_call_builtin F.excAttr_ValueError.ga.plain F.entry_bexc_ga (pT LI ?_));unfold Builtin.«object.__getattribute__»;refine wpAny_bind (wpAny_of_eq (a:=(Value.ref x,[Value.str "__class__" t])) rfl ?_);dsimp only;refine wpAny_bind (wpAny_pure (wpAny_bind (L0.at (wpAny_bind (L3.at ?_)))));dsimp only;show wpAny _ _ (holding [Value.builtin "object.__class__"] (call (.builtin "getset_descriptor.__get__") [.builtin "object.__class__",.ref x,.ref D])>>=ret) _ _ _;refine wpAny_bind (wpAny_holding (wpAny_call (Ag (s:=⟨hh,g,d,t+1,os⟩) X c k.mo ?_)));refine wpAny_pure ?_;show wpAny _ _ (handedOut (.ref D)) _ _ _;exact wpAny_pure (wpAny_pure h)
def nI(k:gV K D):W.KitX K (.ref x) (.ref D) (OfCls x D) where
 ty:=fun _ _ _ c=>c.type
 it:=fun _ _ X _=>by
  obtain⟨cdD,JO⟩:=Option.isSome_iff_exists.mp k.ci;unfold W.clsIn at JO;split at JO
  ·rename_i c' d' cd' VV ho;intro A' Q' E' s' k' q;unfold isType loadHead;exact wpAny_bind (wpAny_loadPart (k' _ _ (X _ _ ho)) (wpAny_pure q))
  ·cases JO
 ne:=fun h tp dd its n sl X QZ=>by
  obtain⟨cdD,JO⟩:=Option.isSome_iff_exists.mp k.ci;refine Bool.eq_false_iff.mpr fun q=>?_;have e:D=tp:=Value.ref.inj (beq_iff_eq.mp q);subst e;unfold W.clsIn at JO;split at JO
  ·rename_i c' d' cd' VV ho;rw[X _ _ ho]at QZ;cases QZ
  ·cases JO
 ca:=fun X c q=>Ah X c k q
end
def Tn(K:W.Frag)(H:Hp)(D:Addr)(c:V)(b:Bool):Prop:=match c with
 | .ref t=>(∃xs:List Addr,H t=some (.tup (xs.map V.ref))/\W.kitAny K (.ref D) (xs.map Value.ref)=some b)∨W.kitOne K (.ref D) (.ref t)=some b
 | .ty n=>W.kitOne K (.ref D) (.type n)=some b
 | _=>False
def Pr(K:W.Frag):List V->Hp->VK->Prop:=fun vs H Q=>match vs with
 | [.ref a,c]=>∃D b od,H a=some (.ext (lP a (.ref D) od))/\gV K D/\Tn K H D c b/\Q (.bl b) H
 | _=>False
def pU:∀ {xs:List Addr}{us:List Value},Vals (xs.map V.ref) us->us=xs.map Value.ref
 | [],[],_=>rfl
 | x::xs,u::us,.cons r rs=>by
  cases r;rw[pU rs];rfl
section
variable {X:Cx}
def To:CallR X (.builtin "isinstance") (Pr X.K):=by
 intro pins s σ H xs us Q I r h;unfold Pr at h;split at h
 ·rename_i a c;obtain⟨D,b,od,e,k,WY,q⟩:=h;obtain⟨⟨o,vs,h1,h2,h3⟩,_⟩:=(show ObjOk X.prog X.w H s.heap a (.ext (lP a (.ref D) od)) from I.hok a _ e);have oc:OfCls a D s.heap:=⟨o,h1,h2⟩
  cases r with
  | cons ra r2=>
   cases r2 with
   | cons rc r3=>
    cases r3;cases ra
    cases c with
    | ref t=>
     cases rc;rcases WY with⟨ys,et,ka⟩|ko
     ·obtain⟨_,its,rv,⟨ot,ht,hc,n,hd⟩⟩:=(show ObjOk X.prog X.w H s.heap t (.tup (ys.map V.ref)) from I.hok t _ et);obtain rfl:=pU rv;obtain⟨c0,dd,dat,sl⟩:=ot;dsimp only at hc hd;subst hc hd;exact W.kia_tup (nI k) I.kIn oc ht ka (by intro z;cases z) fun tk=>⟨.bl b,H,I.tok _,rfl,q⟩
     ·exact W.kia_one (nI k) I.kIn oc ko (by intro z;cases z) fun tk=>⟨.bl b,H,I.tok _,rfl,q⟩
    | ty n=>
     cases rc;exact W.kia_one (nI k) I.kIn oc WY (by intro z;cases z) fun tk=>⟨.bl b,H,I.tok _,rfl,q⟩
    | _=>exact WY.elim
 ·exact h.elim
end
namespace R
section
variable {X:Cx}{x n c:Str}{C:Addr}{E:XK}{e:Expr}{es:List Expr}{t:TA}{np cpos pos p MV:Pos}{m i:Nat}{ps:List Str}{sp:Sp}{Ex:St->Value->Option Addr->Hp->Prop}{K:W.Frag}{body yc:List Stmt}{s0:Stmt}{tb:(St->Value->Option Addr->Hp->Prop)->TS}{th:TS}
def bu(hK:X.K=K:=by rfl):XC X (.builtin "isinstance") (Pr K):=hK▸⟨To⟩
def dw(cx:XCls X.K X.mg x C)(hl:vY X E)(hg:Gl X x)(ha:XA X (e::es) t)(hc:X.calm=true:=by rfl)(hs:aJ e=true:=by rfl)(h2:es.all aJ=true:=by rfl)(K5:(x==("__debug__":Str))=false:=by decide) :
  XS X (.Raise (some (.Call (.Name x np) (e::es) [] cpos)) none pos) (Ez C E t):=⟨Fa cx hl hc hg ha.h hs h2 K5⟩
def ja(hm:X.mg c=some (.ref C))(hg:Gl X c)(hN:X.N.Nodup)(hb:∀pn Ex,XB (X.trying pn Ex) body (tb Ex))(hs:∀a,XB (X.handling a) (s0::yc) th)(hK:X.K=K:=by rfl)(hi:X.N[i]?=some n:=by rfl)(hx:X.env.kindOf n=some .local:=by rfl)(hl:Bo X.env.scope n:=by first|exact Or.inl rfl|exact Or.inr rfl)(xy:X.fn n=true∨X.env.scope.names.lookup n=some .local:=by first|exact .inl rfl|exact .inr rfl)(GF:X.stack=X.env::X.outer:=by rfl)(hf:X.env.frame=some X.env.locals:=by rfl)(hex:X.ex=[]:=by rfl)(K5:(c==("__debug__":Str))=false:=by decide) :
  XS X (.Try body [.ExceptHandler (some (.Name c p)) (some n) (s0::yc) MV] [] [] pos) (Tm K C i tb th):=hK▸⟨Pq hN hi hx hl xy GF hf hex hg hm K5 (fun pn Ex=>(hb pn Ex).h) fun a=>(hs a).h⟩
end
end R
def oK:bootBuiltins "ValueError"=some (.type "ValueError"):=by decide +kernel
def R.fk{X:Cx}{x:Str}{n:String}{pos:Pos}(hg:Gl X x)(hm:X.mg x=none)(hv:bootBuiltins x=some (.type n))(hn:x≠"__name__":=by decide)(hd:(x==("__debug__":Str))=false:=by decide):XE X (.Name x pos) (tC (.ty n)):=⟨wX hg hm hv rfl hn hd⟩
section
variable {X:Cx}
def R.fm(hc:X.calm=true):XC X (.builtin "min") (fun vs H Q=>match vs with | [.int i,.int j]=>Q (.int (if j<i then j else i)) H | _=>False):=⟨(zJ hc).imp fun vs H Q h=>by
 split at h
 ·exact⟨_,_,rfl,h⟩
 ·exact h.elim⟩
end
inductive DW(one other nm:Str)(n:Int):Str->List V->List (Str×Int)->List (Str×List V)->Prop
 | add:DW one other nm n "add" [.str "add",.str nm,.int n] [(nm,n)] []
 | take:DW one other nm n "take" [.str "take",.str nm,.int n] [(nm,-n)] []
 | move:DW one other nm n "move" [.str "move",.str one,.str other,.int n] [(one,-n),(other,n)] []
 | send:DW one other nm n "send" [.str "send",.str one,.str nm,.int n] [(nm,-n)] [(one,[.str "add",.str nm,.int n])]
 | fetch:DW one other nm n "fetch" [.str "fetch",.str one,.str nm,.int n] [(nm,n)] [(one,[.str "take",.str nm,.int n])]
 | pass:DW one other nm n "pass" [.str "pass",.str one,.str other,.str nm,.int n] [] [(one,[.str "take",.str nm,.int n]),(other,[.str "add",.str nm,.int n])]
structure Wi(wd:Str)(xs:List V)(cs:List (Str×Int))(as:List (Str×List V)):Prop where
 ex:∃one other nm n,DW one other nm n wd xs cs as
def Tp(H:Hp)(q:Str×List V)(v:V):Prop:=∃a d,v=.ref a/\H a=some (.tup [.str q.1,.ref d])/\H d=some (.tup q.2)
def Fb:Sp:=fun vs H Q _=>∃p wd xs cs as,vs=[.ref p]/\H p=some (.tup xs)/\Wi wd xs cs as/\∀t us H',Same H H'->H' t=some (.tup us)->Paired (Tp H') as us->Q (.ref t) H'
section
variable {X:Cx}{pins:List (Addr×Obj)}{σ:List (Option V)}{H:Hp}{s:Shared}{h':Heap}
def Inv.turnLaid{t':Nat}{ch:List Addr}{a:Addr}{o:HO}(I:Inv X pins σ H s)(hf:∀b∈ch,kJ X pins H b)(k:∀b u,b∉ch->s.heap.get? b=some u->h'.get? b=some u)(hp:s.heap.objs.size<=a)(new:ObjOk X.prog X.w (aH H a o) h' a o) :
  Inv X pins σ (aH H a o) {s with heap:=h',toks:=t' }:=by
 have hn:=I.hok.fresh hp;have GJ:∀b u,H b=some u->b∉ch:=fun b u e z=>by rw[(hf b z).1]at e;cases e
 refine I.step (g':=s.gens) (d':=s.drawn) (ch:=ch) (fun b hb=>⟨(hf b hb).2.2.2.1,(hf b hb).2.1,(hf b hb).2.2.2.2.1,(hf b hb).2.2.2.2.2⟩) (fun b u _ _ hc e _=>k b u hc e) (fun b u _ _ hc e _=>⟨u.slots,k b u hc e⟩)
  (fun b u _ e n=>by rw[aE (ne_of_lt (lt_of_lt_of_le (Heap.lt_size e) hp))];exact n) (fun b u hc e=>⟨u,k b u hc e⟩) (fun b xs e=>by rw[aE (aB e hn)];exact e) (fun b v u e=>by rw[aE (aB e hn)];exact e)
  (fun b ps e=>⟨#[],by rw[aE (aB e hn),e];simp⟩) (fun m hm=>?_) (fun b u e=>?_) I.bare
 ·obtain⟨u,es,ep,ho,r⟩:=hm;exact⟨u,es,ep,k _ u (fun z=>(hf _ z).2.1 rfl) ho,r⟩
 ·by_cases hb:b=a
  ·subst hb;rw[aA]at e;cases e;exact new
  ·rw[aE hb]at e;refine(I.hok b u e).stay (fun c v hc q=>k c v ?_ q) (fun c q=>by rw[aE (aB q hn)];exact q) fun c xs q=>by rw[aE (aB q hn)];exact q
   rcases hc with z|z
   ·rw[z];exact GJ b u e
   ·exact GJ c _ z
def Inv.turnL{t':Nat}{ch:List Addr}(I:Inv X pins σ H s)(hf:∀b∈ch,kJ X pins H b)(k:∀b u,b∉ch->s.heap.get? b=some u->h'.get? b=some u):Inv X pins σ H {s with heap:=h',toks:=t' }:=by
 have GJ:∀b u,H b=some u->b∉ch:=fun b u e z=>by rw[(hf b z).1]at e;cases e
 refine I.step (g':=s.gens) (d':=s.drawn) (ch:=ch) (fun b hb=>⟨(hf b hb).2.2.2.1,(hf b hb).2.1,(hf b hb).2.2.2.2.1,(hf b hb).2.2.2.2.2⟩) (fun b u _ _ hc e _=>k b u hc e) (fun b u _ _ hc e _=>⟨u.slots,k b u hc e⟩)
  (fun _ _ _ _ n=>n) (fun b u hc e=>⟨u,k b u hc e⟩) (fun _ _ e=>e) (fun _ _ _ e=>e) (fun b ps e=>⟨#[],by rw[e];simp⟩) (fun m hm=>?_) (fun b u e=>?_) I.bare
 ·obtain⟨u,es,ep,ho,r⟩:=hm;exact⟨u,es,ep,k _ u (fun z=>(hf _ z).2.1 rfl) ho,r⟩
 ·refine(I.hok b u e).stay (fun c v hc q=>k c v ?_ q) (fun _ q=>q) fun _ _ q=>q;rcases hc with z|z
  ·rw[z];exact GJ b u e
  ·exact GJ c _ z
end
section
variable {X:Cx}{o:Expr}{to:TE}{p pos apos cpos:Pos}
def Lh:zE:=fun o i v H Q=>∃a H',o=.ref a/\DPut H a i v H'/\Q H'
def Fc(hu:X.A.units+1<cLine):Hj X Lh:=by
 intro pins s σ H o i v ov iv u Q I ro ri rv h;obtain⟨a,H',rfl,g,q⟩:=h;cases ro;exact zS hu I g ri rv fun s' I'=>⟨H',I',q⟩
def R.cz(hu:X.A.units+1<cLine):Oz X Lh:=⟨Fc hu⟩
end
def rJ(C:Addr):Sp:=fun vs H Q _=>∃(p dx:Addr)(r:V)(prs:List (Str×Int)),vs=[.ref p,r]/\H p=some (.ins C dx [])/\Pl H r prs/\(prs.map (·.1)).Nodup/\prs.length<=1000 ∧
 ∀H' d,H d=none->H' p=some (.ins C dx [("amounts",.ref d)])->H' d=some (.dK (vW prs))->(∀b o,H b=some o->b≠p->H' b=some o)->Q .non H'
section
variable {X:Cx}
def Fd(i j:Int):Prop:=0<j/\j<2^64
def Jn:OpR X (binaryOp .FloorDiv) (m2 Fd fun i j=>.int (i / j)):=(Ud (C:=Fd) (g:=fun i j=>i / j) fun i j _ _ s Q E hc q=>by
 have h1:i.fdiv j=i/j:=Int.fdiv_eq_ediv_of_nonneg _ (by have:=hc.1;omega);refine floordiv_int (by have:=hc.1;omega) (by rw[h1];exact q) (.inl (PyProof.noPylong_of_log2 ?_));have h2:j.natAbs<2^64:=by have:=hc.1;have:=hc.2;omega
 exact lt_of_lt_of_le (Nat.log2_lt (by have:=hc.1;omega) |>.mpr h2) Zd).imp qW
def R.ee:fR X (binaryOp .FloorDiv) (m2 Fd fun i j=>.int (i/j)):=⟨Jn⟩
end
def Fe(l:List Nat):(tx l).cps.toList=l:=by simp
def KLET:List Nat:=LET++tK
def isKy(z:Str):Prop:=1<=z.length/\z.length<=12/\∀c∈z.cps.toList,c∈KLET
def Qt(K:W.Frag)(a:Addr):It:=
  ⟨fun i H=>∃xs x,SqL K H a xs/\xs[i]?=some x,
   fun i H v H'=>∃t x,H t=none/\v=.ref t/\H'=aH H t (.tup [.int i,x])/\∀xs,SqL K H a xs->xs[i]?=some x,
   fun i H=>∃xs,SqL K H a xs/\xs.length<=i⟩
structure Wu(h:Heap)(e it a:Addr)(i:Nat):Prop where
 e:∃old,IsEnum h e it i old
 i:h.IsListIter it a i
def Ai{P:Program}{w:World}{K:W.Frag}{es:List Expr}{n:Nat}{pos:Pos}{e it a:Addr}(O3:e≠it)(hea:a≠e)(hia:a≠it) :
  qH P w K (.Tuple es n pos) (Qt K a) [e,it] e (fun i h=>Wu h e it a i) where
 mem:=by simp
 obj:=fun i h st b hb=>by
  obtain⟨old,he⟩:=st.e;obtain⟨o1,e1,_,d1⟩:=st.i;simp only [mem_cons,not_mem_nil,or_false]at hb;rcases hb with rfl|rfl
  ·exact⟨_,he,fun v q=>by have q':Data.fields _=Data.cell v:=q;cases q'⟩
  ·exact⟨_,e1,fun v q=>by rw[d1]at q;cases q⟩
 keep:=fun i h h' st g=>by
  obtain⟨old,he⟩:=st.e;obtain⟨o1,e1,r⟩:=st.i;exact⟨⟨old,g e Zs _ he⟩,⟨o1,g it Zs _ e1,r⟩⟩
 item:=by
  intro X hP hw hK hc i pins s σ H E I hf st hg;subst hP hw hK;obtain⟨xs,x,hx,ex⟩:=hg;obtain⟨its,rv,p,_⟩:=I.list hx;obtain⟨u,hu,ru⟩:=rv.get ex;obtain⟨old,he⟩:=st.e;refine wpAny_pyNext_enum_item he st.i p.isList (by simpa using hu) O3 fun h1 e1 i1 t1 z1 k1=>?_;refine⟨_,rfl,?_⟩;refine wpAny_letOwnedTupleGo_enum e1 fun h2 e2 b2=>?_;have elt:e<s.heap.objs.size:=Heap.lt_size he;have t2:h2.get? s.heap.objs.size=some {cls:=.type "tuple",data:=.seq #[.int i s.toks,u] }:=b2.extBut _ _ (ne_of_gt elt) t1;refine⟨.ref s.heap.objs.size,aH H s.heap.objs.size (.tup [.int i,x]),I.turnLaid (t':=s.toks+1) hf (fun b o hb e'=>?_) (bY _) ⟨by show 2<=sizeLine;decide,[.int i s.toks,u],.cons ⟨_,rfl⟩ (.cons ru .nil),⟨_,t2,rfl,_,rfl⟩⟩,rfl,?_,?_,fun b hb=>?_⟩
  ·have Y5:b≠e/\b≠it:=by simpa using hb
   exact b2.extBut _ _ Y5.1 (k1 b o Y5.1 Y5.2 e')
  ·exact⟨s.heap.objs.size,x,I.hok.fresh (bY _),rfl,rfl,fun zs hz=>by rw[I.list_inj hz hx];exact ex⟩
  ·obtain⟨o1,q1,r1⟩:=i1;exact⟨⟨_,by simpa using e2⟩,⟨o1,b2.extBut _ _ O3.symm q1,r1⟩⟩
  ·have X1:b<s.heap.objs.size:=by
    obtain⟨o1,q1,r1⟩:=st.i;simp only [mem_cons,not_mem_nil,or_false]at hb;rcases hb with rfl|rfl
    ·exact elt
    ·exact Heap.lt_size q1
   rw[aE (ne_of_lt X1)];exact(hf b hb).1
 done:=by
  intro X hP hw hK hc i pins s σ H E I hf st hg;subst hP hw hK;obtain⟨xs,hx,hl⟩:=hg;obtain⟨its,rv,p,_⟩:=I.list hx;obtain⟨old,he⟩:=st.e;have l1:=rv.length;refine wpAny_pyNext_enum_end (I.ok.hd hc) he st.i p.isList (by simp;omega) fun h1 k1=>?_;refine⟨rfl,I.turnL (t':=s.toks) hf fun b u hb e'=>?_⟩;have Y5:b≠e/\b≠it:=by simpa using hb
  exact k1 b u Y5.2 e'
 self:=fun _ _ _ _ _ st h=>by
  obtain⟨old,he⟩:=st.e;exact wpAny_pyIter_enum he h
section
variable {X:Cx}{a b:Expr}{ta tb:TE}{p pos MM:Pos}{es:List Expr}{n:Nat}
def Li(K:W.Frag)(ta:TE):TI:=fun σ H R=>ta σ H fun x H1=>mR x fun a=>∃xs,SqL K H1 a xs/\R (Qt K a) H1
def Jo(hg:Gl X "enumerate")(hm:X.mg "enumerate"=none)(ha:PE X a ta)(h1:aJ a=true):PI X (.Tuple es n MM) (.Call (.Name "enumerate" p) [a] [] pos) (Li X.K ta):=by
 intro pins s σ H R I h;have hs:starEach [a] X.env=[(false,eval a X.env)]:=by rw[aZ h1];rfl
 have hA:PA X [a] (sQ ta qK):=Du ha vG h1;refine Call_ (mH I hg hm boot_enumerate (PyProof.Rows.callWith_type1 (bH (hA pos pins s σ H (fun vs H2=>match vs with|[x]=>(mR x fun a1=>∃xs,SqL X.K H2 a1 xs/\R (Qt X.K a1) H2)|_=>False) I ?_) fun us s1 ⟨vs,H1,I1,r1,q1⟩=>?_) (by rw[hs];rfl) rfl))
 ·exact h
 ·dsimp only at q1;split at q1
  rotate_left
  ·exact q1.elim
  rename_i x;rw[cI]at q1;obtain⟨a1,rfl,xs,q2,q⟩:=q1
  cases r1 with
  | cons r rr=>
   cases rr;cases r;obtain⟨its,rv,p1,_⟩:=I1.list q2;refine call_enumerate_list p1.isList fun h' he hi hz k=>?_;have I2:Inv X pins σ H1 {s1 with heap:=h' }:=I1.kept (t':=s1.toks) k;have la:a1<s1.heap.objs.size:=by
    obtain⟨o,e',_⟩:=p1.isList;exact Heap.lt_size e'
   refine wpAny_pyIter_enum (s:={s1 with heap:=h' }) he ?_;refine⟨s1.heap.objs.size+1,_,_,_,H1,rfl,I2,Ai (ne_of_gt (lt_succ_self _)) (ne_of_lt (lt_succ_of_lt la)) (ne_of_lt la),⟨⟨_,he⟩,hi⟩,fun b hb=>?_,q⟩;have Y5:s1.heap.objs.size<=b:=by
    simp only [mem_cons,not_mem_nil,or_false]at hb;rcases hb with rfl|rfl
    ·exact Nat.le_add_right _ 1
    ·exact bY _
   exact I1.fpOk Y5 (I1.hok.fresh Y5)
def R.fo{K:W.Frag}(hg:Gl X "enumerate")(hm:X.mg "enumerate"=none)(ha:XE X a ta)(hK:X.K=K:=by rfl)(h1:aJ a=true:=by rfl):XI X (.Tuple es n MM) (.Call (.Name "enumerate" p) [a] [] pos) (Li K ta):=
 hK▸⟨Jo hg hm ha.h h1⟩
end
def Ff{K:W.Frag}{a:Addr}{xs:List V}{g:TG}{tb:TS}{D:iX}{σ:St}{H:Hp}(Pv:Nat->St->Hp->Prop)(hA:∀i σ H,Pv i σ H->SqL K H a xs)(h0:Pv 0 σ H)(hs:∀(i:Nat)(x:V) σ H t,xs[i]?=some x->Pv i σ H->H t=none->g (.ref t) σ (aH H t (.tup [.int i,x])) fun σ2 H2=>tb {D with nx:=Pv (i+1),ct:=Pv (i+1),bk:=D.nx } σ2 H2)(hd:∀ σ H,Pv xs.length σ H->D.nx σ H) :
  ∃W:Nat->Nat->St->Hp->Prop,(∃m,W 0 m σ H)/\∀i m σ H,W i m σ H →
   ((Qt K a).stop i H/\D.nx σ H)∨((Qt K a).go i H/\∃N:St->Hp->Prop,(∀ σ' H',N σ' H'->∃m',m'<m/\W (i+1) m' σ' H')/\∀x H',(Qt K a).yld i H x H'->g x σ H' fun σ2 H2=>tb {D with nx:=N,ct:=N,bk:=D.nx } σ2 H2):=by
 refine⟨fun i m σ H=>m=xs.length-i/\i<=xs.length/\Pv i σ H,⟨_,rfl,zero_le _,h0⟩,?_⟩;rintro i m σ H ⟨rfl,hi,p⟩;have q1:=hA i σ H p;by_cases X1:i<xs.length
 ·refine .inr ⟨⟨xs,xs[i],q1,kI X1⟩,Pv (i+1),fun σ' H' n=>⟨xs.length-(i+1),Zo,rfl,X1,n⟩,?_⟩;rintro v H' ⟨t,x,ht,rfl,rfl,e1⟩;exact hs i x σ H t (e1 xs q1) p ht
 ·have:i=xs.length:=by omega
  subst this;exact .inl ⟨⟨xs,q1,bY _⟩,hd σ H p⟩
structure jA(P:Program)(w:World)(K:W.Frag)(mg:Str->Option Value)(base:Heap)(n:Nat)(C:Addr)(m:Str)(ps:List Str)(sp:Sp):Prop where
 ex:∃f fd,Cls K C/\Hv K C m f/\gC P w K mg base (pS P w) n f fd ps sp/\Binds K fd ps []
def MethAt.goX{P:Program}{w:World}{K:W.Frag}{mg:Str->Option Value}{base:Heap}{C:Addr}{m qual:Str}{st:Stmt}{N ps:List Str}{k:Nat}{sp:Sp}(D:MethAt K C m qual st ps)(S:aG N ps (aD st))(len:∀vs H Q E,sp vs H Q E->vs.length=ps.length)(o9:∀(f:Addr)(cdv:Value)(A:Around)(outer:List Env)(s:Shared)(H:Hp)(vs:List V)(Q:VK)(E:XK),Room k (A.deeper (envOfC qual (aD st) s.heap.objs.size f cdv))->sp vs H Q E →
   ∃t,XB (dH (pS P w) P w K mg base N qual (aD st) f cdv A outer s H E) (aM st) t/\t {nx:=fun _ H'=>Q .non H',rt:=Q } (start N vs) H):jA P w K mg base (k+1) C m ps sp:=by
 obtain⟨f,fd,F,hm,hb⟩:=D.ex;refine⟨f,fd,D.cl,hm,?_,hb⟩;obtain⟨oc,od,kV,doc,pm,an,cdv,ct,osl,rfl,lk,ya⟩:=F.ex;refine Ck lk ya S len fun A outer s H vs Q E hr ER=>?_;obtain⟨t,h,q⟩:=o9 f cdv A outer s H vs Q E hr ER;exact⟨t,h.h,q⟩
def rK(C:Addr)(m:Str)(sp:Sp)(Ex:St->Value->Option Addr->Hp->Prop)(ta:TE)(t:TA):TE:=fun σ H Q=>ta σ H fun x H1=>mR x fun a=>∃dx fs,H1 a=some (.ins C dx fs)/\fs.lookup m=none/\t σ H1 fun vs H2=>sp (.ref a::vs) H2 Q (fun cls od H'=>Ex σ cls od H')
section
variable {X:Cx}{e o:Expr}{es:List Expr}{m x:Str}{p pos apos:Pos}{ta:TE}{t:TA}{C:Addr}{n:Nat}{ps:List Str}{sp:Sp}{Ex:St->Value->Option Addr->Hp->Prop}
def Aj{pl:Sem Bool}(he:PE X o ta)(c:jA X.prog X.w X.K X.mg X.base n C m ps sp)(hr:Room n X.A)(hx:nG X Ex)(ha:PA X (e::es) t)(hs:aJ e=true)(uq:(backTo pos (starEach es X.env)).any (·.1)=false)(ht:eval (.Call (.Attribute o m apos) (e::es) [] pos) X.env=(do
   let ov←eval o X.env
   standAt apos.atName
   let (f,first)←holding [ov] (getMethod ov m pl)
   callWith pos f first (backTo pos (starEach (e::es) X.env)) (backToKw pos (keywordEach [] X.env)))) :
  PE X (.Call (.Attribute o m apos) (e::es) [] pos) (rK C m sp Ex ta t):=by
 obtain⟨f,fd,cl,hm,F,hb⟩:=c.ex;intro pins s σ H Q I h;refine W.methodCall_KW (pl:=pl) (bH (he pins s σ H _ I h) fun u s1 ⟨x,H1,I1,rx,q1⟩=>?_) ht;dsimp only at q1;rw[cI]at q1;obtain⟨a,rfl,dx,fs,ea,l,q⟩:=q1;obtain rfl:u=Value.ref a:=rx;refine gB I1 ea cl hm l ?_;refine W.callWith_K (first:=[.ref a]) (h₀:=X.base) I.ok.mod.kin hm.kp (bH (ha pos pins s1 σ H1 _ I1 q) fun us s2 ⟨vs,H2,I2,r,q2⟩=>⟨I2.kIn,?_⟩) (aZ hs) uq;have r2:Vals (V.ref a::vs) (Value.ref a::us):=.cons rfl r;have hl:(Value.ref a::us).length=ps.length:=by rw[<- r2.length];exact F.len _ _ _ _ q2
 have Y5:=hb s2 (Value.ref a::us) I2.kIn (by rw[append_nil];exact hl);rw[append_nil]at Y5;refine wpAny_call (codeAny_mono (F.run X.A X.stack s2 H2 ⟨Value.ref a::us,[]⟩ (Value.ref a::us) (V.ref a::vs) Q _ hr I2.env0 Y5 r2 q2) fun rs s' hq=>?_)
 cases rs with
 | error e'=>exact hx pins σ H2 s2 e' s' I2 hq
 | ok fl=>
  cases fl with
  | ret u=>exact I2.after hq
  | next=>exact False.elim hq
  | brk=>exact False.elim hq
  | cont=>exact False.elim hq
namespace R
def dy{pl:Sem Bool}(c:jA X.prog X.w X.K X.mg X.base n C m ps sp)(hr:Room n X.A)(hx:nG X Ex)(he:XE X o ta)(ha:XA X (e::es) t)(hs:aJ e=true:=by rfl)(h2:es.all aJ=true:=by rfl)(ht:eval (.Call (.Attribute o m apos) (e::es) [] pos) X.env=(do
   let ov←eval o X.env
   standAt apos.atName
   let (f,first)←holding [ov] (getMethod ov m pl)
   callWith pos f first (backTo pos (starEach (e::es) X.env)) (backToKw pos (keywordEach [] X.env))):=by rfl):XE X (.Call (.Attribute o m apos) (e::es) [] pos) (rK C m sp Ex ta t):=⟨Aj he.h c hr hx ha.h hs (cV h2) ht⟩
end R
end
section
variable {X:Cx}{pins:List (Addr×Obj)}{σ:St}{H:Hp}{s:Shared}{a:Addr}{o:Obj}{kvs:List (bJ×V)}
def Lj(t:TS):TS:=fun D σ H=>t {nx:=fun σ' H2=>∃a kvs o,(∃GU,H a=some (.dK GU))/\H2 a=some (.frz o (.dK kvs))/\D.nx σ' (aH H2 a (.dK kvs)),rt:=fun _ _=>False } σ H
def Jp{e:Stmt}{t:TS}(he:PS X e t):PS X e (Lj t):=by
 intro pins s σ H D I h;refine bH (he pins s σ H _ I h) fun f s1 q=>?_
 cases f with
 | next=>
  obtain⟨σ',H2,I2,a,kvs,o,⟨GU,e0⟩,e2,q⟩:=q;refine⟨σ',_,I2.thaw e2 (fun o' u' z=>?_),q⟩;have:=I.base.frzs a o' u' z;rw[e0]at this;cases this
 | brk=>obtain⟨_,_,_,q⟩:=q;exact q.elim
 | cont=>obtain⟨_,_,_,q⟩:=q;exact q.elim
 | ret u=>obtain⟨_,_,_,_,_,q⟩:=q;exact q.elim
end
namespace R
section
variable {X:Cx}{tg l:Expr}{tl:TE}{apos cpos:Pos}{e:Stmt}{t:TS}
def iw(h:XS X e t):XS X e (Lj t):=⟨Jp h.h⟩
end
end R
section
variable {P:Program}{w:World}{K:W.Frag}{mg:Str->Option Value}{base:Heap}{N:List Str}{qual:Str}{scope:Scope}{f:Addr}{cd:Value}{A:Around}{outer:List Env}{s:Shared}{H:Hp}{E:XK}
def nO(hf:(envOfC qual scope s.heap.objs.size f cd).frame=some (envOfC qual scope s.heap.objs.size f cd).locals:=by rfl) :
  nG (dH (pS P w) P w K mg base N qual scope f cd A outer s H E) (fun _ cls od H'=>E cls od H'):=by
 intro pins σ H0 s0 e s' I0 h;obtain⟨a,cls,od,H',rfl,F,hE⟩:=h;show wpAny (model P w) (A.deeper (envOfC qual scope s.heap.objs.size f cd)) (leaving (envOfC qual scope s.heap.objs.size f cd) (.ref a)) (fun _ zi=>pS P w outer H s E (.ref a) zi) (fun e' zi=>pS P w outer H s E e' zi) s';unfold leaving;refine wpAny_bind (tT I0 F I0.ok.frames rfl hf fun s2 F2=>?_);refine nF I0 F2 fun s3 F3=>?_;have I3:=F3.inv I0;have UR:Un (gU outer) [] H H0 s.heap s0.heap:=I0.base;have low:∀ {c:Addr},s0.heap.get? c=none->s.heap.get? c=none:=fun {c} hc=>by
  cases z:s.heap.get? c with
  | none=>rfl
  | some ob=>
   obtain⟨o',y⟩:=UR.there c ob z Zs;rw[hc]at y;cases y
 obtain⟨T,tr,nT,hT⟩:=F3.tr;exact⟨a,cls,od,H',rfl,⟨low F3.na,I3.os,I3.bare,I3.base,F3.hok,F3.ha,⟨T,tr,low nT,hT⟩,F3.dd⟩,hE⟩
def Ak:PassesOwn (model P w) (dH (pS P w) P w K mg base N qual scope f cd A outer s H E).A (dH (pS P w) P w K mg base N qual scope f cd A outer s H E).env (dH (pS P w) P w K mg base N qual scope f cd A outer s H E).xe:=by
 unfold dH;dsimp only;passes_own
end
section
variable {prog:Program}{w:World}{K:Type} [DecidableEq K] {knd:HeapKind prog w K}{A:Around}{E:Value->Shared->Prop}{s:Shared}{d a:Addr}{k:K}
def nQ(xs:List (K×Addr×Value))(k:K):List (K×Addr×Value):=xs.filter fun x=>decide (x.1≠k)
def Fg{xs:List (K×Addr×Value)}(h:k∉xs.map (·.1)):nQ xs k=xs:=by
 unfold nQ;rw[List.filter_eq_self];intro x hx;exact decide_eq_true fun e=>h (Zmm.mpr ⟨x,hx,e⟩)
def lM:∀ {xs:List (K×Addr×Value)}{j:Nat}{p:Addr×Value},(xs.map (·.1)).Nodup->xs[j]?=some (k,p)->nQ xs k=xs.eraseIdx j
 | [],j,p,_,h=>by simp at h
 | x::r,0,p,hn,h=>by
  rw[map_cons,nodup_cons]at hn;have hx:x=(k,p):=by simpa using h
  subst hx;show filter _ _=r;rw[List.filter_cons_of_neg Zs];exact Fg hn.1
 | x::r,j+1,p,hn,h=>by
  rw[map_cons,nodup_cons]at hn;have h':r[j]?=some (k,p):=by simpa using h
  have O3:x.1≠k:=fun e=>hn.1 (e▸Zmm.mpr ⟨(k,p),lN h',rfl⟩)
  show filter _ _=x::r.eraseIdx j;rw[List.filter_cons_of_pos (by simpa using O3),<- lM hn.2 h'];rfl
def jH{α β:Type}(f:α->β):∀(l:List α)(i:Nat),(l.map f).eraseIdx i=(l.eraseIdx i).map f
 | [],_=>rfl
 | _::_,0=>rfl
 | x::r,i+1=>by rw[map_cons,List.eraseIdx_cons_succ,List.eraseIdx_cons_succ,map_cons,jH f r i]
def gG{xs:List (K×Addr×Value)}{Q:Option DictEntry->Shared->Prop}(hu:knd.room A)(sf:knd.is s.heap k a)(hm:s.heap.DictOfH knd d xs)(RA:atKey xs k=none->Q none {s with toks:=s.toks+knd.draws k })(RB:∀e p,atKey xs k=some p->e.val=p.2->∀h',h'.DictOfH knd d (nQ xs k)->Heap.SameBut d s.heap h'->Q (some e) {s with heap:=h',toks:=s.toks+knd.draws k })(hsz:xs.length<=sizeLine):wpAny (model prog w) A (Builtin.Dict.takeOut d (.ref a)) Q E s:=by
 obtain⟨o,es,ep,ho,hc,hd,he,WZ,hn⟩:=hm;unfold Builtin.Dict.takeOut;try with_reducible refine wpAny_holding ?_
 refine wpAny_bind (knd.pyHash hu sf ?_);refine wpAny_bind (wpAny_dictFind_heap (s:={s with toks:=s.toks+knd.draws k }) hu sf ho hd he WZ hn ?_ ?_)
 ·intro MJ;exact wpAny_pure (RA (atKey_none_of_get MJ))
 ·intro j p hj;refine wpAny_bind (wpAny_dictEntries (s:={s with toks:=s.toks+knd.draws k }) ho hd ?_);rw[entry_at he j,hj];refine wpAny_bind (wpAny_updateDictKeys (hz:=by have e:=size_of_entries he;omega) (s:={s with toks:=s.toks+knd.draws k }) ho hd (wpAny_pure (RB _ p (atKey_of_get hn hj) rfl _ ⟨_,_,ep+1,Heap.get?_update_self _ ho (Obj.isFreed_of_dict (Obj.data_mapDictKeys hd _)),
   hc.mapDictKeys _,Obj.data_mapDictKeys hd _,?_,?_,?_⟩ (Heap.SameBut.update ..))))
  ·rw[lM hn hj,<- jH,<- he];obtain⟨l⟩:=es;simp
  ·intro x hx;exact knd.keeps (WZ x (mem_filter.mp hx).1) ho hd (Heap.SameBut.update ..)
  ·exact List.Nodup.sublist (List.Sublist.map _ List.filter_sublist) hn
variable (knd)
def gW(hd:(d==sysModules)=false)(rest:List Value)(yd:rest=[]∨∃dflt,rest=[dflt]) :
    MeetsIn prog w (Builtin.«dict.pop» ⟨.ref d::.ref a::rest,[]⟩) (fun A R s=>knd.room A.in1/\∃k xs,knd.is s.heap k a/\s.heap.DictOfH knd d xs/\xs.length<=sizeLine ∧
      ((∃p,atKey xs k=some p/\∀h' t',h'.DictOfH knd d (nQ xs k)->Heap.SameBut d s.heap h'->R (.ok (.ret p.2)) {s with heap:=h',toks:=t' })∨
       (∃x,rest=[x]/\atKey xs k=none/\∀t',R (.ok (.ret x)) {s with toks:=t' }))):=
  .of_wp fun A R s ⟨hu,k,xs,sf,hm,hsz,h⟩=>by
    have hm':=hm;obtain⟨o,es,ep,ho,hc,OU,he,WZ,hn⟩:=hm';unfold Builtin.«dict.pop»;refine wpAny_bind ?_;unfold Builtin.Dict.keyAndDefault;refine wpAny_bind (wpAny_notOrdered_dict hm.typeIs ?_);have JX:es.size=xs.length:=size_of_entries he;rcases yd with rfl|⟨dflt,rfl⟩
    . obtain⟨p,hp,h⟩|⟨x,hx,_⟩:=h
      . show wpAny _ _ (pure (d,Value.ref a,none)) _ _ s
        refine wpAny_pure ?_;have hE:es.isEmpty=false:=by
          cases xs with
          | nil=>cases hp
          | cons x r=>rw[Array.isEmpty_eq_false_iff];intro e;rw[e]at JX;simp at JX
        simp only [keyPart,Option.isSome_none,Bool.false_eq_true,if_false];refine wpAny_bind (wpAny_dictEntries ho OU (wpAny_bind (wpAny_pure ?_)));rw[hE];simp only [Bool.false_eq_true,if_false];refine wpAny_bind (gG hu sf hm (fun hn=>by rw[hn]at hp;cases hp) (fun e p' si hv h' d' hs=>?_) hsz);rw[hp]at si;cases si;simp only [Option.isNone_some,Bool.false_eq_true,if_false];exact wpAny_bind (wpAny_letGo (wpAny_pure ⟨e.val,rfl,by rw[hv];exact h h' _ d' hs⟩))
      . cases hx
    . show wpAny _ _ (pure (d,Value.ref a,some dflt)) _ _ s
      refine wpAny_pure ?_;simp only [keyPart,Option.isSome_none,Bool.false_eq_true,if_false];refine wpAny_bind (wpAny_dictEntries ho OU (wpAny_bind (wpAny_pure ?_)));obtain⟨p,hp,h⟩|⟨x,hx,MJ,h⟩:=h
      . have hE:es.isEmpty=false:=by
          cases xs with
          | nil=>cases hp
          | cons x r=>rw[Array.isEmpty_eq_false_iff];intro e;rw[e]at JX;simp at JX
        rw[hE];simp only [Bool.false_eq_true,if_false];refine wpAny_bind (gG hu sf hm (fun hn=>by rw[hn]at hp;cases hp) (fun e p' si hv h' d' hs=>?_) hsz);rw[hp]at si;cases si;simp only [Option.isNone_some,Bool.false_eq_true,if_false];exact wpAny_bind (wpAny_letGo (wpAny_pure ⟨e.val,rfl,by rw[hv];exact h h' _ d' hs⟩))
      . cases hx
        cases hE:es.isEmpty with
        | true=>
          simp only [if_true];refine wpAny_bind (wpAny_rule (wpAny_bind (wpAny_pure ?_)));simp only [Option.isNone_none,if_true];refine wpAny_bind (wpAny_missedRemoval_other hd ?_);exact wpAny_bind (wpAny_rule (wpAny_pure ⟨dflt,rfl,h s.toks⟩))
        | false=>
          simp only [Bool.false_eq_true,if_false];refine wpAny_bind (gG hu sf hm (fun hn=>?_) (fun e p' si hv h' d' hs=>by rw[MJ]at si;cases si) hsz);simp only [Option.isNone_none,if_true];refine wpAny_bind (wpAny_missedRemoval_other hd ?_);exact wpAny_bind (wpAny_rule (wpAny_pure ⟨dflt,rfl,h _⟩))
end
section
variable {X:Cx}{pins:List (Addr×Obj)}{σ:St}{H:Hp}{s:Shared}{a b:Addr}{kvs:List (List bJ×V)}{k:List bJ}{A:Around}{E:Value->Shared->Prop}
def KT.drop{kvs:List (List bJ×V)}{xs:List (List bJ×Addr×Value)}(r:KT H kvs xs)(k:List bJ):KT H (cR kvs k) (nQ xs k):=by
 induction r with
 | nil=>exact .nil
 | @cons p q ps qs h t ih=>
  unfold cR nQ;by_cases e:p.1=k
  ·rw[List.filter_cons_of_neg (by simpa using e),List.filter_cons_of_neg (by rw[<- h.1];simpa using e)];exact ih
  ·rw[List.filter_cons_of_pos (by simpa using e),List.filter_cons_of_pos (by rw[<- h.1];simpa using e)];exact .cons h ih
def Fh{v:V}{more:List Value}{Q:Value->Shared->Prop}(hu:A.units+1<cLine)(I:Inv X pins σ H s)(e:H a=some (.dT kvs))(eb:H b=some (.tup (k.map kV)))(l:aT kvs k=some v)(hm:more=[]∨∃x,more=[x])(h:∀w' s',Inv X pins σ (aH H a (.dT (cR kvs k))) s'->RelV v w'->Q w' s'):wpAny (model X.prog X.w) A (call (.builtin "dict.pop") (.ref a::.ref b::more)) Q E s:=by
 obtain⟨z,hd,xs,rel,dd⟩:=Cu I.hok e;obtain⟨w',hw,um⟩:=RelO.some_of (v:=v) (o:=(atKey xs k).map (·.2)) (by rw[<- l];exact rel.val k);obtain⟨p,hp,rfl⟩:=Option.map_eq_some_iff.mp hw;have ha:argsOk "dict.pop" ⟨.ref a::.ref b::more,[]⟩:=by
  rcases hm with q|⟨x,q⟩
  ·subst q;exact PySem.F.args_dict_pop_2 _ _
  ·subst q;exact PySem.F.args_dict_pop_3 _ _ _
 refine call_meetsIn PySem.F.slot_dict_pop dd.typeIs PySem.F.entry_dict_pop ha (gW (tupleKind (aW X.prog X.w)) hd more hm)
  ⟨tupleKind_room_in1 hu,k,xs,jN I.hok eb,dd,by rw[<- Paired.length rel];exact z,.inl ⟨p,hp,fun h' t' OP hs=>h _ _ ?_ um⟩⟩
 obtain⟨q,es,ep,hq,h2,h3,h4,_,h5⟩:=OP;refine qT I (by rw[e];exact True.intro) hs ⟨q,hq⟩ ⟨fO (sX kvs k) z,hd,_,(rel.drop k).keeps fun c ys ec=>?_,q,es,ep,hq,h2,h3,h4,h5⟩;rw[aE (bF ec e nofun)];exact ec
def Jq{r:Value}{Q:Value->Shared->Prop}(hu:A.units+1<cLine)(I:Inv X pins σ H s)(e:H a=some (.dT kvs))(eb:H b=some (.tup (k.map kV)))(l:aT kvs k=none)(h:∀s',Inv X pins σ H s'->Q r s') :
  wpAny (model X.prog X.w) A (call (.builtin "dict.pop") [.ref a,.ref b,r]) Q E s:=by
 obtain⟨z,hd,xs,rel,dd⟩:=Cu I.hok e;have hn:(atKey xs k).map (·.2)=none:=RelO.none_of (by rw[<- l];exact rel.val k);have MD:atKey xs k=none:=by
  cases q:atKey xs k with
  | none=>rfl
  | some p=>rw[q]at hn;cases hn
 exact call_meetsIn PySem.F.slot_dict_pop dd.typeIs PySem.F.entry_dict_pop (PySem.F.args_dict_pop_3 _ _ _) (gW (tupleKind (aW X.prog X.w)) hd [r] (.inr ⟨r,rfl⟩))
  ⟨tupleKind_room_in1 hu,k,xs,jN I.hok eb,dd,by rw[<- Paired.length rel];exact z,.inr ⟨r,rfl,MD,fun t'=>h _ (I.tok _)⟩⟩
end
def yI(td ty:TE):TE:=fun σ H Q=>td σ H fun x H1=>∃a,x=.ref a/\Ux H1 a/\ty σ H1 fun y H2=>∃kvs k b v,H2 a=some (.dT kvs)/\y=.ref b/\H2 b=some (.tup (k.map kV))/\aT kvs k=some v/\Q v (aH H2 a (.dT (cR kvs k)))
def yJ(td ty tx:TE):TE:=fun σ H Q=>td σ H fun x H1=>∃a,x=.ref a/\Ux H1 a/\ty σ H1 fun y H2=>tx σ H2 fun z H3=>∃kvs k b,H3 a=some (.dT kvs)/\y=.ref b/\H3 b=some (.tup (k.map kV)) ∧
 (∀v,aT kvs k=some v->Q v (aH H3 a (.dT (cR kvs k))))/\(aT kvs k=none->Q z H3)
section
variable {X:Cx}{o e f:Expr}{apos cpos:Pos}{td ty tx:TE}
def Al(hu:X.A.units+1<cLine)(ho:PE X o td)(he:PE X e ty)(m:M1 X o "pop" apos e cpos):PE X (.Call (.Attribute o "pop" apos) [e] [] cpos) (yI td ty):=by
 intro pins s σ H Q I h;refine wpAny_Call_method m.base m.few m.line PySem.F.plainAttrs_dict PySem.F.slot_dict_pop PySem.F.type_dict_pop (bH (ho pins s σ H _ I h) fun u s1 ⟨x,H1,I1,rx,a,ex,d,q1⟩=>?_);subst ex;obtain rfl:u=Value.ref a:=rx;obtain⟨t1,t2,_⟩:=De I1 d;refine⟨t1,t2,?_⟩;rw[m.trees];refine Calls.callWith_builtin rfl (Calls.evalArgs_plain (Calls.spliced_cons (bH (he pins s1 σ H1 _ I1 q1) fun iv s2 ⟨y,H2,I2,ry,kvs,k,b,v,ea,ey,eb,l,q2⟩=>Calls.spliced_nil ?_)));subst ey;obtain rfl:iv=Value.ref b:=ry;exact Fh hu I2 ea eb l (.inl rfl) fun w' s3 I3 um=>⟨v,_,I3,um,q2⟩
def Am(hu:X.A.units+1<cLine)(ho:PE X o td)(he:PE X e ty)(hf:PE X f tx)(m:M2 X o "pop" apos e f cpos):PE X (.Call (.Attribute o "pop" apos) [e,f] [] cpos) (yJ td ty tx):=by
 intro pins s σ H Q I h;refine wpAny_Call_method m.base m.few m.line PySem.F.plainAttrs_dict PySem.F.slot_dict_pop PySem.F.type_dict_pop (bH (ho pins s σ H _ I h) fun u s1 ⟨x,H1,I1,rx,a,ex,d,q1⟩=>?_);subst ex;obtain rfl:u=Value.ref a:=rx;obtain⟨t1,t2,_⟩:=De I1 d;refine⟨t1,t2,?_⟩;rw[m.trees];refine Calls.callWith_builtin rfl (Calls.evalArgs_plain (Calls.spliced_cons (bH (he pins s1 σ H1 _ I1 q1) fun iv s2 ⟨y,H2,I2,ry,q2⟩=>
  Calls.spliced_cons (bH (hf pins s2 σ H2 _ I2 q2) fun fv s3 ⟨z,H3,I3,rz,kvs,k,b,ea,ey,eb,q3,q4⟩=>Calls.spliced_nil ?_))))
 subst ey;obtain rfl:iv=Value.ref b:=ry
 cases l:aT kvs k with
 | some v=>exact Fh hu I3 ea eb l (.inr ⟨fv,rfl⟩) fun w' s4 I4 um=>⟨v,_,I4,um,q3 v l⟩
 | none=>exact Jq hu I3 ea eb l fun s4 I4=>⟨z,H3,I4,rz,q4 l⟩
def R.fq(hu:X.A.units+1<cLine)(ho:XE X o td)(he:XE X e ty)(h1:attributeBase o "pop" X.env (eval o X.env)=eval o X.env:=by rfl)(h3:(apos.endLine == cpos.line)=true:=by rfl)(h2:((backTo cpos (starEach [e] X.env)).all (fun x=>!x.1)&&(backToKw cpos (keywordEach [] X.env)).all (fun x=>x.1.isSome)
  && decide (([e]:List Expr).length+([]:List Keyword).length+(if ([]:List Keyword).isEmpty then 0 else 1)<30))=true:=by rfl)(h4:backTo cpos (starEach [e] X.env)=[(false,eval e X.env)]:=by rfl):XE X (.Call (.Attribute o "pop" apos) [e] [] cpos) (yI td ty):=⟨Al hu ho.h he.h ⟨h1,h2,h3,h4⟩⟩
def R.ft(hu:X.A.units+1<cLine)(ho:XE X o td)(he:XE X e ty)(hf:XE X f tx)(h1:attributeBase o "pop" X.env (eval o X.env)=eval o X.env:=by rfl)(h3:(apos.endLine == cpos.line)=true:=by rfl)(h2:((backTo cpos (starEach [e,f] X.env)).all (fun x=>!x.1)&&(backToKw cpos (keywordEach [] X.env)).all (fun x=>x.1.isSome)
  && decide (([e,f]:List Expr).length+([]:List Keyword).length+(if ([]:List Keyword).isEmpty then 0 else 1)<30))=true:=by rfl)(h4:backTo cpos (starEach [e,f] X.env)=[(false,eval e X.env),(false,eval f X.env)]:=by rfl):XE X (.Call (.Attribute o "pop" apos) [e,f] [] cpos) (yJ td ty tx):=⟨Am hu ho.h he.h hf.h ⟨h1,h2,h3,h4⟩⟩
def R.eh{pos:Pos}:XE X (.Dict [] [] pos) Cz:=⟨Dc⟩
end
section
variable {X:Cx}
def Jr(neg:Bool):R2:=fun x y H Q=>mR y fun a=>∃o,DGet H a x o/\Q (.bl (if neg then !o.isSome else o.isSome)) H
def Fi(neg:Bool)(hu:X.A.units+1<cLine):OpR X (compareOp (if neg then .NotIn else .In)) (Jr neg):=by
 intro pins s σ H x y v u Q I rx ry h;unfold Jr at h;rw[cI]at h;obtain⟨a,rfl,o,g,q⟩:=h;cases ry;cases neg
 ·exact Rz hu I g rx fun s' I'=>⟨.bl _,H,I',rfl,q⟩
 ·exact xM hu I g rx fun s' I'=>⟨.bl _,H,I',rfl,q⟩
def R.da(hu:X.A.units+1<cLine):fR X (compareOp .In) (Jr false):=⟨Fi false hu⟩
def R.fu(hu:X.A.units+1<cLine):fR X (compareOp .NotIn) (Jr true):=⟨Fi true hu⟩
end
inductive KE where
 | busy (n:Int) (d:Addr)
 | kept (n t:Int) (d a:Addr)
abbrev KM:=Str×Str->Option KE
def KM.set(m:KM)(q:Str×Str)(e:Option KE):KM:=fun r=>if r=q then e else m r
def KM.set_same{m:KM}{q:Str×Str}{e:Option KE}:m.set q e q=e:=if_pos rfl
def KM.set_ne{m:KM}{q r:Str×Str}{e:Option KE}(h:r≠q):m.set q e r=m r:=if_neg h
def pk(q:Str×Str):List bJ:=[Sum.inr q.1,Sum.inr q.2]
def Fj{q r:Str×Str}(h:pk q=pk r):q=r:=by
 obtain⟨a,b⟩:=q;obtain⟨c,d⟩:=r;unfold pk at h;simp only [List.cons.injEq,Sum.inr.injEq,and_true]at h;rw[h.1,h.2]
def gH{H:Hp}{t:Addr}{q:Str×Str}(h:H t=some (.tup [.str q.1,.str q.2])):H t=some (.tup ((pk q).map kV)):=h
def fB:KE->Option (List V)
 | .busy n d=>some [.int n,.ref d]
 | .kept ..=>none
def fS:KE->Option (List V)
 | .busy ..=>none
 | .kept n t d a=>some [.int n,.int t,.ref d,.ref a]
structure Dic(H:Hp)(kvs:List (List bJ×V))(m:KM)(f:KE->Option (List V))(L:Nat):Prop where
 nd:(kvs.map (·.1)).Nodup
 all:∀p∈kvs,∃q e xs t,p=(pk q,V.ref t)/\m q=some e/\f e=some xs/\H t=some (.tup xs)
 has:∀q e xs,m q=some e->f e=some xs->pk q∈kvs.map (·.1)
 len:kvs.length<=L
section
variable {κ:Type} [DecidableEq κ]
def nV{kvs:List (κ×V)}{k:κ}{v:V}(h:aT kvs k=some v):(k,v)∈kvs:=by
 induction kvs with
 | nil=>cases h
 | cons p r ih=>
  by_cases e:p.1=k
  ·rw[bO e]at h;cases h;cases e;exact sN
  ·rw[bP e]at h;exact sM _ (ih h)
def Fk{kvs:List (κ×V)}{k:κ}{v:V}{p:κ×V}(h:p∈cG kvs k v):p=(k,v)∨(p∈kvs/\p.1≠k):=by
 cases hv:aT kvs k with
 | none=>
  rw[hU v hv]at h;rcases Zma.mp h with h|h
  ·exact .inr ⟨h,fun e=>fQ hv (e▸Zmm.mpr ⟨p,h,rfl⟩)⟩
  ·exact .inl (Zms.mp h)
 | some x=>
  unfold cG at h;rw[cH,hv]at h;simp only [Option.isSome_some,if_true]at h;obtain⟨p',si,rfl⟩:=Zmm.mp h;by_cases e:p'.1=k
  ·rw[if_pos e];left;rw[e]
  ·rw[if_neg e];exact .inr ⟨si,e⟩
def An{kvs:List (κ×V)}{k:κ}{v:V}(j:κ):j∈(cG kvs k v).map (·.1)↔j=k∨j∈kvs.map (·.1):=by
 cases hv:aT kvs k with
 | none=>
  rw[hU v hv,mF,Zma];simp only [map_cons,map_nil,Zms];exact Or.comm
 | some x=>
  have e:(cG kvs k v).map (·.1)=kvs.map (·.1):=by
   unfold cG;rw[cH,hv];simp only [Option.isSome_some,if_true,map_map];refine List.map_congr_left fun p _=>?_;simp only [Function.comp];split<;>rfl
  rw[e];exact⟨.inr,fun z=>z.elim (fun z=>z▸Ii hv) id⟩
def Js{kvs:List (κ×V)}{k:κ}{v:V}(hn:(kvs.map (·.1)).Nodup):((cG kvs k v).map (·.1)).Nodup:=by
 cases hv:aT kvs k with
 | none=>exact Ij v hn hv
 | some x=>
  have e:(cG kvs k v).map (·.1)=kvs.map (·.1):=by
   unfold cG;rw[cH,hv];simp only [Option.isSome_some,if_true,map_map];refine List.map_congr_left fun p _=>?_;simp only [Function.comp];split<;>rfl
  rw[e];exact hn
def wA{kvs:List (κ×V)}{k j:κ}(h:j∈kvs.map (·.1))(O3:j≠k):j∈(cR kvs k).map (·.1):=by
 obtain⟨p,hp,rfl⟩:=Zmm.mp h;exact Zmm.mpr ⟨p,mem_filter.mpr ⟨hp,decide_eq_true O3⟩,rfl⟩
def Fl{kvs:List (κ×V)}{k:κ}{p:κ×V}(h:p∈cR kvs k):p.1≠k:=of_decide_eq_true (mem_filter.mp h).2
end
section
variable {H H':Hp}{kvs:List (List bJ×V)}{m m':KM}{f:KE->Option (List V)}{L:Nat}{q:Str×Str}
def Dic.keep(h:Dic H kvs m f L)(k:∀b xs,H b=some (.tup xs)->H' b=some (.tup xs)):Dic H' kvs m f L:=
 ⟨h.nd,fun p hp=>let ⟨q,e,xs,t,h1,h2,h3,h4⟩:=h.all p hp;⟨q,e,xs,t,h1,h2,h3,k _ _ h4⟩,h.has,h.len⟩
def Dic.more(h:Dic H kvs m f L):Dic H kvs m f (L+1):=⟨h.nd,h.all,h.has,Nat.le_succ_of_le h.len⟩
def Dic.get(h:Dic H kvs m f L)(q:Str×Str):(∃t e xs,aT kvs (pk q)=some (.ref t)/\m q=some e/\f e=some xs/\H t=some (.tup xs))∨(aT kvs (pk q)=none/\∀e,m q=some e->f e=none):=by
 cases hv:aT kvs (pk q) with
 | none=>
  refine .inr ⟨rfl,fun e he=>?_⟩
  cases hf:f e with
  | none=>rfl
  | some xs=>exact absurd (h.has q e xs he hf) (fQ hv)
 | some v=>
  obtain⟨q',e,xs,t,h1,h2,h3,h4⟩:=h.all _ (nV hv);cases Fj (congrArg Prod.fst h1);cases(congrArg Prod.snd h1:v=V.ref t);exact .inl ⟨t,e,xs,rfl,h2,h3,h4⟩
def Dic.at(h:Dic H kvs m f L){e:KE}{xs:List V}(hm:m q=some e)(hf:f e=some xs):∃t,aT kvs (pk q)=some (.ref t)/\H t=some (.tup xs):=by
 rcases h.get q with⟨t,e',zl,h1,h2,h3,h4⟩|⟨_,h2⟩
 ·rw[hm]at h2;cases h2;rw[hf]at h3;cases h3;exact⟨t,h1,h4⟩
 ·rw[h2 e hm]at hf;cases hf
def Dic.no(h:Dic H kvs m f L)(hm:∀e,m q=some e->f e=none):aT kvs (pk q)=none:=by
 rcases h.get q with⟨t,e',zl,h1,h2,h3,h4⟩|⟨h1,_⟩
 ·rw[hm _ h2]at h3;cases h3
 ·exact h1
def Dic.put(h:Dic H kvs m f L){e:KE}{xs:List V}{t:Addr}(hf:f e=some xs)(ht:H t=some (.tup xs))(h1:m' q=some e)(h2:∀r,r≠q->m' r=m r):Dic H (cG kvs (pk q) (.ref t)) m' f (L+1):=by
 refine⟨Js h.nd,fun p hp=>?_,fun r e' zl hr RC=>?_,fO (dQ _ _ _) (Nat.succ_le_succ h.len)⟩
 ·rcases Fk hp with rfl|⟨hp,O3⟩
  ·exact⟨q,e,xs,t,rfl,h1,hf,ht⟩
  ·obtain⟨r,e',zl,t',rfl,g2,g3,g4⟩:=h.all p hp;exact⟨r,e',zl,t',rfl,by rw[h2 r (fun z=>O3 (by rw[z]))];exact g2,g3,g4⟩
 ·rw[An];by_cases z:r=q
  ·exact .inl (by rw[z])
  ·exact .inr (h.has r e' zl (by rw[<- h2 r z];exact hr) RC)
def Dic.drop(h:Dic H kvs m f L)(h1:∀e,m' q=some e->f e=none)(h2:∀r,r≠q->m' r=m r):Dic H (cR kvs (pk q)) m' f L:=by
 refine⟨mO h.nd,fun p hp=>?_,fun r e' zl hr RC=>?_,fO (sX _ _) h.len⟩
 ·obtain⟨r,e',zl,t',rfl,g2,g3,g4⟩:=h.all p (pM hp);exact⟨r,e',zl,t',rfl,by rw[h2 r (fun z=>Fl hp (by rw[z]))];exact g2,g3,g4⟩
 ·have z:r≠q:=fun z=>by rw[z]at hr;rw[h1 _ hr]at RC;cases RC
  exact wA (h.has r e' zl (by rw[<- h2 r z];exact hr) RC) (fun e=>z (Fj e))
def Dic.skip(h:Dic H kvs m f L)(h0:∀e,m q=some e->f e=none)(h1:∀e,m' q=some e->f e=none)(h2:∀r,r≠q->m' r=m r):Dic H kvs m' f L:=by
 have:=h.drop h1 h2
 rwa [mM (fQ (h.no h0))]at this
def Dic.nil:Dic H [] (fun _=>none) f L:=⟨nodup_nil,fun p hp=>absurd hp (not_mem_nil),fun q e xs he=>(by cases he),zero_le _⟩
end
structure KF where
 dx:Addr
 db:Addr
 ds:Addr
def uV(a:KF)(life:Int):List (Str×V):=[("life",.int life),("begun_ones",.ref a.db),("settled_ones",.ref a.ds)]
structure KyAt(C:Addr)(H:Hp)(p:Addr)(a:KF)(life:Int)(m:KM)(L:Nat):Prop where
 hp:H p=some (.ins C a.dx (uV a life))
 hb:∃kvs,H a.db=some (.dT kvs)/\Dic H kvs m fB L
 hs:∃kvs,H a.ds=some (.dT kvs)/\Dic H kvs m fS L
 ne:a.db≠a.ds
structure Qu(K:W.Frag)(C:Addr):Prop where
 cl:Cls K C
 nL:NoAttr K C "life"
 nB:NoAttr K C "begun_ones"
 nS:NoAttr K C "settled_ones"
def Vr(a:KF)(l:Int):(uV a l).lookup ("life":Str)=some (.int l):=by unfold uV;rw[lookup_cons];simp
def rL(a:KF)(l:Int):(uV a l).lookup ("begun_ones":Str)=some (.ref a.db):=by
 unfold uV;rw[lookup_cons,(by decide +kernel:(("begun_ones":Str)==("life":Str))=false)];show List.lookup ("begun_ones":Str) [(("begun_ones":Str),V.ref a.db),(("settled_ones":Str),V.ref a.ds)]=_;rw[lookup_cons];simp
def Fm(a:KF)(l:Int):(uV a l).lookup ("settled_ones":Str)=some (.ref a.ds):=by
 unfold uV;rw[lookup_cons,(by decide +kernel:(("settled_ones":Str)==("life":Str))=false)];show List.lookup ("settled_ones":Str) [(("begun_ones":Str),V.ref a.db),(("settled_ones":Str),V.ref a.ds)]=_;rw[lookup_cons,(by decide +kernel:(("settled_ones":Str)==("begun_ones":Str))=false)];show List.lookup ("settled_ones":Str) [(("settled_ones":Str),V.ref a.ds)]=_;rw[lookup_cons];simp
def Fn{m:Str}(a:KF)(l:Int)(h1:(m==("life":Str))=false)(h2:(m==("begun_ones":Str))=false)(h3:(m==("settled_ones":Str))=false):(uV a l).lookup m=none:=by
 unfold uV;rw[lookup_cons,h1];show List.lookup m [(("begun_ones":Str),V.ref a.db),(("settled_ones":Str),V.ref a.ds)]=none;rw[lookup_cons,h2];show List.lookup m [(("settled_ones":Str),V.ref a.ds)]=none;rw[lookup_cons,h3];rfl
section
variable {C:Addr}{H H':Hp}{p:Addr}{a:KF}{life:Int}{m:KM}{L:Nat}
def KyAt.keep(h:KyAt C H p a life m L)(k:∀b o,H b=some o->(∀xs,o≠.lst xs)->H' b=some o):KyAt C H' p a life m L:=by
 obtain⟨b1,g1,d1⟩:=h.hb;obtain⟨b2,g2,d2⟩:=h.hs;have kt:∀b xs,H b=some (.tup xs)->H' b=some (.tup xs):=fun b xs e=>k _ _ e (fun _ z=>nomatch z)
 exact⟨k _ _ h.hp (fun _ z=>nomatch z),⟨b1,k _ _ g1 (fun _ z=>nomatch z),d1.keep kt⟩,⟨b2,k _ _ g2 (fun _ z=>nomatch z),d2.keep kt⟩,h.ne⟩
def KyAt.same(h:KyAt C H p a life m L)(s:Same H H'):KyAt C H' p a life m L:=h.keep fun b o e _=>s _ _ e
def KyAt.new(h:KyAt C H p a life m L){m':KM}{L':Nat}{b1 b2:List (List bJ×V)}(hp:H' p=H p)(g1:H' a.db=some (.dT b1))(g2:H' a.ds=some (.dT b2))(kt:∀b xs,H b=some (.tup xs)->H' b=some (.tup xs))(d1:Dic H' b1 m' fB L')(d2:Dic H' b2 m' fS L'):KyAt C H' p a life m' L':=
 ⟨hp.trans h.hp,⟨b1,g1,d1⟩,⟨b2,g2,d2⟩,h.ne⟩
end
def Lk(life turn:Int):Option KE->List V
 | none=>[.str "free"]
 | some (.busy n d)=>[.str "busy",.int n,.ref d]
 | some (.kept n t d a)=>if t+life>turn then [.str "kept",.int n,.ref d,.ref a] else [.str "free"]
def Vs(H H':Hp)(a:KF):Prop:=∀c o,H c=some o->c≠a.db->c≠a.ds->H' c=some o
def yK(C:Addr):Sp:=fun vs H Q _=>∃(p dx:Addr)(life:Int),vs=[.ref p,.int life]/\H p=some (.ins C dx []) ∧
 ∀H' a,H a.db=none->H a.ds=none->KyAt C H' p a life (fun _=>none) 0->(∀b o,H b=some o->b≠p->H' b=some o)->Q .non H'
def yL:Sp:=fun vs H Q _=>∃t l n:Int,vs=[.int t,.int l,.int n]/\Q (.bl (decide (t+l>n))) H
def Fo(C:Addr):Sp:=fun vs H Q _=>∃p a life m L q now,vs=[.ref p,.str q.1,.str q.2,.int now]/\KyAt C H p a life m L/\∀t H',Same H H'->H' t=some (.tup (Lk life now (m q)))->Q (.ref t) H'
def yM(C:Addr):Sp:=fun vs H Q _=>∃p a life m L q n d,vs=[.ref p,.str q.1,.str q.2,.int n,.ref d]/\KyAt C H p a life m L/\L<=500/\(∀n' d',m q≠some (.busy n' d')) ∧
 ∀H',KyAt C H' p a life (m.set q (some (.busy n d))) (L+1)->Vs H H' a->Q .non H'
def Tq(C:Addr):Sp:=fun vs H Q _=>∃p a life m L t q n d,vs=[.ref p,.ref t]/\KyAt C H p a life m L/\H t=some (.tup [.str q.1,.str q.2])/\m q=some (.busy n d) ∧
 ∀u H',KyAt C H' p a life (m.set q none) L->Vs H H' a->H' u=some (.tup [.int n,.ref d])->Q (.ref u) H'
section
variable {prog:Program}{w:World}{A:Around}{E:Value->Shared->Prop}{h:Heap}{g:Array GenState}{d:Drawn}{t:Nat}{os:OsState}
variable {nm q:Str}{C N:Addr}{bs bm JY:List Value}{hdct:Bool}{sn:List Str}{sub:List Value}{ab:Bool}{col:Option Bool}{dd:Option Addr}{k0 k1 k2 k3 k5:Option Value}{B newId uv:String}
abbrev dJ(C t:Addr):Obj:={cls:=.ref C,data:=.fields #[.ref t,.none,.none,.none,.bool false,.none] }
abbrev gX(h:Heap)(C:Addr)(rest:List Value):Heap:=(h.push {cls:=.type "tuple",data:=.seq rest.toArray }).push (dJ C h.objs.size)
def eS{rest:List Value}{b:Addr}{o:Obj}(e:h.get? b=some o):(gX h C rest).get? b=some o:=fX _ (fX _ e)
def tW{rest:List Value}:(gX h C rest).get? (h.objs.size+1)=some (dJ C h.objs.size):=by
 have:=Heap.get?_push_size (h.push {cls:=.type "tuple",data:=.seq rest.toArray }) (o:=dJ C h.objs.size) rfl
 rwa [Heap.size_push]at this
def tX(F:ExcBaseFacts B newId uv JY)(T:OwnTail h JY bm){mN:Str->Option Value}{rest:List Value}{fI:Addr}{oI:Obj}{Q:Fin->Shared->Prop}(hC:h.get? C=some (excClassObj nm q C N bs bm hdct sn sub ab col dd k0 k1 k2 k3 k5 newId))(hn:h.Ns N mN)(hi:mN "__init__"=some (.ref fI))(Xa:h.get? fI=some oI)(RD:oI.cls=.type "function")(go:wpAny (model prog w) A (call (.ref fI) (.ref (h.objs.size+1)::rest)) (fun r s'=>r=.none/\Q (.done (.ret (.ref (h.objs.size+1)))) s') E ⟨gX h C rest,g,d,t,os⟩)(yd:rest.length<=sizeLine) :
  wpAny (model prog w) A (Builtin.«type.__call__» ⟨.ref C::rest,[]⟩) Q E ⟨h,g,d,t,os⟩:=by
 repeat (first|with_reducible refine wpAny_loadPart_at hC ?_|with_reducible refine wpAny_madeBy_exc hC ?_|wp_step)
 refine codeAny_call_builtin_code (Code.quiet_builtin _ F.quiet) (wpAny_check_new_subT F T hC (codeAny_exc_new_subT F T hC ?_ yd));show wpAny _ _ _ _ _ _;have cx:(gX h C rest).get? C=_:=eS hC;have fx:(gX h C rest).get? fI=_:=eS Xa;have nx:(gX h C rest).Ns N mN:=let ⟨o,es,ep,e,r⟩:=hn;⟨o,es,ep,eS e,r⟩;have gx:(gX h C rest).get? (h.objs.size+1)=some (dJ C h.objs.size):=tW;have me:(Value.ref C::bm).contains (.ref C)=true:=by simp
 have tx:=T.keeps (h':=gX h C rest) fun b o e=>eS e;unfold isInstance
 repeat (first|with_reducible refine wpAny_loadPart_at gx ?_|(with_reducible refine wpAny_isSubtype_exc cx ?_;rw[me])|wp_step)
 show wpAny _ _ (typeLookup (.ref C) _) _ _ _;refine wpAny_typeLookup_tail cx nx tx F.mroIs F.init.lookup ?_;rw[hi];refine wpAny_holding (wpAny_bind ?_);unfold bindSpecial;refine wpAny_bind (wpAny_typeOf (T:="function") ⟨_,fx,RD⟩ ?_);rw[if_pos Zd];refine wpAny_pure (wpAny_bind (wpAny_mono go (fun r s' hr=>?_) fun _ _ x=>x));obtain⟨rfl,hQ⟩:=hr
 wp_walk;exact hQ
def wB(F:ExcBaseFacts B newId uv JY)(T:OwnTail h JY bm){mN:Str->Option Value}{rest:List Value}{fI:Addr}{oI:Obj}{Q:Value->Shared->Prop}(hC:h.get? C=some (excClassObj nm q C N bs bm hdct sn sub ab col dd k0 k1 k2 k3 k5 newId))(hn:h.Ns N mN)(hi:mN "__init__"=some (.ref fI))(Xa:h.get? fI=some oI)(RD:oI.cls=.type "function")(go:wpAny (model prog w) (A.under (.builtin "type.__call__" ⟨.ref C::rest,[]⟩)) (call (.ref fI) (.ref (h.objs.size+1)::rest)) (fun r s'=>r=.none/\Q (.ref (h.objs.size+1)) s') E ⟨gX h C rest,g,d,t,os⟩)(yd:rest.length<=sizeLine) :
  wpAny (model prog w) A (call (.ref C) rest) Q E ⟨h,g,d,t,os⟩:=by
 have f1:=tc_lookup;have f2:=tc_bind (.ref C);have hT:(⟨h,g,d,t,os⟩:Shared).TypeIs (.ref C) "type":=⟨_,hC,rfl⟩;refine wpAny_call (codeAny_of_tree ?_);show wpAny _ _ (callAny (.ref C) _) _ _ _
 repeat (any_goals (first|assumption|with_reducible refine wpAny_loadPart_at hC ?_|wp_step))
 refine⟨rfl,codeAny_call_builtin_at (Code.quiet_builtin _ Zk) entry_typeCall (wpAny_check_type_call_sub hC (tX F T hC hn hi Xa RD ?_ yd))⟩;exact go
end
section
variable {prog:Program}{w:World}{A:Around}{E:Value->Shared->Prop}{s:Shared}{env:Env}
variable {nm q:Str}{C N:Addr}{bs bm JY:List Value}{hdct:Bool}{sn:List Str}{sub:List Value}{ab:Bool}{col:Option Bool}{dd:Option Addr}{k0 k1 k2 k3 k5:Option Value}{B newId uv:String}
def Ao{x:Sem Value}{Q:Flow->Shared->Prop}(hb:bm.contains (.type "BaseException")=true)(hh:A.handled=none)(h:wpAny (model prog w) A x (fun v s1=>∃e t dx sl,v=.ref e/\s1.heap.get? C=some (excClassObj nm q C N bs bm hdct sn sub ab col dd k0 k1 k2 k3 k5 newId) ∧
   s1.heap.get? e=some {cls:=.ref C,dict:=dx,data:=.fields #[.ref t,.none,.none,.none,.bool false,.none],slots:=sl }/\E (.ref e) s1) E s):wpAny (model prog w) A (raiseStmt env (some x) none) Q E s:=by
 have cB:(Value.ref C::bm).contains (.type "BaseException")=true:=by rw[List.contains_cons,hb,Bool.or_true]
 unfold raiseStmt;refine wpAny_bind (wpAny_mono h (fun v s1 h1=>?_) fun _ _ x=>x);obtain⟨e,t,dx,sl,rfl,hC,he,hE⟩:=h1;obtain⟨hp,g,d,tk,os⟩:=s1
 repeat (first|with_reducible refine wpAny_loadPart_at he ?_|with_reducible refine wpAny_loadPart_at hC ?_|(with_reducible refine wpAny_isSubtype_exc hC ?_;rw[cB])|wp_step)
 exact wpAny_raiseNew_none hh hE
def tY(F:ExcBaseFacts B newId uv JY){mN:Str->Option Value}{x:Str}{np cpos pos:Pos}{args:List Expr}{fI:Addr}{oI:Obj}{Q:Flow->Shared->Prop}(hb:bm.contains (.type "BaseException")=true)(hh:A.handled=none)(hp:(backTo cpos (starEach args env)).any (·.1)=false)(hi:mN "__init__"=some (.ref fI))(RD:oI.cls=.type "function")(h:wpAny (model prog w) A (eval (.Name x np) env) (fun f s1=>f=.ref C/\wpAny (model prog w) A (evalArgs (.ref C) true (backTo cpos (starEach args env)) [])
   (fun a s2=>a.kw=[]/\a.pos.length<=sizeLine/\s2.heap.get? C=some (excClassObj nm q C N bs bm hdct sn sub ab col dd k0 k1 k2 k3 k5 newId)/\s2.heap.Ns N mN/\OwnTail s2.heap JY bm/\s2.heap.get? fI=some oI ∧
    wpAny (model prog w) (A.under (.builtin "type.__call__" ⟨.ref C::a.pos,[]⟩)) (call (.ref fI) (.ref (s2.heap.objs.size+1)::a.pos)) (fun r s'=>r=.none/\∃t dx sl,s'.heap.get? C=some (excClassObj nm q C N bs bm hdct sn sub ab col dd k0 k1 k2 k3 k5 newId) ∧
     s'.heap.get? (s2.heap.objs.size+1)=some {cls:=.ref C,dict:=dx,data:=.fields #[.ref t,.none,.none,.none,.bool false,.none],slots:=sl }/\E (.ref (s2.heap.objs.size+1)) s') E {s2 with heap:=gX s2.heap C a.pos }) E s1) E s) :
  wpAny (model prog w) A (exec (.Raise (some (.Call (.Name x np) args [] cpos)) none pos) env) Q E s:=by
 rw[arm_exec_Raise];simp only [evalOpt,Option.map];refine wpAny_bind (wpAny_standAt (Ao (C:=C) (nm:=nm) (q:=q) (N:=N) (bs:=bs) (bm:=bm) (hdct:=hdct) (sn:=sn) (sub:=sub) (ab:=ab) (col:=col) (dd:=dd) (k0:=k0) (k1:=k1) (k2:=k2) (k3:=k3) (k5:=k5) (newId:=newId) hb hh (wpAny_bind (wpAny_mono (wpAny_Call_ofName (wpAny_mono h (fun f s1 h1=>?_) fun _ _ x=>x)) (fun v s3 h3=>wpAny_bind (wpAny_standAt (wpAny_pure h3))) fun _ _ x=>x))));obtain⟨rfl,h1⟩:=h1;unfold callWith;refine wpAny_bind (wpAny_holding (wpAny_mono h1 (fun a s2 h2=>wpAny_bind (wpAny_standAt ?_)) fun _ _ x=>x));obtain⟨ap,ak⟩:=a;obtain⟨hkw,hlen,hC,hn,T,hf,h2⟩:=h2;obtain rfl:ak=[]:=hkw;obtain⟨si,g,d,tk,os⟩:=s2;simp only [hp];refine wpAny_bind (wpAny_keeperOf_exc hC (wpAny_bind (wB F T hC hn hi hf RD (wpAny_mono h2 (fun r s' hr=>⟨hr.1,wpAny_bind (wpAny_holding (wpAny_point (wpAny_pure ?_)))⟩) fun _ _ x=>x) hlen)));obtain⟨t,dx,sl,g1,g2,g3⟩:=hr.2;exact⟨_,t,dx,sl,rfl,g1,g2,g3⟩
end
def wC:List Value → Bool
 | []=>false
 | v::r=>match v with|.ref _=>wC r|_=>(v::r) == [.type "ValueError",.type "Exception",.type "BaseException",.type "object"]
def jI(v:Value):∀ {l:List Value},wC l=true → refuseLoop v "__setattr__" l=pure () ∧ l.contains (.type "object")=true
 | [],h=>nomatch h
 | u::r,h=>by
  cases u with
  | ref a=>
   have:=jI v (l:=r) h;exact⟨by rw[refuseLoop_ref];exact this.1,by rw[List.contains_cons,this.2,Bool.or_true]⟩
  | _=>rw[show _::r=_ from eq_of_beq h];exact⟨PySem.F.store_ValueError.passes v,Zd⟩
def rM(K:W.Frag)(C:Addr):Bool:=(W.clsIn K C).any fun cd=>wC cd.mro&&cd.hasDict
section
variable {prog:Program}{w:World}{A:Around}{E:Value->Shared->Prop}{s:Shared}{K:W.Frag}{C x t:Addr}{name:Str}{v:Value}
def Vt{Q:Unit->Shared->Prop}(X:K.In s.heap)(gx:s.heap.get? x=some (dJ C t))(hs:W.findIn K (.ref C) "__setattr__"=some (some (.builtin "object.__setattr__")))(ho:rM K C=true)(ht:W.takerIn K C name=some none)(h:∀h' JU,h'.get? x=some {dJ C t with dict:=some s.heap.objs.size }->(∀b o,b≠x->s.heap.get? b=some o->h'.get? b=some o)->h'.Ns1 s.heap.objs.size (fun y=>if y=name then some v else none)->Q () {s with heap:=h',toks:=JU }) :
  wpAny (model prog w) A (setAttr (.ref x) name v) Q E s:=by
 have J:W.InstAt s.heap x (dJ C t) C none:=⟨gx,rfl,rfl,True.intro⟩;obtain⟨cd,hc,hm⟩:=W.any_some ho;obtain⟨hm,OU⟩:=Bool.and_eq_true _ _▸hm;refine W.set_plain X J hs ?_;have SF:=PySem.F.store_object;obtain⟨p1,p2⟩:=jI (.ref x) hm;have ne:cd.mro.isEmpty=false:=by cases q:cd.mro with|nil=>(rw[q]at p2;cases p2)|cons _ _=>rfl
 have sub:W.Looks (model prog w) s.heap (isInstance (.ref x) (.type "object")) true:=J.type.andThen (W.looks_mroIn X (by unfold W.mroIn;rw[hc,Option.bind_some,if_neg (by rw[ne];decide),p2]));have lm:W.Looks (model prog w) s.heap (mroOf (.ref C)) cd.mro:=(W.looks_clsIn X hc).andThen .now;obtain⟨attr,ha,hr⟩:=Option.bind_eq_some_iff.mp ht;have l3:W.Looks (model prog w) s.heap (Builtin.ObjectAttr.storeTaker? attr) none:=by
  cases attr with
  | none=>cases hr;exact .now
  | some a=>
   obtain⟨b,hb,e⟩:=Option.map_eq_some_iff.mp hr;refine(W.looks_takesIn X hb).andThen ?_
   cases b with
   | true=>cases e
   | false=>exact .now
 refine codeAny_call_builtin SF.slot.plain SF.entry (@W.check_slot (model prog w) _ _ {s with toks:=s.toks+1 } "object.__setattr__" "object" "__setattr__" (.ref x) [.str name s.toks,v] [] _ SF.kind SF.split sub (SF.args (.ref x) (.str name s.toks) v) ?_);rw[W.osa_eq,refuse_eq];refine wpAny_bind (wpAny_bind (W.Looks.here (s:={s with toks:=s.toks+1 }) J.type (wpAny_bind (W.Looks.here (s:={s with toks:=s.toks+1 }) lm ?_))));rw[p1];refine wpAny_pure (wpAny_bind (W.Looks.here (s:={s with toks:=s.toks+1 }) J.type (wpAny_bind (W.Looks.here (s:={s with toks:=s.toks+1 }) (W.looks_findIn X ha) (wpAny_bind (W.Looks.here (s:={s with toks:=s.toks+1 }) l3 ?_))))));refine wpAny_bind (wpAny_pure (wpAny_bind (wpAny_bind (wpAny_loadPart (s:={s with toks:=s.toks+1 }) gx (wpAny_bind (W.Looks.here (s:={s with toks:=s.toks+1 }) (W.looks_clsIn X hc) ?_))))));rw[OU];have Zg:x≠s.heap.objs.size:=ne_of_lt (Heap.lt_size gx);have g1:(s.heap.push {cls:=.type "dict",data:=.dict #[] }).get? x=some (dJ C t):=fX _ gx;refine wpAny_bind (wpAny_alloc' ?_);refine wpAny_bind (wpAny_update' g1 ?_);have gd:((s.heap.push {cls:=.type "dict",data:=.dict #[] }).update x fun o=>{o with dict:=some s.heap.objs.size }).get? s.heap.objs.size=some {cls:=.type "dict",data:=.dict #[] }:=(Heap.get?_update_ne _ _ _ _ Zg.symm).trans (Heap.get?_push_at rfl rfl);have nd:((s.heap.push {cls:=.type "dict",data:=.dict #[] }).update x fun o=>{o with dict:=some s.heap.objs.size }).Ns s.heap.objs.size (fun _=>none):=⟨_,#[],_,gd,rfl,fun e he=>absurd he Zs,fun _=>rfl⟩;refine wpAny_pure ?_;show wpAny _ _ (Builtin.ObjectAttr.storeInDict s.heap.objs.size (.str name s.toks) name v) _ _ _;unfold Builtin.ObjectAttr.storeInDict Builtin.ObjectAttr.newKeyGuard;refine wpAny_bind (wpAny_pure (wpAny_bind (wpAny_nsSet1 (Heap.Ns1.of_empty nd) fun h' n1 b1=>?_)));obtain⟨oD,eD,pD,q1,q2,q3⟩:=n1.count (Within.cons name v Within.nil);refine wpAny_bind (wpAny_lookBehind q1 (by rw[q2];exact pastItsLine_dict (fO q3 (by rw[Bn,length_nil,sizeLine_eq];omega))) (wpAny_pure ?_));refine h h' _ ((b1.2 x Zg).trans (Heap.get?_update_self _ g1 rfl)) (fun b o hb e=>?_) n1;exact(b1.2 b (ne_of_lt (Heap.lt_size e))).trans ((Heap.get?_update_ne _ _ _ _ hb).trans (fX _ e))
end
def XN(e C t:Addr):Heap->Prop:=fun h=>h.get? e=some (dJ C t)
def Qv(e C t dx:Addr):Heap->Prop:=fun h=>h.get? e=some {dJ C t with dict:=some dx }
structure Tr(K:W.Frag)(C:Addr)(f:Str):Prop where
 sa:W.findIn K (.ref C) "__setattr__"=some (some (.builtin "object.__setattr__"))
 ov:rM K C=true
 tk:W.takerIn K C f=some none
section
variable {X:Cx}{pins:List (Addr×Obj)}{σ:St}{H:Hp}{s:Shared}{a e C t:Addr}{φ:Heap->Prop}
def Ts{P:Program}{w:World}{h:Heap}(g:h.get? e=some (dJ C t)):ObjOk P w H h e (.ext (XN e C t)):=⟨g,⟨_,g⟩,fun _ _ q k=>k _ q⟩
def Tt{P:Program}{w:World}{h:Heap}{dx:Addr}(g:h.get? e=some {dJ C t with dict:=some dx }):ObjOk P w H h e (.ext (Qv e C t dx)):=⟨g,⟨_,g⟩,fun _ _ q k=>k _ q⟩
def Inv.drop(I:Inv X pins σ (aH H a (.ext φ)) s)(na:H a=none):Inv X pins σ H s:=by
 have back:∀b u,(aH H a (.ext φ)) b=some u->(∀ ψ,u≠.ext ψ)->H b=some u:=fun b u q n=>by
  by_cases z:b=a
  ·rw[z,aA]at q;cases q;exact absurd rfl (n φ)
  ·rw[aE z]at q;exact q
 have EV:∀b,(aH H a (.ext φ)) b=none->H b=none:=fun b q=>by
  by_cases z:b=a
  ·rw[z,aA]at q;cases q
  ·rw[aE z]at q;exact q
 refine⟨I.ok,I.os,I.bare,⟨I.base.keep,I.base.slot,fun b ob q n hx=>EV _ (I.base.free b ob q n hx),I.base.there,fun b xs q=>back _ _ (I.base.tups b xs q) (fun _ z=>nomatch z),fun b ob u q=>back _ _ (I.base.frzs b ob u q) (fun _ z=>nomatch z),fun b ps q=>?_⟩,I.loc,I.cell,EV _ I.free,fun x c h=>EV _ (I.freeC x c h),fun p hp=>?_,fun b u q=>?_,I.len⟩
 ·obtain⟨more,z⟩:=I.base.tbls b ps q;exact⟨more,back _ _ z (fun _ z=>nomatch z)⟩
 ·obtain⟨p1,p2,p3⟩:=I.pin p hp;exact⟨p1,EV _ p2,p3⟩
 ·have nb:b≠a:=aB q na;exact(I.hok b u (by rw[aE nb];exact q)).stay (fun c v _ h=>h) (fun c h=>back _ _ h (fun _ z=>nomatch z)) fun c xs h=>back _ _ h (fun _ z=>nomatch z)
variable {o value:Expr}{f:Str}{pos pos':Pos}{ta tv:TE}{K:W.Frag}
def Fp(K:W.Frag)(ta tv:TE)(f:Str):TS:=fun D σ H=>tv σ H fun y H1=>ta σ H1 fun x H2=>mR x fun e=>∃C t,H2 e=some (.ext (XN e C t))/\Tr K C f/\∀dx,H2 dx=none->dx≠e->D.nx σ (aH (aH H2 dx (.xd [(f,y)])) e (.ext (Qv e C t dx)))
def Fq(ha:PE X o ta)(hv:PE X value tv)(hs:swapsWith value (some (.Attribute o f pos')) pos.line X.env=pure false):PS X (.Assign [.Attribute o f pos'] value pos) (Fp X.K ta tv f):=by
 intro pins s σ H D I h;refine plainObj_wpAny_Assign_Attribute (bH (hv pins s σ H _ I h) fun u s1 ⟨y,H1,I1,ry,q⟩=>bH (ha pins s1 σ H1 _ I1 q) fun ov s2 ⟨x,H2,I2,rx,q1⟩=>?_) hs;dsimp only at q1;rw[cI]at q1;obtain⟨a,rfl,C,t,ea,c,q2⟩:=q1;obtain rfl:ov=Value.ref a:=rx;have gx:s2.heap.get? a=some (dJ C t):=(show ObjOk X.prog X.w H2 s2.heap a (.ext (XN a C t)) from I2.hok a _ ea).1;refine Vt I2.kIn gx c.sa c.ov c.tk fun h' JU g1 k n1=>?_;have n2:H2 s2.heap.objs.size=none:=I2.hok.fresh (bY _);have nx:s2.heap.objs.size≠a:=(aB ea n2).symm;obtain⟨oD,eD,pD,d1,d2⟩:=id n1;have gD:(s2.heap.push oD).get? s2.heap.objs.size=some oD:=Heap.get?_push_size _ (Heap.get?_some_iff.mp d1).2;have I3:=I2.laid (a:=s2.heap.objs.size) (o:=.xd [(f,y)]) (t':=JU) (h':=s2.heap.push oD) (fun b u q=>fX _ q) (bY _) ⟨_,⟨oD,eD,pD,gD,d2⟩,fun g=>?_⟩
 ·have I4:=I3.write (x:=a) (e:=a) (o:=.ext (Qv a C t s2.heap.objs.size)) (t':=JU) (h':=h') (by rw[aE nx.symm,ea];exact True.intro) (.inl rfl) (fun b u hb q=>?_) ⟨_,g1⟩ (Tt g1)
  ·exact⟨σ,_,I4,q2 _ n2 nx⟩
  ·by_cases z:b=s2.heap.objs.size
   ·rw[z,show(s2.heap.push oD).get? s2.heap.objs.size=some oD from gD]at q;cases q;rw[z];exact d1
   ·refine k b u hb ?_;have lt:b<(s2.heap.push oD).objs.size:=Heap.lt_size q;rw[Heap.size_push]at lt;rw[Heap.get?_push_ne]at q
    ·exact q
    ·omega
 ·show RelO (List.lookup g [(f,y)]) (if g=f then some u else none);by_cases z:g=f
  ·rw[z,if_pos rfl,lookup_cons,beq_self_eq_true];exact ry
  ·rw[if_neg z,lookup_cons,beq_eq_false_iff_ne.mpr z];exact trivial
def R.fw(ha:XE X o ta)(hv:XE X value tv)(hK:X.K=K:=by rfl)(hs:swapsWith value (some (.Attribute o f pos')) pos.line X.env=pure false:=by rfl):XS X (.Assign [.Attribute o f pos'] value pos) (Fp K ta tv f):=hK▸⟨Fq ha.h hv.h hs⟩
end
def wE(K:W.Frag)(C fI:Addr)(JY:List Value)(newId:String):Bool:=match K.lookup C with
 | some ⟨.type "type",_,.cls cd,sl⟩=>(match cd.mro,sl.toList with
  | .ref C'::bm,[_,_,_,_,some (.builtin n),_]=>C'==C&&n==newId&&!cd.hasDel&&W.tailIn K JY bm&&W.nsOkIn K cd.ns&&(match W.nsIn K cd.ns "__init__" with|some (some (.ref f))=>f==fI|_=>false)
  | _,_=>false)
 | _=>false
structure XClsI(K:W.Frag)(mg:Str->Option Value)(x:Str)(C fI:Addr):Prop where
 at_:mg x=some (.ref C)
 ok:wE K C fI yH "ValueError.__new__"=true
def wF{K:W.Frag}{h:Heap}{N:Addr}{mg:Str->Option Value}{n:Str}{v:Value}(X:K.In h)(G:h.Ns N mg)(e:W.nsIn K N n=some (some v)):mg n=some v:=by
 obtain⟨o,es,ep,ho,hd,_,hf⟩:=G;unfold W.nsIn at e;split at e
 ·rename_i c d OM n' sl q;have z:=X _ _ q;rw[ho]at z;cases z;cases hd;split at e
  ·rename_i en he;cases e;rw[<- hf];unfold nsFind findBy;rw[<- Array.find?_toList,he];rfl
  ·split at e<;>cases e
 ·cases e
def XClsI.obj{K:W.Frag}{mg:Str->Option Value}{x:Str}{C fI:Addr}{h:Heap}(c:XClsI K mg x C fI)(X:K.In h) :
  ∃bm N nm q bs hdct sn sub ab col dd k0 k1 k2 k3 k5 mN,h.get? C=some (excClassObj nm q C N bs bm hdct sn sub ab col dd k0 k1 k2 k3 k5 "ValueError.__new__")/\h.Ns N mN/\mN "__init__"=some (.ref fI)/\OwnTail h yH bm:=by
 have q:=c.ok;unfold wE at q;split at q
 ·rename_i dd cd sl ho;split at q
  ·rename_i C' bm k0 k1 k2 k3 n k5 hm hs;simp only [Bool.and_eq_true,beq_iff_eq,Bool.not_eq_true']at q;obtain⟨⟨⟨⟨⟨e1,e2⟩,GV⟩,ht⟩,hok⟩,GW⟩:=q;subst e1 e2;obtain⟨nm,bs,mro,ns,qn,hd,sn,sub,ab,col,del⟩:=cd;dsimp only at hm GV hok GW;subst hm GV;have OV:sl=#[k0,k1,k2,k3,some (.builtin "ValueError.__new__"),k5]:=by
    obtain⟨l⟩:=sl;simp only at hs;rw[hs]
   subst OV;refine⟨bm,ns,nm,qn,bs,hd,sn,sub,ab,col,dd,k0,k1,k2,k3,k5,_,X _ _ ho,.of_isNs (W.isNs_of_in X hok),?_,W.tail_of_in X ht⟩;split at GW
   ·rename_i f hf;rw[<- eq_of_beq GW];exact wF X (.of_isNs (W.isNs_of_in X hok)) hf
   ·cases GW
  ·cases q
 ·cases q
def rN(X:Cx)(E:XK):Prop:=∀(pins:List (Addr×Obj))(σ0 σ:St)(H0 H:Hp)(s s3:Shared)(e t:Addr)(cls:Value)(dx:Option Addr),Inv X pins σ0 H0 s->s.heap.get? e=none->H e=none->Inv X pins σ H s3->s3.heap.get? e=some {cls:=cls,dict:=dx,data:=.fields #[.ref t,.none,.none,.none,.bool false,.none] }->E cls dx H->X.xe (.ref e) s3
def tZ{P:Program}{w:World}{K:W.Frag}{mg:Str->Option Value}{base:Heap}{N:List Str}{qual:Str}{scope:Scope}{f:Addr}{cd:Value}{A:Around}{outer:List Env}{s:Shared}{H:Hp}{E:XK}(hf:(envOfC qual scope s.heap.objs.size f cd).frame=some (envOfC qual scope s.heap.objs.size f cd).locals:=by rfl):rN (dH (pS P w) P w K mg base N qual scope f cd A outer s H E) E:=
 fun pins σ0 σ H0 H1 s0 s1 e t cls dx I0 n0 h1 I he q=>tV I0 n0 h1 I hf he rfl rfl (fun _=>rfl) q
def Ps(C:Addr)(f:Str):Sp:=fun vs H Q _=>∃(e t:Addr)(v:V),vs=[.ref e,v]/\H e=some (.ext (XN e C t))/\∀dx,H dx=none->dx≠e->Q .non (aH (aH H dx (.xd [(f,v)])) e (.ext (Qv e C t dx)))
structure uA(P:Program)(w:World)(K:W.Frag)(mg:Str->Option Value)(base:Heap)(n:Nat)(C fI:Addr)(fl:Str):Prop where
 ex:∃fd ps,gC P w K mg base pJ n fI fd ps (Ps C fl)/\Binds K fd ps []
 fn:W.isFn K (.ref fI)=true
section
variable {X:Cx}{x fl:Str}{C fI:Addr}{E:XK}{e:Expr}{t:TA}{np cpos pos:Pos}{n:Nat}
def yN(C:Addr)(fl:Str)(E:XK)(t:TA):TS:=fun _ σ H=>t σ H fun vs H1=>∃v,vs=[v]/\∀dx,H1 dx=none->E (.ref C) (some dx) (aH H1 dx (.xd [(fl,v)]))
def Ap(c:XClsI X.K X.mg x C fI)(ci:uA X.prog X.w X.K X.mg X.base n C fI fl)(hr:Room (n+1) X.A)(hl:rN X E)(hc:X.calm=true)(hg:Gl X x)(ha:PA X [e] t)(hs:aJ e=true)(K5:(x==("__debug__":Str))=false) :
  PS X (.Raise (some (.Call (.Name x np) [e] [] cpos)) none pos) (yN C fl E t):=by
 intro pins s σ H D I h;obtain⟨tl,N,nm,q,bs,hdct,sn,sub,ab,col,dd,k0,k1,k2,k3,k5,mN,hC,hN,GW,T⟩:=c.obj I.mod.kin;obtain⟨⟨fd,ps,F,hb⟩,xy⟩:=ci;have he:starEach [e] X.env=[(false,eval e X.env)]:=by rw[aZ hs];rfl
 have hft:=beq_iff_eq.mp xy;obtain⟨oI,hoI,ON⟩:∃oI,X.base.get? fI=some oI/\oI.cls=.type "function":=by
  obtain⟨oI,ho,e'⟩:=Option.map_eq_some_iff.mp (show(X.K.lookup fI).map (·.cls)=some (.type "function") from hft);exact⟨oI,I.mod.kin _ _ ho,e'⟩
 refine tY (C:=C) (nm:=nm) (q:=q) (N:=N) (bs:=bs) (bm:=tl) (hdct:=hdct) (sn:=sn) (sub:=sub) (ab:=ab) (col:=col) (dd:=dd) (k0:=k0) (k1:=k1) (k2:=k2) (k3:=k3) (k5:=k5) (fI:=fI) (oI:=oI)
  PySem.F.excBase_ValueError (mN:=mN) (T.hasType PySem.F.excBase_ValueError.hasBase) (I.ok.hd hc) (by rw[he];rfl) GW ON (fZ I hg c.at_ ⟨rfl,?_⟩ K5)
 have hp:=ha cpos pins s σ H _ I h;rw[he]at hp ⊢;refine Calls.evalArgs_plain (bH hp fun us s1 ⟨vs,H1,I1,r,v,ev,q⟩=>?_);subst ev;have US:us.length=1:=r.length.symm;refine⟨rfl,by rw[US];decide,I1.bk _ _ hC,hN.keeps I1.bk,T.keeps I1.bk,I1.bk _ _ hoI,?_⟩;have I2:=I1.laid (a:=s1.heap.objs.size+1) (o:=.ext (XN (s1.heap.objs.size+1) C s1.heap.objs.size)) (t':=s1.toks) (h':=gX s1.heap C us) (fun b u q=>eS q) (le_succ _) (Ts tW);have n1:H1 (s1.heap.objs.size+1)=none:=I1.hok.fresh (le_succ _);have hq:Ps C fl (.ref (s1.heap.objs.size+1)::[v]) (aH H1 (s1.heap.objs.size+1) (.ext (XN (s1.heap.objs.size+1) C s1.heap.objs.size))) (fun u H2=>u=.non/\∃dx,H1 dx=none/\dx≠s1.heap.objs.size+1/\H2=aH (aH H1 dx (.xd [(fl,v)])) (s1.heap.objs.size+1) (.ext (Qv (s1.heap.objs.size+1) C s1.heap.objs.size dx))) E0:=by
  refine⟨_,_,v,rfl,aA,fun dx h0 O3=>⟨rfl,dx,by rw[aE O3]at h0;exact h0,O3,?_⟩⟩
  funext b
  unfold aH;by_cases z:b=s1.heap.objs.size+1
  ·rw[if_pos z,if_pos z]
  ·simp only [if_neg z]
 have ur:(Value.ref (s1.heap.objs.size+1)::us).length=ps.length:=by
  have e1:=F.len _ _ _ _ hq;rw[Bn,US,<- e1];rfl
 have Y5:=hb {s1 with heap:=gX s1.heap C us } (Value.ref (s1.heap.objs.size+1)::us) I2.kIn (by rw[append_nil];exact ur);rw[append_nil]at Y5;refine wpAny_call (codeAny_mono (F.run _ X.stack _ _ ⟨Value.ref (s1.heap.objs.size+1)::us,[]⟩ (Value.ref (s1.heap.objs.size+1)::us) (.ref (s1.heap.objs.size+1)::[v]) _ E0 (hr.make C us []) (I2.env0.make C us []) Y5 (.cons rfl r) hq) fun rs s' sh=>?_)
 cases rs with
 | error e'=>exact False.elim sh
 | ok fl=>
  cases fl with
  | ret u=>
   obtain⟨v',H',I3,rv,ev,dx,f0,O3,eH⟩:=I2.after sh;subst ev eH;have gx:=(show ObjOk X.prog X.w _ s'.heap _ (.ext (Qv (s1.heap.objs.size+1) C s1.heap.objs.size dx)) from I3.hok _ _ aA).1;have n2:(aH H1 dx (.xd [(fl,v)])) (s1.heap.objs.size+1)=none:=by rw[aE O3.symm];exact n1
   have I4:=I3.drop n2;exact⟨rv,s1.heap.objs.size,some dx,#[],I4.bk _ _ hC,gx,hl pins σ σ H1 _ s1 s' _ _ _ _ I1 (Heap.get?_none_of_le (le_succ _)) n2 I4 gx (q dx f0)⟩
  | next=>exact False.elim sh
  | brk=>exact False.elim sh
  | cont=>exact False.elim sh
def R.gc(c:XClsI X.K X.mg x C fI)(ci:uA X.prog X.w X.K X.mg X.base n C fI fl)(hr:Room (n+1) X.A)(hl:rN X E)(hc:X.calm=true)(hg:Gl X x:=by rfl)(ha:XA X [e] t)(hs:aJ e=true:=by rfl)(K5:(x==("__debug__":Str))=false:=by decide) :
  XS X (.Raise (some (.Call (.Name x np) [e] [] cpos)) none pos) (yN C fl E t):=⟨Ap c ci hr hl hc hg ha.h hs K5⟩
end
section
variable {prog:Program}{w:World}{A:Around}{E:Value->Shared->Prop}{s:Shared}{K:W.Frag}{x D:Addr}
def Fs{Q:Value->Shared->Prop}{f:Str}{ox od:Obj}{v:Value}{b:Bool}(X:K.In s.heap)(J:W.InstAt s.heap x ox D (some od))(k:gV K D)(hd:W.hasDictIn K D=true)(hf:W.findIn K (.ref D) f=some none)(hl:W.lookIn f od=some (some v))(hv:W.handedIn v=true)(h:Q v {s with toks:=s.toks+1 }):wpAny (model prog w) A (getAttr (.ref x) f b) Q E s:=by
 obtain⟨hh,g,d,t,os⟩:=s;have c:OfCls x D hh:=⟨ox,J.at_,J.cls⟩;have L0:=c.type (M:=model prog w);have L1:=W.looks_findIn (M:=model prog w) X k.ga;have L2:=W.looks_findIn (M:=model prog w) X k.gx;have L3:=W.looks_find (M:=model prog w) X J (W.findObj_own hd hf rfl hl);have LI:W.Looks (model prog w) hh (isInstance (.ref x) (.type "BaseException")) true:=L0.andThen (W.looks_mroIn X k.mb);unfold getAttr getAttrBy;refine wpAny_bind (wpAny_mkText (wpAny_holding (wpAny_bind (L0.at (wpAny_bind (L1.at ?_))))));dsimp only;have MW:(Value.builtin "BaseException.__getattribute__"==Value.builtin "object.__getattribute__")=false:=by decide +kernel
 have LN:(onTheHeap (Value.ref D)&&Value.builtin "BaseException.__getattribute__"==Value.builtin "object.__getattribute__")=false:=by rw[MW];rfl
 rw[if_neg (by rw[LN];exact Bool.false_ne_true)];unfold getAttrByItsOwn hookBefore;rw[if_pos (show onTheHeap (Value.ref D)=true from rfl)];refine wpAny_bind (L2.at ?_);refine wpAny_bind (wpAny_attempt (wpAny_holding ?_));unfold callGetattribute;rw[if_neg (by cases b<;>decide)];unfold boundAndCalled;refine wpAny_bind (wpAny_of_eq (F.excAttr_ValueError.ga.bind _) ?_);show wpAny _ _ (call (.builtin "BaseException.__getattribute__") [.ref x,.str f t]) _ _ _;refine wpAny_call (codeAny_call_builtin F.excAttr_ValueError.ga.plain F.entry_bexc_ga (pT LI ?_));unfold Builtin.«object.__getattribute__»;refine wpAny_bind (wpAny_of_eq (a:=(Value.ref x,[Value.str f t])) rfl ?_);dsimp only;refine wpAny_bind (wpAny_pure (wpAny_bind (L0.at (wpAny_bind (L3.at ?_)))));dsimp only;refine wpAny_pure ?_;show wpAny _ _ (handedOut v) _ _ _;rw[W.handedOut_of hv];exact wpAny_pure h
end
def Wj(K:W.Frag)(te:TE)(f:Str):TE:=fun σ H Q=>te σ H fun x H1=>∃a D dx fs v,x=.ref a/\H1 a=some (.ext (lP a (.ref D) (some dx)))/\H1 dx=some (.xd fs)/\gV K D/\W.hasDictIn K D=true/\W.findIn K (.ref D) f=some none/\fs.lookup f=some v/\Q v H1
section
variable {X:Cx}{e:Expr}{te:TE}{f:Str}{pos:Pos}{K:W.Frag}
def Pu(he:PE X e te)(hb:attributeBase e f X.env (eval e X.env)=eval e X.env):PE X (.Attribute e f pos) (Wj X.K te f):=by
 intro pins s σ H Q I h;refine xC hb (bH (he pins s σ H _ I h) fun u s1 ⟨x,H1,I1,rx,q1⟩=>?_);obtain⟨a,D,dx,fs,v,rfl,ea,ed,k,hd,hf,hl,q⟩:=q1;cases rx;obtain⟨⟨o,vs,h1,h2,h3,h4⟩,_⟩:=(show ObjOk X.prog X.w H1 s1.heap a (.ext (lP a (.ref D) (some dx))) from I1.hok a _ ea);obtain⟨mA,ns,r⟩:=(show ObjOk X.prog X.w H1 s1.heap dx (.xd fs) from I1.hok dx _ ed);obtain⟨od,ho,Xb⟩:=oV ns;obtain⟨u,hu,ru⟩:=RelO.some_of (v:=v) (o:=mA f) (by rw[<- hl];exact r f);obtain⟨oc,odi,oda,osl⟩:=o;have Zh:=h4 dx rfl;dsimp only at h2 h3 Zh;subst h2 h3 Zh;exact Fs I1.kIn ⟨h1,rfl,rfl,ho⟩ k hd hf (by rw[Xb,hu]) (oW ru) ⟨v,H1,I1.tok _,ru,q⟩
end
namespace R
def jb{X:Cx}{e:Expr}{te:TE}{f:Str}{pos:Pos}{K:W.Frag}(he:XE X e te)(hK:X.K=K:=by rfl)(hb:attributeBase e f X.env (eval e X.env)=eval e X.env:=by rfl):XE X (.Attribute e f pos) (Wj K te f):=hK▸⟨Pu he.h hb⟩
end R
structure InitAt(K:W.Frag)(fI:Addr)(qual:Str)(st:Stmt)(ps:List Str):Prop where
 ex:∃fd,Fun K "__init__" qual st fI fd/\Binds K fd ps []
 fn:W.isFn K (.ref fI)=true
def InitAt.go{P:Program}{w:World}{K:W.Frag}{mg:Str->Option Value}{base:Heap}{qual fl:Str}{st:Stmt}{N ps:List Str}{k:Nat}{C fI:Addr}(D:InitAt K fI qual st ps)(S:aG N ps (aD st))(len:ps.length=2)(o9:∀(cdv:Value)(A:Around)(outer:List Env)(s:Shared)(H:Hp)(vs:List V)(Q:VK)(E:XK),Room k (A.deeper (envOfC qual (aD st) s.heap.objs.size fI cdv))->Ps C fl vs H Q E →
   ∃t,XB (dH pJ P w K mg base N qual (aD st) fI cdv A outer s H E).nox (aM st) t/\t {nx:=fun _ H'=>Q .non H',rt:=Q } (start N vs) H):uA P w K mg base (k+1) C fI fl:=by
 obtain⟨fd,F,hb⟩:=D.ex;exact⟨⟨fd,ps,F.go S (fun vs H Q E h=>by obtain⟨e,t,v,rfl,_⟩:=h;rw[len];rfl) o9,hb⟩,D.fn⟩
def dL{X:Cx}:nG X (fun _ _ _ _=>False):=fun pins σ H s e s' I h=>by
 obtain⟨a,cls,od,H',rfl,F,hE⟩:=h;exact hE.elim
def pV:∀ {vs:List Value}{ns:List Int},IntsAre vs ns->Vals (ns.map V.int) vs
 | _,_,.nil=>.nil
 | _,_,.cons x t h=>.cons ⟨t,rfl⟩ (pV h)
section
variable {X:Cx}
def rO{α:Type}(xs:List α)(k:Nat)(x:α):List α:=xs.take k++[x]++xs.drop k
def yO:V->List V->Hp->VK->Prop:=fun x vs H Q=>∃(l:Addr)(xs:List V)(k:Nat)(y:V),x=.ref l/\vs=[.int (k:Int),y]/\H l=some (.lst xs)/\k<=xs.length/\xs.length<1000/\Q .non (aH H l (.lst (rO xs k y)))
def Ft{k:Nat}(h:k<1000):¬ (!Builtin.List.listFitsIndex (k:Int))=true:=by
 have e1:-(2^63)<=(k:Int):=by omega
 have e2:(k:Int)<2^63:=by omega
 rw[fitsIndex_both e1 e2];exact Bool.false_ne_true
def pW:∀ {xs:List V}{its:List Value} (k:Nat),Vals xs its->Vals (xs.take k) (its.take k)
 | _,_,0,_=>by simp;exact .nil
 | _,_,k+1,.nil=>by simp;exact .nil
 | _,_,k+1,.cons h t=>by rw[List.take_succ_cons,List.take_succ_cons];exact .cons h (pW k t)
def pX:∀ {xs:List V}{its:List Value} (k:Nat),Vals xs its->Vals (xs.drop k) (its.drop k)
 | _,_,0,h=>by simpa using h
 | _,_,k+1,.nil=>by simp;exact .nil
 | _,_,k+1,.cons h t=>by rw[List.drop_succ_cons,List.drop_succ_cons];exact pX k t
def Pw{s:Shared}{A:Around}{E:Value->Shared->Prop}{prog:Program}{w:World}{l:Addr}{its:List Value}{n:Nat}{k:Int}{t:Tok}{u2:Value}{Q:Value->Shared->Prop}(e:s.heap.get? l=some {cls:=.type "list",data:=.seq its.toArray n })(f1:¬ (!Builtin.List.listFitsIndex k)=true)(f2:its.toArray.size<=sizeLine)(q:Q .none {s with heap:=s.heap.update l (Obj.mapSeq fun xs=>have k:=if k<0 then (k+(xs.size:Int)).toNat else min k.toNat xs.size;(xs.extract 0 k).push u2++xs.extract k),toks:=s.toks }) :
  wpAny (model prog w) A (call (.builtin "list.insert") [.ref l,.int k t,u2]) Q E s:=by
 have M:=AutoSeq1.list_insert_list_int_val_1 l its.toArray n k t u2 f1 f2;exact call_meets PySem.F.slot_list_insert ⟨_,e,rfl⟩ PySem.F.entry_list_insert (PySem.F.args_list_insert_3 _ _ _) M ⟨e,q⟩
def Aq:Uf X "list.insert" yO:=by
 intro pins s σ H x vs v us Q I rx rv h;obtain⟨l,xs,k,y,rfl,rfl,hH,hk,hz,q⟩:=h;cases rx;obtain⟨u1,u2,rfl,ru1,ru2⟩:=rv.two;obtain⟨t,rfl⟩:=ru1;obtain⟨z,its,n,r,hl,e⟩:=I.lstM hH;have hlen:(rO xs k y).length=xs.length+1:=by unfold rO;simp;omega
 have hv:Vals (rO xs k y) (rO its k u2):=by
  unfold rO;exact((pW k r).append (.cons ru2 .nil)).append (pX k r)
 have hle:(rO xs k y).length<=sizeLine:=gE (by rw[hlen];omega);refine Pw e (Ft (Hd hk hz)) (by rw[eE,<- hl];exact z) ?_;refine⟨.non,_,I.lset (its':=rO its k u2) hH e ?_ hv hle,rfl,q⟩;have h0:¬ ((k:Int)<0):=by omega
 have h1:min (k:Int).toNat its.toArray.size=k:=by rw[eE,<- hl];simp;omega
 simp only [h0,if_false,h1];unfold rO;simp;exact Hc Zs
def R.gi:XM X "list.insert" yO:=⟨Aq⟩
end
def isKy.len{z:Str}(h:isKy z):z.length<=1000:=fO h.2.1 Zd
section
variable {X:Cx}
def Ll(K:W.Frag):List V->Hp->VK->Prop:=fun vs H Q=>∃(p:Addr)(ns:List Int),vs=[.ref p]/\SqL K H p (ns.map V.int)/\0<ns.length/\∀M:Int,M∈ns->(∀a∈ns,a<=M)->Q (.int M) H
def Ar(hc:X.calm=true):CallR X (.builtin "max") (Ll X.K):=by
 intro pins s σ H xs us Q I r h;obtain⟨p,ns,rfl,hq,hn,q⟩:=h;obtain⟨u,rfl,ru⟩:=hI r;cases ru;obtain⟨its,rv,pl,hz⟩:=I.list hq;have hi:=mL rv;obtain⟨xs,hx⟩:=hi.allInts.items;have MC:s.heap.IsList p (intItems xs):=hx▸pl.isList;have e1:ns=xs.toList.map (·.1):=by
  rw[<- nums_intItems,<- hx];exact(show numsOf its.toArray.toList=ns from hi.numsOf).symm
 have hsz:ns.length=xs.size:=by rw[e1];simp
 refine max_intList (I.ok.hd hc) MC Zo fun v h' tk hv hk=>?_;obtain⟨hle,OX⟩:=argBest_gt (numAt xs) (xs.size-1);generalize argBest (fun i j=>decide (numAt xs i>numAt xs j)) (xs.size-1)=k at hv hle OX;obtain⟨t,rfl⟩:=intItems_at hv;have at_:∀j,j<ns.length->numAt xs j=ns.getD j 0:=fun j _=>by rw[numAt_eq,e1]
 refine⟨.int _,H,I.kept hk,⟨_,rfl⟩,q _ ?_ ?_⟩
 ·rw[at_ k Zo,getD_eq_getElem?_getD,kI Zo];exact getElem_mem _
 ·intro a ha;obtain⟨j,hj,rfl⟩:=List.getElem_of_mem ha;have:=OX j Zo;rw[at_ j hj,getD_eq_getElem?_getD,kI hj]at this;exact this
def R.eo{K:W.Frag}(hc:X.calm=true)(hK:X.K=K:=by rfl):XC X (.builtin "max") (Ll K):=hK▸⟨Ar hc⟩
end
inductive Dd where
 | add (a:Str) (n:Nat)
 | take (a:Str) (n:Nat)
 | move (a b:Str) (n:Nat)
 | send (h a:Str) (n:Nat)
 | fetch (h a:Str) (n:Nat)
 | pass (h g a:Str) (n:Nat)
namespace Dd
def vs:Dd->List V
 | .add a n=>[.str "add",.str a,.int (n:Int)]
 | .take a n=>[.str "take",.str a,.int (n:Int)]
 | .move a b n=>[.str "move",.str a,.str b,.int (n:Int)]
 | .send h a n=>[.str "send",.str h,.str a,.int (n:Int)]
 | .fetch h a n=>[.str "fetch",.str h,.str a,.int (n:Int)]
 | .pass h g a n=>[.str "pass",.str h,.str g,.str a,.int (n:Int)]
def Ok:Dd->Prop
 | .add a n=>isNm a/\1<=n/\n<=1000000000000
 | .take a n=>isNm a/\1<=n/\n<=1000000000000
 | .move a b n=>isNm a/\isNm b/\a≠b/\1<=n/\n<=1000000000000
 | .send h a n=>isNm h/\isNm a/\1<=n/\n<=1000000000000
 | .fetch h a n=>isNm h/\isNm a/\1<=n/\n<=1000000000000
 | .pass h g a n=>isNm h/\isNm g/\isNm a/\h≠g/\1<=n/\n<=1000000000000
def wd:Dd->Str
 | .add _ _=>"add"|.take _ _=>"take"|.move _ _ _=>"move"|.send _ _ _=>"send"|.fetch _ _ _=>"fetch"|.pass _ _ _ _=>"pass"
end Dd
def cT{t u:TS}{D:iX}{σ:St}{H:Hp}(R:St->Hp->Prop)(h:∀nx:St->Hp->Prop,(∀ σ' H',R σ' H'->nx σ' H')->t {D with nx:=nx } σ H)(h2:∀ σ' H',R σ' H'->u D σ' H'):oG t u D σ H:=h (u D) h2
def Wk{c:TT}{t u:TS}{D:iX}{σ:St}{H:Hp}(R:Bool->Hp->Prop)(h:∀k:Bool->Hp->Prop,(∀v H',R v H'->k v H')->c σ H k)(ht:∀H',R true H'->t D σ H')(hf:∀H',R false H'->u D σ H'):Bu c t u D σ H:=
 h (fun b H1=>if b=true then t D σ H1 else u D σ H1) fun v H' r=>match v,r with|true,r=>ht H' r|false,r=>hf H' r
def iD{c:TT}{t u x:TS}{D:iX}{σ:St}{H:Hp}(R:Bool->Hp->Prop)(h:∀k:Bool->Hp->Prop,(∀v H',R v H'->k v H')->c σ H k)(ht:∀H',R true H'->t {D with nx:=x D } σ H')(hf:∀H',R false H'->u {D with nx:=x D } σ H'):oG (Bu c t u) x D σ H:=
 h (fun b H1=>if b=true then t {D with nx:=x D } σ H1 else u {D with nx:=x D } σ H1) fun v H' r=>match v,r with|true,r=>ht H' r|false,r=>hf H' r
def nX:∀ {ks:List Int}{vs:List Value},vs.length=ks.length->(∀(i:Nat)(v:Value),vs[i]?=some v->∃x t,ks[i]?=some x/\v=Value.int x t)->IntsAre vs ks
 | [],[],_,_=>.nil
 | k::ks,v::vs,hl,h=>by
  obtain⟨x,t,e1,rfl⟩:=h 0 v rfl;cases e1;exact .cons k t (nX (by simpa using hl) fun i v hv=>by simpa using h (i+1) v (by simpa using hv))
section
variable {prog:Program}{w:World}{A:Around}{E:Value->Shared->Prop}{s:Shared}
def rP{d:Addr}{ss:List Int}{kvs:List (bJ×Value)}{Q:Value->Shared->Prop}(hh:A.handled=none)(lo:(d==sysModules)=false)(hd:s.heap.DictOf (aW prog w) d kvs)(hk:kvs.map (·.1)=ss.map Sum.inl)(GR:ss.length<64)(h:∀(h1 h':Heap)(tk:Nat)(out:Array Value)(e:Nat)(ze:List Int),(∀b ob,s.heap.get? b=some ob->h1.get? b=some ob)->(∀b ob,h1.get? b=some ob->h'.get? b=some ob)->h'.get? h1.objs.size=some (seqObj "list" out e)->IntsAre out.toList ze->ze.Perm ss->ze.Pairwise (·<=·)->Q (.ref h1.objs.size) {s with heap:=h',toks:=tk }) :
  wpAny (model prog w) A (call (.builtin "sorted") [.ref d]) Q E s:=by
 have hl:kvs.length=ss.length:=by simpa using congrArg length hk
 obtain⟨ep,hm⟩:=hd.dictAt;apply Calls.call_function_entry kind_sorted plain_sorted entry_sorted (args_sorted1 _);unfold Builtin.«sorted»;apply wpAny_bind (m:=checkCount "sorted" 1 1 _);apply wpAny_pure;apply wpAny_bind;refine W.kdu_collect (W.kdl_dict lo) hh hm (by rw[hl];exact fO (le_of_lt GR) Zd) fun h1 tk acc k1 yb=>?_;have hS:IntsAre acc.toList ss:=nX (by rw[Array.length_toList,yb.1,hl]) fun i v hv=>by
  obtain⟨k,x,e1,e2⟩:=yb.2 i v (by simpa using hv);have e3:(kvs.map (·.1))[i]?=some k:=by rw[jS,e1];rfl
  rw[hk,jS]at e3;cases e4:ss[i]? with
  | none=>rw[e4]at e3;cases e3
  | some y=>
   rw[e4]at e3;cases e3;rcases bA (show jT (Sum.inl y) v=true from e2) with⟨z,t,e,ev⟩|⟨_,_,e,_⟩
   ·cases e;exact⟨_,t,rfl,ev⟩
   ·cases e
 generalize acc.toList=vs at hS;have MQ:vs.length<64:=by rw[hS.length];exact GR
 apply wpAny_bind;apply wpAny_newList
 ·have g2:(h1.push (seqObj "list" vs.toArray 0)).get? h1.objs.size=some (seqObj "list" vs.toArray 0):=Heap.get?_push_size _ rfl;apply wpAny_bind;apply wpAny_holding;refine wpAny_call_entry slot_list_sort ⟨_,g2,rfl⟩ entry_list_sort (list_sort_tree (s:={s with heap:=h1.push (seqObj "list" vs.toArray 0),toks:=tk }) g2 hS MQ fun out ze a1 a2 a3=>⟨_,rfl,wpAny_pure ⟨_,rfl,?_⟩⟩) (args_list_sort _);obtain⟨e,he⟩:=sortedHeap_at (out:=out) g2;refine h h1 _ _ _ e ze k1 (fun b ob QM=>?_) he a1 a2 a3;have X1:=Heap.lt_size QM;rw[sortedHeap_old (ne_of_lt X1) (by rw[size_push'];exact lt_succ_of_lt X1)];exact fX _ QM
 ·exact fO (le_of_lt MQ) Zd
end
section
variable {X:Cx}
def kU:List V->Hp->VK->Prop:=fun vs H Q=>match vs with
 | [.ref a]=>∃(ss:List Int)(kvs:List (bJ×V)),Rd H a (.dK kvs)/\kvs.map (·.1)=ss.map Sum.inl/\ss.length<64/\∀(l:Addr)(ze:List Int),H l=none->ze.Perm ss->ze.Pairwise (·<=·)->Q (.ref l) (aH H l (.lst (ze.map V.int)))
 | _=>False
def wG(GS:X.calm=true):CallR X (.builtin "sorted") kU:=by
 intro pins s σ H xs us Q I r h;unfold kU at h;split at h
 ·rename_i a;obtain⟨ss,kvs,hq,hk,GR,q⟩:=h;obtain⟨u,rfl,ru⟩:=hI r;cases ru;obtain⟨_,hd,vs,rel,dd⟩:=lI I.hok hq;refine rP (I.ok.hd GS) hd dd (by rw[<- rel.keys];exact hk) GR fun h1 h' tk out e ze k1 k he hS hp hs=>?_;have I1:=I.kept (t':=s.toks) k1;refine⟨.ref h1.objs.size,_,I1.laid (t':=tk) (o:=.lst (ze.map V.int)) k (bY _) ⟨?_,out.toList,e,pV hS,he⟩,rfl,q _ _ (I1.hok.fresh (bY _)) hp hs⟩;rw[gZ,hp.length_eq];exact fO (le_of_lt GR) Zd
 ·exact h.elim
def R.er(GS:X.calm=true):XC X (.builtin "sorted") kU:=⟨wG GS⟩
end
section
variable {X:Cx}
def Jt(neg:Bool):R2:=fun x y H Q=>mR y fun a=>∃o,DGet H a x o/\Q (.bl (if neg then !o.isSome else o.isSome)) H
def Fu(neg:Bool)(hu:X.A.units+1<cLine):OpR X (compareOp (if neg then .NotIn else .In)) (Jt neg):=by
 intro pins s σ H x y v u Q I rx ry h;unfold Jt at h;rw[cI]at h;obtain⟨a,rfl,o,g,q⟩:=h;cases ry;cases neg
 ·exact Rz hu I g rx fun s' I'=>⟨.bl _,H,I',rfl,q⟩
 ·exact xM hu I g rx fun s' I'=>⟨.bl _,H,I',rfl,q⟩
def R.gk(hu:X.A.units+1<cLine):fR X (compareOp .In) (Jt false):=⟨Fu false hu⟩
def R.eu(hu:X.A.units+1<cLine):fR X (compareOp .NotIn) (Jt true):=⟨Fu true hu⟩
end
section
variable {X:Cx}{o:Expr}{m:Str}{pos apos:Pos}{ta:TE}{C:Addr}{n:Nat}{ps:List Str}{sp:Sp}{Ex:St->Value->Option Addr->Hp->Prop}
def wH{pl:Sem Bool}(he:PE X o ta)(c:jA X.prog X.w X.K X.mg X.base n C m ps sp)(hr:Room n X.A)(hx:nG X Ex)(ht:eval (.Call (.Attribute o m apos) [] [] pos) X.env=(do
   let ov←eval o X.env
   standAt apos.atName
   let (f,first)←holding [ov] (getMethod ov m pl)
   callWith pos f first (backTo pos (starEach [] X.env)) (backToKw pos (keywordEach [] X.env)))) :
  PE X (.Call (.Attribute o m apos) [] [] pos) (rK C m sp Ex ta qK):=by
 obtain⟨f,fd,cl,hm,F,hb⟩:=c.ex;intro pins s σ H Q I h;refine W.methodCall_KW (pl:=pl) (bH (he pins s σ H _ I h) fun u s1 ⟨x,H1,I1,rx,q1⟩=>?_) ht;dsimp only at q1;rw[cI]at q1;obtain⟨a,rfl,dx,fs,ea,l,q⟩:=q1;obtain rfl:u=Value.ref a:=rx;refine gB I1 ea cl hm l ?_;refine W.callWith_K0 (first:=[.ref a]) I1.kIn hm.kp ?_;have r2:Vals [V.ref a] [Value.ref a]:=.cons rfl .nil;have hl:[Value.ref a].length=ps.length:=by rw[<- r2.length];exact F.len _ _ _ _ q
 have Y5:=hb s1 [Value.ref a] I1.kIn (by rw[append_nil];exact hl);rw[append_nil]at Y5;refine wpAny_call (codeAny_mono (F.run X.A X.stack s1 H1 ⟨[Value.ref a],[]⟩ [Value.ref a] [V.ref a] Q _ hr I1.env0 Y5 r2 q) fun rs s' hq=>?_)
 cases rs with
 | error e'=>exact hx pins σ H1 s1 e' s' I1 hq
 | ok fl=>
  cases fl with
  | ret u=>exact I1.after hq
  | next=>exact False.elim hq
  | brk=>exact False.elim hq
  | cont=>exact False.elim hq
namespace R
def cy{pl:Sem Bool}(c:jA X.prog X.w X.K X.mg X.base n C m ps sp)(hr:Room n X.A)(hx:nG X Ex)(he:XE X o ta)(ht:eval (.Call (.Attribute o m apos) [] [] pos) X.env=(do
   let ov←eval o X.env
   standAt apos.atName
   let (f,first)←holding [ov] (getMethod ov m pl)
   callWith pos f first (backTo pos (starEach [] X.env)) (backToKw pos (keywordEach [] X.env))):=by rfl):XE X (.Call (.Attribute o m apos) [] [] pos) (rK C m sp Ex ta qK):=⟨wH he.h c hr hx ht⟩
end R
end
def Fv(z:Str)(n:Int)(h:1<=n):(Txt.mul z n).length=z.length*n.toNat:=by
 unfold Txt.mul;rw[if_neg Zo];split
 ·rename_i h;rcases Bool.or_eq_true_iff.mp h with e|e
  ·have:n=1:=by simpa using e
   subst this;simp
  ·have:z.length=0:=by simpa using e
   rw[this,Nat.zero_mul]
 ·have key:∀(k:Nat)(acc:Array Nat),((replicate k z.cps).foldl (·++·) acc).size=acc.size+k*z.cps.size:=by
   intro k;induction k with
   | zero=>intro acc;simp
   | succ k ih=>
    intro acc;rw[List.replicate_succ,List.foldl_cons,ih,Array.size_append,Nat.succ_mul];omega
  show((replicate n.toNat z.cps).foldl (·++·) #[]).size=z.cps.size*n.toNat;rw[key];simp[Nat.mul_comm]
section
variable {X:Cx}
def Fw:R2:=fun x y H Q=>mS x fun z=>mI y fun n=>z.length<=1000/\1<=n/\n<=1000/\∀u:Str,u.length=z.length*n.toNat->Q (.str u) H
def Px:OpR X (binaryOp .Mult) Fw:=by
 intro pins s σ H x y v u Q I rx ry h;unfold Fw at h;rw[jG]at h;obtain⟨z,rfl,h⟩:=h;rw[jF]at h;obtain⟨n,rfl,hz,h0,h1,h⟩:=h;obtain⟨t,rfl⟩:=rx;obtain⟨t',rfl⟩:=ry;exact SB.mul (Ef hz Zo h1) fun t' k=>⟨.str _,H,I.tok _,⟨_,rfl⟩,h _ (Fv z n h0)⟩
def R.gm:fR X (binaryOp .Mult) Fw:=⟨Px⟩
end
section
variable {X:Cx}{i j:Nat}{x y:Str}{a b:Expr}{ta:TA}{px py pt pos:Pos}
def R.gp{kt k2 ME}(hN:X.N.Nodup)(ha:XA X [a,b] ta)(PQ:i≠j:=by decide)(hc:X.calm=true:=by rfl)(hi:X.N[i]?=some x:=by rfl)(hj:X.N[j]?=some y:=by rfl)(hx:X.env.scope.names.lookup x=some .local:=by rfl)(hy:X.env.scope.names.lookup y=some .local:=by rfl)(hw:swappedStores [.Tuple [.Name x px,.Name y py] kt pt] (.Tuple [a,b] k2 ME) X.env=pure (some [x,y]):=by rfl)(hs:swapsWithSole [.Tuple [.Name x px,.Name y py] kt pt] (.Tuple [a,b] k2 ME) pos.line X.env=pure false:=by rfl):XS X (.Assign [.Tuple [.Name x px,.Name y py] kt pt] (.Tuple [a,b] k2 ME) pos) (Ri i j ta):=⟨Mx hc hN hi hj PQ hx hy ha.h hw hs⟩
end
end L2
namespace KL
open PySem L2
def dF(i:Nat):Stmt:=PySem.Challenge.pw_oncedoor_k61_asks_refused.main.body.getD i (.Pass ⟨0,0,0,0⟩)
abbrev aV:Stmt:=aO (dF 19) 0
abbrev iO:Stmt:=dF 28
abbrev jZ:Stmt:=dF 29
abbrev gJ:Stmt:=dF 32
abbrev cW:Stmt:=dF 33
abbrev iP:Stmt:=dF 37
abbrev dS:Stmt:=dF 38
abbrev iQ:Stmt:=dF 40
abbrev bL:Stmt:=aO (dF 52) 0
abbrev eZ:Stmt:=aO (dF 52) 1
abbrev eF:Stmt:=aO (dF 52) 2
abbrev jJ:Stmt:=aO (dF 52) 4
abbrev gK:Stmt:=aO (dF 52) 7
abbrev cX:Stmt:=aO (dF 52) 8
abbrev gL:Stmt:=dF 53
abbrev bM:Stmt:=aO (dF 55) 0
abbrev dU:Stmt:=aO (dF 55) 2
abbrev eI:Stmt:=dF 57
abbrev eJ:Stmt:=dF 58
abbrev cY:Stmt:=dF 59
abbrev eM:Stmt:=dF 60
abbrev cD:Stmt:=dF 61
abbrev bD:Stmt:=aO (dF 72) 0
abbrev cK:Stmt:=aO (dF 72) 1
abbrev cM:Stmt:=aO (dF 72) 2
abbrev cZ:Stmt:=aO (dF 72) 3
abbrev dA:Stmt:=aO (dF 72) 4
abbrev dB:Stmt:=aO (dF 72) 6
abbrev iR:Stmt:=dF 74
abbrev bR:Stmt:=aO (dF 76) 0
abbrev dC:Stmt:=aO (dF 76) 1
abbrev bG:Stmt:=aO (dF 77) 0
abbrev eN:Stmt:=aO (dF 77) 1
abbrev dD:Stmt:=aO (dF 77) 2
abbrev bN:Stmt:=aO (dF 80) 0
abbrev fA:Stmt:=aO (dF 80) 1
abbrev eO:Stmt:=aO (dF 80) 7
abbrev fE:Stmt:=aO (dF 80) 8
abbrev fF:Stmt:=aO (dF 80) 9
abbrev fG:Stmt:=aO (dF 80) 12
abbrev gM:Stmt:=aO (dF 80) 13
abbrev dE:Stmt:=aO (dF 80) 17
abbrev cN:Stmt:=aO (dF 80) 18
abbrev eP:Stmt:=aO (dF 80) 19
abbrev bK:Stmt:=aO (dF 84) 0
abbrev gN:Stmt:=dF 87
abbrev gO:Stmt:=dF 88
abbrev bS:Stmt:=dF 89
abbrev dN:Stmt:=dF 91
abbrev eT:Stmt:=dF 92
abbrev dO:Stmt:=dF 93
abbrev dP:Stmt:=dF 94
abbrev bT:Stmt:=dF 95
abbrev bU:Stmt:=dF 96
abbrev bX:Stmt:=dF 97
abbrev iE:Stmt:=dF 98
def dM{N P:List Str}{sc:Scope}(a:sc.kind=.function:=by rfl)(b:sc.isCoroutine=false:=by rfl)(c:sc.isGenerator=false:=by rfl)(d:N.Nodup:=by decide +kernel)(e:N.take P.length=P:=by rfl)(f:∀x∈P,sc.names.lookup x=some .local∨sc.names.lookup x=some .cell:=by decide +kernel)(g:∀y∈sc.names,y.2≠.free:=by decide +kernel):aG N P sc:=⟨a,b,c,d,e,f,g⟩
def jB:aG ["self","house"] ["self","house"] (aD aV):=dM
def wI:aG ["thing"] ["thing"] (aD iO):=dM
def As:aG ["thing"] ["thing"] (aD jZ):=dM
def uB:aG ["thing","least","most"] ["thing","least","most"] (aD gJ):=dM
def oN:aG ["thing","signs","longest"] ["thing","signs","longest"] (aD cW):=dM
def wJ:aG ["thing"] ["thing"] (aD iP):=dM
def rQ:aG ["word","names"] ["word","names"] (aD dS):=dM
def jQ:aG ["deed","add","take"] ["deed"] (aD iQ):=dM
def kW:aG ["self","life"] ["self","life"] (aD bL):=dM
def gP:aG ["self","asker","key","turn","pair","entry"] ["self","asker","key","turn"] (aD eZ):=dM
def jK:aG ["self","asker","key","number","deed","pair"] ["self","asker","key","number","deed"] (aD eF):=dM
def uC:aG ["self","pair"] ["self","pair"] (aD gK):=dM
def lQ:aG ["self","pair","turn"] ["self","pair","turn"] (aD cX):=dM
def uD:aG ["since","life","turn"] ["since","life","turn"] (aD gL):=dM
def kX:aG ["self","rows"] ["self","rows"] (aD bM):=dM
def rR:aG ["self"] ["self"] (aD dU):=dM
def iF:aG ["rows","done","asked","came","still"] ["rows"] (aD eI):=dM
def fL:aG ["rows","word","told","row"] ["rows","word"] (aD eJ):=dM
def oO:aG ["rows"] ["rows"] (aD cY):=dM
def fN:aG ["rows","came","book","row"] ["rows","came"] (aD eM):=dM
def jL:aG ["rows","came","kept"] ["rows","came"] (aD cD):=dM
def jC:aG ["self","text"] ["self","text"] (aD bD):=dM
def kY:aG ["self","row"] ["self","row"] (aD cK):=dM
def kZ:aG ["self"] ["self"] (aD cM):=dM
def dZ:aG ["self","more","stays","row"] ["self","more"] (aD cZ):=dM
def lR:aG ["self"] ["self"] (aD dA):=dM
def lS:aG ["self"] ["self"] (aD dB):=dM
def gQ:aG ["text","rows","place","line"] ["text"] (aD iR):=dM
def lT:aG ["self","number","asker","key","deed","stage"] ["self","number","asker","key","deed","stage"] (aD bR):=dM
def lU:aG ["self"] ["self"] (aD dC):=dM
def aK:aG ["self","life","turn","up","number","since","asker","key","deed","answer"] ["self","life","turn","up"] (aD bG):=dM
def oP:aG ["self","number","asker","key","deed","stage"] ["self","number","asker","key","deed","stage"] (aD eN):=dM
def gY:aG ["self","asker","key","deed","number"] ["self","asker","key","deed"] (aD dD):=dM
def lA:aG ["self","name","life","houses"] ["self","name","life","houses"] (aD bN):=dM
def cE:aG ["self","turn","asker","key","deed","memory","house","there","seen","number"] ["self","turn","asker","key","deed"] (aD fA):=dM
def cJ:aG ["self","memory","safe","told","row"] ["self"] (aD eO):=dM
def rS:aG ["self","more"] ["self","more"] (aD fE):=dM
def kB:aG ["self","turn","up"] ["self","turn"] (aD fF):=dM
def rT:aG ["self"] ["self"] (aD fG):=dM
def uE:aG ["self"] ["self"] (aD gM):=dM
def jM:aG ["self","runs"] ["self"] (aD dE):=dM
def lB:aG ["self","name"] ["self","name"] (aD cN):=dM
def oQ:aG ["self"] ["self"] (aD eP):=dM
def kC:aG ["self","rows","closed","name"] ["self","rows","closed"] (aD bK):=dM
def uF:aG ["_law_script"] ["_law_script"] (aD gN):=dM
def dW:aG ["_law_deck_here","_law_many","_law_cell","_law_number"] ["_law_deck_here","_law_many"] (aD gO):=dM
def bW:aG ["_law_deck_here","_law_signs","_law_longest","_law_many","_law_word","_law_size","_law_at","_law_first","_law_ends"] ["_law_deck_here","_law_signs","_law_longest","_law_many"] (aD bS):=dM
def aY:aG ["_law_door","_law_turn","_law_asker","_law_key","_law_deed","_law_found","e","_law_sorts","_law_rest"] ["_law_door","_law_turn","_law_asker","_law_key","_law_deed"] (aD dN):=dM
def iG:aG ["_law_which","_law_house","_law_found"] ["_law_which","_law_house"] (aD eT):=dM
def iH:aG ["_law_deck_here","_law_word","_law_some"] ["_law_deck_here","_law_word"] (aD dO):=dM
def cA:aG ["_law_deck_here","_law_name","_law_other","_law_some"] ["_law_deck_here","_law_name","_law_other"] (aD dP):=dM
def bI:aG ["_law_deck_here","_law_words","_law_many","_law_here","_law_gone","_law_house","_law_deed"] ["_law_deck_here","_law_words","_law_many"] (aD bT):=dM
def jD:aG ["_law_door","_law_turn","_law_asker","_law_bad","_law_when"] ["_law_door","_law_turn","_law_asker","_law_bad","_law_when"] (aD bU):=dM
def eU:aG ["_law_door","_law_when","_law_asker","_law_key","_law_deed","_law_bad","_law_asks"] ["_law_door","_law_when","_law_asker","_law_key","_law_deed","_law_bad"] (aD bX):=dM
def cF:aG ["_law_script","_law_deck_here","_law_letters","_law_words","_law_many","_law_door","_law_turn","_law_asker","_law_key","_law_deed","_law_faults","_law_bad","_law_when","_law_kept","_law_other","_law_good"] ["_law_script"] (aD iE):=dM
structure Txt(K:W.Frag)(mg:Str->Option Value):Prop where
 b_any:mg "any"=none
 b_isinstance:mg "isinstance"=none
 b_int:mg "int"=none
 b_bool:mg "bool"=none
 b_str:mg "str"=none
 b_len:mg "len"=none
 b_all:mg "all"=none
 b_tuple:mg "tuple"=none
 b_dict:mg "dict"=none
 b_sorted:mg "sorted"=none
 b_max:mg "max"=none
 b_list:mg "list"=none
 b_enumerate:mg "enumerate"=none
 b_sum:mg "sum"=none
 b_range:mg "range"=none
 b_min:mg "min"=none
 b_ValueError:mg "ValueError"=none
 g_LETTERS:∃t,mg "LETTERS"=some (.str ("abcdefghijklmnopqrstuvwxyz") t)
 g_FIGURES:∃t,mg "FIGURES"=some (.str ("0123456789") t)
 g_LONGEST_NAME:∃t,mg "LONGEST_NAME"=some (.int (8) t)
 g_LONGEST_KEY:∃t,mg "LONGEST_KEY"=some (.int (12) t)
 g_MOST:∃t,mg "MOST"=some (.int (1000000000000) t)
 g_LONGEST_DOOR_NAME:∃t,mg "LONGEST_DOOR_NAME"=some (.int (5) t)
structure Wl(Pm:Params)(K:W.Frag)(mg:Str->Option Value):Prop where
 g_NAME_COUNTS:∃a,mg "NAME_COUNTS"=some (.ref a)/\KTab K Pm a (WS)
 g_UNLIKE_WORDS:∃a,mg "UNLIKE_WORDS"=some (.ref a)/\∀H,SqT K H a (UW)
section
variable {P:Program}{w:World}{K:W.Frag}{mg:Str->Option Value}{base:Heap}
def Ju(T:Txt K mg)(D:DefAt K mg "is_made_of" cW ["thing","signs","longest"]):aI P w K mg base 1 "is_made_of" ["thing","signs","longest"] vS:=by
 refine D.go oN (fun vs H Q E h=>?_) (fun f cdv A outer s H vs Q E hr h=>?_)
 ·obtain⟨x,sg,n,k,rfl,_⟩:=h;rfl
 ·obtain⟨x,sg,n,k,rfl,hk,hz,q⟩:=h;refine⟨_,(R.ae (R.aq (R.tw (R.cb (R.bi (R.az (R.cu .str (R.v 0) rfl T.b_isinstance rfl T.b_str Ea))) (R.cc (R.bi (R.ig R.le R.le R.ad (R.ax R.cv rfl T.b_len gF (R.aa (R.v 0) R.ac)) (R.v 2)))))) (R.af (R.ah R.bl)) R.ar) (R.af (R.ah (R.ax (R.gq (K:=K) rfl) rfl T.b_all Dy (R.aa (R.bb rfl (js:=[none,some 1]) (N:=["sign","signs"]) (CompScope.by (aD cW) ["thing","signs","longest"] rfl rfl Zk) (aS rfl) (R.wS (R.v 0)) (fun C s₂ H₂ fp=>⟨(R.gn (i:=0) (show(["sign","signs"]:List Str).Nodup by decide +kernel)),R.bn,(R.bj R.ii (R.v 0) (R.v 1))⟩)) R.ac))))),?_⟩;have no:Su .str k=false->aP x sg.cps.toList n=false:=fun e=>by
   cases x<;>first|rfl|(cases k<;>first|exact hk.elim|cases e)
  refine⟨k,hk,?_⟩
  cases x with
  | str z=>
   cases k<;>first|exact hk.elim|skip
   have Xc:=hz z rfl;refine⟨gE Xc,?_⟩;refine iY (fun h1=>?_) (fun h1=>?_)
   ·refine iY (fun h2=>?_) (fun h2=>?_)
    ·have e:aP (.str z) sg.cps.toList n=false:=by
      rw[cQ];have zc:decide ((z.length:Int)<=n)=false:=by simpa using h2
      rw[zc];simp
     have h:=q H (Same.refl H);rw[e]at h;exact h
    ·refine⟨z,rfl,zZ (Jc z) (by simp[pO,Str.length]at Xc ⊢;omega) (fun _=>true) (fun v=>match v with|.str y=>.bl (decide (y.cps.toList.headD 0∈sg.cps.toList))|_=>.non) trivial (fun v ys N hv ht hf=>?_) ?_⟩
     ·obtain⟨c,hc,rfl⟩:=Zmm.mp hv;exact⟨c,rfl,ht rfl⟩
     ·intro p hp;refine⟨p,z.cps.toList.map (fun c=>decide (c∈sg.cps.toList)),rfl,SqL.of (by rw[aA,List.filter_eq_self.mpr (fun _ _=>rfl)];unfold pO;rw[map_map,map_map];rfl),?_⟩;have e:aP (.str z) sg.cps.toList n=List.all (z.cps.toList.map (fun c=>decide (c∈sg.cps.toList))) id:=by
       rw[cQ];have zc:decide ((z.length:Int)<=n)=true:=by simpa using h2
       have oh:decide (1<=(z.length:Int))=true:=h1;rw[zc,oh,all_map];simp[Function.comp_def]
      rw[<- e];exact q _ (fun c o e=>by rw[aE (aB e hp)];exact e)
   ·have e:aP (.str z) sg.cps.toList n=false:=by
     rw[cQ];have oh:decide (1<=(z.length:Int))=false:=h1;rw[oh];simp
    have h:=q H (Same.refl H);rw[e]at h;exact h
  | _=>
   cases k<;>first|exact hk.elim|exact q H (Same.refl H)
def wK(T:Txt K mg)(K6:aI P w K mg base 1 "is_made_of" ["thing","signs","longest"] vS)(D:DefAt K mg "is_name" iO ["thing"]):aI P w K mg base 2 "is_name" ["thing"] (kQ LET 8):=by
 refine D.go wI (fun vs H Q E h=>?_) (fun f cdv A outer s H vs Q E hr h=>?_)
 ·obtain⟨x,k,rfl,_⟩:=h;rfl
 ·obtain⟨x,k,rfl,hk,hz,q⟩:=h;have F6:=hr;refine⟨_,(R.af (R.ah (R.fn K6 F6 rfl (R.aa (R.v 0) (R.aa (R.gS rfl T.g_LETTERS) (R.aa (R.gI rfl T.g_LONGEST_NAME) R.ac)))))),?_⟩;refine⟨x,_,8,k,rfl,hk,hz,fun H' s'=>?_⟩;rw[qY];exact q H' s'
def At(T:Txt K mg)(K6:aI P w K mg base 1 "is_made_of" ["thing","signs","longest"] vS)(D:DefAt K mg "is_key" jZ ["thing"]):aI P w K mg base 2 "is_key" ["thing"] (kQ (LET++tK) 12):=by
 refine D.go As (fun vs H Q E h=>?_) (fun f cdv A outer s H vs Q E hr h=>?_)
 ·obtain⟨x,k,rfl,_⟩:=h;rfl
 ·obtain⟨x,k,rfl,hk,hz,q⟩:=h;have F6:=hr;refine⟨_,(R.af (R.ah (R.fn K6 F6 rfl (R.aa (R.v 0) (R.aa (R.op R.bp (R.gS rfl T.g_LETTERS) (R.gS rfl T.g_FIGURES)) (R.aa (R.gI rfl T.g_LONGEST_KEY) R.ac)))))),?_⟩;refine⟨Zk,x,_,12,k,rfl,hk,hz,fun H' s'=>?_⟩;rw[iI,qY,Eg];exact q H' s'
def Fx(T:Txt K mg)(D:DefAt K mg "is_whole" gJ ["thing","least","most"]):aI P w K mg base 1 "is_whole" ["thing","least","most"] yA:=by
 refine D.go uB (fun vs H Q E h=>?_) (fun f cdv A outer s H vs Q E hr h=>?_)
 ·obtain⟨x,lo,hi,rfl,_⟩:=h;rfl
 ·obtain⟨x,lo,hi,rfl,⟨k,hk,hz⟩,q⟩:=h;refine⟨_,(R.ae (R.aq (R.tw (R.cb (R.bi (R.az (R.cu .int (R.v 0) rfl T.b_isinstance rfl T.b_int qX))) (R.cc (R.az (R.cu .bl (R.v 0) rfl T.b_isinstance rfl T.b_bool Jb))))) (R.af (R.ah R.bl)) R.ar) (R.af (R.ah (R.ij R.le R.le (R.v 1) (R.v 0) (R.v 2))))),?_⟩;have h:=q H (Same.refl H);refine⟨k,hk,?_⟩
  cases x with
  | int n=>
   cases k<;>first|exact hk.elim|skip
   refine⟨.int,trivial,?_⟩;show if decide (lo<=n)=true then _ else _
   have e:tL lo hi (.int n)=(decide (lo<=n)&&decide (n<=hi)):=rfl;refine iY (fun h1=>?_) (fun h1=>?_)
   ·rw[e,h1,Bool.true_and]at h;exact h
   ·rw[e,h1,Bool.false_and]at h;exact h
  | bl b=>
   cases k<;>first|exact hk.elim|skip
   exact⟨.bl,trivial,h⟩
  | _=>cases k<;>first|exact hk.elim|exact h
def Jv(T:Txt K mg)(U:Wl w.params K mg)(J9:aI P w K mg base 2 "is_name" ["thing"] (kQ LET 8))(D:DefAt K mg "fits_word" dS ["word","names"]):aI P w K mg base 3 "fits_word" ["word","names"] Ek:=by
 refine D.go rQ (fun vs H Q E h=>?_) (fun f cdv A outer s H vs Q E hr h=>?_)
 ·obtain⟨x,a,ns,rfl,_⟩:=h;rfl
 ·obtain⟨x,a,ns,rfl,⟨k,hk,hz⟩,ha,QE,hp,q⟩:=h;have C2:=hr;obtain⟨aN,T9,tN⟩:=U.g_NAME_COUNTS;obtain⟨aU,ph,tU⟩:=U.g_UNLIKE_WORDS;refine⟨_,(R.ae (R.aq (R.tw (R.cb (R.bi (R.az (R.cu .str (R.v 0) rfl T.b_isinstance rfl T.b_str Ea))) (R.cc (R.am (R.ik (K:=K) (P:=w.params)) (R.v 0) (R.gR rfl T9))))) (R.af (R.ah R.bl)) R.ar) (R.ae (R.aq (R.tw (R.cb (R.am R.ne (R.ax (R.de (K:=K)) rfl T.b_len gF (R.aa (R.v 1) R.ac)) (R.ix (R.il (K:=K) (P:=w.params)) (R.gR rfl T9) (R.v 0))) (R.cc (R.bi (R.az (R.ax (R.gq (K:=K) rfl) rfl T.b_all Dy (R.aa (R.bb rfl (js:=[none]) (N:=["name"]) (CompScope.by (aD dS) ["word","names"] rfl rfl Zk) (aS rfl) (R.gv (K:=K) (R.v 1)) (fun C s₂ H₂ fp=>⟨(R.gn (i:=0) (show(["name"]:List Str).Nodup by decide +kernel)),R.bn,(R.fn J9 C2 rfl (R.aa (R.v 0) R.ac))⟩)) R.ac))))))) (R.af (R.ah R.bl)) R.ar) (R.af (R.ah (R.or (R.bj (R.im (K:=K)) (R.v 0) (R.gR rfl ph)) (R.dh (R.bj R.ne (R.ix (R.ao (K:=K)) (R.v 1) R.ad) (R.ix (R.ao (K:=K)) (R.v 1) R.ad)))))))),?_⟩;have h:=q H (Same.refl H);refine⟨k,hk,?_⟩
  cases x with
  | str z=>
   cases k<;>first|exact hk.elim|skip
   refine⟨WS,tN,?_⟩;show if (!(WS.lookup z).isSome)=true then _ else _
   cases e:WS.lookup z with
   | none=>
    have e2:bZ (.str z) ns=false:=by unfold bZ;simp only [e]
    rw[e2]at h;exact h
   | some i=>
    have e2:bZ (.str z) ns=(decide ((ns.length:Int)=i)&&ns.all oF&&(!Bp (.str z) UW||!decide (oH ns 0=oH ns 1))):=by unfold bZ;simp only [e]
    refine⟨ns,.inr (SqT.of ha),WS,i,tN,e,?_⟩;refine iY (fun h1=>?_) (fun h1=>?_)
    ·have oh:decide ((ns.length:Int)=i)=false:=by simpa using h1
     rw[e2,oh]at h;exact h
    ·have oh:decide ((ns.length:Int)=i)=true:=by simpa using h1
     refine⟨a,rfl,⟨_,SqT.of ha⟩,?_⟩;refine bQ (xY K a ns) Zo (fun j ys H'=>ys=(ns.take j).map (fun y=>V.bl (oF y))/\Same H H') (fun j ys H' ⟨e3,s3⟩=>⟨SqT.of (s3 _ _ ha),by rw[e3,gZ,oR];omega⟩) ⟨rfl,Same.refl H⟩ (fun j y ys H' hy ⟨e3,s3⟩=>?_) (fun ys H' ⟨e3,s3⟩=>?_)
     ·obtain⟨ky,FF,hzy⟩:=(hp y (lN hy)).same s3;refine⟨y,ky,rfl,FF,hzy,fun GX zi=>⟨?_,s3.trans zi⟩⟩;rw[List.take_add_one,hy,mF,e3];rfl
     ·intro p hpn;rw[Hc (bY _)]at e3;have hs:Same H (aH H' p (.lst ys)):=s3.trans (aF hpn);refine⟨p,ns.map oF,rfl,SqL.of (by rw[aA,e3,map_map];rfl),?_⟩;have e4:List.all (ns.map oF) id=ns.all oF:=by rw[all_map];rfl
      have h5:=q _ hs;dsimp only;rw[e4];cases e5:ns.all oF with
      | false=>
       rw[e2,oh,e5]at h5;exact h5
      | true=>
       rw[e2,oh,e5]at h5;refine⟨aU,UW,rfl,.inr (tU _),rfl,rfl,?_⟩;show if (!Bp (.str z) UW)=true then _ else _
       cases e6:Bp (.str z) UW with
       | false=>
        rw[e6]at h5;exact h5
       | true=>
        rw[e6]at h5;have i2:=Td e e6;have hl:(ns.length:Int)=i:=of_decide_eq_true oh;obtain⟨y0,OY,m0⟩:=jY (xs:=ns) (i:=0) Zd Zo;obtain⟨y1,RE,m1⟩:=jY (xs:=ns) (i:=1) Zd Zo;have n0:=all_eq_true.mp e5 y0 m0;have n1:=all_eq_true.mp e5 y1 m1;refine⟨ns,SqT.of (hs _ _ ha),y0,OY,ns,SqT.of (hs _ _ ha),y1,RE,?_⟩;rw[OY,RE]at h5;cases y0<;>first|(unfold oF aP at n0;exact absurd n0 Bool.false_ne_true)|skip
        cases y1<;>first|(unfold oF aP at n1;exact absurd n1 Bool.false_ne_true)|skip
        rename_i z0 z1;have e7:decide (some (V.str z0)=some (V.str z1))=decide (z0=z1):=by
         rw[decide_eq_decide];constructor
         ·intro e8;injection e8 with e8;injection e8
         ·intro e8;rw[e8]
        rw[e7]at h5;exact h5
  | _=>cases k<;>first|exact hk.elim|exact h
def wM(T:Txt K mg)(ye:aI P w K mg base 3 "fits_word" ["word","names"] Ek)(zm:aI P w K mg base 1 "is_whole" ["thing","least","most"] yA)(D:DefAt K mg "is_deed" iP ["thing"]):aI P w K mg base 4 "is_deed" ["thing"] tM:=by
 refine D.go wJ (fun vs H Q E h=>?_) (fun f cdv A outer s H vs Q E hr h=>?_)
 ·obtain⟨x,rfl,_⟩:=h;rfl
 ·obtain⟨x,rfl,⟨⟨k,hk,hz⟩,hp⟩,hlen,q⟩:=h;have uw:=hr;have yf:Room 1 _:=hr.mono Zd;refine⟨_,(R.ae (R.aq (R.tw (R.cb (R.bi (R.az (R.cu .tup (R.v 0) rfl T.b_isinstance rfl T.b_tuple Eb))) (R.cc (R.am R.lt (R.ax (R.de (K:=K)) rfl T.b_len gF (R.aa (R.v 0) R.ac)) R.ad)))) (R.af (R.ah R.bl)) R.ar) (R.af (R.ah (R.gy (R.fn ye uw rfl (R.aa (R.ix (R.ao (K:=K)) (R.v 0) R.ad) (R.aa (R.sl R.sT (R.v 0) (R.ps R.ad) (R.ps (R.bw R.ad))) R.ac))) (R.dh (R.fn zm yf rfl (R.aa (R.ix (R.ao (K:=K)) (R.v 0) (R.bw R.ad)) (R.aa R.ad (R.aa (R.gI rfl T.g_MOST) R.ac))))))))),?_⟩;have h:=q H (Same.refl H);refine⟨k,hk,?_⟩
  cases x with
  | ref a=>
   cases k<;>first|exact hk.elim|skip
   case tup=>
    obtain⟨xs,hx⟩:=hk;have OS:=hp a xs rfl hx;have hlx:=hlen a xs rfl hx;have eV:dR H (.ref a)=iA xs:=by unfold dR;simp only [hx]
    refine⟨xs,.inr (SqT.of hx),?_⟩;refine iY (fun h1=>?_) (fun h1=>?_)
    ·have oh:((xs.length:Int)<3):=of_decide_eq_true h1;have e1:iA xs=false:=by
      unfold iA;rw[decide_eq_false Zo];rfl
     rw[eV,e1]at h;exact h
    ·have oh:¬ ((xs.length:Int)<3):=of_decide_eq_false h1;have h3:3<=xs.length:=by omega
     obtain⟨y0,OY,m0⟩:=jY (xs:=xs) (i:=0) Zd Zo;refine⟨xs,SqT.of hx,y0,OY,xs,hx,fun p H1 s1 g1=>?_⟩;refine⟨y0,p,_,rfl,(OS y0 m0).same s1,g1,?_,fun y hy=>(OS y (Jg h3 hy)).same s1,fun H2 s2=>?_⟩
     ·have:=Jf h3;unfold qZ at this;omega
     have e2:iA xs=(bZ y0 (qZ xs)&&tL 1 1000000000000 ((oH xs (-1)).getD .non)):=by
      unfold iA;rw[decide_eq_true h3,OY];rfl
     have hs:=s1.trans s2;have h5:=q H2 hs;show if bZ y0 (qZ xs)=true then _ else _
     cases e3:bZ y0 (qZ xs) with
     | false=>
      rw[eV,e2,e3]at h5;exact h5
     | true=>
      rw[eV,e2,e3]at h5;obtain⟨yl,Zi,ml⟩:∃v,oH xs (-1)=some v/\v∈xs:=by
       have hj:xs.length-1<xs.length:=by omega
       refine⟨xs[xs.length-1],?_,getElem_mem hj⟩;unfold oH Kt;rw[if_neg Zd,if_pos Zo];have:((-1:Int)+(xs.length:Int)).toNat=xs.length-1:=by omega
       simp[this,hj]
      refine⟨xs,SqT.of (hs _ _ hx),yl,Zi,?_⟩;refine⟨yl,1,1000000000000,rfl,(OS yl ml).same hs,fun H3 s3=>?_⟩;have h6:=q H3 (hs.trans s3);rw[eV,e2,e3,Zi]at h6;exact h6
   all_goals
    have e1:dR H (.ref a)=false:=by
     unfold dR;first
      | (rcases hk with⟨xs,e⟩|⟨o,xs,e⟩<;>simp only [e])
      | (obtain⟨kvs,e⟩:=hk;simp only [e])
    rw[e1]at h;exact h
  | _=>cases k<;>first|exact hk.elim|exact h
def Jw(T:Txt K mg)(D:DefAt K mg "asks_of" iQ ["deed"]):aI P w K mg base 1 "asks_of" ["deed"] Fb:=by
 refine D.go jQ (fun vs H Q E h=>?_) (fun f cdv A outer s H vs Q E hr h=>?_)
 ·obtain⟨p,wd,xs,cs,as,rfl,_⟩:=h;rfl
 ·obtain⟨p,wd,xs,cs,as,rfl,hp,⟨one,other,nm,n,hd⟩,q⟩:=h;refine⟨_,(R.ae (R.ai (i:=1) jQ.nd (R.aj (R.aa R.ag (R.aa (R.ix (R.ao (K:=K)) (R.v 0) (R.bw R.ad)) (R.aa (R.ix (R.ao (K:=K)) (R.v 0) (R.bw R.ad)) R.ac))))) (R.ae (R.ai (i:=2) jQ.nd (R.aj (R.aa R.ag (R.aa (R.ix (R.ao (K:=K)) (R.v 0) (R.bw R.ad)) (R.aa (R.ix (R.ao (K:=K)) (R.v 0) (R.bw R.ad)) R.ac))))) (R.ae (R.aq (R.am R.eq (R.ix (R.ao (K:=K)) (R.v 0) R.ad) R.ag) (R.af (R.ah (R.aj (R.aa (R.aj (R.aa (R.ix (R.ao (K:=K)) (R.v 0) R.ad) (R.aa (R.v 1) R.ac))) R.ac)))) R.ar) (R.ae (R.aq (R.am R.eq (R.ix (R.ao (K:=K)) (R.v 0) R.ad) R.ag) (R.af (R.ah (R.aj (R.aa (R.aj (R.aa (R.ix (R.ao (K:=K)) (R.v 0) R.ad) (R.aa (R.v 2) R.ac))) R.ac)))) R.ar) (R.ae (R.aq (R.am R.eq (R.ix (R.ao (K:=K)) (R.v 0) R.ad) R.ag) (R.af (R.ah (R.aj (R.aa (R.aj (R.aa (R.ix (R.ao (K:=K)) (R.v 0) R.ad) (R.aa (R.v 2) R.ac))) (R.aa (R.aj (R.aa (R.ix (R.ao (K:=K)) (R.v 0) R.ad) (R.aa (R.v 1) R.ac))) R.ac))))) R.ar) (R.af (R.ah (R.aj R.ac)))))))),?_⟩;cases hd
  all_goals
   refine⟨_,SqT.of hp,_,rfl,_,SqT.of hp,_,rfl,Zs,fun p1 H1 s1 g1=>⟨_,SqT.of (s1 _ _ hp),_,rfl,_,SqT.of (s1 _ _ hp),_,rfl,Zs,fun p2 H2 s2 g2=>?_⟩⟩;have FC:=(s1.trans s2) _ _ hp;refine⟨_,SqT.of FC,_,rfl,?_⟩
  case send=>exact⟨_,SqT.of FC,_,rfl,Zs,fun p3 H3 s3 g3=>⟨Zs,fun p4 H4 s4 g4=>q p4 _ H4 (((s1.trans s2).trans s3).trans s4) g4 (.cons ⟨p3,p1,rfl,s4 _ _ g3,s4 _ _ (s3 _ _ (s2 _ _ g1))⟩ .nil)⟩⟩
  all_goals refine⟨_,SqT.of FC,_,rfl,?_⟩
  case fetch=>exact⟨_,SqT.of FC,_,rfl,Zs,fun p3 H3 s3 g3=>⟨Zs,fun p4 H4 s4 g4=>q p4 _ H4 (((s1.trans s2).trans s3).trans s4) g4 (.cons ⟨p3,p2,rfl,s4 _ _ g3,s4 _ _ (s3 _ _ g2)⟩ .nil)⟩⟩
  all_goals refine⟨_,SqT.of FC,_,rfl,?_⟩
  case pass=>
   refine⟨_,SqT.of FC,_,rfl,Zs,fun p3 H3 s3 g3=>⟨_,SqT.of (s3 _ _ FC),_,rfl,Zs,fun p4 H4 s4 g4=>⟨Zs,fun p5 H5 s5 g5=>?_⟩⟩⟩;exact q p5 _ H5 ((((s1.trans s2).trans s3).trans s4).trans s5) g5 (.cons ⟨p3,p2,rfl,s5 _ _ (s4 _ _ g3),s5 _ _ (s4 _ _ (s3 _ _ g2))⟩ (.cons ⟨p4,p1,rfl,s5 _ _ g4,s5 _ _ (s4 _ _ (s3 _ _ (s2 _ _ g1)))⟩ .nil))
  all_goals exact⟨Zd,fun p3 H3 s3 g3=>q p3 [] H3 ((s1.trans s2).trans s3) g3 .nil⟩
def Fy{C:Addr}(B:Qu K C)(D:ClsAt K mg "Keys" C "Keys.__init__" bL ["self","life"] [[]]):∀d∈([[]]:List (List V)),rE P w K mg base 1 "Keys" C ["self","life"] d (yK C):=by
 refine D.go kW (fun vs H Q E h=>?_) (fun f cdv A outer s H vs Q E hr h=>?_)
 ·obtain⟨p,dx,life,rfl,_⟩:=h;rfl
 ·obtain⟨p,dx,life,rfl,hp,q⟩:=h;refine⟨_,(R.ae (R.av (K:=K) (R.v 0) (R.v 1)) (R.ae (R.av (K:=K) (R.v 0) R.eh) (R.af (R.av (K:=K) (R.v 0) R.eh)))),?_⟩;refine⟨C,dx,[],hp,B.cl,B.nL,(by show 0<1000;decide),?_⟩;have e0:bC "life" (.int life) []=[(("life":Str),V.int life)]:=rfl;dsimp only;rw[e0];intro d1 zf;have g0:(aH H p (.ins C dx [("life",.int life)])) p=some (.ins C dx [("life",.int life)]):=aA;have k0:∀b o,H b=some o->b≠p->(aH H p (.ins C dx [("life",.int life)])) b=some o:=fun b o e hb=>by rw[aE hb];exact e
  have f1:H d1=none:=by
   cases e:H d1 with
   | none=>rfl
   | some o=>
    by_cases z:d1=p
    ·rw[z,g0]at zf;cases zf
    ·rw[k0 _ _ e z]at zf;cases zf
  generalize aH H p (.ins C dx [("life",.int life)])=H0 at g0 k0 zf ⊢;have Xd:=aB g0 zf;refine⟨C,dx,_,(by rw[aE Xd];exact g0),B.cl,B.nB,(by show 1<1000;decide),?_⟩;have e1:bC "begun_ones" (.ref d1) [(("life":Str),V.int life)]=[(("life":Str),V.int life),("begun_ones",.ref d1)]:=by
   unfold bC;rw[if_neg Zk];rfl
  dsimp only;rw[e1];have g1:(aH (aH H0 d1 (.dT [])) p (.ins C dx [("life",.int life),("begun_ones",.ref d1)])) p=some (.ins C dx [("life",.int life),("begun_ones",.ref d1)]):=aA;have a1:(aH (aH H0 d1 (.dT [])) p (.ins C dx [("life",.int life),("begun_ones",.ref d1)])) d1=some (.dT []):=by rw[aE Xd.symm];exact aA
  have k1:∀b o,H0 b=some o->b≠p->(aH (aH H0 d1 (.dT [])) p (.ins C dx [("life",.int life),("begun_ones",.ref d1)])) b=some o:=fun b o e hb=>by rw[aE hb,aE (aB e zf)];exact e
  generalize aH (aH H0 d1 (.dT [])) p (.ins C dx [("life",.int life),("begun_ones",.ref d1)])=H1 at g1 a1 k1 ⊢;intro d2 hd2;have UT:=aB g1 hd2;refine⟨C,dx,_,(by rw[aE UT];exact g1),B.cl,B.nS,(by show 2<1000;decide),?_⟩;have e2:bC "settled_ones" (.ref d2) [(("life":Str),V.int life),("begun_ones",.ref d1)]=[(("life":Str),V.int life),("begun_ones",.ref d1),("settled_ones",.ref d2)]:=by
   unfold bC;rw[if_neg Zk];unfold bC;rw[if_neg Zk];rfl
  dsimp only;rw[e2];have Zj:d1≠d2:=aB a1 hd2;have f2:H d2=none:=by
   cases e:H d2 with
   | none=>rfl
   | some o=>rw[k1 _ _ (k0 _ _ e UT.symm) UT.symm]at hd2;cases hd2
  refine q _ ⟨dx,d1,d2⟩ f1 f2 ⟨aA,⟨[],?_,Dic.nil⟩,⟨[],?_,Dic.nil⟩,Zj⟩ (fun b o e hb=>?_)
  ·show(aH _ p _) d1=_;rw[aE Xd.symm,aE Zj];exact a1
  ·show(aH _ p _) d2=_;rw[aE UT.symm];exact aA
  ·rw[aE hb,aE (aB (k1 _ _ (k0 _ _ e hb) hb) hd2)];exact k1 _ _ (k0 _ _ e hb) hb
def Fz(D:DefAt K mg "is_alive" gL ["since","life","turn"]):aI P w K mg base 1 "is_alive" ["since","life","turn"] yL:=by
 refine D.go uD (fun vs H Q E h=>?_) (fun f cdv A outer s H vs Q E hr h=>?_)
 ·obtain⟨t,l,n,rfl,_⟩:=h;rfl
 ·obtain⟨t,l,n,rfl,q⟩:=h;refine⟨_,(R.af (R.ah (R.bj R.gt (R.op R.ba (R.v 0) (R.v 1)) (R.v 2)))),?_⟩;exact q
def pY(C:Addr):Sp:=fun vs H Q _=>∃(p:Addr)(a:KF)(life:Int)(m:KM)(L:Nat)(sk:List (List bJ×V))(t:Addr)(q:Str×Str)(now n w:Int)(d z:Addr),vs=[.ref p,.ref t,.int now]/\H p=some (.ins C a.dx (uV a life))/\Rd H a.ds (.dT sk)/\Dic H sk m fS L/\H t=some (.tup [.str q.1,.str q.2])/\m q=some (.kept n w d z)/\Q (.bl (decide (w+life>now))) H
def DGet.rd{H:Hp}{a b:Addr}{kvs:List (List bJ×V)}{k:List bJ}(e:Rd H a (.dT kvs))(eb:H b=some (.tup (k.map kV))):DGet H a (.ref b) (aT kvs k):=.inr ⟨kvs,k,b,e,rfl,eb,rfl⟩
def Au{C:Addr}(B:Qu K C)(zo:aI P w K mg base 1 "is_alive" ["since","life","turn"] yL)(D:MethAt K C "is_kept" "Keys.is_kept" cX ["self","pair","turn"]):eW P w K mg base 2 C "is_kept" ["self","pair","turn"] (pY C):=by
 refine D.go lQ (fun vs H Q E h=>?_) (fun f cdv A outer s H vs Q E hr h=>?_)
 ·obtain⟨p,a,life,m,L,sk,t,q,now,n,w',d,z,rfl,_⟩:=h;rfl
 ·obtain⟨p,a,life,m,L,sk,t,q,now,n,w',d,z,rfl,hp,gs,ds,gt,hm,Q0⟩:=h;obtain⟨u,hv,gu⟩:=ds.at hm (rfl:fS (.kept n w' d z)=some _);have U1:=hV hr;have yg:=hr;have dg:=DGet.rd gs (gH gt);rw[hv]at dg;refine⟨_,(R.af (R.ah (R.fn zo yg rfl (R.aa (R.ix (R.ao (K:=K)) (R.bq U1 (R.al (K:=K) (R.v 0)) (R.v 1)) R.ad) (R.aa (R.al (K:=K) (R.v 0)) (R.aa (R.v 2) R.ac)))))),?_⟩;exact⟨C,a.dx,_,.ref a.ds,hp,B.cl,B.nS,Fm a life,a.ds,.ref u,rfl,dg,_,SqT.of gu,_,rfl,C,a.dx,_,.int life,hp,B.cl,B.nL,Vr a life,w',life,now,rfl,Q0⟩
def Jx{C:Addr}(B:Qu K C)(pj:eW P w K mg base 2 C "is_kept" ["self","pair","turn"] (pY C))(D:MethAt K C "look" "Keys.look" eZ ["self","asker","key","turn"]):eW P w K mg base 3 C "look" ["self","asker","key","turn"] (Fo C):=by
 refine D.go gP (fun vs H Q E h=>?_) (fun f cdv A outer s H vs Q E hr h=>?_)
 ·obtain⟨p,a,life,m,L,q,now,rfl,_⟩:=h;rfl
 ·obtain⟨p,a,life,m,L,q,now,rfl,ht,Q0⟩:=h;have U1:=hV hr;have lx:=hr;refine⟨_,(R.ae (R.ai (i:=4) gP.nd (R.aj (R.aa (R.v 1) (R.aa (R.v 2) R.ac)))) (R.ae (R.aq (R.am (R.da U1) (R.v 4) (R.al (K:=K) (R.v 0))) (R.af (R.ah (R.op R.di (R.aj (R.aa R.ag R.ac)) (R.bq U1 (R.al (K:=K) (R.v 0)) (R.v 4))))) R.ar) (R.ae (R.aq (R.tw (R.cm (R.am (R.da U1) (R.v 4) (R.al (K:=K) (R.v 0))) (R.cn (R.az (R.br pj lx (R.v 0) (R.aa (R.v 4) (R.aa (R.v 3) R.ac))))))) (R.ae (R.ai (i:=5) gP.nd (R.bq U1 (R.al (K:=K) (R.v 0)) (R.v 4))) (R.af (R.ah (R.aj (R.aa R.ag (R.aa (R.ix (R.ao (K:=K)) (R.v 5) R.ad) (R.aa (R.ix (R.ao (K:=K)) (R.v 5) R.ad) (R.aa (R.ix (R.ao (K:=K)) (R.v 5) R.ad) R.ac)))))))) R.ar) (R.af (R.ah (R.aj (R.aa R.ag R.ac))))))),?_⟩;refine⟨Zs,fun t G s1 gt=>?_⟩;dsimp only [aL];have sj:=ht.same s1;obtain⟨bk,gb,db⟩:=sj.hb;obtain⟨sk,gs,ds⟩:=sj.hs;have GG:=DGet.t gb (gH gt);have RF:=DGet.t gs (gH gt)
  cases hm:m q with
  | none=>
   rw[db.no (fun e z=>by rw[hm]at z;cases z)]at GG;rw[ds.no (fun e z=>by rw[hm]at z;cases z)]at RF;rw[hm]at Q0;refine⟨C,a.dx,_,.ref a.db,sj.hp,B.cl,B.nB,rL a life,none,GG,?_⟩;refine⟨C,a.dx,_,.ref a.ds,sj.hp,B.cl,B.nS,Fm a life,none,RF,?_⟩;exact⟨Zs,fun t2 G2 s2 g2=>Q0 t2 G2 (s1.trans s2) g2⟩
  | some e=>
   rw[hm]at Q0;cases e with
   | busy n d=>
    obtain⟨u,hv,gu⟩:=db.at hm (rfl:fB (.busy n d)=some _);rw[hv]at GG;refine⟨C,a.dx,_,.ref a.db,sj.hp,B.cl,B.nB,rL a life,_,GG,?_⟩;refine⟨Zs,fun t2 G2 s2 g2=>⟨C,a.dx,_,.ref a.db,s2 _ _ sj.hp,B.cl,B.nB,rL a life,a.db,.ref u,rfl,?_,_,_,g2,s2 _ _ gu,Zs,fun t3 G3 s3 g3=>Q0 t3 G3 ((s1.trans s2).trans s3) g3⟩⟩;have:=DGet.t (s2 _ _ gb) (gH (s2 _ _ gt));rw[hv]at this;exact this
   | kept n w' d z=>
    obtain⟨u,hv,gu⟩:=ds.at hm (rfl:fS (.kept n w' d z)=some _);rw[hv]at RF;rw[db.no (fun e h=>by rw[hm]at h;cases h;rfl)]at GG;refine⟨C,a.dx,_,.ref a.db,sj.hp,B.cl,B.nB,rL a life,none,GG,?_⟩;refine⟨C,a.dx,_,.ref a.ds,sj.hp,B.cl,B.nS,Fm a life,_,RF,?_⟩;refine⟨a.dx,_,sj.hp,Fn a life Zk Zk Zk,p,a,life,m,L,sk,t,q,now,n,w',d,z,rfl,sj.hp,.inl gs,ds,gt,hm,?_⟩;show if decide (w'+life>now)=true then _ else _
    refine iY (fun hb=>?_) (fun hb=>?_)
    ·have Y5:=of_decide_eq_true hb;refine⟨C,a.dx,_,.ref a.ds,sj.hp,B.cl,B.nS,Fm a life,a.ds,.ref u,rfl,RF,?_⟩;dsimp only [aL];refine⟨_,SqT.of gu,_,rfl,_,SqT.of gu,_,rfl,_,SqT.of gu,_,rfl,Zs,fun t2 G2 s2 g2=>Q0 t2 G2 (s1.trans s2) ?_⟩;show G2 t2=some (.tup (if w'+life>now then _ else _));rw[if_pos Y5];exact g2
    ·have Y5:=of_decide_eq_false hb;refine⟨Zs,fun t2 G2 s2 g2=>Q0 t2 G2 (s1.trans s2) ?_⟩;show G2 t2=some (.tup (if w'+life>now then _ else _));rw[if_neg Y5];exact g2
def Vu{C:Addr}(B:Qu K C)(D:MethAt K C "end" "Keys.end" gK ["self","pair"]):eW P w K mg base 1 C "end" ["self","pair"] (Tq C):=by
 refine D.go uC (fun vs H Q E h=>?_) (fun f cdv A outer s H vs Q E hr h=>?_)
 ·obtain⟨p,a,life,m,L,t,q,n,d,rfl,_⟩:=h;rfl
 ·obtain⟨p,a,life,m,L,t,q,n,d,rfl,ht,gt,hm,Q0⟩:=h;have U1:=hV hr;obtain⟨bk,gb,db⟩:=ht.hb;obtain⟨sk,gs,ds⟩:=ht.hs;obtain⟨u,hv,gu⟩:=db.at hm (rfl:fB (.busy n d)=some _);have GG:=DGet.t gb (gH gt);rw[hv]at GG;refine⟨_,(R.ae (R.aq (R.am (R.fu U1) (R.v 1) (R.al (K:=K) (R.v 0))) (R.af R.ay) R.ar) (R.af (R.ah (R.fq U1 (R.al (K:=K) (R.v 0)) (R.v 1))))),?_⟩;refine⟨C,a.dx,_,.ref a.db,ht.hp,B.cl,B.nB,rL a life,_,GG,?_⟩;refine⟨C,a.dx,_,.ref a.db,ht.hp,B.cl,B.nB,rL a life,a.db,rfl,.inr ⟨bk,.inl gb⟩,bk,pk q,t,.ref u,gb,rfl,gH gt,hv,?_⟩;have kt:∀b xs,H b=some (.tup xs)->(aH H a.db (.dT (cR bk (pk q)))) b=some (.tup xs):=fun b xs e=>by rw[aE (bF e gb nofun)];exact e
  have h2:∀r,r≠q->(m.set q none) r=m r:=fun r hr=>KM.set_ne hr
  have h1:∀e,(m.set q none) q=some e->False:=fun e he=>by rw[KM.set_same]at he;cases he
  refine Q0 u _ (ht.new (by rw[aE (bF ht.hp gb nofun)]) aA (by rw[aE ht.ne.symm];exact gs) kt ((db.drop (fun e he=>(h1 e he).elim) h2).keep kt) ((ds.skip (fun e he=>?_) (fun e he=>(h1 e he).elim) h2).keep kt)) (fun c o e n1 n2=>by rw[aE n1];exact e) (kt _ _ gu);rw[hm]at he;cases he;rfl
def Ga{C:Addr}(B:Qu K C)(D:MethAt K C "begin" "Keys.begin" eF ["self","asker","key","number","deed"]):eW P w K mg base 1 C "begin" ["self","asker","key","number","deed"] (yM C):=by
 refine D.go jK (fun vs H Q E h=>?_) (fun f cdv A outer s H vs Q E hr h=>?_)
 ·obtain⟨p,a,life,m,L,q,n,d,rfl,_⟩:=h;rfl
 ·obtain⟨p,a,life,m,L,q,n,d,rfl,ht,hL,hm,Q0⟩:=h;have U1:=hV hr;refine⟨_,(R.ae (R.ai (i:=5) jK.nd (R.aj (R.aa (R.v 1) (R.aa (R.v 2) R.ac)))) (R.ae (R.aq (R.am (R.da U1) (R.v 5) (R.al (K:=K) (R.v 0))) (R.af R.ay) R.ar) (R.ae (R.bc (R.ft U1 (R.al (K:=K) (R.v 0)) (R.v 5) R.bo)) (R.af (R.dj (R.aj (R.aa (R.v 3) (R.aa (R.v 4) R.ac))) (R.dl (R.al (K:=K) (R.v 0)) (R.v 5) (R.cz U1))))))),?_⟩;refine⟨Zs,fun t G s1 gt=>?_⟩;dsimp only [aL];have sj:=ht.same s1;obtain⟨bk,gb,db⟩:=sj.hb;obtain⟨sk,gs,ds⟩:=sj.hs;have hB:∀e,m q=some e->fB e=none:=fun e he=>by
   cases e with
   | busy n' d'=>exact absurd he (hm n' d')
   | kept=>rfl
  have GG:=DGet.t gb (gH gt);rw[db.no hB]at GG;refine⟨C,a.dx,_,.ref a.db,sj.hp,B.cl,B.nB,rL a life,none,GG,?_⟩;have nn:∀e,(m.set q none) q=some e->False:=fun e he=>by rw[KM.set_same]at he;cases he
  have MU:∀r,r≠q->(m.set q none) r=m r:=fun r hr=>KM.set_ne hr
  have step:∀JZ G',G'=aH G a.ds (.dT JZ)∨(G'=G/\JZ=sk)->Dic G JZ (m.set q none) fS L->∃_:True,KyAt C G' p a life (m.set q none) L/\G' a.ds=some (.dT JZ)/\(∀c o,G c=some o->c≠a.ds->G' c=some o):=by
   intro JZ G' hG d';rcases hG with rfl|⟨rfl,rfl⟩
   ·have kt:∀b xs,G b=some (.tup xs)->(aH G a.ds (.dT JZ)) b=some (.tup xs):=fun b xs e=>by rw[aE (bF e gs nofun)];exact e
    exact⟨trivial,sj.new (by rw[aE (bF sj.hp gs nofun)]) (by rw[aE sj.ne];exact gb) aA kt ((db.skip hB (fun e he=>(nn e he).elim) MU).keep kt) (d'.keep kt),aA,fun c o e hn=>by rw[aE hn];exact e⟩
   ·exact⟨trivial,sj.new rfl gb gs (fun b xs e=>e) (db.skip hB (fun e he=>(nn e he).elim) MU) d',gs,fun c o e _=>e⟩
  have fin:∀JZ G',KyAt C G' p a life (m.set q none) L->G' a.ds=some (.dT JZ)->(∀c o,G c=some o->c≠a.ds->G' c=some o)->5<=5->∀t2 G2,Same G' G2->G2 t2=some (.tup [.int n,.ref d]) →
    ∃OZ,DPut G2 a.db (.ref t) (.ref t2) (aH G2 a.db (.dT OZ))/\Q .non (aH G2 a.db (.dT OZ)):=by
   intro JZ G' h' UU fr _ t2 G2 s2 g2;obtain⟨OZ,Xe,Zl⟩:=h'.hb;have h2:=h'.same s2;have RG:=s2 _ _ (fr _ _ gt (bF gt gs nofun));refine⟨_,DPut.t (s2 _ _ Xe) (gH RG) (Hd Zl.len (Hd hL Zd)),?_⟩;have kt:∀b xs,G2 b=some (.tup xs)->(aH G2 a.db (.dT (cG OZ (pk q) (.ref t2)))) b=some (.tup xs):=fun b xs e=>by rw[aE (bF e (s2 _ _ Xe) nofun)];exact e
   obtain⟨sk2,gs2,ds2⟩:=h2.hs;have e2:∀r,r≠q->(m.set q (some (.busy n d))) r=(m.set q none) r:=fun r hr=>by rw[KM.set_ne hr,KM.set_ne hr]
   refine Q0 _ (h2.new (by rw[aE (bF h2.hp (s2 _ _ Xe) nofun)]) aA (by rw[aE h2.ne.symm];exact gs2) kt (((Zl.keep (fun b xs e=>s2 _ _ e)).put (rfl:fB (.busy n d)=some _) g2 KM.set_same e2).keep kt) (((ds2.skip (fun e he=>(nn e he).elim) (fun e he=>?_) e2).more).keep kt)) (fun c o e n1 n2=>by rw[aE n1];exact s2 _ _ (fr _ _ (s1 _ _ e) n2));rw[KM.set_same]at he;cases he;rfl
  refine⟨C,a.dx,_,.ref a.ds,sj.hp,B.cl,B.nS,Fm a life,a.ds,rfl,.inr ⟨sk,.inl gs⟩,sk,pk q,t,gs,rfl,gH gt,fun v hv=>?_,fun hv=>?_⟩
  ·obtain⟨_,h',UU,fr⟩:=step _ _ (.inl rfl) (ds.drop (fun e he=>(nn e he).elim) MU);refine⟨Zs,fun t2 G2 s2 g2=>?_⟩;obtain⟨OZ,dp,hq⟩:=fin _ _ h' UU fr Zd t2 G2 s2 g2;exact⟨C,a.dx,_,.ref a.db,s2 _ _ h'.hp,B.cl,B.nB,rL a life,a.db,_,rfl,dp,hq⟩
  ·have d':Dic G sk (m.set q none) fS L:=by
    have:=ds.drop (m':=m.set q none) (fun e he=>(nn e he).elim) MU
    rwa [mM (fQ hv)]at this
   obtain⟨_,h',UU,fr⟩:=step _ _ (.inr ⟨rfl,rfl⟩) d';refine⟨Zs,fun t2 G2 s2 g2=>?_⟩;obtain⟨OZ,dp,hq⟩:=fin _ _ h' UU fr Zd t2 G2 s2 g2;exact⟨C,a.dx,_,.ref a.db,s2 _ _ h'.hp,B.cl,B.nB,rL a life,a.db,_,rfl,dp,hq⟩
def iU:Sp:=fun vs H Q _=>∃d b m,vs=[.ref d,.int m]/\Dk H d b/\0<m/\m<18446744073709551616/\∀r H',0<=r->r<m->Dk H' d b->Kp d b H H'->Q (.int r) H'
def Jy(T:Txt K mg)(D:DefAt K mg "_law_deck" gN ["_law_script"]):aI P w K mg base 1 "_law_deck" ["_law_script"] (Ec K):=by
 refine D.go uF (fun vs H Q E h=>?_) (fun f cdv A outer s H vs Q E hr h=>?_)
 ·obtain⟨a,ns,rfl,_⟩:=h;rfl
 ·obtain⟨a,ns,rfl,hS,q⟩:=h;refine⟨_,(R.af (R.ah (R.aw (R.aa (R.ce (R.gz (K:=K)) rfl T.b_list xW (R.aa (R.sl (R.cf (K:=K)) (R.v 0) R.pn (R.ps R.ad)) R.ac)) (R.aa (R.op R.ba R.ad (R.op R.bz (R.ax (R.io (K:=K) rfl) rfl T.b_sum Ow (R.aa (R.sl (R.cf (K:=K)) (R.v 0) R.pn (R.ps R.ad)) R.ac)) R.ad)) (R.aa R.ad R.ac)))))),?_⟩;have hc:dX (ns.map V.int) none (some 63)=(ns.take 63).map V.int:=by rw[Jd];exact congrArg _ (hZ ns 63)
  refine⟨_,hS,fun p1 Zm=>⟨_,.inl (SqL.of aA),fun b hb=>?_⟩⟩;have s2:Same H (aH (aH H p1 (.lst (dX (ns.map V.int) none (some 63)))) b (.lst (dX (ns.map V.int) none (some 63)))):=(aF Zm).trans (aF hb);have g2:(aH (aH H p1 (.lst (dX (ns.map V.int) none (some 63)))) b (.lst (dX (ns.map V.int) none (some 63)))) b=some (.lst ((ns.take 63).map V.int)):=by rw[aA,hc]
  have Zn:H b=none:=(aF Zm).free hb;show sQ _ _ _ (aH (aH H p1 (.lst (dX (ns.map V.int) none (some 63)))) b (.lst (dX (ns.map V.int) none (some 63)))) _;generalize aH (aH H p1 (.lst (dX (ns.map V.int) none (some 63)))) b (.lst (dX (ns.map V.int) none (some 63)))=H2 at s2 g2;refine⟨_,s2.seq hS,fun p2 FC=>⟨p2,ns.take 63,rfl,SqL.of (by rw[aA,hc]),by show(0:Int)<2147483629;decide,eY rfl,fun d hd=>?_⟩⟩;have s4:Same H (aH H2 p2 (.lst (dX (ns.map V.int) none (some 63)))):=s2.trans (aF FC);have nbd:b≠d:=aB ((aF FC) _ _ g2) hd;refine q d b _ (s4.free hd) Zn ⟨ns.take 63,_,_,aA,?_,?_⟩ (s4.trans (aF hd))
  ·rw[aE nbd];exact(aF FC) _ _ g2
  ·rw[oR];exact Nat.min_le_left _ _
def Gb(D:DefAt K mg "_law_draw" gO ["_law_deck_here","_law_many"]) :
  aI P w K mg base 1 "_law_draw" ["_law_deck_here","_law_many"] iU:=by
 refine D.go dW (fun vs H Q E h=>?_) (fun f cdv A outer s H vs Q E hr h=>?_)
 ·obtain⟨d,b,m,rfl,_⟩:=h;rfl
 ·obtain⟨d,b,m,rfl,dk,hm,FE,q⟩:=h;have hu:=hr.units0;obtain⟨ns,s0,k0,h1,h2,h3⟩:=dk.ex;have Xf:d≠b:=bF h1 h2 (by
   intro z;injection z with z
   cases ns with
   | nil=>cases z
   | cons z1 zs=>injection z with z _;cases z)
  refine⟨_,(R.ae (R.dj (R.op R.ba (R.ix (R.au (K:=K)) (R.v 0) R.ad) R.ad) (R.dl (R.v 0) R.ad R.ip)) (R.ae (R.ai (i:=2) dW.nd (R.ix (R.au (K:=K)) (R.v 0) R.ad)) (R.ae (R.aq (R.am (R.iq (K:=K) hu) (R.ix (R.au (K:=K)) (R.v 0) R.ad) (R.aw R.ac)) (R.ae (R.ai (i:=2) dW.nd (R.cp (K:=K) PySem.F.plainAttrs_list PySem.F.slot_list_pop PySem.F.type_list_pop R.ir (R.ix (R.au (K:=K)) (R.v 0) R.ad) (R.aa R.ad R.ac))) (R.af (R.aq (R.am R.ge (R.v 2) (R.op R.cw R.ad R.ad)) (R.ae (R.bc (R.cp (K:=K) PySem.F.plainAttrs_list PySem.F.slot_list_insert PySem.F.type_list_insert R.gi (R.ix (R.au (K:=K)) (R.v 0) R.ad) (R.aa R.ad (R.aa (R.op R.ee (R.v 2) (R.v 1)) R.ac)))) (R.af (R.ah (R.op R.bz (R.v 2) (R.v 1))))) R.ar))) R.ar) (R.ae (R.ai (i:=3) dW.nd (R.op R.bz (R.op R.ba (R.op R.ba (R.op R.dm (R.op R.bz (R.v 2) R.ad) R.ad) (R.op R.dm R.ad (R.ix (R.au (K:=K)) (R.v 0) R.ad))) R.ad) R.ad)) (R.ae (R.ai (i:=3) dW.nd (R.op R.bz (R.op R.dm (R.v 3) (R.v 3)) R.ad)) (R.af (R.ah (R.op R.bz (R.op R.ee (R.op R.bz (R.op R.dm (R.v 3) (R.op R.ba (R.v 3) R.ad)) R.ad) R.ad) (R.v 1))))))))),?_⟩;refine⟨_,SqL.of h1,_,rfl,d,_,2,2,rfl,rfl,h1,rfl,?_⟩;have g1:(aH H d (.lst [.ref b,.int s0,.int (k0+1)])) d=some (.lst [.ref b,.int s0,.int (k0+1)]):=aA;have g2:(aH H d (.lst [.ref b,.int s0,.int (k0+1)])) b=some (.lst (ns.map V.int)):=by rw[aE Xf.symm];exact h2
  have Zp:Kp d b H (aH H d (.lst [.ref b,.int s0,.int (k0+1)])):=fun c o e n1 n2=>by rw[aE n1];exact e
  show oG _ _ _ _ (aH H d (.lst [.ref b,.int s0,.int (k0+1)]));generalize aH H d (.lst [.ref b,.int s0,.int (k0+1)])=H1 at g1 g2 Zp;refine⟨_,SqL.of g1,_,rfl,?_⟩;dsimp only [aL];refine Sz (t:=Bu _ _ _) (fun σ' H'=>∃c:Int,σ'=[some (.ref d),some (.int m),some (.int c),none]/\(∃ze:List Int,H' d=some (.lst [.ref b,.int s0,.int (k0+1)])/\H' b=some (.lst (ze.map V.int))/\ze.length<=63)/\Kp d b H H') (fun nx y8=>?_) ?_
  ·refine⟨_,SqL.of g1,_,rfl,eY rfl,fun p hp=>⟨b,p,_,rfl,rfl,SqL.of (by rw[aE (aB g2 hp)];exact g2),SqL.of aA,?_⟩⟩;have e1:(aH H1 p (.lst [])) d=some (.lst [.ref b,.int s0,.int (k0+1)]):=by rw[aE (aB g1 hp)];exact g1
   have e2:(aH H1 p (.lst [])) b=some (.lst (ns.map V.int)):=by rw[aE (aB g2 hp)];exact g2
   have Xg:Kp d b H (aH H1 p (.lst [])):=Zp.trans (.new hp);generalize aH H1 p (.lst [])=H2 at e1 e2 Xg;cases ns with
   | nil=>
    exact y8 _ _ ⟨_,rfl,⟨[],e1,e2,h3⟩,Xg⟩
   | cons z ns=>
    have hl:ns.length+1<=63:=by simpa using h3
    refine⟨_,SqL.of e1,_,rfl,.inl ⟨rfl,_,SqL.of e2⟩,b,_,0,0,.int z,rfl,rfl,e2,Zd,Zd,by simp[seqIndex?],rfl,?_⟩;have f1:(aH H2 b (.lst ((List.map V.int (z::ns)).eraseIdx 0))) d=some (.lst [.ref b,.int s0,.int (k0+1)]):=by rw[aE Xf];exact e1
    have f2:(aH H2 b (.lst ((List.map V.int (z::ns)).eraseIdx 0))) b=some (.lst (ns.map V.int)):=by rw[aA];rfl
    have Xh:Kp d b H (aH H2 b (.lst ((List.map V.int (z::ns)).eraseIdx 0))):=fun c o e n1 n2=>by rw[aE n2];exact Xg c o e n1 n2
    dsimp only [aL];generalize aH H2 b (.lst ((List.map V.int (z::ns)).eraseIdx 0))=H3 at f1 f2 Xh;refine⟨⟨Zd,Zd,Zd⟩,?_⟩;refine iY (fun _=>?_) (fun _=>?_)
    ·refine⟨_,SqL.of f1,_,rfl,.inl ⟨rfl,_,SqL.of f2⟩,⟨hm,FE⟩,b,_,0,_,rfl,rfl,f2,zero_le _,Hd (m:=63) (by rw[gZ];omega) Zd,hm,?_⟩;refine q _ _ (Int.emod_nonneg _ Zo) (Int.emod_lt_of_pos _ hm) ⟨z/m::ns,s0,k0+1,by rw[aE Xf];exact f1,by rw[aA];rfl,by simpa using hl⟩ fun c o e n1 n2=>by rw[aE n2];exact Xh c o e n1 n2
    ·exact y8 _ _ ⟨_,rfl,⟨ns,f1,f2,Zo⟩,Xh⟩
  ·rintro σ' H' ⟨c,rfl,⟨ze,f1,f2,f3⟩,kp⟩;refine⟨by show(0:Int)<_;decide,.inr ⟨Zd,Zd⟩,_,SqL.of f1,_,rfl,.inl ⟨Zd,Zd⟩,by show(0:Int)<_;decide,?_⟩;generalize hx:(c%2147483629*16807+69621*(k0+1)+7919)%2147483629=x;have MW:0<=x:=by omega
   have LN:x<2147483629:=by omega
   dsimp only [aL];refine⟨.inl ⟨Zo,Zo⟩,by show(0:Int)<_;decide,?_⟩;generalize hy:x*x%2147483587=y;have OY:0<=y:=by omega
   have RE:y<2147483587:=by omega
   dsimp only [aL];refine⟨.inl ⟨Zo,Zo⟩,by show(0:Int)<_;decide,⟨Zd,Zd⟩,hm,?_⟩;exact q _ _ (Int.emod_nonneg _ Zo) (Int.emod_lt_of_pos _ hm) ⟨ze,s0,k0+1,f1,f2,f3⟩ kp
structure WordsOf(L:List Nat)(g:Nat)(ws:List Str):Prop where
 nd:ws.Nodup
 of:∀z∈ws,1<=z.length/\z.length<=g/\∀c∈z.cps.toList,c∈L
def pZ:Sp:=fun vs H Q _=>∃(d b:Addr)(L:List Nat)(g m:Nat),vs=[.ref d,.str (tx L),.int (g:Int),.int (m:Int)]/\Dk H d b/\1<=m/\m<=g/\g<=12/\L.Nodup/\m<=L.length/\L.length<=40 ∧
 ∀(l:Addr)(ws:List Str)(H':Hp),WordsOf L g ws->ws.length=m->H' l=some (.lst (ws.map V.str))->l≠d->l≠b->Dk H' d b->Kp d b H H'->Q (.ref l) H'
def Gc{α:Type}(xs:List α){i j:Nat}(hi:i<=xs.length)(hj:j<=xs.length):dX xs (some (i:Int)) (some (j:Int))=(xs.drop i).take (j-i):=by
 unfold dX;rw[HT.sIx_nat,HT.sIx_nat,Nat.min_eq_left hi,Nat.min_eq_left hj]
def nY(L ts:List Nat)(a sz f k:Nat):List Nat:=ts.take a++[L.getD ((f+k)%L.length) 0]++(ts.drop (a+1)).take (sz-(a+1))
def Jz{L:List Nat}(hn:L.Nodup){i j:Nat}(hi:i<L.length)(hj:j<L.length)(h:L.getD i 0=L.getD j 0):i=j:=by
 rw[getD_eq_getElem?_getD,getD_eq_getElem?_getD,kI hi,kI hj]at h;have h':L[i]=L[j]:=h;have p:=List.pairwise_iff_getElem.mp hn;rcases lt_trichotomy i j with z|z|z
 ·exact absurd h' (p i j hi hj z)
 ·exact z
 ·exact absurd h'.symm (p j i hj hi z)
def Ka{f k k' n:Nat}(hk:k<n)(JD:k'<n)(h:(f+k)%n=(f+k')%n):k=k':=by
 have h1:=Nat.mod_add_div (f+k) n;have h2:=Nat.mod_add_div (f+k') n;rw[h]at h1;generalize (f+k)/n=u at h1;generalize (f+k')/n=v at h2;rcases lt_trichotomy u v with z|z|z
 ·have:n*(u+1)<=n*v:=Nat.mul_le_mul_left n z;rw[Nat.mul_add,Nat.mul_one]at this;omega
 ·subst z;omega
 ·have:n*(v+1)<=n*u:=Nat.mul_le_mul_left n z;rw[Nat.mul_add,Nat.mul_one]at this;omega
def Gd{L ts:List Nat}(hn:L.Nodup){a sz f k k':Nat}(h:nY L ts a sz f k=nY L ts a sz f k')(hk:k<L.length)(JD:k'<L.length):k=k':=by
 unfold nY at h;have h1:=List.append_inj_left' h rfl;have h2:=List.append_inj_right' h1 rfl;have h3:L.getD ((f+k)%L.length) 0=L.getD ((f+k')%L.length) 0:=by injection h2
 exact Ka hk JD (Jz hn (mod_lt _ Zo) (mod_lt _ Zo) h3)
def Tu{L:List Nat}{i:Nat}(h:i<L.length):L.getD i 0∈L/\L[i]?=some (L.getD i 0):=by
 have e:L[i]?=some (L[i]):=kI h;have e2:L.getD i 0=L[i]:=by rw[getD_eq_getElem?_getD,e];rfl
 exact⟨e2▸getElem_mem _,e2▸e⟩
def Kb{L ts:List Nat}{g a sz f k:Nat}(h0:0<L.length)(hl:ts.length=g)(ht:∀c∈ts,c∈L)(ha:a<sz)(hs:sz<=g):1<=(nY L ts a sz f k).length/\(nY L ts a sz f k).length<=g/\∀c∈nY L ts a sz f k,c∈L:=by
 have e:(nY L ts a sz f k).length=sz:=by
  unfold nY;simp[hl];omega
 refine⟨Zo,Zo,fun c hc=>?_⟩;unfold nY at hc;rcases Zma.mp hc with hc|hc
 ·rcases Zma.mp hc with hc|hc
  ·exact ht c (mem_of_mem_take hc)
  ·rw[Zms.mp hc];exact(Tu (mod_lt _ h0)).1
 ·exact ht c (List.mem_of_mem_drop (mem_of_mem_take hc))
def nZ{n i:Nat}{x:V}(h:(hX 0 n)[i]?=some x):x=.int (i:Int)/\i<n:=by
 unfold hX at h;rw[jS]at h;cases hh:(List.range n)[i]? with
 | none=>rw[hh]at h;cases h
 | some y=>
  rw[hh]at h;obtain⟨h1,h2⟩:=Zgs.mp hh;rw[List.getElem_range]at h2;cases h;rw[<- h2];exact⟨Zs,by simpa using h1⟩
def cO(n:Nat):(hX 0 n).length=n:=by simp[hX]
def uG{L:List Nat}{g m:Nat}{F:Nat->List Nat}(hi:∀k k',k<m->k'<m->F k=F k'->k=k')(ho:∀k,k<m->1<=(F k).length/\(F k).length<=g/\∀c∈F k,c∈L):WordsOf L g ((List.range m).map fun k=>tx (F k)):=by
 refine⟨?_,fun z hz=>?_⟩
 ·show List.Pairwise (·≠·) _;rw[List.pairwise_map];refine List.Pairwise.imp_of_mem (fun {x y} hx hy O3 exy=>O3 ?_) List.nodup_range;exact hi _ _ (mem_range.mp hx) (mem_range.mp hy) (by simpa using congrArg (fun z:Str=>z.cps.toList) exy)
 ·obtain⟨k,hk,rfl⟩:=Zmm.mp hz;have:=ho k (mem_range.mp hk);exact⟨by rw[cP];exact this.1,by rw[cP];exact this.2.1,fun c hc=>this.2.2 c (by simpa using hc)⟩
def Av(T:Txt K mg)(f7:aI P w K mg base 1 "_law_draw" ["_law_deck_here","_law_many"] iU)(D:DefAt K mg "_law_unlike" bS ["_law_deck_here","_law_signs","_law_longest","_law_many"]) :
  aI P w K mg base 2 "_law_unlike" ["_law_deck_here","_law_signs","_law_longest","_law_many"] pZ:=by
 refine D.go bW (fun vs H Q E h=>?_) (fun f cdv A outer s H vs Q E hr h=>?_)
 ·obtain⟨d,b,L,g,m,rfl,_⟩:=h;rfl
 ·obtain⟨d,b,L,g,m,rfl,dk,FD,LC,hg,RH,hmL,bG',q⟩:=h;have f9:=hr;have lL:(tx L).length=L.length:=cP L;have RI:(tx L).length<=sizeLine:=gE Zo;have cL:(tx L).cps.toList=L:=by simp
  refine⟨_,(R.ae (R.ai (i:=4) bW.nd (R.cp (K:=K) PySem.F.plainAttrs_str PySem.F.slot_str_join PySem.F.type_str_join (R.iu (K:=K)) R.ag (R.aa (R.bb rfl (js:=[none,some 0,some 1]) (N:=["_law_k","_law_deck_here","_law_signs"]) (CompScope.by (aD bS) ["_law_deck_here","_law_signs","_law_longest","_law_many","_law_word","_law_size","_law_at","_law_first","_law_ends"] rfl rfl Zk) (aS rfl) (R.cq rfl T.b_range (R.aa (R.v 2) R.ac)) (fun C s₂ H₂ fp=>⟨(R.gn (i:=0) (show(["_law_k","_law_deck_here","_law_signs"]:List Str).Nodup by decide +kernel)),R.bn,(R.ix R.iS (R.v 2) (R.fn f7 f9 rfl (R.aa (R.v 1) (R.aa (R.ax R.cv rfl T.b_len gF (R.aa (R.v 2) R.ac)) R.ac))))⟩)) R.ac))) (R.ae (R.aq (R.am R.eq (R.fn f7 f9 rfl (R.aa (R.v 0) (R.aa R.ad R.ac))) R.ad) (R.af (R.ah (R.bb rfl (js:=[none,some 4]) (N:=["_law_k","_law_word"]) (CompScope.by (aD bS) ["_law_deck_here","_law_signs","_law_longest","_law_many","_law_word","_law_size","_law_at","_law_first","_law_ends"] rfl rfl Zk) (aS rfl) (R.cq rfl T.b_range (R.aa (R.v 3) R.ac)) (fun C s₂ H₂ fp=>⟨(R.gn (i:=0) (show(["_law_k","_law_word"]:List Str).Nodup by decide +kernel)),R.bn,(R.sl R.sS (R.v 1) R.pn (R.ps (R.op R.ba (R.v 0) R.ad)))⟩)))) R.ar) (R.ae (R.ai (i:=5) bW.nd (R.op R.ba R.ad (R.fn f7 f9 rfl (R.aa (R.v 0) (R.aa (R.v 2) R.ac))))) (R.ae (R.ai (i:=6) bW.nd (R.fn f7 f9 rfl (R.aa (R.v 0) (R.aa (R.v 5) R.ac)))) (R.ae (R.ai (i:=7) bW.nd (R.fn f7 f9 rfl (R.aa (R.v 0) (R.aa (R.ax R.cv rfl T.b_len gF (R.aa (R.v 1) R.ac)) R.ac)))) (R.ae (R.ai (i:=8) bW.nd (R.dn (R.aa (R.sl R.sS (R.v 4) R.pn (R.ps (R.v 6))) (R.aa (R.sl R.sS (R.v 4) (R.ps (R.op R.ba (R.v 6) R.ad)) (R.ps (R.v 5))) R.ac)))) (R.af (R.ah (R.bb rfl (js:=[none,some 1,some 7,some 8]) (N:=["_law_k","_law_signs","_law_first","_law_ends"]) (CompScope.by (aD bS) ["_law_deck_here","_law_signs","_law_longest","_law_many","_law_word","_law_size","_law_at","_law_first","_law_ends"] rfl rfl Zk) (aS rfl) (R.cq rfl T.b_range (R.aa (R.v 3) R.ac)) (fun C s₂ H₂ fp=>⟨(R.gn (i:=0) (show(["_law_k","_law_signs","_law_first","_law_ends"]:List Str).Nodup by decide +kernel)),R.bn,(R.op R.bp (R.op R.bp (R.ix (R.ao (K:=K)) (R.v 3) R.ad) (R.ix R.iS (R.v 1) (R.op R.bz (R.op R.ba (R.v 2) (R.v 0)) (R.ax R.cv rfl T.b_len gF (R.aa (R.v 1) R.ac))))) (R.ix (R.ao (K:=K)) (R.v 3) R.ad))⟩)))))))))),?_⟩;refine Sz (t:=By _ _) (fun σ' H'=>∃ts:List Nat,σ'=[some (.ref d),some (.str (tx L)),some (.int (g:Int)),some (.int m),some (.str (tx ts)),none,none,none,none]/\ts.length=g/\(∀c∈ts,c∈L)/\Dk H' d b/\Kp d b H H') (fun nx y8=>?_) ?_
  ·refine⟨rfl,g,rfl,Zo,Zo,?_⟩;refine bQ (eQ 0 (g:Int).toNat) (by rw[cO];omega) (fun i ys H'=>Dk H' d b/\Kp d b H H'/\∃ts:List Nat,ys=ts.map (fun c=>V.str (tx [c]))/\ts.length=i/\∀c∈ts,c∈L) (fun i ys H' ⟨_,_,ts,e,e2,_⟩=>⟨trivial,by rw[e,gZ,e2];exact bY _⟩) ⟨dk,.refl,[],rfl,rfl,(fun _ h=>nomatch h)⟩ (fun i x ys H' hx ⟨Di,Xi,ts,e,e2,e3⟩=>?_) (fun ys H' ⟨Di,Xi,ts,e,e2,e3⟩=>?_)
   ·refine⟨RI,d,b,_,rfl,Di,Zo,Zo,fun r2 GX r20 r21 Dj kpj=>⟨RI,?_⟩⟩;obtain⟨c,hc,hm⟩:=jY (xs:=(tx L).cps.toList) r20 (by rw[cL];omega);rw[cL]at hm;refine⟨c,hc,Dj,Xi.trans kpj,ts++[c],by rw[e,mF];rfl,by rw[wW,e2];rfl,fun c' GD=>?_⟩;rcases Zma.mp GD with h|h
    ·exact e3 c' h
    ·rw[Zms.mp h];exact hm
   ·intro p hp;have PB:ts.length=g:=by rw[e2,cO];omega
    refine⟨_,p,ts.map (fun c=>tx [c]),rfl,rfl,SqL.of (by rw[aA,e,map_map];rfl),?_,?_⟩
    ·rw[tJ,gZ,Ee,cP];simp;omega
    ·refine y8 _ _ ⟨ts,?_,PB,e3,Di.new hp,Xi.trans (.new hp)⟩;rw[Ee,vR];rfl
  ·rintro σ' H1 ⟨ts,rfl,PB,RJ,D1,k1⟩;have Zq:(tx ts).cps.toList=ts:=by simp
   have em:((m:Int)).toNat=m:=by omega
   refine⟨d,b,3,rfl,D1,Zd,Zd,fun r H2 r0 r1 D2 k2=>?_⟩;refine iY (fun _=>?_) (fun _=>?_)
   ·refine⟨m,rfl,Zo,Zo,?_⟩;refine bQ (eQ 0 (m:Int).toNat) (by rw[cO];omega) (fun i ys H'=>ys=((List.range i).map fun k=>tx (ts.take (k+1))).map V.str/\H'=H2) (fun i ys H' ⟨e,_⟩=>⟨trivial,by rw[e];simp⟩) ⟨rfl,rfl⟩ (fun i x ys H' hx ⟨e,e2⟩=>?_) (fun ys H' ⟨e,e2⟩=>?_)
    ·subst e2;obtain⟨rfl,hi⟩:=nZ hx;refine⟨gE (by rw[cP];omega),?_,rfl⟩;rw[Zq,show((i:Nat):Int)+1=((i+1:Nat):Int) by omega,hZ,e,List.range_succ,mF,mF];rfl
    ·subst e2;intro p hp;rw[cO,em]at e;have hd:=D2.ne hp;refine q p ((List.range m).map fun k=>tx (ts.take (k+1))) _ (uG (fun k k' hk JD e=>?_) (fun k hk=>?_)) Zs (by rw[aA,e]) hd.1 hd.2 (D2.new hp) ((k1.trans k2).trans (.new hp))
     ·have:=congrArg length e;rw[oR,oR,PB]at this;omega
     ·exact⟨by rw[oR,PB];omega,by rw[oR,PB];omega,fun c hc=>RJ c (mem_of_mem_take hc)⟩
   ·refine⟨d,b,g,rfl,D2,Zo,Zo,fun r5 H3 s0 s1 D3 k3=>?_⟩;dsimp only [aL];refine⟨d,b,1+r5,rfl,D3,Zo,Zo,fun ra H4 a0 a1 D4 k4=>?_⟩;dsimp only [aL];refine⟨RI,d,b,_,rfl,D4,Zo,Zo,fun rf H5 f0 f1 D5 k5=>?_⟩;rw[lL]at f1;dsimp only [aL];obtain⟨a,rfl⟩:∃a:Nat,ra=a:=⟨ra.toNat,Zo⟩;obtain⟨z5,rfl⟩:∃z:Nat,r5=z:=⟨r5.toNat,Zo⟩;obtain⟨fz,rfl⟩:∃z:Nat,rf=z:=⟨rf.toNat,Zo⟩;refine⟨gE (by rw[cP];omega),gE (by rw[cP];omega),eY rfl,fun tp QZ=>?_⟩;have g5:(aH H5 tp (.tup [.str (tx (dX (tx ts).cps.toList none (some (a:Int)))),.str (tx (dX (tx ts).cps.toList (some ((a:Int)+1)) (some (1+(z5:Int)))))])) tp=some (.tup [.str (tx (ts.take a)),.str (tx ((ts.drop (a+1)).take (z5+1-(a+1))))]):=by
     rw[aA,Zq,hZ,show(a:Int)+1=((a+1:Nat):Int) by omega,show 1+(z5:Int)=((z5+1:Nat):Int) by omega,Gc ts Zo Zo]
    have k6:Kp d b H (aH H5 tp (.tup [.str (tx (dX (tx ts).cps.toList none (some (a:Int)))),.str (tx (dX (tx ts).cps.toList (some ((a:Int)+1)) (some (1+(z5:Int)))))])):=((((k1.trans k2).trans k3).trans k4).trans k5).trans (.new QZ);have D6:=D5.new (o:=.tup [.str (tx (dX (tx ts).cps.toList none (some (a:Int)))),.str (tx (dX (tx ts).cps.toList (some ((a:Int)+1)) (some (1+(z5:Int)))))]) QZ;dsimp only [aL];generalize aH H5 tp (.tup [.str (tx (dX (tx ts).cps.toList none (some (a:Int)))),.str (tx (dX (tx ts).cps.toList (some ((a:Int)+1)) (some (1+(z5:Int)))))])=H6 at g5 k6 D6;refine⟨m,rfl,Zo,Zo,?_⟩;refine bQ (eQ 0 (m:Int).toNat) (by rw[cO];omega) (fun i ys H'=>ys=((List.range i).map fun k=>tx (nY L ts a (z5+1) fz k)).map V.str/\H'=H6) (fun i ys H' ⟨e,_⟩=>⟨trivial,by rw[e];simp⟩) ⟨rfl,rfl⟩ (fun i x ys H' hx ⟨e,e2⟩=>?_) (fun ys H' ⟨e,e2⟩=>?_)
    ·subst e2;obtain⟨rfl,hi⟩:=nZ hx;have h0:0<L.length:=by omega
     have hL:=Tu (L:=L) (mod_lt (fz+i) h0);have t1:(tx (ts.take a)).length<=12:=by rw[cP,oR];omega
     have t2:(tx ((ts.drop (a+1)).take (z5+1-(a+1)))).length<=12:=by rw[cP,oR,length_drop];omega
     refine⟨_,SqT.of g5,_,rfl,RI,by rw[lL];omega,RI,L.getD ((fz+i)%L.length) 0,?_,gE (by have:=cP [L.getD ((fz+i)%L.length) 0];simp only [Bn,length_nil]at this;omega),_,SqT.of g5,_,rfl,gE ?_,?_,rfl⟩
     ·rw[lL,cL,show((fz:Int)+(i:Int))%(L.length:Int)=(((fz+i)%L.length:Nat):Int) by rw[Int.natCast_emod,Int.natCast_add]];exact cU hL.2
     ·rw[qV,cP,wW,oR];simp only [Bn,length_nil];omega
     ·rw[e,List.range_succ,mF,mF,qV,qV];rfl
    ·subst e2;intro p hp;rw[cO,em]at e;have hd:=D6.ne hp;refine q p ((List.range m).map fun k=>tx (nY L ts a (z5+1) fz k)) _ (uG (fun k k' hk JD e=>?_) (fun k hk=>?_)) Zs (by rw[aA,e]) hd.1 hd.2 (D6.new hp) (k6.trans (.new hp))
     ·exact Gd RH e Zo Zo
     ·exact Kb Zo PB RJ Zo Zo
def bB{n:Nat}(h:Nat.ble n 1000=true):n<=1000:=Nat.le_of_ble_eq_true h
def fU{α:Type}{xs:List α}{i:Nat}{x:α}(h:xs[i]?=some x):xs.take (i+1)=xs.take i++[x]:=by
 rw[List.take_succ,h];rfl
def wN{C:Addr}(T:Txt K mg)(B:Vo K C)(D:MethAt K C "rows" "Book.rows" dU ["self"]):eW P w K mg base 1 C "rows" ["self"] (tS C):=by
 refine D.go rR (fun vs H Q E h=>?_) (fun f cdv A outer s H vs Q E hr h=>?_)
 ·obtain⟨p,prs,rfl,_⟩:=h;rfl
 ·obtain⟨p,prs,rfl,bk,hz,q⟩:=h;have U1:=hV hr;obtain⟨dx,d,h1,h2⟩:=bk.ex;refine⟨_,(R.af (R.ah (R.bb rfl (js:=[none,some 0]) (N:=["name","self"]) (CompScope.by (aD dU) ["self"] rfl rfl Zk) (aS rfl) (R.be (K:=K) (R.ax (R.fi rfl) rfl T.b_sorted kP (R.aa (R.al (K:=K) (R.v 0)) R.ac))) (fun C s₂ H₂ fp=>⟨(R.gn (i:=0) (show(["name","self"]:List Str).Nodup by decide +kernel)),(R.cg (R.am R.gt (R.bq U1 (R.al (K:=K) (R.v 1)) (R.v 0)) R.ad)),(R.dn (R.aa (R.v 0) (R.aa (R.bq U1 (R.al (K:=K) (R.v 1)) (R.v 0)) R.ac)))⟩)))),?_⟩;refine⟨C,dx,_,.ref d,h1,B.cl,B.nA,iC _,prs.map (·.1),_,.inl h2,tR prs,by rw[gZ];exact hz,fun l hl=>⟨l,rfl,⟨_,SqL.of aA⟩,?_⟩⟩;have s1:Same H (aH H l (.lst ((tO (prs.map (·.1))).map V.str))):=aF hl;have g1:(aH H l (.lst ((tO (prs.map (·.1))).map V.str))) l=some (.lst ((tO (prs.map (·.1))).map V.str)):=aA;generalize aH H l (.lst ((tO (prs.map (·.1))).map V.str))=H1 at s1 g1;have hlen:(tO (prs.map (·.1))).length<64:=by rw[rA,gZ];exact hz
  refine bQ (eR K l ((tO (prs.map (·.1))).map V.str)) (by rw[gZ];omega) (fun i ys H'=>∃zs:List Z,ys=rB zs/\Same H1 H'/\ZAt H' zs/\zs.length<=i/\zs.map (·.2)=(((tO (prs.map (·.1))).take i).filter fun n=>decide (0<Qs prs n)).map fun n=>(n,Qs prs n))
   (fun i ys H' ⟨zs,e,s',_,MC,_⟩=>⟨SqL.of (s' _ _ g1),by rw[e];unfold rB;rw[gZ];exact MC⟩) ⟨[],rfl,Same.refl _,(fun _ h=>nomatch h),bY _,rfl⟩ (fun i x ys H' hx ⟨zs,e,s',JE,MX,UX⟩=>?_) (fun ys H' ⟨zs,e,s',JE,MX,UX⟩=>?_)
  ·rw[jS]at hx;cases hn:(tO (prs.map (·.1)))[i]? with
   | none=>rw[hn]at hx;cases hx
   | some n=>
    rw[hn]at hx;cases hx;have FG:n∈prs.map (·.1):=(mV _).mem_iff.mp (lN hn);obtain⟨a,ha⟩:=mZ FG;have ea:Qs prs n=a:=by unfold Qs;rw[ha];rfl
    have gd:∀GX,Same H1 GX->DGet GX d (.str n) (some (.int a)):=fun GX zi=>by
     have:=DGet.k (k:=Sum.inr n) (zi  _ _ (s1 _ _ h2));rw[yG,ha]at this;exact this
    have oh:=s' _ _ (s1 _ _ h1);refine⟨C,dx,_,.ref d,oh,B.cl,B.nA,iC _,d,_,rfl,gd H' s',?_⟩;refine iY (fun hb=>?_) (fun hb=>?_)
    ·have Y5:0<a:=by simpa using hb
     refine⟨C,dx,_,.ref d,oh,B.cl,B.nA,iC _,d,_,rfl,gd H' s',eY rfl,fun t ht=>⟨zs++[(t,n,a)],by rw[e];unfold rB;rw[mF];rfl,s'.trans (aF ht),?_,by rw[wW];simpa using MX,?_⟩⟩
     ·intro z Xj;rcases Zma.mp Xj with m|m
      ·exact(JE.same (aF ht)) z m
      ·rw[Zms.mp m];exact aA
     ·rw[mF,UX,fU hn,List.filter_append,mF];congr 1;rw[filter_cons,if_pos (by rw[ea];exact decide_eq_true Y5)];rw[<- ea];rfl
    ·have Y5:¬ 0<a:=by simpa using hb
     refine⟨zs,e,s',JE,Zo,?_⟩;rw[UX,fU hn,List.filter_append,filter_cons,if_neg (by rw[ea];simpa using Y5)];simp
  ·intro l2 ur;subst e;refine q l2 zs _ (s1.trans (s'.trans (aF ur))) ?_ aA (JE.same (aF ur)) ?_
   ·exact s1.free (s'.free ur)
   ·rw[UX,gZ,take_length];rfl
def Lm:Dd->List (Str×Int)
 | .add a n=>[(a,(n:Int))]
 | .take a n=>[(a,-(n:Int))]
 | .move a b n=>[(a,-(n:Int)),(b,(n:Int))]
 | .send _ a n=>[(a,-(n:Int))]
 | .fetch _ a n=>[(a,(n:Int))]
 | .pass _ _ _ _=>[]
def Ge{C:Addr}(T:Txt K mg)(B:Vo K C)(D:ClsAt K mg "Book" C "Book.__init__" bM ["self","rows"] [[],[.non]]):∀d∈([[],[.non]]:List (List V)),rE P w K mg base 1 "Book" C ["self","rows"] d (rJ C):=by
 refine D.go kX (fun vs H Q E h=>?_) (fun f cdv A outer s H vs Q E hr h=>?_)
 ·obtain⟨p,dx,r,prs,rfl,_⟩:=h;rfl
 ·obtain⟨p,dx,r,prs,rfl,hp,hR,nd,hz,q⟩:=h;refine⟨_,(R.ae (R.av (K:=K) (R.v 0) R.cj) (R.af (R.aq (R.am R.dq (R.v 1) R.bo) (R.af (R.av (K:=K) (R.v 0) (R.ce (R.dz (K:=K) rfl) rfl T.b_dict xX (R.aa (R.v 1) R.ac)))) R.ar))),?_⟩;intro d1 zf;have np:=aB hp zf;refine⟨C,dx,[],(by rw[aE np];exact hp),B.cl,B.nA,(by show 0<1000;decide),?_⟩;have g1:(aH (aH H d1 (.dK [])) p (.ins C dx [("amounts",.ref d1)])) p=some (.ins C dx [("amounts",.ref d1)]):=aA;have g2:(aH (aH H d1 (.dK [])) p (.ins C dx [("amounts",.ref d1)])) d1=some (.dK []):=by rw[aE np.symm];exact aA
  have k1:∀b o,H b=some o->b≠p->(aH (aH H d1 (.dK [])) p (.ins C dx [("amounts",.ref d1)])) b=some o:=fun b o e hb=>by rw[aE hb,aE (aB e zf)];exact e
  dsimp only;rw[Vp];generalize aH (aH H d1 (.dK [])) p (.ins C dx [("amounts",.ref d1)])=H1 at g1 g2 k1;rcases hR with⟨rfl,rfl⟩|⟨l,zs,rfl,hl,JE,rfl⟩
  ·exact q H1 d1 zf g1 g2 k1
  ·have nl:l≠p:=bF hl hp nofun;have Xk:ZAt H1 zs:=fun z hz=>k1 _ _ (JE z hz) (bF (JE z hz) hp nofun)
   refine⟨wz zs,by rw[Pn];exact SqL.of (k1 _ _ hl nl),Tk Xk,by unfold wz;rw[gZ];simpa using hz,fun d hd=>?_⟩;have Zr:H d=none:=by
    cases e:H d with
    | none=>rfl
    | some o=>
     by_cases z:d=p
     ·rw[z,g1]at hd;cases hd
     ·rw[k1 d o e z]at hd;cases hd
   rw[Po,Af nd];refine⟨C,dx,_,(by rw[aE (aB g1 hd)];exact g1),B.cl,B.nA,(by show 1<1000;decide),?_⟩;refine q _ d Zr (by rw[aA,Vq]) (by rw[aE (aB g1 hd).symm];exact aA) fun b o e hb=>?_;rw[aE hb,aE (aB (k1 b o e hb) hd)];exact k1 b o e hb
def eC:Dd->List (Str×List V)
 | .send h a n=>[(h,[.str "add",.str a,.int (n:Int)])]
 | .fetch h a n=>[(h,[.str "take",.str a,.int (n:Int)])]
 | .pass h g a n=>[(h,[.str "take",.str a,.int (n:Int)]),(g,[.str "add",.str a,.int (n:Int)])]
 | _=>[]
def Py(x:Dd):Wi x.wd x.vs (Lm x) (eC x):=by
 cases x with
 | add a n=>exact⟨a,a,a,_,.add⟩
 | take a n=>exact⟨a,a,a,_,.take⟩
 | move a b n=>exact⟨a,b,a,_,.move⟩
 | send g a n=>exact⟨g,a,a,_,.send⟩
 | fetch g a n=>exact⟨g,a,a,_,.fetch⟩
 | pass g g' a n=>exact⟨g,g',a,_,.pass⟩
def yP{α:Type}{N:List α}(hN:N.Nodup){i j:Nat}{x:α}(a:N[i]?=some x)(b:N[j]?=some x):i=j:=by
 obtain⟨hi,ei⟩:=Zgs.mp a;obtain⟨hj,ej⟩:=Zgs.mp b;have h:=List.pairwise_iff_getElem.mp hN;rcases lt_trichotomy i j with z|z|z
 ·exact absurd (ei.trans ej.symm) (h i j hi hj z)
 ·exact z
 ·exact absurd (ej.trans ei.symm) (h j i hj hi z)
def Own(H:Hp)(L:List (Addr×HO)):Prop:=(L.map (·.1)).Nodup/\∀q∈L,H q.1=some q.2
def Own.get{H:Hp}{L:List (Addr×HO)}(h:Own H L)(i:Nat){a:Addr}{o:HO}(e:L[i]?=some (a,o)):H a=some o:=h.2 _ (lN e)
def Own.same{H H':Hp}{L:List (Addr×HO)}(s:Same H H')(h:Own H L):Own H' L:=⟨h.1,fun q hq=>s _ _ (h.2 q hq)⟩
def Own.keys{H:Hp}{L:List (Addr×HO)}(h:Own H L){b:Addr}(hb:H b=none):b∉L.map (·.1):=fun m=>by
 obtain⟨q,hq,e⟩:=Zmm.mp m;rw[<- e,h.2 q hq]at hb;cases hb
def Own.set{H:Hp}{L:List (Addr×HO)}(h:Own H L)(i:Nat){a:Addr}{o:HO}(e:L[i]?=some (a,o))(o':HO):Own (aH H a o') (L.set i (a,o')):=by
 obtain⟨hi,ei⟩:=Zgs.mp e;refine⟨?_,fun q hq=>?_⟩
 ·have:(L.set i (a,o')).map (·.1)=L.map (·.1):=by
   rw[map_set];apply List.ext_getElem Zs;intro j h1 h2;rw[List.getElem_set];split
   ·rename_i z;subst z;simp[ei]
   ·rfl
  rw[this];exact h.1
 ·obtain⟨j,hj,ej⟩:=List.mem_iff_getElem.mp hq;rw[List.getElem_set]at ej;split at ej
  ·rw[<- ej];exact aA
  ·rename_i O3;rw[List.length_set]at hj;have sh:L[j]∈L:=getElem_mem hj;have:q.1≠a:=fun z=>by
    have n:=yP h.1 (i:=i) (j:=j) (x:=a) (by rw[jS,e];rfl) (by rw[jS,kI hj,ej,<- z];rfl);exact O3 n
   rw[aE this,<- ej];exact h.2 _ sh
def jR{H:Hp}{a:Addr}{o o':HO}(g:H a=some o)(ho:∀xs,o≠.tup xs):TK H (aH H a o'):=fun c xs e=>by
 rw[aE (fun z=>by rw[z,g]at e;exact ho xs (Option.some.inj e))];exact e
def TK.of{H H':Hp}(s:Same H H'):TK H H':=fun c xs e=>s _ _ e
def Own.ne{H:Hp}{L:List (Addr×HO)}(h:Own H L){i j:Nat}{a b:Addr}{o o':HO}(ei:L[i]?=some (a,o))(ej:L[j]?=some (b,o'))(PQ:i≠j):a≠b:=fun e=>
 PQ (yP h.1 (x:=a) (by rw[jS,ei];rfl) (by rw[jS,ej,e];rfl))
def Own.at{H H':Hp}{L:List (Addr×HO)}(h:Own H L)(i:Nat){a:Addr}{o o':HO}(e:L[i]?=some (a,o))(g:H' a=some o')(k:∀b u,H b=some u->b≠a->H' b=some u):Own H' (L.set i (a,o')):=by
 have h1:=h.set i e o';refine⟨h1.1,fun q hq=>?_⟩;by_cases z:q.1=a
 ·have:=h1.2 q hq;rw[z,aA]at this;rw[z,g];exact this
 ·have:=h1.2 q hq;rw[aE z]at this;exact k _ _ this z
def Own.snoc{H:Hp}{L:List (Addr×HO)}(h:Own H L){a:Addr}{o:HO}(ha:a∉L.map (·.1))(g:H a=some o):Own H (L++[(a,o)]):=by
 refine⟨?_,fun q hq=>(Zma.mp hq).elim (h.2 q) fun z=>by rw[Zms.mp z];exact g⟩;rw[mF];exact nodup_append.mpr ⟨h.1,Zs,fun x hx y hy e=>ha ((show y=a by simpa using hy)▸e▸hx)⟩
structure CK where
 (D M R J B Ks:Addr)
structure Rn where
 (p dx:Addr)
 (n:Nat)
 (q:Str×Str)
 (d:Addr)
 (x:Dd)
 (st:Str)
 (pl un:Int)
def Rn.fs(r:Rn):List (Str×V):=[("number",.int r.n),("asker",.str r.q.1),("key",.str r.q.2),("deed",.ref r.d),("stage",.str r.st),("place",.int r.pl),("undos",.int r.un)]
structure DA where
 (dr dx hd j jx jl me mx bk bx bd ks rn:Addr)
 (kf:KF)
structure DS where
 (name:Str)
 (life turn:Int)
 (next:Nat)
 (hs:List (bJ×V))
 (prs:List (Str×Int))
 (m:KM)
 (L:Nat)
 (runs:List Rn)
 (rows:List V)
 (safe:Int)
def jf(lw:Addr)(n:Int):List (Str×V):=[("written",.ref lw),("safe_count",.int n)]
def df(a:DA)(s:DS):List (Str×V):=[("name",.str s.name),("life",.int s.life),("houses",.ref a.hd),("journal",.ref a.j),("memory",.ref a.me)]
def mf(a:DA)(turn:Int)(next:Int):List (Str×V):=[("turn",.int turn),("book",.ref a.bk),("standing",.ref a.ks),("runs",.ref a.rn),("next_number",.int next)]
def bV(rs:List Rn):List (bJ×V):=rs.map fun r=>(Sum.inl (r.n:Int),.ref r.p)
def Kc(c:CK)(r:Rn):Addr×HO:=(r.p,.ins c.R r.dx r.fs)
def DA.fix(a:DA):List Addr:=[a.dr,a.hd,a.j,a.jl,a.me,a.bk,a.bd,a.ks,a.kf.db,a.kf.ds,a.rn]
def DA.objs(c:CK)(a:DA)(s:DS)(bs ss:List (List bJ×V)):List (Addr×HO):=
  [(a.dr,.ins c.D a.dx (df a s)),(a.hd,.dK s.hs),(a.j,.ins c.J a.jx (jf a.jl s.safe)),(a.jl,.lst s.rows),(a.me,.ins c.M a.mx (mf a s.turn s.next)),(a.bk,.ins c.B a.bx [("amounts",.ref a.bd)]),(a.bd,.dK (vW s.prs)),
   (a.ks,.ins c.Ks a.kf.dx (uV a.kf s.life)),(a.kf.db,.dT bs),(a.kf.ds,.dT ss),(a.rn,.dK (bV s.runs))]
def DA.all(c:CK)(a:DA)(s:DS)(bs ss:List (List bJ×V)):List (Addr×HO):=a.objs c s bs ss++s.runs.map (Kc c)
structure DAt(c:CK)(H:Hp)(a:DA)(s:DS):Prop where
 own:∃bs ss,Own H (a.all c s bs ss)/\Dic H bs s.m fB s.L/\Dic H ss s.m fS s.L
 nd:(s.prs.map (·.1)).Nodup
 up:s.runs.Pairwise fun r r'=>r.n<r'.n
 dd:∀r∈s.runs,H r.d=some (.tup r.x.vs)
def fV(c:CK)(a:DA)(s:DS)(bs ss:List (List bJ×V)):(a.all c s bs ss).map (·.1)=a.fix++s.runs.map (·.p):=by
 unfold DA.all;rw[mF,map_map];rfl
def yQ{c:CK}{a:DA}{s:DS}{bs ss:List (List bJ×V)}:∀q∈a.all c s bs ss,∀xs,q.2≠.tup xs:=by
 intro q hq xs;rcases Zma.mp hq with m|m
 ·simp only [DA.objs,mem_cons,not_mem_nil,or_false]at m;rcases m with rfl|rfl|rfl|rfl|rfl|rfl|rfl|rfl|rfl|rfl|rfl<;>exact fun z=>nomatch z
 ·obtain⟨r,_,rfl⟩:=Zmm.mp m;exact fun z=>nomatch z
structure Mv(a:DA)(s s':DS)(H H':Hp):Prop where
 fr:∀c o,H c=some o->c∉a.fix++s.runs.map (·.p)->H' c=some o
 nw:∀r∈s'.runs,r.p∈s.runs.map (·.p)∨H r.p=none
 gr:∀c,H' c=none->H c=none
def Same.gr{H H':Hp}(k:Same H H')(c:Addr)(e:H' c=none):H c=none:=by
 cases z:H c with
 | none=>rfl
 | some o=>rw[k _ _ z]at e;cases e
def Mv.same{a:DA}{s:DS}{H H':Hp}(k:Same H H'):Mv a s s H H':=⟨fun c o e _=>k c o e,fun r hr=>.inl (mem_map_of_mem hr),fun c e=>Same.gr k c e⟩
def Mv.trans{a:DA}{s s1 s2:DS}{H H1 H2:Hp}(x:Mv a s s1 H H1)(y:Mv a s1 s2 H1 H2):Mv a s s2 H H2:=by
 refine⟨fun c o e hc=>y.fr c o (x.fr c o e hc) fun m=>?_,fun r hr=>?_,fun c e=>x.gr c (y.gr c e)⟩
 ·rcases Zma.mp m with m|m
  ·exact hc (mem_append_left _ m)
  ·obtain⟨r,hr,rfl⟩:=Zmm.mp m;rcases x.nw r hr with z|z
   ·exact hc (mem_append_right _ z)
   ·rw[z]at e;cases e
 ·rcases y.nw r hr with z|z
  ·obtain⟨r',UY,e⟩:=Zmm.mp z;rw[<- e];exact x.nw r' UY
  ·exact .inr (x.gr _ z)
section
variable {c:CK}{H H':Hp}{a:DA}{s s':DS}
def DAt.out(h:DAt c H a s){b:Addr}{o:HO}(hb:H b=some o)(ht:∃xs,o=.tup xs):b∉a.fix++s.runs.map (·.p):=by
 obtain⟨bs,ss,ho,_,_⟩:=h.own;obtain⟨xs,rfl⟩:=ht;intro m;rw[<- fV c a s bs ss]at m;obtain⟨q,hq,rfl⟩:=Zmm.mp m;have:=ho.2 q hq;rw[hb]at this;exact yQ q hq xs (Option.some.inj this).symm
def DAt.fresh(h:DAt c H a s){b:Addr}(hb:H b=none):b∉a.fix++s.runs.map (·.p):=by
 obtain⟨bs,ss,ho,_,_⟩:=h.own;have:=ho.keys hb
 rwa [fV]at this
def Mv.tk(m:Mv a s s' H H')(h:DAt c H a s):TK H H':=fun b xs e=>m.fr _ _ e (h.out e ⟨xs,rfl⟩)
def DAt.keep(h:DAt c H a s)(k:∀b o,H b=some o->b∈a.fix++s.runs.map (·.p)->H' b=some o)(t:TK H H'):DAt c H' a s:=by
 obtain⟨bs,ss,ho,d1,d2⟩:=h.own;refine⟨⟨bs,ss,⟨ho.1,fun q hq=>k _ _ (ho.2 q hq) ?_⟩,d1.keep t,d2.keep t⟩,h.nd,h.up,fun r hr=>t _ _ (h.dd r hr)⟩;rw[<- fV c a s bs ss];exact mem_map_of_mem hq
def DAt.same(h:DAt c H a s)(k:Same H H'):DAt c H' a s:=h.keep (fun b o e _=>k b o e) (TK.of k)
def DAt.put(h:DAt c H a s)(i:Nat){p:Addr}{o o':HO}(s':DS)(e:∀bs ss,(a.all c s bs ss)[i]?=some (p,o))(e':∀bs ss,(a.all c s bs ss).set i (p,o')=a.all c s' bs ss)(g:H' p=some o')(k:∀b u,H b=some u->b≠p->H' b=some u)(hm:s'.m=s.m)(hL:s'.L=s.L)(hn:(s'.prs.map (·.1)).Nodup)(hr:s'.runs=s.runs) :
  DAt c H' a s'/\Mv a s s' H H':=by
 obtain⟨bs,ss,ho,d1,d2⟩:=h.own;have hp:p∈a.fix++s.runs.map (·.p):=by
  rw[<- fV c a s bs ss];exact mem_map_of_mem (lN (e bs ss))
 have t:TK H H':=fun b xs z=>k _ _ z fun w=>yQ (p,o) (lN (e bs ss)) xs (Option.some.inj ((ho.2 _ (lN (e bs ss))).symm.trans (w▸z)))
 have og:=ho.at i (e bs ss) g k;rw[e' bs ss]at og;refine⟨⟨⟨bs,ss,og,?_,?_⟩,hn,by rw[hr];exact h.up,by rw[hr];exact fun r m=>t _ _ (h.dd r m)⟩,⟨fun b u z hb=>k b u z fun w=>hb (w▸hp),fun r m=>.inl (by rw[hr]at m;exact mem_map_of_mem m),fun b z=>?_⟩⟩
 ·rw[hm,hL];exact d1.keep t
 ·rw[hm,hL];exact d2.keep t
 ·cases w:H b with
  | none=>rfl
  | some u=>
   by_cases q:b=p
   ·rw[q,g]at z;cases z
   ·rw[k b u w q]at z;cases z
def DAt.dr(h:DAt c H a s):H a.dr=some (.ins c.D a.dx (df a s)):=let ⟨_,_,ho,_⟩:=h.own;ho.get 0 rfl
def DAt.hd(h:DAt c H a s):H a.hd=some (.dK s.hs):=let ⟨_,_,ho,_⟩:=h.own;ho.get 1 rfl
def DAt.j(h:DAt c H a s):H a.j=some (.ins c.J a.jx (jf a.jl s.safe)):=let ⟨_,_,ho,_⟩:=h.own;ho.get 2 rfl
def DAt.jl(h:DAt c H a s):H a.jl=some (.lst s.rows):=let ⟨_,_,ho,_⟩:=h.own;ho.get 3 rfl
def DAt.me(h:DAt c H a s):H a.me=some (.ins c.M a.mx (mf a s.turn s.next)):=let ⟨_,_,ho,_⟩:=h.own;ho.get 4 rfl
def DAt.ks(h:DAt c H a s):H a.ks=some (.ins c.Ks a.kf.dx (uV a.kf s.life)):=let ⟨_,_,ho,_⟩:=h.own;ho.get 7 rfl
def DAt.rn(h:DAt c H a s):H a.rn=some (.dK (bV s.runs)):=let ⟨_,_,ho,_⟩:=h.own;ho.get 10 rfl
def DAt.run(h:DAt c H a s){r:Rn}(hr:r∈s.runs):H r.p=some (.ins c.R r.dx r.fs):=let ⟨_,_,ho,_⟩:=h.own;ho.2 (Kc c r) (mem_append_right _ (mem_map_of_mem hr))
def DAt.ky(h:DAt c H a s):KyAt c.Ks H a.ks a.kf s.life s.m s.L:=by
 obtain⟨bs,ss,ho,d1,d2⟩:=h.own;exact⟨ho.get 7 rfl,⟨bs,ho.get 8 rfl,d1⟩,⟨ss,ho.get 9 rfl,d2⟩,ho.ne (i:=8) (j:=9) rfl rfl Zd⟩
def DAt.keys(h:DAt c H a s){m':KM}{L':Nat}(k:KyAt c.Ks H' a.ks a.kf s.life m' L')(fr:Vs H H' a.kf):DAt c H' a {s with m:=m',L:=L' }/\Mv a s {s with m:=m',L:=L' } H H':=by
 obtain⟨bs,ss,ho,d1,d2⟩:=h.own;obtain⟨b1,g1,e1⟩:=k.hb;obtain⟨b2,g2,e2⟩:=k.hs;have gb:=ho.get 8 rfl;have gs:=ho.get 9 rfl;have t:TK H H':=fun b xs z=>fr _ _ z (bF z gb fun w=>nomatch w) (bF z gs fun w=>nomatch w)
 have kp:∀q∈a.all c s bs ss,(∀kv,q.2≠.dT kv)->H' q.1=some q.2:=fun q hq hn=>fr _ _ (ho.2 q hq) (bF (ho.2 q hq) gb (hn _)) (bF (ho.2 q hq) gs (hn _))
 have Xl:Own H' (a.all c {s with m:=m',L:=L' } b1 b2):=by
  refine⟨by rw[fV];have:=ho.1;rwa [fV]at this,fun q hq=>?_⟩;rcases Zma.mp hq with m|m
  ·simp only [DA.objs,mem_cons,not_mem_nil,or_false]at m;have z:∀(i:Nat)(q:Addr×HO),(a.all c s bs ss)[i]?=some q->(∀kv,q.2≠.dT kv)->H' q.1=some q.2:=fun i q e hn=>kp q (lN e) hn
   rcases m with rfl|rfl|rfl|rfl|rfl|rfl|rfl|rfl|rfl|rfl|rfl
   ·exact z 0 _ rfl fun _ w=>nomatch w
   ·exact z 1 _ rfl fun _ w=>nomatch w
   ·exact z 2 _ rfl fun _ w=>nomatch w
   ·exact z 3 _ rfl fun _ w=>nomatch w
   ·exact z 4 _ rfl fun _ w=>nomatch w
   ·exact z 5 _ rfl fun _ w=>nomatch w
   ·exact z 6 _ rfl fun _ w=>nomatch w
   ·exact z 7 _ rfl fun _ w=>nomatch w
   ·exact g1
   ·exact g2
   ·exact z 10 _ rfl fun _ w=>nomatch w
  ·obtain⟨r,hr,rfl⟩:=Zmm.mp m;exact kp (Kc c r) (mem_append_right _ (mem_map_of_mem hr)) fun _ w=>nomatch w
 refine⟨⟨⟨b1,b2,Xl,e1,e2⟩,h.nd,h.up,fun r hr=>t _ _ (h.dd r hr)⟩,⟨fun b o z hb=>fr b o z ?_ ?_,fun r hr=>.inl (mem_map_of_mem hr),fun b z=>?_⟩⟩
 ·exact fun w=>hb (by rw[w];simp[DA.fix])
 ·exact fun w=>hb (by rw[w];simp[DA.fix])
 ·cases w:H b with
  | none=>rfl
  | some u=>
   by_cases q1:b=a.kf.db
   ·rw[q1,g1]at z;cases z
   ·by_cases q2:b=a.kf.ds
    ·rw[q2,g2]at z;cases z
    ·rw[fr b u w q1 q2]at z;cases z
end
def uH{js:List (Option Nat)}{g:TG}{tt:TT}{te:TE}{σ:St}{H:Hp}{a:Addr}{Q:List V->Hp->Prop}(e:SqL K H a [])(h:Q [] H):lJ js g tt te σ (Bz K a) H Q:=
 bQ (eR K a []) Zs (fun i ys H'=>H'=H/\ys=[]) (fun i ys H' ⟨e1,e2⟩=>⟨by rw[e1];exact e,by rw[e2];simp⟩) ⟨rfl,rfl⟩ (fun i x ys H' hx _=>by simp at hx) (fun ys H' ⟨e1,e2⟩=>by subst e1;subst e2;exact h)
def lZ{g:TG}{tb:TS}{D:iX}{σ:St}{H:Hp}{a:Addr}(e:SqL K H a [])(h:D.nx σ H) :
  ∃W:Nat->Nat->St->Hp->Prop,(∃m,W 0 m σ H)/\∀i m σ H,W i m σ H →
   ((Bz K a).stop i H/\D.nx σ H)∨((Bz K a).go i H/\∃N:St->Hp->Prop,(∀ σ' H',N σ' H'->∃m',m'<m/\W (i+1) m' σ' H')/\∀x H',(Bz K a).yld i H x H'->g x σ H' fun σ2 H2=>tb {D with nx:=N,ct:=N,bk:=D.nx } σ2 H2):=
 lX (eR K a []) (fun i σ' H'=>H'=H/\σ'=σ) (fun i σ' H' ⟨e1,_⟩=>by rw[e1];exact e) ⟨rfl,rfl⟩ (fun i x σ' H' hx _=>by simp at hx) (fun σ' H' ⟨e1,e2⟩=>by subst e1;subst e2;exact h)
def qA{H:Hp}{cd:Addr}{u:HO}{o:Obj}(g:H cd=some u){H2:Hp}(s:Same (aH H cd (.frz o u)) H2):Same H (aH H2 cd u):=fun c x e=>by
 by_cases z:c=cd
 ·subst z;rw[g]at e;cases e;exact aA
 ·rw[aE z];exact s _ _ (by rw[aE z];exact e)
abbrev CR:=Addr×Int×Int
def uW(cr:List CR):List V:=cr.map fun q=>V.ref q.1
def CrAt(H:Hp)(cr:List CR):Prop:=∀q∈cr,∃v3 v4 v5,H q.1=some (.tup [.str "came",.int q.2.1,.int q.2.2,v3,v4,v5])
def CrAt.same{H H':Hp}{cr:List CR}(s:Same H H')(h:CrAt H cr):CrAt H' cr:=fun q hq=>let ⟨a,b,c,e⟩:=h q hq;⟨a,b,c,s _ _ e⟩
def Bq(w:Str)(cr:List CR):List (bJ×V):=if w="came" then cr.map fun q=>(Sum.inl q.2.1,.ref q.1) else []
def kD{js:List (Option Nat)}{g:TG}{tt:TT}{te:TE}{σ:St}{H:Hp}{ra:Addr}{cr:List CR}{Q:List V->Hp->Prop}(F:CR->List V)(hF:∀q,(F q).length<=1)(hl:cr.length<=1)(gl:H ra=some (.lst (uW cr)))(hs:∀q∈cr,∀N:List V->Hp->Prop,(∀H',Same H H'->N (F q) H')->g (.ref q.1) (rZ js σ) H fun σ2 H2=>tt σ2 H2 fun b H3=>if b=true then te σ2 H3 fun y H4=>N [y] H4 else N [] H3)(h:∀H',Same H H'->Q (cr.flatMap F) H'):lJ js g tt te σ (Bz K ra) H Q:=by
 rcases cr with _|⟨q,_|⟨q',r⟩⟩
 ·exact uH (SqL.of gl) (h H (Same.refl _))
 ·refine bQ (eR K ra [.ref q.1]) Zs (fun i ys H'=>(i=0/\ys=[]/\H'=H)∨(i=1/\ys=F q/\Same H H')) (fun i ys H' e=>?_) (.inl ⟨rfl,rfl,rfl⟩) (fun i x ys H' hx e=>?_) (fun ys H' e=>?_)
  ·rcases e with⟨rfl,rfl,rfl⟩|⟨rfl,rfl,s⟩
   ·exact⟨SqL.of gl,bY _⟩
   ·exact⟨SqL.of (s _ _ gl),hF q⟩
  ·rcases e with⟨rfl,rfl,rfl⟩|⟨rfl,_,_⟩
   ·cases hx;exact hs q Zs (fun ys H2=>(0+1=0/\ys=[]/\H2=H')∨(0+1=1/\ys=F q/\Same H' H2)) fun H2 s2=>.inr ⟨rfl,rfl,s2⟩
   ·cases hx
  ·rcases e with⟨e,_⟩|⟨_,rfl,s⟩
   ·cases e
   ·have:=h H' s
    rwa [flatMap_cons,List.flatMap_nil,append_nil]at this
 ·exact absurd hl Zs
def uI{js:List (Option Nat)}{g:TG}{tt:TT}{te:TE}{σ:St}{H:Hp}{d:Addr}{o:Obj}{cr:List CR}{Q:List V->Hp->Prop}(F:CR->List V)(hF:∀q,(F q).length<=1)(hl:cr.length<=1)(gl:H d=some (.frz o (.dK (Bq "came" cr))))(hs:∀q∈cr,∀N:List V->Hp->Prop,N (F q) H->g (.int q.2.1) (rZ js σ) H fun σ2 H2=>tt σ2 H2 fun b H3=>if b=true then te σ2 H3 fun y H4=>N [y] H4 else N [] H3)(h:Q (cr.flatMap F) H):lJ js g tt te σ (Ui d o (Bq "came" cr)) H Q:=by
 rcases cr with _|⟨q,_|⟨q',r⟩⟩
 ·exact bQ (yE d o []) Zs (fun i ys H'=>H'=H/\ys=[]) (fun i ys H' ⟨e1,e2⟩=>⟨by rw[e1];exact gl,by rw[e2];simp⟩) ⟨rfl,rfl⟩ (fun i x ys H' hx _=>by simp at hx) (fun ys H' ⟨e1,e2⟩=>by subst e1;subst e2;exact h)
 ·refine bQ (yE d o [(Sum.inl q.2.1,.ref q.1)]) Zs (fun i ys H'=>(i=0/\ys=[]/\H'=H)∨(i=1/\ys=F q/\H'=H)) (fun i ys H' e=>?_) (.inl ⟨rfl,rfl,rfl⟩) (fun i x ys H' hx e=>?_) (fun ys H' e=>?_)
  ·rcases e with⟨rfl,rfl,rfl⟩|⟨rfl,rfl,rfl⟩
   ·exact⟨gl,bY _⟩
   ·exact⟨gl,hF q⟩
  ·rcases e with⟨rfl,rfl,rfl⟩|⟨rfl,_,_⟩
   ·cases hx;exact hs q Zs (fun ys H2=>(0+1=0/\ys=[]/\H2=H')∨(0+1=1/\ys=F q/\H2=H')) (.inr ⟨rfl,rfl,rfl⟩)
   ·cases hx
  ·rcases e with⟨e,_⟩|⟨_,rfl,rfl⟩
   ·cases e
   ·rwa [flatMap_cons,List.flatMap_nil,append_nil]at h
 ·exact absurd hl Zs
def wO{g:TG}{tb:TS}{D:iX}{σ:St}{H:Hp}{a:Addr}{cr:List CR}(hl:cr.length<=1)(gl:H a=some (.lst (uW cr)))(h0:cr=[]->D.nx σ H)(h:∀q,cr=[q]->∀N:St->Hp->Prop,(∀ σ' H',H' a=some (.lst (uW cr))->D.nx σ' H'->N σ' H')->g (.ref q.1) σ H fun σ2 H2=>tb {D with nx:=N,ct:=N,bk:=D.nx } σ2 H2) :
  ∃W:Nat->Nat->St->Hp->Prop,(∃m,W 0 m σ H)/\∀i m σ H,W i m σ H →
   ((Bz K a).stop i H/\D.nx σ H)∨((Bz K a).go i H/\∃N:St->Hp->Prop,(∀ σ' H',N σ' H'->∃m',m'<m/\W (i+1) m' σ' H')/\∀x H',(Bz K a).yld i H x H'->g x σ H' fun σ2 H2=>tb {D with nx:=N,ct:=N,bk:=D.nx } σ2 H2):=by
 rcases cr with _|⟨q,_|⟨q',r⟩⟩
 ·exact lZ (SqL.of gl) (h0 rfl)
 ·refine lX (eR K a [.ref q.1]) (fun i σ' H'=>(i=0/\σ'=σ/\H'=H)∨(i=1/\H' a=some (.lst [.ref q.1])/\D.nx σ' H')) (fun i σ' H' e=>?_) (.inl ⟨rfl,rfl,rfl⟩) (fun i x σ' H' hx e=>?_) (fun σ' H' e=>?_)
  ·rcases e with⟨rfl,rfl,rfl⟩|⟨rfl,e,_⟩
   ·exact SqL.of gl
   ·exact SqL.of e
  ·rcases e with⟨rfl,rfl,rfl⟩|⟨rfl,_,_⟩
   ·cases hx;exact h q rfl (fun σ2 H2=>(0+1=0/\σ2=σ'/\H2=H')∨(0+1=1/\H2 a=some (.lst [.ref q.1])/\D.nx σ2 H2)) fun σ2 H2 e d=>.inr ⟨rfl,e,d⟩
   ·cases hx
  ·rcases e with⟨e,_⟩|⟨_,_,d⟩
   ·cases e
   ·exact d
 ·exact absurd hl Zs
def Ln:Sp:=fun vs H Q _=>∃(ra:Addr)(w:Str)(cr:List CR),vs=[.ref ra,.str w]/\H ra=some (.lst (uW cr))/\CrAt H cr/\cr.length<=1/\∀d H',H d=none->Same H H'->H' d=some (.dK (Bq w cr))->Q (.ref d) H'
def Pz(D:DefAt K mg "by_numbers" eJ ["rows","word"]):aI P w K mg base 1 "by_numbers" ["rows","word"] Ln:=by
 refine D.go fL (fun vs H Q E h=>?_) (fun f cdv A outer s H vs Q E hr h=>?_)
 ·obtain⟨ra,w,cr,rfl,_⟩:=h;rfl
 ·obtain⟨ra,w,cr,rfl,g,hc,hl,q⟩:=h;have U1:=hV hr;refine⟨_,(R.ae (R.ai (i:=2) fL.nd R.cj) (R.ae (R.bt PassesOwn.never rfl (R.be (K:=K) (R.v 0)) (R.gn (i:=3) fL.nd) (R.af (R.aq (R.am R.eq (R.ix (R.ao (K:=K)) (R.v 3) R.ad) (R.v 1)) (R.af (R.dj (R.v 3) (R.dl (R.v 2) (R.ix (R.ao (K:=K)) (R.v 3) R.ad) (R.cz U1)))) R.ar))) (R.af (R.ah (R.v 2))))),?_⟩;intro d hd;dsimp only [aL];have s1:=aF (o:=.dK []) hd;have gd:(aH H d (.dK [])) d=some (.dK []):=aA;refine⟨ra,rfl,⟨_,SqL.of (s1 _ _ g)⟩,wO hl (s1 _ _ g) (fun e=>?_) (fun r e N hN=>?_)⟩
  ·subst e;exact q d _ hd s1 (by rw[aA];unfold Bq;split<;>rfl)
  ·subst e;obtain⟨v3,v4,v5,gr⟩:=hc r Zs;have Zt:=s1 _ _ gr;have nra:ra≠d:=aB g hd;dsimp only [aL];refine⟨_,SqT.of Zt,_,rfl,?_⟩;show if decide (("came":Str)=w)=true then _ else _
   refine iY (fun hw=>?_) (fun hw=>?_)
   ·have Xm:=(of_decide_eq_true hw).symm;refine⟨_,SqT.of Zt,_,rfl,d,_,rfl,DPut.k (k:=Sum.inl r.2.1) gd (by show 0<_;decide),hN _ _ (by rw[aE nra];exact s1 _ _ g) (q d _ hd (fun c o z=>?_) ?_)⟩
    ·rw[aE (aB z hd),aE (aB z hd)];exact z
    ·rw[aA];unfold Bq;rw[if_pos Xm];rfl
   ·have Xm:=of_decide_eq_false hw;exact hN _ _ (s1 _ _ g) (q d _ hd s1 (by rw[aA];unfold Bq;rw[if_neg (fun z=>Xm z.symm)]))
def yR(C:Addr):Sp:=fun vs H Q _=>∃(ra:Addr)(cr:List CR),vs=[.ref ra]/\H ra=some (.lst (uW cr))/\CrAt H cr/\cr.length<=1/\∀(b bx bd:Addr)(H':Hp),H b=none->H bd=none->H' b=some (.ins C bx [("amounts",.ref bd)])->H' bd=some (.dK [])->Same H H'->Q (.ref b) H'
def Qa{C:Addr}(zp:rE P w K mg base 1 "Book" C ["self","rows"] [] (rJ C))(D:DefAt K mg "first_book" cY ["rows"]):aI P w K mg base 3 "first_book" ["rows"] (yR C):=by
 refine D.go oO (fun vs H Q E h=>?_) (fun f cdv A outer s H vs Q E hr h=>?_)
 ·obtain⟨ra,cr,rfl,_⟩:=h;rfl
 ·obtain⟨ra,cr,rfl,g,hc,hl,q⟩:=h;have ux:=hr;refine⟨_,(R.af (R.ah (R.ck zp ux rfl (R.aa (R.bb rfl (js:=[none]) (N:=["row"]) (CompScope.by (aD cY) ["rows"] rfl rfl Zk) (aS rfl) (R.be (K:=K) (R.v 0)) (fun C s₂ H₂ fp=>⟨(R.gn (i:=0) (show(["row"]:List Str).Nodup by decide +kernel)),(R.cg (R.am R.eq (R.ix (R.ao (K:=K)) (R.v 0) R.ad) R.ag)),(R.sl R.sT (R.v 0) (R.ps R.ad) R.pn)⟩)) R.ac)))),?_⟩;refine⟨ra,rfl,⟨_,SqL.of g⟩,kD (fun _=>[]) Zs hl g (fun r hr N hN=>?_) fun H0 s0 l hl=>?_⟩
  ·obtain⟨v3,v4,v5,gr⟩:=hc r hr;exact⟨_,SqT.of gr,_,rfl,hN _ (Same.refl _)⟩
  rw[show cr.flatMap (fun _=>([]:List V))=[] by simp];intro b bx hb MY O3;have s1:=s0.trans (aF (o:=.lst []) hl);refine⟨b,bx,_,[],rfl,aA,.inr ⟨l,[],rfl,?_,(fun _ h=>nomatch h),rfl⟩,nodup_nil,Zs,fun H' d hd g1 g2 k=>⟨rfl,?_⟩⟩
  ·rw[aE (aB aA hb),aE (aB aA MY)];exact aA
  ·have s2:Same (aH H0 l (.lst [])) H':=fun c o e=>k _ _ (by rw[aE (aB e hb),aE (aB e MY)];exact e) (aB e hb)
   refine q b bx d H' (s1.free hb) ?_ g1 g2 (s1.trans s2)
   cases e:H d with
   | none=>rfl
   | some o=>have e':=s1 _ _ e;rw[aE (aB e' hb),aE (aB e' MY),e']at hd;cases hd
def Qb{C:Addr}(uy:aI P w K mg base 3 "first_book" ["rows"] (yR C))(D:DefAt K mg "risen_book" eM ["rows","came"]) :
  aI P w K mg base 4 "risen_book" ["rows","came"] (fun vs H Q E=>∃ra v,vs=[ra,v]/\yR C [ra] H Q E):=by
 refine D.go fN (fun vs H Q E h=>?_) (fun f cdv A outer s H vs Q E hr h=>?_)
 ·obtain⟨ra,v,rfl,_⟩:=h;rfl
 ·obtain⟨_,v,rfl,ra,cr,e,g,hc,hl,q⟩:=h;cases e;have sm:=hr;refine⟨_,(R.ae (R.ai (i:=2) fN.nd (R.fn uy sm rfl (R.aa (R.v 0) R.ac))) (R.ae (R.bt PassesOwn.never rfl (R.be (K:=K) (R.v 0)) (R.gn (i:=3) fN.nd) (R.af (R.aq (R.am R.eq (R.ix (R.ao (K:=K)) (R.v 3) R.ad) R.ag) (R.af R.ay) R.ar))) (R.af (R.ah (R.v 2))))),?_⟩;refine⟨ra,cr,rfl,g,hc,hl,fun b bx bd H' h1 h2 g1 g2 s1=>?_⟩;dsimp only [aL];refine⟨ra,rfl,⟨_,SqL.of (s1 _ _ g)⟩,wO (tb:=_) hl (s1 _ _ g) (fun _=>q b bx bd H' h1 h2 g1 g2 s1) fun r e N hN=>?_⟩;obtain⟨v3,v4,v5,gr⟩:=hc.same s1 r (by rw[e];simp);dsimp only [aL];exact⟨_,SqT.of gr,_,rfl,hN _ _ (s1 _ _ g) (q b bx bd H' h1 h2 g1 g2 s1)⟩
def Lo:Sp:=fun vs H Q _=>∃(ra:Addr)(cr:List CR)(v:V),vs=[.ref ra,v]/\H ra=some (.lst (uW cr))/\CrAt H cr/\cr.length<=1/\∀l H',Same H H'->H' l=some (.lst [])->Q (.ref l) H'
def Qc(D:DefAt K mg "risen_kept" cD ["rows","came"]):aI P w K mg base 1 "risen_kept" ["rows","came"] Lo:=by
 refine D.go jL (fun vs H Q E h=>?_) (fun f cdv A outer s H vs Q E hr h=>?_)
 ·obtain⟨ra,cr,v,rfl,_⟩:=h;rfl
 ·obtain⟨ra,cr,v,rfl,g,hc,hl,q⟩:=h;have U1:=hV hr;have fe:cr.flatMap (fun _=>([]:List V))=[]:=by simp
  refine⟨_,(R.ae (R.fb (i:=2) jL.nd rfl (Or.inl rfl) rfl (js:=[none]) (N:=["row"]) (CompScope.by (aD cD) ["rows","came","kept"] rfl rfl Zk) (aS rfl) (R.be (K:=K) (R.v 0)) (fun C s₂ H₂ fp=>⟨(R.gn (i:=0) (show(["row"]:List Str).Nodup by decide +kernel)),(R.cg (R.am R.eq (R.ix (R.ao (K:=K)) (R.v 0) R.ad) R.ag)),(R.sl R.sT (R.v 0) (R.ps R.ad) R.pn)⟩) rfl) (R.af (R.ah (R.op R.bh (R.v 2) (R.bb rfl (js:=[none,some 1]) (N:=["row","came"]) (CompScope.by (aD cD) ["rows","came","kept"] rfl rfl Zk) (aS rfl) (R.be (K:=K) (R.v 0)) (fun C s₂ H₂ fp=>⟨(R.gn (i:=0) (show(["row","came"]:List Str).Nodup by decide +kernel)),(R.cg (R.am R.eq (R.ix (R.ao (K:=K)) (R.v 0) R.ad) R.ag)),(R.op R.di (R.op R.di (R.sl R.sT (R.v 0) (R.ps R.ad) (R.ps R.ad)) (R.sl R.sT (R.bq U1 (R.v 1) (R.ix (R.ao (K:=K)) (R.v 0) R.ad)) (R.ps R.ad) R.pn)) (R.sl R.sT (R.v 0) (R.ps R.ad) R.pn))⟩)))))),?_⟩;refine⟨ra,rfl,⟨_,SqL.of g⟩,kD (fun _=>[]) Zs hl g (fun r hr N hN=>?_) fun H0 s0 l YZ=>?_⟩
  ·obtain⟨v3,v4,v5,gr⟩:=hc r hr;exact⟨_,SqT.of gr,_,rfl,hN _ (Same.refl _)⟩
  dsimp only [aL];rw[fe];have s1:=s0.trans (aF (o:=.lst []) YZ);have g1:(aH H0 l (.lst [])) l=some (.lst []):=aA;generalize aH H0 l (.lst [])=H1 at s1 g1 ⊢;refine⟨ra,rfl,⟨_,SqL.of (s1 _ _ g)⟩,kD (fun _=>[]) Zs hl (s1 _ _ g) (fun r hr N hN=>?_) fun H2 s2 l2 ur=>?_⟩
  ·obtain⟨v3,v4,v5,gr⟩:=hc.same s1 r hr;exact⟨_,SqT.of gr,_,rfl,hN _ (Same.refl _)⟩
  rw[fe];have s3:=aF (o:=.lst []) ur;exact⟨[],[],s3 _ _ (s2 _ _ g1),aA,eY rfl,fun l3 hl3=>q l3 _ (((s1.trans s2).trans s3).trans (aF hl3)) aA⟩
def wP:Sp:=fun vs H Q _=>∃(ra:Addr)(cr:List CR),vs=[.ref ra]/\H ra=some (.lst (uW cr))/\CrAt H cr/\cr.length<=1/\∀t b l o (m1 m2:Int) H',Same H H'->H' t=some (.tup [.ref b,.ref l,.ref o,.int m1,.int m2])->H' b=some (.lst [])->H' l=some (.lst [])->H' o=some (.lst [])->(m1∈1::cr.map (fun q=>q.2.1+1)/\∀a∈1::cr.map (fun q=>q.2.1+1),a<=m1)->(m2∈0::cr.map (fun q=>q.2.2)/\∀a∈0::cr.map (fun q=>q.2.2),a<=m2)->Q (.ref t) H'
def uJ{α:Type}(f:CR->V)(cr:List CR):cr.flatMap (fun q=>[f q])=cr.map f:=by
 induction cr with
 | nil=>rfl
 | cons q r ih=>rw[flatMap_cons,ih];rfl
def Ke{C:Addr}(T:Txt K mg)(K7:aI P w K mg base 1 "by_numbers" ["rows","word"] Ln)(uz:aI P w K mg base 4 "risen_book" ["rows","came"] (fun vs H Q E=>∃ra v,vs=[ra,v]/\yR C [ra] H Q E))(va:aI P w K mg base 1 "risen_kept" ["rows","came"] Lo)(yh:eW P w K mg base 1 C "rows" ["self"] (tS C))(D:DefAt K mg "risen" eI ["rows"]) :
  aI P w K mg base 5 "risen" ["rows"] wP:=by
 refine D.go iF (fun vs H Q E h=>?_) (fun f cdv A outer s H vs Q E hr h=>?_)
 ·obtain⟨ra,cr,rfl,_⟩:=h;rfl
 ·obtain⟨ra,cr,rfl,g,hc,hl,q⟩:=h;have U1:=hV hr;have F7:Room 1 _:=hr.mono Zd;have sq:Room 4 _:=hr;have vb:Room 1 _:=hr.mono Zd;have sr:Room 1 _:=hr.mono Zd;have fe:cr.flatMap (fun _=>([]:List V))=[]:=by simp
  refine⟨_,(R.ae (R.ai (i:=1) iF.nd (R.fn K7 F7 rfl (R.aa (R.v 0) (R.aa R.ag R.ac)))) (R.ae (R.ai (i:=2) iF.nd (R.fn K7 F7 rfl (R.aa (R.v 0) (R.aa R.ag R.ac)))) (R.ae (R.ai (i:=3) iF.nd (R.fn K7 F7 rfl (R.aa (R.v 0) (R.aa R.ag R.ac)))) (R.ae (R.iw (R.fb (i:=4) iF.nd rfl (Or.inl rfl) rfl (js:=[none,some 1,some 2,some 3]) (N:=["number","done","asked","came"]) (CompScope.by (aD eI) ["rows","done","asked","came","still"] rfl rfl Zk) (aS rfl) (R.wD (R.v 3)) (fun C s₂ H₂ fp=>⟨(R.gn (i:=0) (show(["number","done","asked","came"]:List Str).Nodup by decide +kernel)),(R.cg (R.tw (R.cm (R.am (R.gk U1) (R.v 0) (R.v 2)) (R.cn (R.am (R.eu U1) (R.v 0) (R.v 1)))))),(R.bq U1 (R.v 3) (R.v 0))⟩) rfl)) (R.af (R.ah (R.aj (R.aa (R.bf yh vb (R.fn uz sq rfl (R.aa (R.v 0) (R.aa (R.v 3) R.ac)))) (R.aa (R.fn va sr rfl (R.aa (R.v 0) (R.aa (R.v 3) R.ac))) (R.aa (R.bb rfl (js:=[none]) (N:=["row"]) (CompScope.by (aD eI) ["rows","done","asked","came","still"] rfl rfl Zk) (aS rfl) (R.be (K:=K) (R.v 4)) (fun C s₂ H₂ fp=>⟨(R.gn (i:=0) (show(["row"]:List Str).Nodup by decide +kernel)),R.bn,(R.op R.di (R.sl R.sT (R.v 0) (R.ps R.ad) (R.ps R.ad)) (R.sl R.sT (R.v 0) (R.ps R.ad) R.pn))⟩)) (R.aa (R.ax (R.eo (K:=K) rfl) rfl T.b_max Dz (R.aa (R.op R.bh (R.op R.bh (R.aw (R.aa R.ad R.ac)) (R.bb rfl (js:=[none]) (N:=["row"]) (CompScope.by (aD eI) ["rows","done","asked","came","still"] rfl rfl Zk) (aS rfl) (R.be (K:=K) (R.v 0)) (fun C s₂ H₂ fp=>⟨(R.gn (i:=0) (show(["row"]:List Str).Nodup by decide +kernel)),(R.cg (R.am R.eq (R.ix (R.ao (K:=K)) (R.v 0) R.ad) R.ag)),(R.ix (R.ao (K:=K)) (R.v 0) R.ad)⟩))) (R.iy (R.bb rfl (js:=[none]) (N:=["number"]) (CompScope.by (aD eI) ["rows","done","asked","came","still"] rfl rfl Zk) (aS rfl) (R.wD (R.v 3)) (fun C s₂ H₂ fp=>⟨(R.gn (i:=0) (show(["number"]:List Str).Nodup by decide +kernel)),R.bn,(R.op R.ba (R.v 0) R.ad)⟩)))) R.ac)) (R.aa (R.ax (R.eo (K:=K) rfl) rfl T.b_max Dz (R.aa (R.op R.bh (R.aw (R.aa R.ad R.ac)) (R.bb rfl (js:=[none]) (N:=["row"]) (CompScope.by (aD eI) ["rows","done","asked","came","still"] rfl rfl Zk) (aS rfl) (R.be (K:=K) (R.v 0)) (fun C s₂ H₂ fp=>⟨(R.gn (i:=0) (show(["row"]:List Str).Nodup by decide +kernel)),(R.cg (R.am (R.ia (K:=K)) (R.ix (R.ao (K:=K)) (R.v 0) R.ad) (R.aj (R.aa R.ag (R.aa R.ag (R.aa R.ag R.ac)))))),(R.ix (R.ao (K:=K)) (R.v 0) R.ad)⟩))) R.ac)) R.ac)))))))))))),?_⟩;refine⟨ra,"done",cr,rfl,g,hc,hl,fun d1 H1 h1 s1 g1=>?_⟩;dsimp only [aL];refine⟨ra,"asked",cr,rfl,s1 _ _ g,hc.same s1,hl,fun d2 H2 h2 s2 g2=>?_⟩;dsimp only [aL];have Xn:=s1.trans s2;refine⟨ra,"came",cr,rfl,Xn _ _ g,hc.same Xn,hl,fun d3 H3 h3 zg g3=>?_⟩;dsimp only [aL];have s3:=Xn.trans zg;have Zu:=zg _ _ g2;rw[show Bq "asked" cr=[] from if_neg Zk]at Zu;have n23:d2≠d3:=aB g2 h3;refine cT (fun σ' H'=>∃sl:Addr,σ'=[some (.ref ra),some (.ref d1),some (.ref d2),some (.ref d3),some (.ref sl)]/\H' sl=some (.lst [])/\Same H3 H') (fun nx y8=>?_) ?_
  ·refine⟨_,g3,fun o=>uI (fun _=>[]) Zs hl aA (fun r hr N hN=>?_) ?_⟩
   ·dsimp only [aL];have ga:(aH H3 d3 (.frz o (.dK (Bq "came" cr)))) d2=some (.dK []):=by rw[aE n23];exact Zu
    have dg:=DGet.k (k:=Sum.inl r.2.1) ga;exact⟨none,dg,hN⟩
   rw[fe];intro sl OV;have RK:d3≠sl:=aB aA OV;exact⟨d3,_,o,⟨_,g3⟩,by rw[aE RK];exact aA,y8 _ _ ⟨sl,rfl,by rw[aE RK.symm];exact aA,qA g3 (aF OV)⟩⟩
  ·rintro σ' H4 ⟨sl,rfl,gsl,s4⟩;have sA:=s3.trans s4;refine⟨.ref ra,.ref d3,rfl,ra,cr,rfl,sA _ _ g,hc.same sA,hl,fun b bx bd H5 hb Xo gb gd s5=>?_⟩;refine⟨bx,_,gb,by kernel_rfl,b,[],rfl,⟨⟨bx,bd,gb,gd⟩,nodup_nil⟩,Zd,fun bl zs H6 s6 fbl gbl hz ez=>?_⟩;have ez':zs=[]:=by
    have e0:tO (([]:List (Str×Int)).map (·.1))=[]:=List.length_eq_zero_iff.mp (by rw[rA];rfl);unfold Eu at ez;rw[e0]at ez;exact List.map_eq_nil_iff.mp ez
   subst ez';have sB:=(sA.trans s5).trans s6;refine⟨ra,cr,.ref d3,rfl,sB _ _ g,hc.same sB,hl,fun kl H7 s7 RL=>?_⟩;have sC:=sB.trans s7;have Zv:=s7 _ _ (s6 _ _ (s5 _ _ gsl));refine⟨sl,rfl,⟨_,SqL.of Zv⟩,uH (SqL.of Zv) fun ol UZ=>?_⟩;have sD:=sC.trans (aF (o:=.lst []) UZ);have RM:=aF (o:=.lst []) UZ _ _ (s7 _ _ gbl);have RN:=aF (o:=.lst []) UZ _ _ RL;have RO:(aH H7 ol (.lst [])) ol=some (.lst []):=aA;have Zw:=aF (o:=.lst []) UZ _ _ (s7 _ _ (s6 _ _ (s5 _ _ (s4 _ _ g3))));generalize aH H7 ol (.lst [])=H8 at sD RM RN RO Zw ⊢;refine⟨eY rfl,fun x1 LN=>?_⟩;have sE:=aF (o:=.lst [.int 1]) LN;have Zx:(aH H8 x1 (.lst [.int 1])) x1=some (.lst [.int 1]):=aA;generalize aH H8 x1 (.lst [.int 1])=H9 at sE Zx ⊢;have Xp:=sD.trans sE;refine⟨ra,rfl,⟨_,SqL.of (Xp _ _ g)⟩,kD (fun _=>[]) Zs hl (Xp _ _ g) (fun r hr N hN=>?_) fun Zy s9 x2 LP=>?_⟩
   ·obtain⟨v3,v4,v5,gr⟩:=hc.same Xp r hr;exact⟨_,SqT.of gr,_,rfl,hN _ (Same.refl _)⟩
   rw[fe];have sF:=(sE.trans s9).trans (aF (o:=.lst []) LP);refine⟨_,_,aF LP _ _ (s9 _ _ Zx),aA,eY rfl,fun x3 hx3=>?_⟩;have Zz:(aH (aH Zy x2 (.lst [])) x3 (.lst ([.int 1]++[]))) x3=some (.lst ([.int 1]++[])):=aA;have sG:=sF.trans (aF (o:=.lst ([.int 1]++[])) hx3);generalize aH (aH Zy x2 (.lst [])) x3 (.lst ([.int 1]++[]))=JF at sG Zz ⊢;have su:=sG _ _ Zw;refine⟨_,su,fun o=>uI (fun r=>[.int (r.2.1+1)]) Zs hl aA (fun r hr N hN=>?_) ?_⟩
   ·exact hN
   rw[uJ (α:=Nat)];intro x4 ZA;have RK:d3≠x4:=aB aA ZA;refine⟨d3,_,o,⟨_,su⟩,by rw[aE RK];exact aA,?_⟩;have sH:=qA su (aF (o:=.lst (cr.map fun r=>V.int (r.2.1+1))) ZA);have ZC:(aH (aH (aH JF d3 (.frz o (.dK (Bq "came" cr)))) x4 (.lst (cr.map fun r=>V.int (r.2.1+1)))) d3 (.dK (Bq "came" cr))) x4=some (.lst (cr.map fun r=>V.int (r.2.1+1))):=by rw[aE RK.symm];exact aA
   generalize aH (aH (aH JF d3 (.frz o (.dK (Bq "came" cr)))) x4 (.lst (cr.map fun r=>V.int (r.2.1+1)))) d3 (.dK (Bq "came" cr))=VA at sH ZC ⊢;refine⟨_,_,sH _ _ Zz,ZC,gE (by simp<;>omega),fun x5 hx5=>⟨x5,1::cr.map (fun q=>q.2.1+1),rfl,SqL.of (by rw[aA];simp[map_map]<;>rfl),by simp<;>omega,fun M hM hM2=>?_⟩⟩;have sI:=(sG.trans sH).trans (aF (o:=.lst ([.int 1]++[]++cr.map fun r=>V.int (r.2.1+1))) hx5);generalize aH VA x5 (.lst ([.int 1]++[]++cr.map fun r=>V.int (r.2.1+1)))=RP at sI ⊢;refine⟨eY rfl,fun y1 RE=>?_⟩;have sJ:=sI.trans (aF (o:=.lst [.int 0]) RE);have ZD:(aH RP y1 (.lst [.int 0])) y1=some (.lst [.int 0]):=aA;generalize aH RP y1 (.lst [.int 0])=VB at sJ ZD ⊢;have RQ:=sJ _ _ (sD _ _ g);refine⟨ra,rfl,⟨_,SqL.of RQ⟩,kD (fun r=>[.int r.2.2]) Zs hl RQ (fun r hr N hN=>?_) fun bS' ZE y2 ZF=>?_⟩
   ·obtain⟨v3,v4,v5,gr⟩:=hc.same (sD.trans sJ) r hr;dsimp only [aL];refine⟨_,SqT.of gr,_,rfl,bB rfl,fun tq H2 s2 g2=>⟨tq,_,rfl,.inr (SqT.of g2),rfl,rfl,?_⟩⟩;exact⟨_,SqT.of (s2 _ _ gr),_,rfl,hN _ s2⟩
   rw[uJ (α:=Nat)];refine⟨_,_,aF ZF _ _ (ZE _ _ ZD),aA,gE (by simp<;>omega),fun y3 hy3=>⟨y3,0::cr.map (fun q=>q.2.2),rfl,SqL.of (by rw[aA];simp[map_map]<;>rfl),by simp<;>omega,fun M2 hN hN2=>?_⟩⟩;have sK:=((sJ.trans ZE).trans (aF (o:=.lst (cr.map fun r=>V.int r.2.2)) ZF)).trans (aF (o:=.lst ([.int 0]++cr.map fun r=>V.int r.2.2)) hy3);refine⟨bB rfl,fun t H' sL gt=>q t bl kl ol M M2 H' ((sD.trans sK).trans sL) gt (sL _ _ (sK _ _ RM)) (sL _ _ (sK _ _ RN)) (sL _ _ (sK _ _ RO)) ⟨hM,hM2⟩ ⟨hN,hN2⟩⟩
structure JT(K:W.Frag)(C:Addr):Prop where
 cl:Cls K C
 nW:NoAttr K C "written"
 nS:NoAttr K C "safe_count"
def qB:Sp:=fun vs H Q _=>vs=[.str ("":Str)]/\∀l H',H l=none->H' l=some (.lst [])->Same H H'->Q (.ref l) H'
def uK(T:Txt K mg)(D:DefAt K mg "rows_of" iR ["text"]):aI P w K mg base 1 "rows_of" ["text"] qB:=by
 refine D.go gQ (fun vs H Q E h=>?_) (fun f cdv A outer s H vs Q E hr h=>?_)
 ·obtain⟨rfl,_⟩:=h;rfl
 ·obtain⟨rfl,q⟩:=h;refine⟨_,(R.ae (R.ai (i:=1) gQ.nd (R.aw R.ac)) (R.ae (R.bt PassesOwn.never rfl (R.fo (K:=K) rfl T.b_enumerate (R.sl (R.cf (K:=K)) (R.cp (K:=K) PySem.F.plainAttrs_str PySem.F.slot_str_split PySem.F.type_str_split R.fh (R.v 0) (R.aa R.ag R.ac)) R.pn (R.ps (R.bw R.ad)))) (R.dt (K:=K) (n:=2) rfl (R.bg (R.gn (i:=2) gQ.nd) (R.bg (R.gn (i:=3) gQ.nd) R.du))) (R.af R.ay)) (R.af (R.ah (R.v 1))))),?_⟩;refine⟨eY rfl,fun l hl=>?_⟩;dsimp only [aL];have s1:=aF (o:=.lst []) hl;have g1:(aH H l (.lst [])) l=some (.lst []):=aA;generalize aH H l (.lst [])=H1 at s1 g1 ⊢;refine⟨rfl,Zk,Zk,fun l2 h2=>?_⟩;have e2:(Txt.split ("":Str) ("\n":Str)).map V.str=[V.str ("":Str)]:=by kernel_rfl
  rw[e2];have s2:=s1.trans (aF (o:=.lst [V.str ("":Str)]) h2);have g2:=aF (o:=.lst [V.str ("":Str)]) h2 _ _ g1;have JG:(aH H1 l2 (.lst [V.str ("":Str)])) l2=some (.lst [V.str ("":Str)]):=aA;generalize aH H1 l2 (.lst [V.str ("":Str)])=H2 at s2 g2 JG ⊢;refine⟨_,SqL.of JG,fun l3 h3=>?_⟩;rw[show dX [V.str ("":Str)] none (some (-1))=[] by kernel_rfl];have s3:=s2.trans (aF (o:=.lst []) h3);have g3:=aF (o:=.lst []) h3 _ _ g2;have RS:(aH H2 l3 (.lst [])) l3=some (.lst []):=aA;generalize aH H2 l3 (.lst [])=H3 at s3 g3 RS ⊢;refine⟨_,SqL.of RS,?_⟩;refine Ff (K:=K) (a:=l3) (xs:=[]) (tb:=fun _ _ _=>False) (fun i σ H'=>H'=H3/\σ=[some (.str ("":Str)),some (.ref l),none,none]) (fun i σ H' h=>by rw[h.1];exact SqL.of RS) ⟨rfl,rfl⟩ (fun i x σ H' t hx=>by simp at hx) fun σ H' h=>?_;rw[h.1,h.2];exact q l H3 hl g3 s3
def Lp(C:Addr):Sp:=fun vs H Q _=>∃p dx,vs=[.ref p,.str ("":Str)]/\H p=some (.ins C dx [])/\∀H' lw,H lw=none->H' p=some (.ins C dx (jf lw 0))->H' lw=some (.lst [])->(∀c o,H c=some o->c≠p->H' c=some o)->Q .non H'
def Aw{C:Addr}(T:Txt K mg)(B:JT K C)(FH:aI P w K mg base 1 "rows_of" ["text"] qB)(D:ClsAt K mg "Journal" C "Journal.__init__" bD ["self","text"] [[],[.str ("":Str)]]):∀d∈([[],[.str ("":Str)]]:List (List V)),rE P w K mg base 2 "Journal" C ["self","text"] d (Lp C):=by
 refine D.go jC (fun vs H Q E h=>?_) (fun f cdv A outer s H vs Q E hr h=>?_)
 ·obtain⟨p,dx,rfl,_⟩:=h;rfl
 ·obtain⟨p,dx,rfl,hp,q⟩:=h;have zq:=hr;refine⟨_,(R.ae (R.av (K:=K) (R.v 0) (R.fn FH zq rfl (R.aa (R.v 1) R.ac))) (R.af (R.av (K:=K) (R.v 0) (R.ax (R.de (K:=K)) rfl T.b_len gF (R.aa (R.al (K:=K) (R.v 0)) R.ac))))),?_⟩;refine⟨rfl,fun l H1 hl g1 s1=>?_⟩;have ZG:p≠l:=aB hp hl;refine⟨C,dx,[],s1 _ _ hp,B.cl,B.nW,(by show 0<1000;decide),?_⟩;dsimp only;rw[show bC "written" (.ref l) []=([("written",.ref l)]:List (Str×V)) from rfl];have g2:(aH H1 p (.ins C dx [("written",.ref l)])) p=some (.ins C dx [("written",.ref l)]):=aA;have JG:(aH H1 p (.ins C dx [("written",.ref l)])) l=some (.lst []):=by rw[aE ZG.symm];exact g1
  have k2:∀c o,H1 c=some o->c≠p->(aH H1 p (.ins C dx [("written",.ref l)])) c=some o:=fun c o e hc=>by rw[aE hc];exact e
  generalize aH H1 p (.ins C dx [("written",.ref l)])=H2 at g2 JG k2 ⊢;refine⟨C,dx,_,.ref l,g2,B.cl,B.nW,by kernel_rfl,_,.inl (SqL.of JG),?_⟩;refine⟨C,dx,_,g2,B.cl,B.nS,(by show 1<1000;decide),?_⟩;refine q _ l hl (by rw[aA];congr 1) (by rw[aE ZG.symm];exact JG) fun c o e hc=>?_;rw[aE hc];exact k2 _ _ (s1 _ _ e) hc
def uL(C:Addr):Sp:=fun vs H Q _=>∃(x lw dx:Addr)(n:Int)(us:List V)(v:V),vs=[.ref x,v]/\H x=some (.ins C dx (jf lw n))/\H lw=some (.lst us)/\us.length<=1000/\Q .non (aH H lw (.lst (us++[v])))
def oB(C:Addr):Sp:=fun vs H Q _=>∃(x lw dx:Addr)(n:Int)(us:List V),vs=[.ref x]/\H x=some (.ins C dx (jf lw n))/\H lw=some (.lst us)/\Q .non (aH H x (.ins C dx (jf lw us.length)))
def mD(C:Addr):Sp:=fun vs H Q _=>∃(x lw dx:Addr)(n:Int)(us:List V),vs=[.ref x]/\H x=some (.ins C dx (jf lw n))/\H lw=some (.lst us)/\∀l,H l=none->Q (.ref l) (aH H l (.lst us))
def yS(C:Addr):Sp:=fun vs H Q _=>∃(x lw dx:Addr)(n:Int),vs=[.ref x]/\H x=some (.ins C dx (jf lw n))/\Q (.int n) H
def Ax{C:Addr}(B:JT K C)(D:MethAt K C "write" "Journal.write" cK ["self","row"]):eW P w K mg base 1 C "write" ["self","row"] (uL C):=by
 refine D.go kY (fun vs H Q E h=>?_) (fun f cdv A outer s H vs Q E hr h=>?_)
 ·obtain⟨x,lw,dx,n,us,v,rfl,_⟩:=h;rfl
 ·obtain⟨x,lw,dx,n,us,v,rfl,hx,hl,hn,q⟩:=h;refine⟨_,(R.af (R.bc (R.cp (K:=K) PySem.F.plainAttrs_list PySem.F.slot_list_append PySem.F.type_list_append R.ib (R.al (K:=K) (R.v 0)) (R.aa (R.v 1) R.ac)))),?_⟩;exact⟨C,dx,_,.ref lw,hx,B.cl,B.nW,by kernel_rfl,.inl ⟨rfl,_,SqL.of hl⟩,lw,us,v,rfl,rfl,hl,Hd hn Zd,q⟩
def Ay{C:Addr}(T:Txt K mg)(B:JT K C)(D:MethAt K C "force" "Journal.force" cM ["self"]):eW P w K mg base 1 C "force" ["self"] (oB C):=by
 refine D.go kZ (fun vs H Q E h=>?_) (fun f cdv A outer s H vs Q E hr h=>?_)
 ·obtain⟨x,lw,dx,n,us,rfl,_⟩:=h;rfl
 ·obtain⟨x,lw,dx,n,us,rfl,hx,hl,q⟩:=h;refine⟨_,(R.af (R.av (K:=K) (R.v 0) (R.ax (R.de (K:=K)) rfl T.b_len gF (R.aa (R.al (K:=K) (R.v 0)) R.ac)))),?_⟩;refine⟨C,dx,_,.ref lw,hx,B.cl,B.nW,by kernel_rfl,_,.inl (SqL.of hl),?_⟩;refine⟨C,dx,_,hx,B.cl,B.nS,(by show 2<1000;decide),?_⟩;dsimp only;rw[show bC "safe_count" (.int us.length) (jf lw n)=jf lw us.length by kernel_rfl];exact q
def Gf{C:Addr}(T:Txt K mg)(B:JT K C)(D:MethAt K C "rows" "Journal.rows" dA ["self"]):eW P w K mg base 1 C "rows" ["self"] (mD C):=by
 refine D.go lR (fun vs H Q E h=>?_) (fun f cdv A outer s H vs Q E hr h=>?_)
 ·obtain⟨x,lw,dx,n,us,rfl,_⟩:=h;rfl
 ·obtain⟨x,lw,dx,n,us,rfl,hx,hl,q⟩:=h;refine⟨_,(R.af (R.ah (R.ce (R.gz (K:=K)) rfl T.b_list xW (R.aa (R.al (K:=K) (R.v 0)) R.ac)))),?_⟩;exact⟨C,dx,_,.ref lw,hx,B.cl,B.nW,by kernel_rfl,_,.inl (SqL.of hl),q⟩
def Gg{C:Addr}(B:JT K C)(D:MethAt K C "safe" "Journal.safe" dB ["self"]):eW P w K mg base 1 C "safe" ["self"] (yS C):=by
 refine D.go lS (fun vs H Q E h=>?_) (fun f cdv A outer s H vs Q E hr h=>?_)
 ·obtain⟨x,lw,dx,n,rfl,_⟩:=h;rfl
 ·obtain⟨x,lw,dx,n,rfl,hx,q⟩:=h;refine⟨_,(R.af (R.ah (R.al (K:=K) (R.v 0)))),?_⟩;exact⟨C,dx,_,.int n,hx,B.cl,B.nS,by kernel_rfl,q⟩
def yT(C:Addr):Sp:=fun vs H Q _=>∃(x lw dx:Addr)(m:Int)(us:List V),vs=[.ref x,.int m]/\H x=some (.ins C dx (jf lw us.length))/\H lw=some (.lst us)/\∀Xq H',H Xq=none->H' x=some (.ins C dx (jf Xq us.length))->H' Xq=some (.lst us)->(∀c o,H c=some o->c≠x->H' c=some o)->Q .non H'
def Gh{C:Addr}(B:JT K C)(y9:eW P w K mg base 1 C "force" ["self"] (oB C))(D:MethAt K C "fall" "Journal.fall" cZ ["self","more"]):eW P w K mg base 2 C "fall" ["self","more"] (yT C):=by
 refine D.go dZ (fun vs H Q E h=>?_) (fun f cdv A outer s H vs Q E hr h=>?_)
 ·obtain⟨x,lw,dx,m,us,rfl,_⟩:=h;rfl
 ·obtain⟨x,lw,dx,m,us,rfl,hx,hl,q⟩:=h;have u7:=hr;refine⟨_,(R.ae (R.ai (i:=2) dZ.nd (R.al (K:=K) (R.v 0))) (R.ae (R.bt PassesOwn.never rfl (R.be (K:=K) (R.sl (R.cf (K:=K)) (R.al (K:=K) (R.v 0)) (R.ps (R.al (K:=K) (R.v 0))) R.pn)) (R.gn (i:=3) dZ.nd) (R.ae R.ay (R.ae R.ay (R.af R.ay)))) (R.ae (R.av (K:=K) (R.v 0) (R.sl (R.cf (K:=K)) (R.al (K:=K) (R.v 0)) R.pn (R.ps (R.v 2)))) (R.af (R.bc (R.bf y9 u7 (R.v 0))))))),?_⟩;refine⟨C,dx,_,.int us.length,hx,B.cl,B.nS,by kernel_rfl,?_⟩;dsimp only [aL];refine⟨C,dx,_,.ref lw,hx,B.cl,B.nW,by kernel_rfl,C,dx,_,.int us.length,hx,B.cl,B.nS,by kernel_rfl,_,SqL.of hl,fun l2 h2=>?_⟩;rw[tH,List.drop_length];have s2:=aF (o:=.lst []) h2;have g2:(aH H l2 (.lst [])) l2=some (.lst []):=aA;generalize aH H l2 (.lst [])=H2 at s2 g2 ⊢;refine⟨l2,rfl,⟨_,SqL.of g2⟩,lZ (tb:=fun _ _ _=>False) (SqL.of g2) ?_⟩;have LP:=s2 _ _ hx;have ur:=s2 _ _ hl;refine⟨C,dx,_,.ref lw,LP,B.cl,B.nW,by kernel_rfl,_,SqL.of ur,fun l3 h3=>?_⟩;rw[hZ,take_length];have s3:=aF (o:=.lst us) h3;have g3:(aH H2 l3 (.lst us)) l3=some (.lst us):=aA;have n3:x≠l3:=aB LP h3;generalize aH H2 l3 (.lst us)=H3 at s3 g3 ⊢;refine⟨C,dx,_,s3 _ _ LP,B.cl,B.nW,(by show 2<1000;decide),?_⟩;dsimp only;rw[show bC "written" (.ref l3) (jf lw us.length)=jf l3 us.length by kernel_rfl];refine⟨dx,_,aA,by kernel_rfl,x,l3,dx,us.length,us,rfl,aA,by rw[aE n3.symm];exact g3,?_⟩;refine q l3 _ (s2.free h3) (by rw[aA]) (by rw[aE n3.symm,aE n3.symm];exact g3) fun b o e hb=>?_;rw[aE hb,aE hb];exact s3 _ _ (s2 _ _ e)
structure Vv(K:W.Frag)(C:Addr):Prop where
 cl:Cls K C
 nN:NoAttr K C "number"
 nA:NoAttr K C "asker"
 nK:NoAttr K C "key"
 nD:NoAttr K C "deed"
 nS:NoAttr K C "stage"
 nP:NoAttr K C "place"
 nU:NoAttr K C "undos"
structure Lq(K:W.Frag)(C:Addr):Prop where
 cl:Cls K C
 nT:NoAttr K C "turn"
 nB:NoAttr K C "book"
 nS:NoAttr K C "standing"
 nR:NoAttr K C "runs"
 nN:NoAttr K C "next_number"
def Gi(C:Addr):Sp:=fun vs H Q _=>∃r:Rn,vs=[.ref r.p,.int r.n,.str r.q.1,.str r.q.2,.ref r.d,.str r.st]/\r.pl=0/\r.un=0/\H r.p=some (.ins C r.dx [])/\Q .non (aH H r.p (.ins C r.dx r.fs))
def Kf{C:Addr}(B:Vv K C)(D:ClsAt K mg "Run" C "Run.__init__" bR ["self","number","asker","key","deed","stage"] [[]]):∀d∈([[]]:List (List V)),rE P w K mg base 1 "Run" C ["self","number","asker","key","deed","stage"] d (Gi C):=by
 refine D.go lT (fun vs H Q E h=>?_) (fun f cdv A outer s H vs Q E hr h=>?_)
 ·obtain⟨r,rfl,_⟩:=h;rfl
 ·obtain⟨⟨p,dx,n,q,d,x,st,pl,un⟩,rfl,rfl,rfl,hp,q0⟩:=h;refine⟨_,(R.ae (R.av (K:=K) (R.v 0) (R.v 1)) (R.ae (R.av (K:=K) (R.v 0) (R.v 2)) (R.ae (R.av (K:=K) (R.v 0) (R.v 3)) (R.ae (R.av (K:=K) (R.v 0) (R.v 4)) (R.ae (R.av (K:=K) (R.v 0) (R.v 5)) (R.ae (R.av (K:=K) (R.v 0) R.ad) (R.af (R.av (K:=K) (R.v 0) R.ad)))))))),?_⟩;refine⟨C,dx,[],hp,B.cl,B.nN,(by show 0<1000;decide),?_⟩;dsimp only;rw[show bC "number" (.int n) []=([("number",.int n)]:List (Str×V)) by kernel_rfl];refine⟨C,dx,_,aA,B.cl,B.nA,(by show 1<1000;decide),?_⟩;dsimp only;rw[fY,show bC "asker" (.str q.1) ([("number",.int n)]:List (Str×V))=([("number",.int n),("asker",.str q.1)]:List (Str×V)) by kernel_rfl];refine⟨C,dx,_,aA,B.cl,B.nK,(by show 2<1000;decide),?_⟩;dsimp only;rw[fY,show bC "key" (.str q.2) ([("number",.int n),("asker",.str q.1)]:List (Str×V))=([("number",.int n),("asker",.str q.1),("key",.str q.2)]:List (Str×V)) by kernel_rfl];refine⟨C,dx,_,aA,B.cl,B.nD,(by show 3<1000;decide),?_⟩;dsimp only;rw[fY,show bC "deed" (.ref d) ([("number",.int n),("asker",.str q.1),("key",.str q.2)]:List (Str×V))=([("number",.int n),("asker",.str q.1),("key",.str q.2),("deed",.ref d)]:List (Str×V)) by kernel_rfl];refine⟨C,dx,_,aA,B.cl,B.nS,(by show 4<1000;decide),?_⟩;dsimp only;rw[fY,show bC "stage" (.str st) ([("number",.int n),("asker",.str q.1),("key",.str q.2),("deed",.ref d)]:List (Str×V))=([("number",.int n),("asker",.str q.1),("key",.str q.2),("deed",.ref d),("stage",.str st)]:List (Str×V)) by kernel_rfl];refine⟨C,dx,_,aA,B.cl,B.nP,(by show 5<1000;decide),?_⟩;dsimp only;rw[fY,show bC "place" (.int 0) ([("number",.int n),("asker",.str q.1),("key",.str q.2),("deed",.ref d),("stage",.str st)]:List (Str×V))=([("number",.int n),("asker",.str q.1),("key",.str q.2),("deed",.ref d),("stage",.str st),("place",.int 0)]:List (Str×V)) by kernel_rfl];refine⟨C,dx,_,aA,B.cl,B.nU,(by show 6<1000;decide),?_⟩;dsimp only;rw[fY,show bC "undos" (.int 0) ([("number",.int n),("asker",.str q.1),("key",.str q.2),("deed",.ref d),("stage",.str st),("place",.int 0)]:List (Str×V))=([("number",.int n),("asker",.str q.1),("key",.str q.2),("deed",.ref d),("stage",.str st),("place",.int 0),("undos",.int 0)]:List (Str×V)) by kernel_rfl];exact q0
def Tv(r:Rn):List V:=[.int r.n,.str r.q.1,.str r.q.2,.ref r.d,.str r.st]
def Lr(C:Addr):Sp:=fun vs H Q _=>∃r:Rn,vs=[.ref r.p]/\H r.p=some (.ins C r.dx r.fs)/\∀t H',Same H H'->H' t=some (.tup (Tv r))->Q (.ref t) H'
def Qd{C:Addr}(B:Vv K C)(D:MethAt K C "as_tuple" "Run.as_tuple" dC ["self"]):eW P w K mg base 1 C "as_tuple" ["self"] (Lr C):=by
 refine D.go lU (fun vs H Q E h=>?_) (fun f cdv A outer s H vs Q E hr h=>?_)
 ·obtain⟨r,rfl,_⟩:=h;rfl
 ·obtain⟨r,rfl,hp,q⟩:=h;refine⟨_,(R.af (R.ah (R.aj (R.aa (R.al (K:=K) (R.v 0)) (R.aa (R.al (K:=K) (R.v 0)) (R.aa (R.al (K:=K) (R.v 0)) (R.aa (R.al (K:=K) (R.v 0)) (R.aa (R.al (K:=K) (R.v 0)) R.ac)))))))),?_⟩;exact⟨C,_,_,.int r.n,hp,B.cl,B.nN,by kernel_rfl,C,_,_,.str r.q.1,hp,B.cl,B.nA,by kernel_rfl,C,_,_,.str r.q.2,hp,B.cl,B.nK,by kernel_rfl,C,_,_,.ref r.d,hp,B.cl,B.nD,by kernel_rfl,C,_,_,.str r.st,hp,B.cl,B.nS,by kernel_rfl,bB rfl,q⟩
def Gj{rs:List Rn}(hu:rs.Pairwise fun r r'=>r.n<r'.n){r:Rn}(hr:r∈rs):aT (bV rs) (Sum.inl (r.n:Int))=some (.ref r.p):=by
 induction rs with
 | nil=>cases hr
 | cons z zs ih=>
  obtain⟨h1,h2⟩:=pairwise_cons.mp hu;unfold bV;rw[map_cons];rcases mem_cons.mp hr with rfl|m
  ·exact bO rfl
  ·have X1:=h1 r m;rw[bP (fun e=>by have e':(z.n:Int)=(r.n:Int):=Sum.inl.inj e;omega)];exact ih h2 m
def Az{rs:List Rn}{n:Nat}(h:∀r∈rs,r.n<n):aT (bV rs) (Sum.inl (n:Int))=none:=by
 cases e:aT (bV rs) (Sum.inl (n:Int)) with
 | none=>rfl
 | some v=>
  have:=nV e;unfold bV at this;obtain⟨r,hr,e2⟩:=Zmm.mp this;have e3:(r.n:Int)=(n:Int):=Sum.inl.inj (congrArg Prod.fst e2);have:=h r hr;omega
def DAt.radd(h:DAt c H a s){r:Rn}(hp:H r.p=none)(hx:H r.dx=none)(O3:r.dx≠r.p)(hd:H r.d=some (.tup r.x.vs))(hu:∀r'∈s.runs,r'.n<r.n) :
  DAt c (aH (aH (aH H r.dx (.own r.p)) r.p (.ins c.R r.dx r.fs)) a.rn (.dK (bV (s.runs++[r])))) a {s with runs:=s.runs++[r] }/\Mv a s {s with runs:=s.runs++[r] } H (aH (aH (aH H r.dx (.own r.p)) r.p (.ins c.R r.dx r.fs)) a.rn (.dK (bV (s.runs++[r])))):=by
 have k1:Same H (aH (aH H r.dx (.own r.p)) r.p (.ins c.R r.dx r.fs)):=fun b o e=>by rw[aE (aB e hp),aE (aB e hx)];exact e
 have g1:(aH (aH H r.dx (.own r.p)) r.p (.ins c.R r.dx r.fs)) r.p=some (.ins c.R r.dx r.fs):=aA;generalize aH (aH H r.dx (.own r.p)) r.p (.ins c.R r.dx r.fs)=H1 at k1 g1 ⊢;obtain⟨bs,ss,ho,d1,d2⟩:=h.own;have VC:=ho.get 10 rfl;have ZH:r.p≠a.rn:=(aB VC hp).symm;have t:TK H (aH H1 a.rn (.dK (bV (s.runs++[r])))):=fun b xs e=>by rw[aE (bF e VC fun z=>nomatch z)];exact k1 _ _ e
 have ho1:=(ho.same k1).set 10 rfl (.dK (bV (s.runs++[r])));have hk:r.p∉((a.all c s bs ss).set 10 (a.rn,.dK (bV (s.runs++[r])))).map (·.1):=by
  rw[map_set];intro m;rcases List.mem_or_eq_of_mem_set m with z|z
  ·exact ho.keys hp z
  ·exact ZH z
 have IZ:=ho1.snoc hk (o:=.ins c.R r.dx r.fs) (by rw[aE ZH];exact g1);have e:(a.all c s bs ss).set 10 (a.rn,.dK (bV (s.runs++[r])))++[(r.p,.ins c.R r.dx r.fs)]=a.all c {s with runs:=s.runs++[r] } bs ss:=by
  unfold DA.all;show _=a.objs c {s with runs:=s.runs++[r] } bs ss++(s.runs++[r]).map (Kc c);rw[mF,<- List.append_assoc];rfl
 rw[e]at IZ;refine⟨⟨⟨bs,ss,IZ,d1.keep t,d2.keep t⟩,h.nd,?_,fun q hq=>?_⟩,⟨fun b o z hb=>?_,fun q hq=>?_,fun b z=>?_⟩⟩
 ·exact List.pairwise_append.mpr ⟨h.up,Zs,fun x hx y hy=>by rw[Zms.mp hy];exact hu x hx⟩
 ·rcases Zma.mp hq with m|m
  ·exact t _ _ (h.dd q m)
  ·rw[Zms.mp m];exact t _ _ hd
 ·rw[aE fun w=>hb (by rw[w];simp[DA.fix])];exact k1 _ _ z
 ·rcases Zma.mp hq with m|m
  ·exact .inl (mem_map_of_mem m)
  ·rw[Zms.mp m];exact .inr hp
 ·by_cases q:b=a.rn
  ·rw[q,aA]at z;cases z
  ·rw[aE q]at z;exact Same.gr k1 b z
def lV(p dx:Addr)(n:Nat)(q:Str×Str)(d:Addr)(x:Dd)(st:Str):Rn:=⟨p,dx,n,q,d,x,st,0,0⟩
def Ls(c:CK):Sp:=fun vs H Q _=>∃(a:DA)(s:DS)(n:Nat)(q:Str×Str)(d:Addr)(x:Dd)(st:Str),vs=[.ref a.me,.int n,.str q.1,.str q.2,.ref d,.str st]/\DAt c H a s/\s.L<=500/\(∀n' d',s.m q≠some (.busy n' d'))/\H d=some (.tup x.vs)/\(∀r∈s.runs,r.n<n)/\s.runs.length<=500 ∧
 ∀p dx H',DAt c H' a {s with m:=s.m.set q (some (.busy n d)),L:=s.L+1,runs:=s.runs++[lV p dx n q d x st] }->Mv a s {s with m:=s.m.set q (some (.busy n d)),L:=s.L+1,runs:=s.runs++[lV p dx n q d x st] } H H'->Q .non H'
def Qe{c:CK}(BM:Lq K c.M)(vc:eW P w K mg base 1 c.Ks "begin" ["self","asker","key","number","deed"] (yM c.Ks))(RU:rE P w K mg base 1 "Run" c.R ["self","number","asker","key","deed","stage"] [] (Gi c.R))(D:MethAt K c.M "put" "Memory.put" eN ["self","number","asker","key","deed","stage"]) :
  eW P w K mg base 3 c.M "put" ["self","number","asker","key","deed","stage"] (Ls c):=by
 refine D.go oP (fun vs H Q E h=>?_) (fun f cdv A outer s H vs Q E hr h=>?_)
 ·obtain⟨a,s,n,q,d,x,st,rfl,_⟩:=h;rfl
 ·obtain⟨a,s,n,q,d,x,st,rfl,h,hL,hm,hd,hu,hl,q0⟩:=h;have U1:=hV hr;have sv:Room 1 _:=hr.mono Zd;have MZ:=hr;refine⟨_,(R.ae (R.bc (R.br vc sv (R.al (K:=K) (R.v 0)) (R.aa (R.v 2) (R.aa (R.v 3) (R.aa (R.v 1) (R.aa (R.v 4) R.ac)))))) (R.af (R.dj (R.ck RU MZ rfl (R.aa (R.v 1) (R.aa (R.v 2) (R.aa (R.v 3) (R.aa (R.v 4) (R.aa (R.v 5) R.ac)))))) (R.dl (R.al (K:=K) (R.v 0)) (R.v 1) (R.cz U1))))),?_⟩;refine⟨c.M,_,_,.ref a.ks,h.me,BM.cl,BM.nS,by kernel_rfl,a.kf.dx,_,h.ks,Fn _ _ Zk Zk Zk,a.ks,a.kf,s.life,s.m,s.L,q,n,d,rfl,h.ky,hL,hm,fun H1 k1 f1=>?_⟩;obtain⟨h1,v1⟩:=h.keys k1 f1;dsimp only [aL];intro p dx hp zd O3;refine⟨lV p dx n q d x st,rfl,rfl,rfl,aA,rfl,?_⟩;obtain⟨h2,v2⟩:=h1.radd (r:=lV p dx n q d x st) hp zd O3 (v1.tk h _ _ hd) hu;show Ms _ _ _ _ _ (aH (aH (aH H1 dx (.own p)) p (.ins c.R dx [])) p (.ins c.R dx (lV p dx n q d x st).fs)) _;rw[fY];have gme:(aH (aH H1 dx (.own p)) p (.ins c.R dx (lV p dx n q d x st).fs)) a.me=some (.ins c.M a.mx (mf a s.turn s.next)):=by rw[aE (aB h1.me hp),aE (aB h1.me zd)];exact h1.me
  have VC:(aH (aH H1 dx (.own p)) p (.ins c.R dx (lV p dx n q d x st).fs)) a.rn=some (.dK (bV s.runs)):=by rw[aE (aB h1.rn hp),aE (aB h1.rn zd)];exact h1.rn
  refine⟨c.M,_,_,.ref a.rn,gme,BM.cl,BM.nR,by kernel_rfl,a.rn,_,rfl,DPut.k (k:=Sum.inl (n:Int)) VC (by unfold bV;rw[gZ];exact Hd hl Zd),?_⟩;rw[hU _ (Az hu)];have e:bV s.runs++[(Sum.inl (n:Int),V.ref p)]=bV (s.runs++[lV p dx n q d x st]):=by unfold bV;rw[mF];rfl
  rw[e];exact q0 p dx _ h2 (v1.trans v2)
def uM(c:CK):Sp:=fun vs H Q _=>∃(a:DA)(s:DS)(q:Str×Str)(d:Addr)(x:Dd),vs=[.ref a.me,.str q.1,.str q.2,.ref d]/\DAt c H a s/\s.L<=500/\(∀n' d',s.m q≠some (.busy n' d'))/\H d=some (.tup x.vs)/\(∀r∈s.runs,r.n<s.next)/\s.runs.length<=500 ∧
 ∀p dx H',DAt c H' a {s with m:=s.m.set q (some (.busy s.next d)),L:=s.L+1,runs:=s.runs++[lV p dx s.next q d x "new"],next:=s.next+1 }->Mv a s {s with m:=s.m.set q (some (.busy s.next d)),L:=s.L+1,runs:=s.runs++[lV p dx s.next q d x "new"],next:=s.next+1 } H H'->Q (.int s.next) H'
def Ba{c:CK}(BM:Lq K c.M)(vd:eW P w K mg base 3 c.M "put" ["self","number","asker","key","deed","stage"] (Ls c))(D:MethAt K c.M "begin" "Memory.begin" dD ["self","asker","key","deed"]):eW P w K mg base 4 c.M "begin" ["self","asker","key","deed"] (uM c):=by
 refine D.go gY (fun vs H Q E h=>?_) (fun f cdv A outer s H vs Q E hr h=>?_)
 ·obtain⟨a,s,q,d,x,rfl,_⟩:=h;rfl
 ·obtain⟨a,s,q,d,x,rfl,h,hL,hm,hd,hu,hl,q0⟩:=h;have sx:=hr;refine⟨_,(R.ae (R.ai (i:=4) gY.nd (R.al (K:=K) (R.v 0))) (R.ae (R.av (K:=K) (R.v 0) (R.op R.ba (R.v 4) R.ad)) (R.ae (R.bc (R.br vd sx (R.v 0) (R.aa (R.v 4) (R.aa (R.v 1) (R.aa (R.v 2) (R.aa (R.v 3) (R.aa R.ag R.ac))))))) (R.af (R.ah (R.v 4)))))),?_⟩;refine⟨c.M,_,_,.int s.next,h.me,BM.cl,BM.nN,by kernel_rfl,?_⟩;dsimp only [aL];refine⟨c.M,a.mx,_,h.me,BM.cl,BM.nN,(by show 5<1000;decide),?_⟩;dsimp only;rw[show bC "next_number" (.int (s.next+1)) (mf a s.turn s.next)=mf a s.turn ((s.next+1:Nat):Int) by kernel_rfl];obtain⟨h1,v1⟩:=h.put (H':=aH H a.me (.ins c.M a.mx (mf a s.turn ((s.next+1:Nat):Int)))) 4 {s with next:=s.next+1 } (fun _ _=>rfl) (fun _ _=>rfl) aA (fun b u e hb=>by rw[aE hb];exact e) rfl rfl h.nd rfl;generalize aH H a.me (.ins c.M a.mx (mf a s.turn ((s.next+1:Nat):Int)))=H1 at h1 v1 ⊢;refine⟨a.mx,_,h1.me,by kernel_rfl,a,_,s.next,q,d,x,"new",rfl,h1,hL,hm,v1.tk h _ _ hd,hu,hl,fun p dx H2 h2 v2=>?_⟩;exact q0 p dx H2 h2 (v1.trans v2)
def uN:∀ {xs ys:List Int},xs.Pairwise (·<=·)->ys.Pairwise (·<=·)->xs.Perm ys->xs=ys
 | [],ys,_,_,p=>(nil_perm.mp p).symm
 | x::xs,[],_,_,p=>absurd (perm_nil.mp p) Zs
 | x::xs,y::ys,h1,h2,p=>by
  have a1:=pairwise_cons.mp h1;have a2:=pairwise_cons.mp h2;have e:x=y:=by
   have hx:x∈y::ys:=p.mem_iff.mp sN;have hy:y∈x::xs:=p.mem_iff.mpr sN;rcases mem_cons.mp hx with z|z
   ·exact z
   ·rcases mem_cons.mp hy with z'|z'
    ·exact z'.symm
    ·have:=a2.1 _ z;have:=a1.1 _ z';omega
  subst e;rw[uN a1.2 a2.2 ((List.perm_cons x).mp p)]
def Own.rev{H:Hp}{L:List (Addr×HO)}(h:Own H L):Own H L.reverse:=⟨by rw[List.map_reverse];exact List.pairwise_reverse.mpr (h.1.imp fun z=>Ne.symm z),fun q hq=>h.2 q (mem_reverse.mp hq)⟩
structure Gw(p:Addr)(H0:Hp)(L:List (Addr×HO))(H:Hp):Prop where
 own:Own H L
 fr:∀c o,H0 c=some o->c≠p->H c=some o
 nw:∀q∈L,q.1=p∨H0 q.1=none
 hp:∃o,H p=some o
section
variable {p:Addr}{H0 H H':Hp}{L:List (Addr×HO)}
def Gw.free(g:Gw p H0 L H){b:Addr}(hb:H b=none):H0 b=none:=by
 obtain⟨o,e⟩:=g.hp
 cases z:H0 b with
 | none=>rfl
 | some u=>rw[g.fr b u z (fun w=>by rw[w,e]at hb;cases hb)]at hb;cases hb
def Gw.same(g:Gw p H0 L H)(k:Same H H'):Gw p H0 L H':=⟨g.own.same k,fun c o e n=>k _ _ (g.fr c o e n),g.nw,let ⟨o,e⟩:=g.hp;⟨o,k _ _ e⟩⟩
def Gw.set(g:Gw p H0 L H)(i:Nat){o:HO}(e:L[i]?=some (p,o))(o':HO):Gw p H0 (L.set i (p,o')) (aH H p o'):=
 ⟨g.own.set i e o',fun c u z n=>by rw[aE n];exact g.fr c u z n,fun q hq=>(List.mem_or_eq_of_mem_set hq).elim (g.nw q) fun z=>.inl (by rw[z]),⟨o',aA⟩⟩
def Gw.add(g:Gw p H0 L H)(M:List (Addr×HO))(k:Same H H')(hn:(M.map (·.1)).Nodup)(hM:∀q∈M,H q.1=none/\H' q.1=some q.2):Gw p H0 (M++L) H':=by
 have g':=g.same k;refine⟨⟨?_,fun q hq=>(Zma.mp hq).elim (fun m=>(hM q m).2) (g'.own.2 q)⟩,g'.fr,fun q hq=>(Zma.mp hq).elim (fun m=>.inr (g.free (hM q m).1)) (g.nw q),g'.hp⟩;rw[mF];refine nodup_append.mpr ⟨hn,g.own.1,fun x hx y hy e=>?_⟩;obtain⟨q,hq,rfl⟩:=Zmm.mp hx;exact g.own.keys (hM q hq).1 (by rw[e];exact hy)
def Gw.add1(g:Gw p H0 L H){b:Addr}(o:HO)(hb:H b=none):Gw p H0 ((b,o)::L) (aH H b o):=g.add [(b,o)] (aF hb) Zs (fun q hq=>by rw[Zms.mp hq];exact⟨hb,aA⟩)
end
def Gk(c:CK):Sp:=fun vs H Q _=>∃(p dx:Addr)(life tn m1 m2:Int)(t b l o:Addr),vs=[.ref p,.int life,.int tn,.ref t]/\H p=some (.ins c.M dx [])/\H t=some (.tup [.ref b,.ref l,.ref o,.int m1,.int m2])/\H b=some (.lst [])/\H l=some (.lst [])/\H o=some (.lst []) ∧
 ∀(bk bx bd ks rn:Addr)(kf:KF)(bs ss:List (List bJ×V))(H':Hp),Gw p H [(rn,.dK []),(kf.ds,.dT ss),(kf.db,.dT bs),(ks,.ins c.Ks kf.dx (uV kf life)),(bd,.dK (vW [])),(bk,.ins c.B bx [("amounts",.ref bd)]),(p,.ins c.M dx [("turn",.int tn),("book",.ref bk),("standing",.ref ks),("runs",.ref rn),("next_number",.int m1)])] H' →
  Dic H' bs (fun _=>none) fB 0->Dic H' ss (fun _=>none) fS 0->Q .non H'
def Qg{c:CK}(BM:Lq K c.M)(zp:rE P w K mg base 1 "Book" c.B ["self","rows"] [] (rJ c.B))(NA:rE P w K mg base 1 "Keys" c.Ks ["self","life"] [] (yK c.Ks))(D:ClsAt K mg "Memory" c.M "Memory.__init__" bG ["self","life","turn","up"] [[]]) :
  ∀d∈([[]]:List (List V)),rE P w K mg base 3 "Memory" c.M ["self","life","turn","up"] d (Gk c):=by
 refine D.go aK (fun vs H Q E h=>?_) (fun f cdv A outer s H vs Q E hr h=>?_)
 ·obtain⟨p,dx,life,tn,m1,m2,t,b,l,o,rfl,_⟩:=h;rfl
 ·obtain⟨p,dx,life,tn,m1,m2,t,b,l,o,rfl,hp,ht,hb,hl,ho,q⟩:=h;have ux:=hr;have KA:=hr;refine⟨_,(R.ae (R.av (K:=K) (R.v 0) (R.v 2)) (R.ae (R.av (K:=K) (R.v 0) (R.ck zp ux rfl (R.aa (R.ix (R.ao (K:=K)) (R.v 3) R.ad) R.ac))) (R.ae (R.av (K:=K) (R.v 0) (R.ck NA KA rfl (R.aa (R.v 1) R.ac))) (R.ae (R.av (K:=K) (R.v 0) R.cj) (R.ae (R.av (K:=K) (R.v 0) (R.ix (R.ao (K:=K)) (R.v 3) R.ad)) (R.ae (R.bt PassesOwn.never rfl (R.be (K:=K) (R.ix (R.ao (K:=K)) (R.v 3) R.ad)) (R.dt (K:=K) (n:=6) rfl (R.bg (R.gn (i:=4) aK.nd) (R.bg (R.gn (i:=5) aK.nd) (R.bg (R.gn (i:=6) aK.nd) (R.bg (R.gn (i:=7) aK.nd) (R.bg (R.gn (i:=8) aK.nd) (R.bg (R.gn (i:=9) aK.nd) R.du))))))) (R.ae R.ay (R.af R.ay))) (R.af (R.bt PassesOwn.never rfl (R.be (K:=K) (R.ix (R.ao (K:=K)) (R.v 3) R.ad)) (R.dt (K:=K) (n:=4) rfl (R.bg (R.gn (i:=4) aK.nd) (R.bg (R.gn (i:=6) aK.nd) (R.bg (R.gn (i:=7) aK.nd) (R.bg (R.gn (i:=8) aK.nd) R.du))))) (R.af R.ay))))))))),?_⟩;have g0:Gw p H [(p,.ins c.M dx [])] H:=⟨⟨Zs,fun q hq=>by rw[Zms.mp hq];exact hp⟩,fun _ _ e _=>e,fun q hq=>.inl (by rw[Zms.mp hq]),⟨_,hp⟩⟩;have VD:t≠p:=bF ht hp fun z=>nomatch z
  have nbp:b≠p:=bF hb hp fun z=>nomatch z
  have Xr:l≠p:=bF hl hp fun z=>nomatch z
  have nop:o≠p:=bF ho hp fun z=>nomatch z
  refine⟨c.M,dx,[],hp,BM.cl,BM.nT,(by show 0<1000;decide),?_⟩;dsimp only;rw[show bC "turn" (.int tn) []=([("turn",.int tn)]:List (Str×V)) by kernel_rfl];have g1:=g0.set 0 rfl (.ins c.M dx [("turn",.int tn)]);generalize aH H p (.ins c.M dx [("turn",.int tn)])=H1 at g1 ⊢;refine⟨_,SqT.of (g1.fr _ _ ht VD),_,rfl,fun bk bx RV MY O3=>?_⟩;have nb:H1 b=some (.lst []):=g1.fr _ _ hb nbp;refine⟨bk,bx,_,[],rfl,aA,.inr ⟨b,[],rfl,by rw[aE (aB nb RV),aE (aB nb MY)];exact nb,(fun _ h=>nomatch h),rfl⟩,nodup_nil,Zs,fun H2 bd Xo ZI ZJ k2=>⟨rfl,?_⟩⟩;have s2:Same H1 H2:=fun c o e=>k2 _ _ (by rw[aE (aB e RV),aE (aB e MY)];exact e) (aB e RV)
  have Xs:H1 bd=none:=by
   cases e:H1 bd with
   | none=>rfl
   | some u=>rw[aE (aB e RV),aE (aB e MY),e]at Xo;cases Xo
  have nbk:bd≠bk:=bF ZJ ZI fun z=>nomatch z
  have g2:=g1.add [(bd,.dK (vW [])),(bk,.ins c.B bx [("amounts",.ref bd)])] s2 (by simp [nbk]) (fun q hq=>by
   simp only [mem_cons,not_mem_nil,or_false]at hq;rcases hq with rfl|rfl
   ·exact⟨Xs,ZJ⟩
   ·exact⟨RV,ZI⟩)
  refine⟨c.M,dx,_,g2.own.get 2 rfl,BM.cl,BM.nB,(by show 1<1000;decide),?_⟩;dsimp only;rw[show bC "book" (.ref bk) ([("turn",.int tn)]:List (Str×V))=([("turn",.int tn),("book",.ref bk)]:List (Str×V)) by kernel_rfl];have g3:=g2.set 2 rfl (.ins c.M dx [("turn",.int tn),("book",.ref bk)]);generalize aH H2 p (.ins c.M dx [("turn",.int tn),("book",.ref bk)])=H3 at g3 ⊢;intro ks kx VE ZK hnk;refine⟨ks,kx,life,rfl,aA,fun H4 kf fdb fds ky k4=>⟨rfl,?_⟩⟩;have s4:Same H3 H4:=fun c o e=>k4 _ _ (by rw[aE (aB e VE),aE (aB e ZK)];exact e) (aB e VE)
  have LB:∀d,(aH (aH H3 kx (.own ks)) ks (.ins c.Ks kx [])) d=none->H3 d=none:=fun d hd=>by
   cases e:H3 d with
   | none=>rfl
   | some u=>rw[aE (aB e VE),aE (aB e ZK),e]at hd;cases hd
  obtain⟨bs,ZL,db⟩:=ky.hb;obtain⟨ss,ZM,ds⟩:=ky.hs;have n1:kf.ds≠kf.db:=ky.ne.symm;have n2:kf.ds≠ks:=bF ZM ky.hp fun z=>nomatch z
  have n3:kf.db≠ks:=bF ZL ky.hp fun z=>nomatch z
  have g4:=g3.add [(kf.ds,.dT ss),(kf.db,.dT bs),(ks,.ins c.Ks kf.dx (uV kf life))] s4 (by simp [n1,n2,n3]) (fun q hq=>by
   simp only [mem_cons,not_mem_nil,or_false]at hq;rcases hq with rfl|rfl|rfl
   ·exact⟨LB _ fds,ZM⟩
   ·exact⟨LB _ fdb,ZL⟩
   ·exact⟨VE,ky.hp⟩)
  refine⟨c.M,dx,_,g4.own.get 5 rfl,BM.cl,BM.nS,(by show 2<1000;decide),?_⟩;dsimp only;rw[show bC "standing" (.ref ks) ([("turn",.int tn),("book",.ref bk)]:List (Str×V))=([("turn",.int tn),("book",.ref bk),("standing",.ref ks)]:List (Str×V)) by kernel_rfl];have g5:=g4.set 5 rfl (.ins c.M dx [("turn",.int tn),("book",.ref bk),("standing",.ref ks)]);have t5:TK H4 (aH H4 p (.ins c.M dx [("turn",.int tn),("book",.ref bk),("standing",.ref ks)])):=jR (g4.own.get 5 rfl) fun _ z=>nomatch z
  generalize aH H4 p (.ins c.M dx [("turn",.int tn),("book",.ref bk),("standing",.ref ks)])=H5 at g5 t5 ⊢;intro rn VF;have g6:=g5.add1 (.dK []) VF;have t6:=t5.trans (TK.of (aF (o:=.dK []) VF));generalize aH H5 rn (.dK [])=H6 at g6 t6 ⊢;refine⟨c.M,dx,_,g6.own.get 6 rfl,BM.cl,BM.nR,(by show 3<1000;decide),?_⟩;dsimp only;rw[show bC "runs" (.ref rn) ([("turn",.int tn),("book",.ref bk),("standing",.ref ks)]:List (Str×V))=([("turn",.int tn),("book",.ref bk),("standing",.ref ks),("runs",.ref rn)]:List (Str×V)) by kernel_rfl];have g7:=g6.set 6 rfl (.ins c.M dx [("turn",.int tn),("book",.ref bk),("standing",.ref ks),("runs",.ref rn)]);have t7:=t6.trans (jR (g6.own.get 6 rfl) (o':=.ins c.M dx [("turn",.int tn),("book",.ref bk),("standing",.ref ks),("runs",.ref rn)]) fun _ z=>nomatch z);generalize aH H6 p (.ins c.M dx [("turn",.int tn),("book",.ref bk),("standing",.ref ks),("runs",.ref rn)])=H7 at g7 t7 ⊢;refine⟨_,SqT.of (g7.fr _ _ ht VD),_,rfl,?_⟩;refine⟨c.M,dx,_,g7.own.get 6 rfl,BM.cl,BM.nN,(by show 4<1000;decide),?_⟩;dsimp only;rw[show bC "next_number" (.int m1) ([("turn",.int tn),("book",.ref bk),("standing",.ref ks),("runs",.ref rn)]:List (Str×V))=([("turn",.int tn),("book",.ref bk),("standing",.ref ks),("runs",.ref rn),("next_number",.int m1)]:List (Str×V)) by kernel_rfl];have g8:=g7.set 6 rfl (.ins c.M dx [("turn",.int tn),("book",.ref bk),("standing",.ref ks),("runs",.ref rn),("next_number",.int m1)]);have t8:=t7.trans (jR (g7.own.get 6 rfl) (o':=.ins c.M dx [("turn",.int tn),("book",.ref bk),("standing",.ref ks),("runs",.ref rn),("next_number",.int m1)]) fun _ z=>nomatch z);generalize aH H7 p (.ins c.M dx [("turn",.int tn),("book",.ref bk),("standing",.ref ks),("runs",.ref rn),("next_number",.int m1)])=H8 at g8 t8 ⊢;have ZN:=g8.fr _ _ hl Xr;have ZO:=g8.fr _ _ ho nop;refine⟨_,SqT.of (g8.fr _ _ ht VD),_,rfl,l,rfl,⟨_,SqL.of ZN⟩,?_⟩;refine lZ (tb:=fun _ _ _=>False) (SqL.of ZN) ?_;refine⟨_,SqT.of (g8.fr _ _ ht VD),_,rfl,o,rfl,⟨_,SqL.of ZO⟩,?_⟩;exact lZ (tb:=fun _ _ _=>False) (SqL.of ZO) (q bk bx bd ks rn kf bs ss H8 g8 (db.keep t8) (ds.keep t8))
def Gm{z a:Str}{n:Int}(hz:z="add"∨z="take")(ha:isNm a)(h1:1<=n)(h2:n<=1000000000000):iA [.str z,.str a,.int n]=true:=(DeedIs.one z a n hz ha h1 h2).ok
def Gn{z a b:Str}{n:Int}(hz:z="send"∨z="fetch")(ha:isNm a)(hb:isNm b)(h1:1<=n)(h2:n<=1000000000000):iA [.str z,.str a,.str b,.int n]=true:=by
 show(bZ (.str z) [.str a,.str b]&&tL 1 1000000000000 (.int n))=true;have e:bZ (.str z) [.str a,.str b]=true:=by
  rcases hz with rfl|rfl
  all_goals
   show(true&&(oF (.str a)&&(oF (.str b)&&true))&&(true||_))=true;rw[dY ha,dY hb];rfl
 rw[e];show(decide (1<=n)&&decide (n<=1000000000000))=true;rw[decide_eq_true h1,decide_eq_true h2];rfl
def Kg{x:Dd}(h:x.Ok):iA x.vs=true:=by
 cases x with
 | add a n=>exact Gm (.inl rfl) h.1 (by have:=h.2.1;omega) (by have:=h.2.2;omega)
 | take a n=>exact Gm (.inr rfl) h.1 (by have:=h.2.1;omega) (by have:=h.2.2;omega)
 | move a b n=>exact(DeedIs.two "move" a b n (.inl rfl) h.1 h.2.1 h.2.2.1 (by have:=h.2.2.2.1;omega) (by have:=h.2.2.2.2;omega)).ok
 | send g a n=>exact Gn (.inl rfl) h.1 h.2.1 (by have:=h.2.2.1;omega) (by have:=h.2.2.2;omega)
 | fetch g a n=>exact Gn (.inr rfl) h.1 h.2.1 (by have:=h.2.2.1;omega) (by have:=h.2.2.2;omega)
 | pass g g' a n=>exact(DeedIs.three g g' a n h.1 h.2.1 h.2.2.1 h.2.2.2.1 (by have:=h.2.2.2.2.1;omega) (by have:=h.2.2.2.2.2;omega)).ok
def Lu{z:Str}(h:isKy z):aP (.str z) (LET++tK) 12=true:=by
 rw[cQ,decide_eq_true (by have:=h.1;omega),decide_eq_true (by have:=h.2.1;omega),all_eq_true.mpr fun c hc=>decide_eq_true (show c∈LET++tK from h.2.2 c hc)];rfl
def aQ{H:Hp}{z:Str}(h:z.length<=1000):Pt H (.str z):=⟨.str,trivial,fun y e=>by cases e;exact h⟩
def eB{H:Hp}{n:Int}:Pt H (.int n):=⟨.int,trivial,fun y e=>nomatch e⟩
def Tw{H:Hp}{d:Addr}{x:Dd}(h:x.Ok)(g:H d=some (.tup x.vs)):Th H (.ref d):=by
 refine⟨⟨.tup,⟨_,g⟩,fun y e=>nomatch e⟩,fun a xs e g' y hy=>?_⟩;cases e;rw[g]at g';cases g';obtain⟨w1,w2,w3,w4,w5,w6⟩:=El;cases x<;>simp only [Dd.vs,mem_cons,not_mem_nil,or_false]at hy
 case add=>rcases hy with rfl|rfl|rfl<;>first|exact eB|exact aQ w1|exact aQ h.1.len
 case take=>rcases hy with rfl|rfl|rfl<;>first|exact eB|exact aQ w2|exact aQ h.1.len
 case move=>rcases hy with rfl|rfl|rfl|rfl<;>first|exact eB|exact aQ w3|exact aQ h.1.len|exact aQ h.2.1.len
 case send=>rcases hy with rfl|rfl|rfl|rfl<;>first|exact eB|exact aQ w4|exact aQ h.1.len|exact aQ h.2.1.len
 case fetch=>rcases hy with rfl|rfl|rfl|rfl<;>first|exact eB|exact aQ w5|exact aQ h.1.len|exact aQ h.2.1.len
 case pass=>rcases hy with rfl|rfl|rfl|rfl|rfl<;>first|exact eB|exact aQ w6|exact aQ h.1.len|exact aQ h.2.1.len|exact aQ h.2.2.1.len
structure Kh(K:W.Frag)(C:Addr):Prop where
 cl:Cls K C
 nN:NoAttr K C "name"
 nL:NoAttr K C "life"
 nH:NoAttr K C "houses"
 nJ:NoAttr K C "journal"
 nM:NoAttr K C "memory"
def Qh(name:Str)(life:Int)(hs:List (bJ×V)):DS:=⟨name,life,0,1,hs,[],fun _=>none,0,[],[],0⟩
def yU(c:CK):Sp:=fun vs H Q _=>∃(p dx l:Addr)(name:Str)(life:Int)(zs:List W),vs=[.ref p,.str name,.int life,.ref l]/\H p=some (.ins c.D dx [])/\isNm name/\name.length<=5/\H l=some (.lst (zs.map fun z=>V.ref z.1))/\Tg H zs/\zs.length<=6 ∧
 ∀(a:DA)(H':Hp),a.dr=p->DAt c H' a (Qh name life (dI [] (zs.map (·.2))))->(∀b∈a.fix,b=p∨H b=none)->(∀b o,H b=some o->b≠p->H' b=some o)->Q .non H'
def Go{c:CK}(T:Txt K mg)(BD:Kh K c.D)(J9:aI P w K mg base 2 "is_name" ["thing"] (kQ LET 8))(zr:rE P w K mg base 2 "Journal" c.J ["self","text"] [.str ("":Str)] (Lp c.J))(ve:aI P w K mg base 5 "risen" ["rows"] wP)(pq:rE P w K mg base 3 "Memory" c.M ["self","life","turn","up"] [] (Gk c))(D:ClsAt K mg "Door" c.D "Door.__init__" bN ["self","name","life","houses"] [[]]):∀d∈([[]]:List (List V)),rE P w K mg base 6 "Door" c.D ["self","name","life","houses"] d (yU c):=by
 refine D.go lA (fun vs H Q E h=>?_) (fun f cdv A outer s H vs Q E hr h=>?_)
 ·obtain⟨p,dx,l,name,life,zs,rfl,_⟩:=h;rfl
 ·obtain⟨p,dx,l,name,life,zs,rfl,hp,FI,Xt,hl,JE,MX,q⟩:=h;have C2:Room 2 _:=hr.mono Zd;have zt:Room 3 _:=hr.mono Zd;have pv:Room 5 _:=hr;have Y6:Room 4 _:=hr.mono Zd;refine⟨_,(R.ae (R.aq (R.tw (R.cb (R.bi (R.az (R.fn J9 C2 rfl (R.aa (R.v 1) R.ac)))) (R.cc (R.am R.gt (R.ax R.cv rfl T.b_len gF (R.aa (R.v 1) R.ac)) (R.gI rfl T.g_LONGEST_DOOR_NAME))))) (R.af R.ay) R.ar) (R.ae (R.av (K:=K) (R.v 0) (R.v 1)) (R.ae (R.av (K:=K) (R.v 0) (R.v 2)) (R.ae (R.av (K:=K) (R.v 0) (R.ce (R.dz (K:=K) rfl) rfl T.b_dict xX (R.aa (R.v 3) R.ac))) (R.ae (R.av (K:=K) (R.v 0) (R.ic zr zt rfl)) (R.af (R.av (K:=K) (R.v 0) (R.ck pq Y6 rfl (R.aa (R.v 2) (R.aa R.ad (R.aa (R.fn ve pv rfl (R.aa (R.aw R.ac) R.ac)) R.ac))))))))))),?_⟩;refine⟨.str name,.str,rfl,trivial,fun z e=>by cases e;exact FI.len,fun H1 s1=>?_⟩;rw[show aP (.str name) LET 8=true from dY FI];refine⟨gE FI.len,?_⟩;refine Oy (by rw[decide_eq_false];omega) ?_;have g0:Gw p H [(p,.ins c.D dx [])] H1:=⟨⟨Zs,fun q hq=>by rw[Zms.mp hq];exact s1 _ _ hp⟩,fun _ _ e _=>s1 _ _ e,fun q hq=>.inl (by rw[Zms.mp hq]),⟨_,s1 _ _ hp⟩⟩;dsimp only [eX];refine⟨c.D,dx,_,s1 _ _ hp,BD.cl,BD.nN,(by show 0<1000;decide),?_⟩;dsimp only;rw[show bC "name" (.str name) []=([("name",.str name)]:List (Str×V)) by kernel_rfl];have g1:=g0.set 0 rfl (.ins c.D dx [("name",.str name)]);generalize aH H1 p (.ins c.D dx [("name",.str name)])=H2 at g1 ⊢;refine⟨c.D,dx,_,g1.own.get 0 rfl,BD.cl,BD.nL,(by show 1<1000;decide),?_⟩;dsimp only;rw[show bC "life" (.int life) ([("name",.str name)]:List (Str×V))=([("name",.str name),("life",.int life)]:List (Str×V)) by kernel_rfl];have g2:=g1.set 0 rfl (.ins c.D dx [("name",.str name),("life",.int life)]);generalize aH H2 p (.ins c.D dx [("name",.str name),("life",.int life)])=H3 at g2 ⊢;have Xr:l≠p:=bF hl hp fun z=>nomatch z
  refine⟨zs,SqL.of (g2.fr _ _ hl Xr),fun z hz=>g2.fr _ _ (JE z hz) (bF (JE z hz) hp fun z=>nomatch z),Zo,fun hd hhd=>?_⟩;have g3:=g2.add1 (.dK (dI [] (zs.map (·.2)))) hhd;generalize aH H3 hd (.dK (dI [] (zs.map (·.2))))=H4 at g3 ⊢;refine⟨c.D,dx,_,g3.own.get 1 rfl,BD.cl,BD.nH,(by show 2<1000;decide),?_⟩;dsimp only;rw[show bC "houses" (.ref hd) ([("name",.str name),("life",.int life)]:List (Str×V))=([("name",.str name),("life",.int life),("houses",.ref hd)]:List (Str×V)) by kernel_rfl];have g4:=g3.set 1 rfl (.ins c.D dx [("name",.str name),("life",.int life),("houses",.ref hd)]);generalize aH H4 p (.ins c.D dx [("name",.str name),("life",.int life),("houses",.ref hd)])=H5 at g4 ⊢;intro j jx hj ZP hjn;refine⟨j,jx,rfl,aA,fun H6 jl ZQ gj VG k6=>⟨rfl,?_⟩⟩;have s6:Same H5 H6:=fun c o e=>k6 _ _ (by rw[aE (aB e hj),aE (aB e ZP)];exact e) (aB e hj)
  have Xu:H5 jl=none:=by
   cases e:H5 jl with
   | none=>rfl
   | some u=>rw[aE (aB e hj),aE (aB e ZP),e]at ZQ;cases ZQ
  have njl:jl≠j:=bF VG gj fun z=>nomatch z
  have g5:=g4.add [(jl,.lst []),(j,.ins c.J jx (jf jl 0))] s6 (by simp [njl]) (fun q hq=>by
   simp only [mem_cons,not_mem_nil,or_false]at hq;rcases hq with rfl|rfl
   ·exact⟨Xu,VG⟩
   ·exact⟨hj,gj⟩)
  refine⟨c.D,dx,_,g5.own.get 3 rfl,BD.cl,BD.nJ,(by show 3<1000;decide),?_⟩;dsimp only;rw[show bC "journal" (.ref j) ([("name",.str name),("life",.int life),("houses",.ref hd)]:List (Str×V))=([("name",.str name),("life",.int life),("houses",.ref hd),("journal",.ref j)]:List (Str×V)) by kernel_rfl];have g6:=g5.set 3 rfl (.ins c.D dx [("name",.str name),("life",.int life),("houses",.ref hd),("journal",.ref j)]);generalize aH H6 p (.ins c.D dx [("name",.str name),("life",.int life),("houses",.ref hd),("journal",.ref j)])=H7 at g6 ⊢;refine⟨eY rfl,fun e he=>?_⟩;have g7:=g6.same (aF (o:=.lst []) he);refine⟨e,[],rfl,aA,(fun _ h=>nomatch h),zero_le _,fun t b kl ol m1 m2 H8 s8 gt gb RL Xv FD FE=>?_⟩;obtain rfl:m1=1:=by simpa using FD.1
  obtain rfl:m2=0:=by simpa using FE.1
  have g8:=g7.same s8;intro me mx NB OX hmn;have nn:∀ {b u},H8 b=some u->(aH (aH H8 mx (.own me)) me (.ins c.M mx [])) b=some u:=fun e=>by rw[aE (aB e NB),aE (aB e OX)];exact e
  refine⟨me,mx,life,0,1,0,t,b,kl,ol,rfl,aA,nn gt,nn gb,nn RL,nn Xv,fun bk bx bd ks rn kf bs ss H9 G db ds=>⟨rfl,?_⟩⟩;have s9:Same H8 H9:=fun b u e=>G.fr _ _ (nn e) (aB e NB)
  have fr8:∀b,(aH (aH H8 mx (.own me)) me (.ins c.M mx [])) b=none->H8 b=none:=fun b e=>by
   cases z:H8 b with
   | none=>rfl
   | some u=>rw[nn z]at e;cases e
  have g9:=g8.add _ s9 G.own.1 fun q hq=>⟨(G.nw q hq).elim (fun e=>by rw[e];exact NB) (fr8 _),G.own.2 q hq⟩
  refine⟨c.D,dx,_,g9.own.get 10 rfl,BD.cl,BD.nM,(by show 4<1000;decide),?_⟩;dsimp only;rw[show bC "memory" (.ref me) ([("name",.str name),("life",.int life),("houses",.ref hd),("journal",.ref j)]:List (Str×V))=([("name",.str name),("life",.int life),("houses",.ref hd),("journal",.ref j),("memory",.ref me)]:List (Str×V)) by kernel_rfl];have zu:TK H9 (aH H9 p (.ins c.D dx [("name",.str name),("life",.int life),("houses",.ref hd),("journal",.ref j),("memory",.ref me)])):=jR (g9.own.get 10 rfl) fun _ z=>nomatch z
  have su:=g9.set 10 rfl (.ins c.D dx [("name",.str name),("life",.int life),("houses",.ref hd),("journal",.ref j),("memory",.ref me)]);generalize aH H9 p (.ins c.D dx [("name",.str name),("life",.int life),("houses",.ref hd),("journal",.ref j),("memory",.ref me)])=JF at zu su ⊢;refine q ⟨p,dx,hd,j,jx,jl,me,mx,bk,bx,bd,ks,rn,kf⟩ JF rfl ⟨⟨bs,ss,su.own.rev,db.keep zu,ds.keep zu⟩,nodup_nil,List.Pairwise.nil,fun r hr=>nomatch hr⟩ (fun b hb=>?_) su.fr;simp only [DA.fix,mem_cons,not_mem_nil,or_false]at hb;rcases hb with rfl|rfl|rfl|rfl|rfl|rfl|rfl|rfl|rfl|rfl|rfl
  ·exact .inl rfl
  ·exact su.nw _ (lN (i:=9) rfl)
  ·exact su.nw _ (lN (i:=8) rfl)
  ·exact su.nw _ (lN (i:=7) rfl)
  ·exact su.nw _ (lN (i:=6) rfl)
  ·exact su.nw _ (lN (i:=5) rfl)
  ·exact su.nw _ (lN (i:=4) rfl)
  ·exact su.nw _ (lN (i:=3) rfl)
  ·exact su.nw _ (lN (i:=2) rfl)
  ·exact su.nw _ (lN (i:=1) rfl)
  ·exact su.nw _ (lN (i:=0) rfl)
def Own.app{H:Hp}{L M:List (Addr×HO)}(h1:Own H L)(h2:Own H M)(d:∀x∈L.map (·.1),x∉M.map (·.1)):Own H (L++M):=
 ⟨by rw[mF];exact nodup_append.mpr ⟨h1.1,h2.1,fun x hx y hy e=>d x hx (e▸hy)⟩,fun q hq=>(Zma.mp hq).elim (h1.2 q) (h2.2 q)⟩
def Ki(a:DA)(s:DS):List (Str×V):=[("name",.str s.name),("life",.int s.life),("houses",.ref a.hd),("journal",.ref a.j),("memory",.non)]
def DA.low(c:CK)(a:DA)(s:DS)(fs:List (Str×V)):List (Addr×HO):=[(a.dr,.ins c.D a.dx fs),(a.hd,.dK s.hs),(a.j,.ins c.J a.jx (jf a.jl s.safe)),(a.jl,.lst s.rows)]
def Bb(c:CK)(H:Hp)(a:DA)(s:DS):Prop:=Own H (a.low c s (Ki a s))
def fW(c:CK)(CD:Addr):Sp:=fun vs H Q E=>∃(a:DA)(s:DS),vs=[.ref a.dr]/\((DAt c H a s/\Q (.ref a.me) H)∨(Bb c H a s/\E (.ref CD) none H))
def Bc{c:CK}{CD:Addr}(BD:Kh K c.D)(NC:XCls K mg "Down" CD)(D:MethAt K c.D "known" "Door.known" eP ["self"]):jA P w K mg base 1 c.D "known" ["self"] (fW c CD):=by
 refine D.goX oQ (fun vs H Q E h=>?_) (fun f cdv A outer s H vs Q E hr h=>?_)
 ·obtain⟨a,s,rfl,_⟩:=h;rfl
 ·obtain⟨a,s,rfl,h⟩:=h;refine⟨_,(R.ae (R.aq (R.am R.iz (R.al (K:=K) (R.v 0)) R.bo) (R.af (R.dw NC iN rfl (R.aa R.ag R.ac))) R.ar) (R.af (R.ah (R.al (K:=K) (R.v 0))))),?_⟩;rcases h with⟨h,q⟩|⟨h,q⟩
  ·exact⟨c.D,_,_,.ref a.me,h.dr,BD.cl,BD.nM,by kernel_rfl,c.D,_,_,.ref a.me,h.dr,BD.cl,BD.nM,by kernel_rfl,q⟩
  ·exact⟨c.D,_,_,.non,h.get 0 rfl,BD.cl,BD.nM,by kernel_rfl,Zd,q⟩
def Lv(c:CK):Sp:=fun vs H Q _=>∃(a:DA)(s:DS),vs=[.ref a.dr]/\DAt c H a s/\Q (.int s.turn) H
def Qi{c:CK}{CD:Addr}(BM:Lq K c.M)(d9:jA P w K mg base 1 c.D "known" ["self"] (fW c CD))(D:MethAt K c.D "now" "Door.now" gM ["self"]):eW P w K mg base 2 c.D "now" ["self"] (Lv c):=by
 refine D.go uE (fun vs H Q E h=>?_) (fun f cdv A outer s H vs Q E hr h=>?_)
 ·obtain⟨a,s,rfl,_⟩:=h;rfl
 ·obtain⟨a,s,rfl,h,q⟩:=h;have d6:=hr;refine⟨_,(R.af (R.ah (R.al (K:=K) (R.cy d9 d6 dL (R.v 0))))),?_⟩;exact⟨_,_,h.dr,by kernel_rfl,a,s,rfl,.inl ⟨h,c.M,_,_,.int s.turn,h.me,BM.cl,BM.nT,by kernel_rfl,q⟩⟩
def yV(c:CK):Sp:=fun vs H Q _=>∃(a:DA)(s:DS),vs=[.ref a.dr]/\DAt c H a s/\∀l H',H l=none->Same H H'->H' l=some (.lst s.rows)->Q (.ref l) H'
def Gp{c:CK}(BD:Kh K c.D)(j7:eW P w K mg base 1 c.J "rows" ["self"] (mD c.J))(D:MethAt K c.D "rows" "Door.rows" fG ["self"]):eW P w K mg base 2 c.D "rows" ["self"] (yV c):=by
 refine D.go rT (fun vs H Q E h=>?_) (fun f cdv A outer s H vs Q E hr h=>?_)
 ·obtain⟨a,s,rfl,_⟩:=h;rfl
 ·obtain⟨a,s,rfl,h,q⟩:=h;have i8:=hr;refine⟨_,(R.af (R.ah (R.bf j7 i8 (R.al (K:=K) (R.v 0))))),?_⟩;exact⟨c.D,_,_,.ref a.j,h.dr,BD.cl,BD.nJ,by kernel_rfl,_,_,h.j,by kernel_rfl,a.j,a.jl,a.jx,s.safe,s.rows,rfl,h.j,h.jl,fun l hl=>q l _ hl (aF hl) aA⟩
def Kj(H:Hp)(r:Rn)(v:V):Prop:=∃t,v=.ref t/\H t=some (.tup (Tv r))
def yW(c:CK):Sp:=fun vs H Q _=>∃(a:DA)(s:DS),vs=[.ref a.dr]/\DAt c H a s/\s.runs.length<64/\∀l us H',H l=none->Same H H'->H' l=some (.lst us)->Paired (Kj H') s.runs us->Q (.ref l) H'
def Gq{c:CK}{CD:Addr}(T:Txt K mg)(BM:Lq K c.M)(d9:jA P w K mg base 1 c.D "known" ["self"] (fW c CD))(pz:eW P w K mg base 1 c.R "as_tuple" ["self"] (Lr c.R))(D:MethAt K c.D "under" "Door.under" dE ["self"]):eW P w K mg base 2 c.D "under" ["self"] (yW c):=by
 refine D.go jM (fun vs H Q E h=>?_) (fun f cdv A outer s H vs Q E hr h=>?_)
 ·obtain⟨a,s,rfl,_⟩:=h;rfl
 ·obtain⟨a,s,rfl,h,hl,q⟩:=h;have U1:=hV hr;have d6:=hr;have ly:=hr;refine⟨_,(R.ae (R.ai (i:=1) jM.nd (R.al (K:=K) (R.cy d9 d6 dL (R.v 0)))) (R.af (R.ah (R.bb rfl (js:=[none,some 1]) (N:=["number","runs"]) (CompScope.by (aD dE) ["self","runs"] rfl rfl Zk) (aS rfl) (R.be (K:=K) (R.ax (R.er rfl) rfl T.b_sorted kP (R.aa (R.v 1) R.ac))) (fun C s₂ H₂ fp=>⟨(R.gn (i:=0) (show(["number","runs"]:List Str).Nodup by decide +kernel)),R.bn,(R.bf pz ly (R.bq U1 (R.v 1) (R.v 0)))⟩))))),?_⟩;refine⟨_,_,h.dr,by kernel_rfl,a,s,rfl,.inl ⟨h,c.M,_,_,.ref a.rn,h.me,BM.cl,BM.nR,by kernel_rfl,?_⟩⟩;dsimp only [aL];refine⟨s.runs.map fun r=>(r.n:Int),_,.inl h.rn,by unfold bV;rw[map_map,map_map];rfl,by rw[gZ];exact hl,fun l ns RW hp ZR=>⟨l,rfl,⟨_,SqL.of aA⟩,?_⟩⟩;have Xw:ns=s.runs.map fun r=>(r.n:Int):=uN ZR (List.pairwise_map.mpr (h.up.imp fun z=>by omega)) hp
  subst Xw;have k1:=aF (o:=.lst ((s.runs.map fun r=>(r.n:Int)).map V.int)) RW;have gl:(aH H l (.lst ((s.runs.map fun r=>(r.n:Int)).map V.int))) l=some (.lst ((s.runs.map fun r=>(r.n:Int)).map V.int)):=aA;generalize aH H l (.lst ((s.runs.map fun r=>(r.n:Int)).map V.int))=H1 at k1 gl ⊢;have h1:=h.same k1;have eL:((s.runs.map fun r=>(r.n:Int)).map V.int).length=s.runs.length:=by rw[gZ,gZ]
  refine bQ (eR K l ((s.runs.map fun r=>(r.n:Int)).map V.int)) (by rw[eL];omega) (fun i ys H'=>Same H1 H'/\ys.length<=i/\Paired (Kj H') (s.runs.take i) ys) (fun i ys H' ⟨e1,e2,_⟩=>⟨SqL.of (e1 _ _ gl),e2⟩) ⟨Same.refl _,bY _,.nil⟩ (fun i x ys H' hx ⟨e1,e2,e3⟩=>?_) (fun ys H' ⟨e1,e2,e3⟩=>?_)
  ·rw[map_map,jS]at hx;obtain⟨r,UY,rfl⟩:=Option.map_eq_some_iff.mp hx;have hm:=lN UY;have h2:=h1.same e1;dsimp only [aL];have dg:=DGet.k (k:=Sum.inl (r.n:Int)) h2.rn;rw[Gj h.up hm]at dg;refine⟨a.rn,.ref r.p,rfl,dg,r.dx,_,h2.run hm,by kernel_rfl,r,rfl,h2.run hm,fun t H3 s3 gt=>⟨e1.trans s3,by rw[wW];simpa using e2,?_⟩⟩;rw[fU UY];exact Paired.snoc (Paired.map' (fun _ _ ⟨t,e,g⟩=>⟨t,e,s3 _ _ g⟩) e3) ⟨t,rfl,gt⟩
  ·rw[eL,take_length]at e3;intro l2 ur;have s3:=aF (o:=.lst ys) ur;exact q l2 ys _ (k1.free (e1.free ur)) ((k1.trans e1).trans s3) aA (Paired.map' (fun _ _ ⟨t,e,g⟩=>⟨t,e,s3 _ _ g⟩) e3)
def yX(life turn:Int):Option KE->Bool
 | none=>true
 | some (.busy _ _)=>false
 | some (.kept _ w _ _)=>!decide (w+life>turn)
def Bd{life turn:Int}{o:Option KE}(h:yX life turn o=true):Lk life turn o=[.str "free"]:=by
 match o,h with
 | none,_=>rfl
 | some (.kept n w d z),h=>
  have h':¬ w+life>turn:=by simpa [yX]using h
  show(if w+life>turn then _ else _)=_;rw[if_neg h']
structure Wm(K:W.Frag)(C:Addr):Prop where
 cl:Cls K C
 nA:NoAttr K C "amounts"
 nC:NoAttr K C "closed_names"
 nE:NoAttr K C "entries"
def qC(C:Addr):Sp:=fun vs H Q _=>∃p dx:Addr,vs=[.ref p,.non,.non]/\H p=some (.ins C dx [])/\∀H',(∀b o,H b=some o->b≠p->H' b=some o)->(∃o,H' p=some o)->Q .non H'
def wQ{C:Addr}(B:Wm K C)(D:ClsAt K mg "House" C "House.__init__" bK ["self","rows","closed"] [[.non,.non]]):∀d∈([[.non,.non]]:List (List V)),rE P w K mg base 1 "House" C ["self","rows","closed"] d (qC C):=by
 refine D.go kC (fun vs H Q E h=>?_) (fun f cdv A outer s H vs Q E hr h=>?_)
 ·obtain⟨p,dx,rfl,_⟩:=h;rfl
 ·obtain⟨p,dx,rfl,hp,q⟩:=h;refine⟨_,(R.ae (R.av (K:=K) (R.v 0) R.cj) (R.ae (R.av (K:=K) (R.v 0) R.cj) (R.ae (R.av (K:=K) (R.v 0) R.cj) (R.ae (R.aq (R.am R.dq (R.v 1) R.bo) (R.af R.ay) R.ar) (R.af (R.aq (R.am R.dq (R.v 2) R.bo) (R.af R.ay) R.ar)))))),?_⟩;have step:∀(H:Hp)(fs:List (Str×V))(d:Addr)(o:HO)(UD:List (Str×V)),H p=some (.ins C dx fs)->H d=none->(aH H d o) p=some (.ins C dx fs)/\(∀b u,H b=some u->b≠p->(aH (aH H d o) p (.ins C dx UD)) b=some u):=fun H fs d o UD g hd=>
   ⟨by rw[aE (aB g hd)];exact g,fun b u e hb=>by rw[aE hb,aE (aB e hd)];exact e⟩
  intro d1 h1;obtain⟨g1,k1⟩:=step H [] d1 (.dK []) ([("amounts",.ref d1)]:List (Str×V)) hp h1;refine⟨C,dx,_,g1,B.cl,B.nA,(by show 0<1000;decide),?_⟩;dsimp only;rw[show bC "amounts" (.ref d1) []=([("amounts",.ref d1)]:List (Str×V)) by kernel_rfl];have e1:(aH (aH H d1 (.dK [])) p (.ins C dx [("amounts",.ref d1)])) p=some (.ins C dx [("amounts",.ref d1)]):=aA;generalize aH (aH H d1 (.dK [])) p (.ins C dx [("amounts",.ref d1)])=H1 at k1 e1 ⊢;intro d2 h2;obtain⟨g2,k2⟩:=step H1 _ d2 (.dK []) ([("amounts",.ref d1),("closed_names",.ref d2)]:List (Str×V)) e1 h2;refine⟨C,dx,_,g2,B.cl,B.nC,(by show 1<1000;decide),?_⟩;dsimp only;rw[show bC "closed_names" (.ref d2) ([("amounts",.ref d1)]:List (Str×V))=([("amounts",.ref d1),("closed_names",.ref d2)]:List (Str×V)) by kernel_rfl];have e2:(aH (aH H1 d2 (.dK [])) p (.ins C dx [("amounts",.ref d1),("closed_names",.ref d2)])) p=some (.ins C dx [("amounts",.ref d1),("closed_names",.ref d2)]):=aA;generalize aH (aH H1 d2 (.dK [])) p (.ins C dx [("amounts",.ref d1),("closed_names",.ref d2)])=H2 at k2 e2 ⊢;intro d3 h3;obtain⟨g3,k3⟩:=step H2 _ d3 (.dK []) ([("amounts",.ref d1),("closed_names",.ref d2),("entries",.ref d3)]:List (Str×V)) e2 h3;refine⟨C,dx,_,g3,B.cl,B.nE,(by show 2<1000;decide),?_⟩;dsimp only;rw[show bC "entries" (.ref d3) ([("amounts",.ref d1),("closed_names",.ref d2)]:List (Str×V))=([("amounts",.ref d1),("closed_names",.ref d2),("entries",.ref d3)]:List (Str×V)) by kernel_rfl];exact q _ (fun b o e hb=>k3 _ _ (k2 _ _ (k1 _ _ e hb) hb) hb) ⟨_,aA⟩
def Qj{CH fH:Addr}(XA:Tr K CH "house")(D:InitAt K fH "NoHouse.__init__" aV ["self","house"]):uA P w K mg base 1 CH fH "house":=by
 refine D.go jB rfl (fun cdv A outer s H vs Q E hr h=>?_);obtain⟨e,t,v,rfl,he,q⟩:=h;exact⟨_,(R.af (R.fw (K:=K) (R.v 0) (R.v 1))),CH,t,he,XA,q⟩
def uO(c:CK)(CH:Addr):Sp:=fun vs H Q E=>∃(a:DA)(s:DS)(z:Str),vs=[.ref a.dr,.str z]/\DAt c H a s/\(∀v,aT s.hs (Sum.inr z)=some v->Q v H)/\(aT s.hs (Sum.inr z)=none->∀dx H',Same H H'->H' dx=some (.xd [("house",.str z)])->E (.ref CH) (some dx) H')
def Be{c:CK}{CH fH:Addr}(BD:Kh K c.D)(FJ:XClsI K mg "NoHouse" CH fH)(FK:uA P w K mg base 1 CH fH "house")(D:MethAt K c.D "house_of" "Door.house_of" cN ["self","name"]):jA P w K mg base 3 c.D "house_of" ["self","name"] (uO c CH):=by
 refine D.goX lB (fun vs H Q E h=>?_) (fun f cdv A outer s H vs Q E hr h=>?_)
 ·obtain⟨a,s,z,rfl,_⟩:=h;rfl
 ·obtain⟨a,s,z,rfl,h,q,e⟩:=h;have U1:=hV hr;have zv:Room 2 _:=hr;refine⟨_,(R.ae (R.aq (R.am (R.eu U1) (R.v 1) (R.al (K:=K) (R.v 0))) (R.af (R.gc FJ FK zv tZ rfl rfl (R.aa (R.v 1) R.ac))) R.ar) (R.af (R.ah (R.bq U1 (R.al (K:=K) (R.v 0)) (R.v 1))))),?_⟩;have dg:=DGet.k (k:=Sum.inr z) h.hd
  cases hv:aT s.hs (Sum.inr z) with
  | none=>
   rw[hv]at dg;exact⟨c.D,_,_,.ref a.hd,h.dr,BD.cl,BD.nH,by kernel_rfl,_,dg,_,rfl,fun dx zd=>e hv dx _ (aF zd) aA⟩
  | some v=>
   rw[hv]at dg;exact⟨c.D,_,_,.ref a.hd,h.dr,BD.cl,BD.nH,by kernel_rfl,_,dg,c.D,_,_,.ref a.hd,h.dr,BD.cl,BD.nH,by kernel_rfl,a.hd,v,rfl,dg,q v hv⟩
def uP(c:CK):Sp:=fun vs H Q _=>∃(a:DA)(s:DS)(cr:List CR),vs=[.ref a.dr]/\DAt c H a s/\s.rows=uW cr/\CrAt H cr/\cr.length<=1/\s.safe=0/\∀l H',DAt c H' a {s with safe:=s.rows.length }->Mv a s {s with safe:=s.rows.length } H H'->Q (.ref l) H'
def Bf{c:CK}{CD:Addr}(BD:Kh K c.D)(d9:jA P w K mg base 1 c.D "known" ["self"] (fW c CD))(qa:eW P w K mg base 1 c.J "safe" ["self"] (yS c.J))(y9:eW P w K mg base 1 c.J "force" ["self"] (oB c.J))(j7:eW P w K mg base 1 c.J "rows" ["self"] (mD c.J))(D:MethAt K c.D "force" "Door.force" eO ["self"]):eW P w K mg base 2 c.D "force" ["self"] (uP c):=by
 refine D.go cJ (fun vs H Q E h=>?_) (fun f cdv A outer s H vs Q E hr h=>?_)
 ·obtain⟨a,s,cr,rfl,_⟩:=h;rfl
 ·obtain⟨a,s,cr,rfl,h,ug,hc,hl,GY,q⟩:=h;have d6:=hr;have lz:=hr;have u7:=hr;have i8:=hr;refine⟨_,(R.ae (R.ai (i:=1) cJ.nd (R.cy d9 d6 dL (R.v 0))) (R.ae (R.ai (i:=2) cJ.nd (R.bf qa lz (R.al (K:=K) (R.v 0)))) (R.ae (R.bc (R.bf y9 u7 (R.al (K:=K) (R.v 0)))) (R.ae (R.ai (i:=3) cJ.nd (R.aw R.ac)) (R.ae (R.bt PassesOwn.never rfl (R.be (K:=K) (R.sl (R.cf (K:=K)) (R.bf j7 i8 (R.al (K:=K) (R.v 0))) (R.ps (R.v 2)) R.pn)) (R.gn (i:=4) cJ.nd) (R.af (R.aq (R.am R.eq (R.ix (R.ao (K:=K)) (R.v 4) R.ad) R.ag) (R.af R.ay) R.ar))) (R.af (R.ah (R.v 3)))))))),?_⟩;refine⟨_,_,h.dr,by kernel_rfl,a,s,rfl,.inl ⟨h,?_⟩⟩;dsimp only [aL];refine⟨c.D,_,_,.ref a.j,h.dr,BD.cl,BD.nJ,by kernel_rfl,_,_,h.j,by kernel_rfl,a.j,a.jl,a.jx,s.safe,rfl,h.j,?_⟩;dsimp only [aL];refine⟨c.D,_,_,.ref a.j,h.dr,BD.cl,BD.nJ,by kernel_rfl,_,_,h.j,by kernel_rfl,a.j,a.jl,a.jx,s.safe,s.rows,rfl,h.j,h.jl,?_⟩;obtain⟨h1,v1⟩:=h.put (H':=aH H a.j (.ins c.J a.jx (jf a.jl s.rows.length))) 2 {s with safe:=s.rows.length } (fun _ _=>rfl) (fun _ _=>rfl) aA (fun b u e hb=>by rw[aE hb];exact e) rfl rfl h.nd rfl;generalize aH H a.j (.ins c.J a.jx (jf a.jl s.rows.length))=H1 at h1 v1 ⊢;refine⟨eY rfl,fun lt X1=>?_⟩;dsimp only [aL];have s2:=aF (o:=.lst []) X1;generalize aH H1 lt (.lst [])=H2 at s2 ⊢;have h2:=h1.same s2;refine⟨c.D,_,_,.ref a.j,h2.dr,BD.cl,BD.nJ,by kernel_rfl,_,_,h2.j,by kernel_rfl,a.j,a.jl,a.jx,_,s.rows,rfl,h2.j,h2.jl,fun lr Xx=>?_⟩;have s3:=aF (o:=.lst s.rows) Xx;have ZS:(aH H2 lr (.lst s.rows)) lr=some (.lst s.rows):=aA;generalize aH H2 lr (.lst s.rows)=H3 at s3 ZS ⊢;refine⟨_,SqL.of ZS,fun ls hls=>?_⟩;have ND:dX s.rows (some s.safe) none=uW cr:=by
   rw[GY,show(0:Int)=((0:Nat):Int) from rfl,tH,ug,drop_zero]
  rw[ND];have s4:=aF (o:=.lst (uW cr)) hls;have VH:(aH H3 ls (.lst (uW cr))) ls=some (.lst (uW cr)):=aA;generalize aH H3 ls (.lst (uW cr))=H4 at s4 VH ⊢;have k4:=(s2.trans s3).trans s4;have h4:=h1.same k4;have w4:=v1.trans (.same k4);refine⟨ls,rfl,⟨_,SqL.of VH⟩,wO hl VH (fun _=>q lt H4 h4 w4) fun r e N hN=>?_⟩;obtain⟨v3,v4,v5,gr⟩:=hc r (by rw[e];simp);dsimp only [aL];exact⟨_,SqT.of (w4.tk h _ _ gr),_,rfl,hN _ _ VH (q lt H4 h4 w4)⟩
def yY(c:CK):Sp:=fun vs H Q _=>∃(a:DA)(s:DS)(m:Int),vs=[.ref a.dr,.int m]/\DAt c H a s/\s.safe=s.rows.length/\∀GH H',H GH=none->Bb c H' {a with jl:=GH } s->(∀b o,H b=some o->b≠a.dr->b≠a.j->H' b=some o)->Q .non H'
def Gr{c:CK}{CD:Addr}(BD:Kh K c.D)(d9:jA P w K mg base 1 c.D "known" ["self"] (fW c CD))(qb:eW P w K mg base 2 c.J "fall" ["self","more"] (yT c.J))(D:MethAt K c.D "fall" "Door.fall" fE ["self","more"]):eW P w K mg base 3 c.D "fall" ["self","more"] (yY c):=by
 refine D.go rS (fun vs H Q E h=>?_) (fun f cdv A outer s H vs Q E hr h=>?_)
 ·obtain⟨a,s,m,rfl,_⟩:=h;rfl
 ·obtain⟨a,s,m,rfl,h,hs,q⟩:=h;have d6:Room 1 _:=hr.mono Zd;have md:=hr;refine⟨_,(R.ae (R.bc (R.cy d9 d6 dL (R.v 0))) (R.ae (R.bc (R.br qb md (R.al (K:=K) (R.v 0)) (R.aa (R.v 1) R.ac))) (R.af (R.av (K:=K) (R.v 0) R.bo)))),?_⟩;obtain⟨bs,ss,ho,_,_⟩:=h.own;have gj:=h.j;rw[hs]at gj;refine⟨_,_,h.dr,by kernel_rfl,a,s,rfl,.inl ⟨h,?_⟩⟩;refine⟨c.D,_,_,.ref a.j,h.dr,BD.cl,BD.nJ,by kernel_rfl,_,_,h.j,by kernel_rfl,a.j,a.jl,a.jx,m,s.rows,rfl,gj,h.jl,fun GH H1 fj g1 LQ k1=>?_⟩;have Xy:a.dr≠a.j:=ho.ne (i:=0) (j:=2) rfl rfl Zd;have ZT:a.dr≠a.hd:=ho.ne (i:=0) (j:=1) rfl rfl Zd;have ZU:a.hd≠a.j:=ho.ne (i:=1) (j:=2) rfl rfl Zd;have nd:a.dr≠GH:=aB h.dr fj;have nh:a.hd≠GH:=aB h.hd fj;have nj:a.j≠GH:=aB h.j fj;refine⟨c.D,_,_,k1 _ _ h.dr Xy,BD.cl,BD.nM,(by show 5<1000;decide),?_⟩;dsimp only;rw[show bC "memory" .non (df a s)=Ki a s by kernel_rfl];refine q GH _ fj ⟨?_,fun p hp=>?_⟩ fun b o e hb hj=>by rw[aE hb];exact k1 _ _ e hj
  ·simp[DA.low,Xy,ZT,ZU,nd,nh,nj]
  ·simp only [DA.low,mem_cons,not_mem_nil,or_false]at hp;rcases hp with rfl|rfl|rfl|rfl
   ·exact aA
   ·show(aH _ _ _) a.hd=_;rw[aE ZT.symm];exact k1 _ _ h.hd ZU
   ·show(aH _ _ _) a.j=_;rw[aE Xy.symm,hs];exact g1
   ·show(aH _ _ _) GH=_;rw[aE nd.symm];exact LQ
def Uj(s:DS)(turn:Int)(n:Nat):DS:={s with turn:=turn,next:=n,prs:=[],m:=fun _=>none,L:=0,runs:=[] }
def yZ(c:CK):Sp:=fun vs H Q _=>∃(a:DA)(s:DS)(turn:Int)(cr:List CR)(n:Nat),vs=[.ref a.dr,.int turn]/\Bb c H a s/\s.rows=uW cr/\CrAt H cr/\cr.length<=1/\(∀q∈cr,q.2.1+1=(n:Int)/\q.2.2<=turn)/\(cr=[]->n=1)/\1<=n/\0<=turn ∧
 ∀l a' H',a'.dr=a.dr->DAt c H' a' (Uj s turn n)->(∀b∈a'.fix,b∈[a.dr,a.hd,a.j,a.jl]∨H b=none)->(∀b o,H b=some o->b≠a.dr->H' b=some o)->H' l=some (.lst [])->Q (.ref l) H'
def Gs{c:CK}(T:Txt K mg)(BD:Kh K c.D)(BM:Lq K c.M)(j7:eW P w K mg base 1 c.J "rows" ["self"] (mD c.J))(ve:aI P w K mg base 5 "risen" ["rows"] wP)(pq:rE P w K mg base 3 "Memory" c.M ["self","life","turn","up"] [] (Gk c))(D:MethAt K c.D "rise" "Door.rise" fF ["self","turn"]):eW P w K mg base 6 c.D "rise" ["self","turn"] (yZ c):=by
 refine D.go kB (fun vs H Q E h=>?_) (fun f cdv A outer s H vs Q E hr h=>?_)
 ·obtain⟨a,s,turn,cr,n,rfl,_⟩:=h;rfl
 ·obtain⟨a,s,turn,cr,n,rfl,h,ug,hc,hl,hn,Xz,ZV,ZW,q⟩:=h;have i8:Room 1 _:=hr.mono Zd;have pv:Room 5 _:=hr;have Y6:Room 4 _:=hr.mono Zd;have xx:=hr;refine⟨_,(R.ae (R.aq (R.am R.dq (R.al (K:=K) (R.v 0)) R.bo) (R.af R.ay) R.ar) (R.ae (R.ai (i:=2) kB.nd (R.fn ve pv rfl (R.aa (R.bf j7 i8 (R.al (K:=K) (R.v 0))) R.ac))) (R.ae (R.aq (R.am R.lt (R.v 1) (R.ix (R.ao (K:=K)) (R.v 2) R.ad)) (R.af R.ay) R.ar) (R.ae (R.av (K:=K) (R.v 0) (R.ck pq Y6 rfl (R.aa (R.al (K:=K) (R.v 0)) (R.aa (R.v 1) (R.aa (R.v 2) R.ac))))) (R.af (R.ah (R.ax (R.er rfl) rfl T.b_sorted kP (R.aa (R.al (K:=K) (R.al (K:=K) (R.v 0))) R.ac)))))))),?_⟩;have gd:=h.get 0 rfl;have gh:=h.get 1 rfl;have gj:=h.get 2 rfl;have VG:=h.get 3 rfl;refine⟨c.D,_,_,.non,gd,BD.cl,BD.nM,by kernel_rfl,?_⟩;refine⟨c.D,_,_,.ref a.j,gd,BD.cl,BD.nJ,by kernel_rfl,_,_,gj,by kernel_rfl,a.j,a.jl,a.jx,s.safe,s.rows,rfl,gj,VG,fun lr Xx=>?_⟩;have s1:=aF (o:=.lst s.rows) Xx;have g1:(aH H lr (.lst s.rows)) lr=some (.lst (uW cr)):=by rw[aA,ug]
  generalize aH H lr (.lst s.rows)=H1 at s1 g1 ⊢;refine⟨lr,cr,rfl,g1,hc.same s1,hl,fun t b kl ol m1 m2 H2 GI gt gb RL Xv FD FE=>?_⟩;have s2:=s1.trans GI;have em:m1=(n:Int)/\m2<=turn:=by
   rcases cr with _|⟨r,_|⟨r',rr⟩⟩
   ·have e1:m1=1:=by simpa using FD.1
    have e2:m2=0:=by simpa using FE.1
    have:=Xz rfl;exact⟨Zo,Zo⟩
   ·obtain⟨e1,e2⟩:=hn r Zs;obtain⟨x1,x2⟩:=FD;obtain⟨y1,_⟩:=FE;simp at x1 x2 y1;exact⟨Zo,Zo⟩
   ·exact absurd hl Zs
  obtain⟨rfl,hm⟩:=em;dsimp only [aL];refine⟨_,SqT.of gt,_,rfl,?_⟩;show if decide (turn<m2)=true then _ else _
  refine Oy (decide_eq_false Zo) ?_;dsimp only [eX];have ZX:=s2 _ _ gd;refine⟨c.D,_,_,.int s.life,ZX,BD.cl,BD.nL,by kernel_rfl,fun me mx NB OX hmn=>?_⟩;have nn:∀ {b u},H2 b=some u->(aH (aH H2 mx (.own me)) me (.ins c.M mx [])) b=some u:=fun e=>by rw[aE (aB e NB),aE (aB e OX)];exact e
  refine⟨me,mx,s.life,turn,n,m2,t,b,kl,ol,rfl,aA,nn gt,nn gb,nn RL,nn Xv,fun bk bx bd ks rn kf bs ss H3 G db ds=>⟨rfl,?_⟩⟩;have s3:Same H2 H3:=fun b u e=>G.fr _ _ (nn e) (aB e NB)
  have fr2:∀b,(aH (aH H2 mx (.own me)) me (.ins c.M mx [])) b=none->H2 b=none:=fun b e=>by
   cases z:H2 b with
   | none=>rfl
   | some u=>rw[nn z]at e;cases e
  have fM:∀p∈([(rn,HO.dK []),(kf.ds,.dT ss),(kf.db,.dT bs),(ks,.ins c.Ks kf.dx (uV kf s.life)),(bd,.dK (vW [])),(bk,.ins c.B bx [("amounts",.ref bd)]),(me,.ins c.M mx [("turn",.int turn),("book",.ref bk),("standing",.ref ks),("runs",.ref rn),("next_number",.int n)])]:List (Addr×HO)),H2 p.1=none:=fun p hp=>(G.nw p hp).elim (fun e=>by rw[e];exact NB) (fr2 _)
  have RX:=s2.trans s3;have h3:Own H3 (a.low c s (Ki a s)):=Own.same RX h;refine⟨c.D,_,_,h3.get 0 rfl,BD.cl,BD.nM,(by show 5<1000;decide),?_⟩;dsimp only;have oM:Own (aH H3 a.dr (.ins c.D a.dx (bC "memory" (.ref me) (Ki a s)))) _:=⟨G.own.rev.1,fun p hp=>by
   have hf:=fM p (mem_reverse.mp hp);rw[aE (fun e=>by rw[e,ZX]at hf;cases hf)];exact G.own.rev.2 p hp⟩
  have oL:=Own.set h3 0 rfl (.ins c.D a.dx (bC "memory" (.ref me) (Ki a s)));have oA:=Own.app oL oM fun x hx EO=>by
   obtain⟨p,hp,rfl⟩:=Zmm.mp EO;have hf:=fM p (mem_reverse.mp hp);have LP:p.1∈(a.low c s (Ki a s)).map (·.1):=hx;obtain⟨p',si,e⟩:=Zmm.mp LP;have:=s2 _ _ (h.2 p' si);rw[e,hf]at this;cases this
  have t4:TK H3 (aH H3 a.dr (.ins c.D a.dx (bC "memory" (.ref me) (Ki a s)))):=jR (h3.get 0 rfl) fun _ z=>nomatch z
  have k4:∀b o,H b=some o->b≠a.dr->(aH H3 a.dr (.ins c.D a.dx (bC "memory" (.ref me) (Ki a s)))) b=some o:=fun b o e hb=>by rw[aE hb];exact RX _ _ e
  rw[show bC "memory" (.ref me) (Ki a s)=df {a with me:=me } s by kernel_rfl]at oM oL oA t4 k4 ⊢;generalize aH H3 a.dr (.ins c.D a.dx (df {a with me:=me } s))=H4 at oM oL oA t4 k4 ⊢;have h4:DAt c H4 ⟨a.dr,a.dx,a.hd,a.j,a.jx,a.jl,me,mx,bk,bx,bd,ks,rn,kf⟩ (Uj s turn n):=⟨⟨bs,ss,oA,db.keep t4,ds.keep t4⟩,nodup_nil,List.Pairwise.nil,fun r hr=>nomatch hr⟩;refine⟨c.D,_,_,.ref me,h4.dr,BD.cl,BD.nM,by kernel_rfl,c.M,_,_,.ref rn,h4.me,BM.cl,BM.nR,by kernel_rfl,?_⟩;refine⟨[],_,.inl h4.rn,rfl,Zd,fun l ns ur hp ZR=>?_⟩;have Xw:ns=[]:=perm_nil.mp hp;subst Xw;have s5:=aF (o:=.lst (([]:List Int).map V.int)) ur;refine q l ⟨a.dr,a.dx,a.hd,a.j,a.jx,a.jl,me,mx,bk,bx,bd,ks,rn,kf⟩ _ rfl (h4.same s5) (fun b hb=>?_) (fun b o e hb=>s5 _ _ (k4 b o e hb)) aA;have fr:∀(i:Nat)(p:Addr×HO),[(rn,HO.dK []),(kf.ds,.dT ss),(kf.db,.dT bs),(ks,.ins c.Ks kf.dx (uV kf s.life)),(bd,.dK (vW [])),(bk,.ins c.B bx [("amounts",.ref bd)]),(me,.ins c.M mx [("turn",.int turn),("book",.ref bk),("standing",.ref ks),("runs",.ref rn),("next_number",.int n)])][i]?=some p->H p.1=none:=fun i p e=>s2.free (fM p (lN e))
  simp only [DA.fix,mem_cons,not_mem_nil,or_false]at hb;rcases hb with rfl|rfl|rfl|rfl|rfl|rfl|rfl|rfl|rfl|rfl|rfl
  ·exact .inl Zs
  ·exact .inl Zs
  ·exact .inl Zs
  ·exact .inl Zs
  ·exact .inr (fr 6 _ rfl)
  ·exact .inr (fr 5 _ rfl)
  ·exact .inr (fr 4 _ rfl)
  ·exact .inr (fr 3 _ rfl)
  ·exact .inr (fr 2 _ rfl)
  ·exact .inr (fr 1 _ rfl)
  ·exact .inr (fr 0 _ rfl)
def lC(s:DS)(turn:Int)(q:Str×Str)(d:Addr)(x:Dd)(p dx ra:Addr):DS:={s with turn:=turn,m:=s.m.set q (some (.busy s.next d)),L:=s.L+1,runs:=s.runs++[lV p dx s.next q d x "new"],next:=s.next+1,rows:=s.rows++[.ref ra] }
structure XC where
 (D K N H L:Addr)
def Lw(c:CK)(e:XC)(dr:Addr)(turn:Int)(vA vK vD:V)(H:Hp)(Q:VK)(E:XK):Prop:=
  ((∃a s,dr=a.dr/\Bb c H a s/\E (.ref e.D) none H)∨
   (∃a s,dr=a.dr/\DAt c H a s/\Pt H vA/\Pt H vK ∧
     (((aP vA LET 8&&aP vK (LET++tK) 12)=false/\∀H',Same H H'->E (.ref e.K) none H')∨
      (aP vA LET 8=true/\aP vK (LET++tK) 12=true/\Th H vD/\(∀b xs,vD=.ref b->H b=some (.tup xs)->xs.length<=1000)/\dR H vD=false/\∀H',Same H H'->E (.ref e.N) none H')∨
      (∃(q:Str × Str)(d:Addr)(x:Dd),vA=.str q.1/\vK=.str q.2/\vD=.ref d/\isNm q.1/\isKy q.2/\x.Ok/\H d=some (.tup x.vs) ∧
        (∀(i:Nat)(p:Str×List V),(eC x)[i]?=some p->aT s.hs (Sum.inr p.1)=none->(∀j p',j<i->(eC x)[j]?=some p'->∃v,aT s.hs (Sum.inr p'.1)=some v)->∀dx H',Same H H'->H' dx=some (.xd [("house",.str p.1)])->E (.ref e.H) (some dx) H') ∧
        ((∀p∈eC x,∃v,aT s.hs (Sum.inr p.1)=some v) →
          ((turn<s.turn/\∀H',Same H H'->E (.ref e.L) none H')∨
           (s.turn<=turn/\yX s.life turn (s.m q)=true/\s.L<=500/\(∀r∈s.runs,r.n<s.next)/\s.runs.length<=500/\s.rows.length<=1000/\∀t p dx ra H',DAt c H' a (lC s turn q d x p dx ra)->Mv a s (lC s turn q d x p dx ra) H H'->H' ra=some (.tup [.str "came",.int s.next,.int turn,.str q.1,.str q.2,.ref d])->H' t=some (.tup [.str "begun",.int s.next])->Q (.ref t) H')))))))
def rV(c:CK)(e:XC):Sp:=fun vs H Q E=>∃(dr:Addr)(turn:Int)(vA vK vD:V),vs=[.ref dr,.int turn,vA,vK,vD]/\Lw c e dr turn vA vK vD H Q E
structure Wn(K:W.Frag)(mg:Str->Option Value)(e:XC)(fH:Addr):Prop where
 xD:XCls K mg "Down" e.D
 xK:XCls K mg "NoKey" e.K
 xN:XCls K mg "NoDeed" e.N
 xH:XClsI K mg "NoHouse" e.H fH
 xL:XCls K mg "Late" e.L
def Gu{c:CK}{e:XC}{fH:Addr}(T:Txt K mg)(XT:Wn K mg e fH)(BD:Kh K c.D)(BM:Lq K c.M)(d9:jA P w K mg base 1 c.D "known" ["self"] (fW c e.D))(J9:aI P w K mg base 2 "is_name" ["thing"] (kQ LET 8))(GZ:aI P w K mg base 2 "is_key" ["thing"] (kQ (LET++tK) 12))(FL:aI P w K mg base 4 "is_deed" ["thing"] tM)(FN:aI P w K mg base 1 "asks_of" ["deed"] Fb)(mh:jA P w K mg base 3 c.D "house_of" ["self","name"] (uO c e.H))(yi:eW P w K mg base 3 c.Ks "look" ["self","asker","key","turn"] (Fo c.Ks))(qc:eW P w K mg base 4 c.M "begin" ["self","asker","key","deed"] (uM c))(mi:eW P w K mg base 1 c.J "write" ["self","row"] (uL c.J))(D:MethAt K c.D "come" "Door.come" fA ["self","turn","asker","key","deed"]):jA P w K mg base 5 c.D "come" ["self","turn","asker","key","deed"] (rV c e):=by
 have KC:=XT.xK;have HA:=XT.xN;have NF:=XT.xL;refine D.goX cE (fun vs H Q E h=>?_) (fun f cdv A outer s H vs Q E hr h=>?_)
 ·obtain⟨dr,turn,vA,vK,vD,rfl,_⟩:=h;rfl
 ·obtain⟨dr,turn,vA,vK,vD,rfl,h⟩:=h;have d6:Room 1 _:=hr.mono Zd;have C2:Room 2 _:=hr.mono Zd;have FO:Room 2 _:=hr.mono Zd;have zw:Room 4 _:=hr;have zx:Room 1 _:=hr.mono Zd;have Y7:Room 3 _:=hr.mono Zd;have vf:Room 3 _:=hr.mono Zd;have mj:Room 4 _:=hr;have Y8:Room 1 _:=hr.mono Zd;refine⟨_,(R.ae (R.ai (i:=5) cE.nd (R.cy d9 d6 nO (R.v 0))) (R.ae (R.aq (R.tw (R.cb (R.bi (R.az (R.fn J9 C2 rfl (R.aa (R.v 2) R.ac)))) (R.cc (R.bi (R.az (R.fn GZ FO rfl (R.aa (R.v 3) R.ac))))))) (R.af (R.dw KC iN rfl (R.aa R.ag R.ac))) R.ar) (R.ae (R.aq (R.bi (R.az (R.fn FL zw rfl (R.aa (R.v 4) R.ac)))) (R.af (R.dw HA iN rfl (R.aa R.ag R.ac))) R.ar) (R.ae (R.bt Ak rfl (R.gv (K:=K) (R.fn FN zx rfl (R.aa (R.v 4) R.ac))) (R.dt (K:=K) (n:=2) rfl (R.bg (R.gn (i:=6) cE.nd) (R.bg (R.gn (i:=7) cE.nd) R.du))) (R.af (R.bc (R.dy mh Y7 nO (R.v 0) (R.aa (R.v 6) R.ac))))) (R.ae (R.aq (R.am R.lt (R.v 1) (R.al (K:=K) (R.v 5))) (R.af (R.dw NF iN rfl (R.aa R.ag R.ac))) R.ar) (R.ae (R.av (K:=K) (R.v 5) (R.v 1)) (R.ae (R.ai (i:=8) cE.nd (R.br yi vf (R.al (K:=K) (R.v 5)) (R.aa (R.v 2) (R.aa (R.v 3) (R.aa (R.v 1) R.ac))))) (R.ae (R.aq (R.am R.ne (R.ix (R.ao (K:=K)) (R.v 8) R.ad) R.ag) (R.af R.ay) R.ar) (R.ae (R.ai (i:=9) cE.nd (R.br qc mj (R.v 5) (R.aa (R.v 2) (R.aa (R.v 3) (R.aa (R.v 4) R.ac))))) (R.ae (R.bc (R.br mi Y8 (R.al (K:=K) (R.v 0)) (R.aa (R.aj (R.aa R.ag (R.aa (R.v 9) (R.aa (R.v 1) (R.aa (R.v 2) (R.aa (R.v 3) (R.aa (R.v 4) R.ac))))))) R.ac))) (R.af (R.ah (R.aj (R.aa R.ag (R.aa (R.v 9) R.ac))))))))))))))),?_⟩;rcases h with⟨a,s,rfl,h,q⟩|⟨a,s,rfl,h,⟨k1,hA,hA'⟩,⟨k2,hK,ZY⟩,hh⟩
  ·exact⟨_,_,h.get 0 rfl,by kernel_rfl,a,s,rfl,.inr ⟨h,q⟩⟩
  refine⟨_,_,h.dr,by kernel_rfl,a,s,rfl,.inl ⟨h,?_⟩⟩;dsimp only [aL];refine⟨vA,k1,rfl,hA,hA',fun H1 s1=>?_⟩;rcases hh with⟨RY,q⟩|hh
  ·show if (!aP vA LET 8)=true then _ else _
   refine iY (fun _=>⟨Zd,q H1 s1⟩) (fun hb=>?_);refine⟨vK,k2,rfl,hK.same s1,ZY,fun H2 s2=>?_⟩;have Y5:aP vA LET 8=true:=by cases z:aP vA LET 8<;>rw[z]at hb<;>first|rfl|cases hb
   rw[Y5,Bool.true_and]at RY;rw[RY];exact⟨Zd,q H2 (s1.trans s2)⟩
  have hmA:aP vA LET 8=true:=by
   rcases hh with⟨z,_⟩|⟨q,d,x,rfl,rfl,rfl,hq1,_⟩
   ·exact z
   ·exact dY hq1
  have hmK:aP vK (LET++tK) 12=true:=by
   rcases hh with⟨_,z,_⟩|⟨q,d,x,rfl,rfl,rfl,_,hq2,_⟩
   ·exact z
   ·exact Lu hq2
  rw[hmA];refine⟨vK,k2,rfl,hK.same s1,ZY,fun H2 s2=>?_⟩;rw[hmK];have k2:=s1.trans s2;rcases hh with⟨_,_,VI,hxl,RH,q⟩|⟨q,d,x,rfl,rfl,rfl,hq1,hq2,hx,hd,EH,QB⟩
  ·have e2:dR H2 vD=false:=by
    rw[<- RH];obtain⟨⟨kk,EW,_⟩,_⟩:=VI;unfold dR;cases vD with
    | ref b=>
     dsimp only;cases kk with
     | tup=>obtain⟨xs,g⟩:=EW;rw[k2 _ _ g,g]
     | lst=>
      rcases EW with⟨xs,g⟩|⟨o,xs,g⟩
      ·rw[k2 _ _ g,g]
      ·rw[k2 _ _ g,g]
     | dct=>obtain⟨kv,g⟩:=EW;rw[k2 _ _ g,g]
     | _=>exact EW.elim
    | _=>rfl
   refine⟨vD,rfl,⟨VI.1.same k2,fun b xs e g y hy=>?_⟩,fun b xs e g=>?_,fun H3 s3=>?_⟩
   ·subst e;obtain⟨⟨kk,EW,_⟩,JC⟩:=VI;have g0:H b=some (.tup xs):=by
     cases kk with
     | tup=>obtain⟨zl,g'⟩:=EW;rw[k2 _ _ g']at g;rw[g'];exact g
     | lst=>
      rcases EW with⟨zl,g'⟩|⟨o,zl,g'⟩
      ·rw[k2 _ _ g']at g;cases g
      ·rw[k2 _ _ g']at g;cases g
     | dct=>obtain⟨kv,g'⟩:=EW;rw[k2 _ _ g']at g;cases g
     | _=>exact EW.elim
    exact(JC b xs rfl g0 y hy).same k2
   ·subst e;obtain⟨⟨kk,EW,_⟩,JC⟩:=VI;have g0:H b=some (.tup xs):=by
     cases kk with
     | tup=>obtain⟨zl,g'⟩:=EW;rw[k2 _ _ g']at g;rw[g'];exact g
     | lst=>
      rcases EW with⟨zl,g'⟩|⟨o,zl,g'⟩
      ·rw[k2 _ _ g']at g;cases g
      ·rw[k2 _ _ g']at g;cases g
     | dct=>obtain⟨kv,g'⟩:=EW;rw[k2 _ _ g']at g;cases g
     | _=>exact EW.elim
    exact hxl b xs rfl g0
   ·rw[e2];exact⟨Zd,q H3 (k2.trans s3)⟩
  refine⟨.ref d,rfl,Tw hx (k2 _ _ hd),fun b xs e g=>?_,fun H3 s3=>?_⟩
  ·cases e;rw[k2 _ _ hd]at g;cases g;cases x<;>exact bB rfl
  have k3:=k2.trans s3;rw[show dR H2 (.ref d)=true by unfold dR;simp only [k2 _ _ hd];exact Kg hx];refine⟨d,x.wd,x.vs,Lm x,eC x,rfl,k3 _ _ hd,Py x,fun ta us H4 s4 ZZ pus=>?_⟩;have k4:=k3.trans s4;have h4:=h.same k4;refine⟨ta,rfl,⟨_,SqT.of ZZ⟩,lX (xY K ta us) (fun i σ H'=>H'=H4/\(∀j p',j<i->(eC x)[j]?=some p'->∃v,aT s.hs (Sum.inr p'.1)=some v)/\∃o6 o7,σ=[some (.ref a.dr),some (.int turn),some (.str q.1),some (.str q.2),some (.ref d),some (.ref a.me),o6,o7,none,none]) (fun i σ H' e=>by rw[e.1];exact SqT.of ZZ) ⟨rfl,(fun _ _ h=>nomatch h),_,_,rfl⟩ ?_ fun σ H' e=>?_⟩
  ·rintro i v σ H' hv ⟨rfl,hj,o6,o7,rfl⟩;obtain⟨hi,ei⟩:=Zgs.mp hv;obtain⟨GP,b,dd,e,gb,gd⟩:=Paired.get' (j:=i) pus hi;rw[ei]at e;subst e;refine⟨b,_,rfl,SqT.of gb,rfl,_,_,rfl,_,_,rfl,rfl,?_⟩;dsimp only [aL];refine⟨_,_,h4.dr,by kernel_rfl,a,s,_,rfl,h4,fun v' VZ=>⟨rfl,fun j p' hji si=>?_,_,_,rfl⟩,fun MJ dx H5 s5 g5=>EH i _ (kI GP) MJ hj dx H5 (k4.trans s5) g5⟩;rcases Nat.lt_or_ge j i with z|z
   ·exact hj j p' z si
   ·obtain rfl:j=i:=by omega
    rw[kI GP]at si;cases si;exact⟨v',VZ⟩
  obtain⟨rfl,hj,o6,o7,rfl⟩:=e;have GL:∀p∈eC x,∃v,aT s.hs (Sum.inr p.1)=some v:=fun p hp=>by
   obtain⟨j,RZ,ej⟩:=List.mem_iff_getElem.mp hp;exact hj j p (by rw[<- pus.length];exact RZ) (by rw[kI RZ,ej])
  refine⟨c.M,_,_,.int s.turn,h4.me,BM.cl,BM.nT,by kernel_rfl,?_⟩;show if decide (turn<s.turn)=true then _ else _
  rcases QB GL with⟨X1,q⟩|⟨hle,EU,hL,VF,hrl,hro,QB⟩
  ·refine Vm (decide_eq_true X1) ?_;exact⟨Zd,q _ k4⟩
  refine Oy (decide_eq_false Zo) ?_;dsimp only [eX];refine⟨c.M,a.mx,_,h4.me,BM.cl,BM.nT,(by show 5<1000;decide),?_⟩;dsimp only;rw[show bC "turn" (.int turn) (mf a s.turn s.next)=mf a turn s.next by kernel_rfl];obtain⟨h5,v5⟩:=h4.put (H':=aH H' a.me (.ins c.M a.mx (mf a turn s.next))) 4 {s with turn:=turn } (fun _ _=>rfl) (fun _ _=>rfl) aA (fun b u e hb=>by rw[aE hb];exact e) rfl rfl h.nd rfl;have w5:=(Mv.same (a:=a) (s:=s) k4).trans v5;generalize aH H' a.me (.ins c.M a.mx (mf a turn s.next))=H5 at h5 v5 w5 ⊢;refine⟨c.M,_,_,.ref a.ks,h5.me,BM.cl,BM.nS,by kernel_rfl,a.kf.dx,_,h5.ks,Fn _ _ Zk Zk Zk,a.ks,a.kf,s.life,s.m,s.L,q,turn,rfl,h5.ky,fun sn H6 s6 gsn=>?_⟩;dsimp only [aL];have h6:=h5.same s6;have w6:=w5.trans (.same s6);have hd6:=w6.tk h _ _ hd;rw[Bd EU]at gsn;refine⟨_,SqT.of gsn,_,rfl,?_⟩;dsimp only [eX];have hnb:∀n' d',s.m q≠some (.busy n' d'):=fun n' d' e=>by rw[e]at EU;cases EU
  refine⟨_,_,h6.me,by kernel_rfl,a,_,q,d,x,rfl,h6,hL,hnb,hd6,VF,hrl,fun p dx H7 h7 v7=>?_⟩;dsimp only [aL];have w7:=w6.trans v7;refine⟨c.D,_,_,.ref a.j,h7.dr,BD.cl,BD.nJ,by kernel_rfl,_,_,h7.j,by kernel_rfl,bB rfl,fun ra H8 s8 SA=>?_⟩;have h8:=h7.same s8;refine⟨a.j,a.jl,a.jx,s.safe,s.rows,.ref ra,rfl,h8.j,h8.jl,hro,?_⟩;obtain⟨h9,v9⟩:=h8.put (H':=aH H8 a.jl (.lst (s.rows++[.ref ra]))) 3 (lC s turn q d x p dx ra) (fun _ _=>rfl) (fun _ _=>rfl) aA (fun b u e hb=>by rw[aE hb];exact e) rfl rfl h.nd rfl;have g9:=v9.tk h8 _ _ SA;have w9:=(w7.trans (.same s8)).trans v9;generalize aH H8 a.jl (.lst (s.rows++[.ref ra]))=H9 at h9 g9 w9 ⊢;exact⟨bB rfl,fun t JF XD gt=>QB t p dx ra JF (h9.same XD) (w9.trans (.same XD)) (XD _ _ g9) gt⟩
def XC.at(e:XC):Nat->Addr
 | 0=>e.D
 | 1=>e.K
 | 2=>e.N
 | 3=>e.H
 | _=>e.L
inductive RefBy(c:CK)(H:Hp)(a:DA)(s:DS)(turn:Int)(vA vK vD:V):Nat->Str->Prop where
 | down (z:Str) (h:Bb c H a s):RefBy c H a s turn vA vK vD 0 z
 | key (z:Str) (h:DAt c H a s) (hA:Pt H vA) (hK:Pt H vK) (hb:(aP vA LET 8&&aP vK (LET++tK) 12)=false):RefBy c H a s turn vA vK vD 1 z
 | deed (z:Str) (h:DAt c H a s) (hA:Pt H vA) (hK:Pt H vK) (h1:aP vA LET 8=true) (h2:aP vK (LET++tK) 12=true) (ht:Th H vD) (hl:∀b xs,vD=.ref b->H b=some (.tup xs)->xs.length<=1000) (hd:dR H vD=false):RefBy c H a s turn vA vK vD 2 z
 | house (h:DAt c H a s) (q:Str×Str) (d:Addr) (x:Dd) (eA:vA=.str q.1) (eK:vK=.str q.2) (eD:vD=.ref d) (hq1:isNm q.1) (hq2:isKy q.2) (hx:x.Ok) (hd:H d=some (.tup x.vs)) (i:Nat) (p:Str×List V) (hi:(eC x)[i]?=some p) (hn:aT s.hs (Sum.inr p.1)=none) (hj:∀j p',j<i->(eC x)[j]?=some p'->∃v,aT s.hs (Sum.inr p'.1)=some v):RefBy c H a s turn vA vK vD 3 p.1
 | late (z:Str) (h:DAt c H a s) (q:Str×Str) (d:Addr) (x:Dd) (eA:vA=.str q.1) (eK:vK=.str q.2) (eD:vD=.ref d) (hq1:isNm q.1) (hq2:isKy q.2) (hx:x.Ok) (hd:H d=some (.tup x.vs)) (ha:∀p∈eC x,∃v,aT s.hs (Sum.inr p.1)=some v) (ht:turn<s.turn):RefBy c H a s turn vA vK vD 4 z
def RefBy.lt{c:CK}{H:Hp}{a:DA}{s:DS}{turn:Int}{vA vK vD:V}{k:Nat}{z:Str}(h:RefBy c H a s turn vA vK vD k z):k<=4:=by
 cases h<;>decide
def RefBy.come{c:CK}{e:XC}{H:Hp}{a:DA}{s:DS}{turn:Int}{vA vK vD:V}{k:Nat}{z:Str}{Q:VK}{E:XK}(h:RefBy c H a s turn vA vK vD k z)(hE:∀od H',Same H H'->(k=3->∃dx,od=some dx/\H' dx=some (.xd [("house",.str z)]))->E (.ref (e.at k)) od H') :
  Lw c e a.dr turn vA vK vD H Q E:=by
 have h1:k≠3->∀H',Same H H'->E (.ref (e.at k)) none H':=fun hk H' s'=>hE none H' s' fun z=>absurd z hk
 have h2:k=3->∀dx H',Same H H'->H' dx=some (.xd [("house",.str z)])->E (.ref e.H) (some dx) H':=fun hk dx H' s' g=>by subst hk;exact hE (some dx) H' s' fun _=>⟨dx,rfl,g⟩
 cases h with
 | down z h=>exact .inl ⟨a,s,rfl,h,h1 Zd H (Same.refl _)⟩
 | key z h hA hK hb=>exact .inr ⟨a,s,rfl,h,hA,hK,.inl ⟨hb,h1 Zd⟩⟩
 | deed z h hA hK m1 m2 ht hl hd=>exact .inr ⟨a,s,rfl,h,hA,hK,.inr (.inl ⟨m1,m2,ht,hl,hd,h1 Zd⟩)⟩
 | house h q d x eA eK eD hq1 hq2 hx hd i p hi hn hj=>
  subst eA eK eD;refine .inr ⟨a,s,rfl,h,aQ hq1.len,aQ hq2.len,.inr (.inr ⟨q,d,x,rfl,rfl,rfl,hq1,hq2,hx,hd,fun i' p' GP MD RZ dx H' s' g=>?_,fun GL=>?_⟩)⟩
  ·rcases lt_trichotomy i' i with w|w|w
   ·obtain⟨v,hv⟩:=hj i' p' w GP;rw[MD]at hv;cases hv
   ·subst w;rw[hi]at GP;cases GP;exact h2 rfl dx H' s' g
   ·obtain⟨v,hv⟩:=RZ i p w hi;rw[hn]at hv;cases hv
  ·obtain⟨v,hv⟩:=GL p (lN hi);rw[hn]at hv;cases hv
 | late z h q d x eA eK eD hq1 hq2 hx hd ha ht=>
  subst eA eK eD;refine .inr ⟨a,s,rfl,h,aQ hq1.len,aQ hq2.len,.inr (.inr ⟨q,d,x,rfl,rfl,rfl,hq1,hq2,hx,hd,fun i' p' GP MD RZ=>?_,fun _=>.inl ⟨ht,h1 Zd⟩⟩)⟩;obtain⟨v,hv⟩:=ha p' (lN GP);rw[MD]at hv;cases hv
def fJ(k:Nat):List Bool:=[decide (0=k),decide (1=k),decide (2=k),decide (3=k),decide (4=k),true]
def Hb(b:Bool):TV:=.sc (.bl b)
def kF(k:Nat)(z:Str):TV:=.ls ([.ls ((fJ k).map Hb),.ls [Hb false,Hb false]]++if k=3 then [.sc (.str z)] else [])
structure Bg(K:W.Frag)(e:XC)(CD:Addr)(A1 A2:List Addr)(k:Nat):Prop where
 xm:W.exmOne K (.ref (e.at k)) (.ref CD)=some true
 xk:gV K (e.at k)
 k0:W.kitOne K (.ref (e.at k)) (.ref e.D)=some (decide (0=k))
 k1:W.kitOne K (.ref (e.at k)) (.ref e.K)=some (decide (1=k))
 k2:W.kitOne K (.ref (e.at k)) (.ref e.N)=some (decide (2=k))
 k3:W.kitOne K (.ref (e.at k)) (.ref e.H)=some (decide (3=k))
 k4:W.kitOne K (.ref (e.at k)) (.ref e.L)=some (decide (4=k))
 kV:W.kitOne K (.ref (e.at k)) (.type "ValueError")=some true
 a1:W.kitAny K (.ref (e.at k)) (A1.map Value.ref)=some false
 a2:W.kitAny K (.ref (e.at k)) (A2.map Value.ref)=some false
structure Tx(K:W.Frag)(mg:Str->Option Value)(e:XC)(CD:Addr)(A1 A2:List Addr):Prop where
 m:mg "DoorError"=some (.ref CD)
 m0:mg "Down"=some (.ref e.D)
 m1:mg "NoKey"=some (.ref e.K)
 m2:mg "NoDeed"=some (.ref e.N)
 m3:mg "NoHouse"=some (.ref e.H)
 m4:mg "Late"=some (.ref e.L)
 x:∀k,k<=4->Bg K e CD A1 A2 k
 hd:W.hasDictIn K e.H=true
 nu:W.findIn K (.ref e.H) "house"=some none
def iV(c:CK):Sp:=fun vs H Q _=>∃(a:DA)(s:DS)(turn:Int)(vA vK vD:V)(k:Nat)(z:Str),vs=[.ref a.dr,.int turn,vA,vK,vD]/\RefBy c H a s turn vA vK vD k z/\∀v H',Same H H'->Rep H' 3 (kF k z) v->Q v H'
def oC{H:Hp}{n:Nat}:∀bs:List Bool,Paired (Rep H (n+1)) (bs.map Hb) (bs.map V.bl)
 | []=>.nil
 | b::r=>.cons ⟨rfl,rfl⟩ (oC r)
def wR{c:CK}{e:XC}{CD a1 a2 a3 a4 a5 a6 a7 a8 a9 SE b1 b2 b3:Addr}(T:Txt K mg)(hVE:mg "ValueError"=none)(M:Tx K mg e CD [a1,a2,a3,a4,a5,a6,a7,a8,a9,SE] [b1,b2,b3])(NG:mg "Busy"=some (.ref a1))(KD:mg "NoAsk"=some (.ref a2))(zy:mg "NoChange"=some (.ref a3))(yj:mg "NoJournal"=some (.ref a4))(HC:mg "NoLine"=some (.ref a5))(HD:mg "NoName"=some (.ref a6))(zz:mg "NoNumber"=some (.ref a7))(KG:mg "NoRow"=some (.ref a8))(HE:mg "NoRows"=some (.ref a9))(KH:mg "NoWay"=some (.ref SE))(KJ:mg "Other"=some (.ref b1))(HF:mg "Unsafe"=some (.ref b2))(XH:mg "Up"=some (.ref b3))(F0:jA P w K mg base 5 c.D "come" ["self","turn","asker","key","deed"] (rV c e))(D:DefAt K mg "_law_refused" dN ["_law_door","_law_turn","_law_asker","_law_key","_law_deed"]):aI P w K mg base 6 "_law_refused" ["_law_door","_law_turn","_law_asker","_law_key","_law_deed"] (iV c):=by
 have yk:=M.m;have NH:=M.m0;have KN:=M.m1;have HG:=M.m2;have uh:=M.m3;have NI:=M.m4;refine D.go aY (fun vs H Q E h=>?_) (fun f cdv A outer s H vs Q E hr h=>?_)
 ·obtain⟨a,s,turn,vA,vK,vD,k,z,rfl,_⟩:=h;rfl
 ·obtain⟨a,s,turn,vA,vK,vD,k,z,rfl,hR,q⟩:=h;have C1:Room 5 _:=hr;have X:=M.x k hR.lt;refine⟨_,(R.ae (R.ai (i:=5) aY.nd R.bo) (R.ae (R.ja (K:=K) (i:=6) yk rfl aY.nd (fun pn Ex=>(R.af (R.bc (R.dy F0 C1 rH (R.v 0) (R.aa (R.v 1) (R.aa (R.v 2) (R.aa (R.v 3) (R.aa (R.v 4) R.ac)))))))) (fun a=>(R.ae (R.ai (i:=7) aY.nd (R.aw (R.aa (R.ax (R.bu (K:=K)) rfl T.b_isinstance bE (R.aa (R.v 6) (R.aa (R.gR rfl NH) R.ac))) (R.aa (R.ax (R.bu (K:=K)) rfl T.b_isinstance bE (R.aa (R.v 6) (R.aa (R.gR rfl KN) R.ac))) (R.aa (R.ax (R.bu (K:=K)) rfl T.b_isinstance bE (R.aa (R.v 6) (R.aa (R.gR rfl HG) R.ac))) (R.aa (R.ax (R.bu (K:=K)) rfl T.b_isinstance bE (R.aa (R.v 6) (R.aa (R.gR rfl uh) R.ac))) R.ac)))))) (R.ae (R.ai (i:=7) aY.nd (R.op R.bh (R.v 7) (R.aw (R.aa (R.ax (R.bu (K:=K)) rfl T.b_isinstance bE (R.aa (R.v 6) (R.aa (R.gR rfl NI) R.ac))) (R.aa (R.ax (R.bu (K:=K)) rfl T.b_isinstance bE (R.aa (R.v 6) (R.aa (R.fk rfl hVE oK) R.ac))) R.ac))))) (R.ae (R.ai (i:=8) aY.nd (R.aw (R.aa (R.ax (R.bu (K:=K)) rfl T.b_isinstance bE (R.aa (R.v 6) (R.aa (R.dn (R.aa (R.gR rfl NG) (R.aa (R.gR rfl KD) (R.aa (R.gR rfl zy) (R.aa (R.gR rfl yj) (R.aa (R.gR rfl HC) (R.aa (R.gR rfl HD) (R.aa (R.gR rfl zz) (R.aa (R.gR rfl KG) (R.aa (R.gR rfl HE) (R.aa (R.gR rfl KH) R.ac))))))))))) R.ac))) R.ac))) (R.ae (R.ai (i:=8) aY.nd (R.op R.bh (R.v 8) (R.aw (R.aa (R.ax (R.bu (K:=K)) rfl T.b_isinstance bE (R.aa (R.v 6) (R.aa (R.dn (R.aa (R.gR rfl KJ) (R.aa (R.gR rfl HF) (R.aa (R.gR rfl XH) R.ac)))) R.ac))) R.ac)))) (R.ae (R.ai (i:=5) aY.nd (R.aw (R.aa (R.v 7) (R.aa (R.v 8) R.ac)))) (R.af (R.aq (R.az (R.ax (R.bu (K:=K)) rfl T.b_isinstance bE (R.aa (R.v 6) (R.aa (R.gR rfl uh) R.ac)))) (R.af (R.ai (i:=5) aY.nd (R.op R.bh (R.v 5) (R.aw (R.aa (R.jb (K:=K) (R.v 6)) R.ac))))) R.ar))))))))) (R.af (R.ah (R.v 5))))),?_⟩;refine cT (fun σ' H'=>σ'=[some (.ref a.dr),some (.int turn),some vA,some vK,some vD,some .non,none,none,none]/\H=H') (fun nx y8=>y8 _ _ ⟨rfl,rfl⟩) ?_;rintro _ _ ⟨rfl,rfl⟩;refine cT (fun σ' H'=>∃v o6 o7 o8,σ'=[some (.ref a.dr),some (.int turn),some vA,some vK,some vD,some v,o6,o7,o8]/\Same H H'/\Rep H' 3 (kF k z) v) (fun nx y8=>?_) ?_
  ·have XJ:∃fs,H a.dr=some (.ins c.D a.dx fs)/\fs.lookup ("come":Str)=none:=by
    cases hR with
    | down z h=>exact⟨_,h.get 0 rfl,by kernel_rfl⟩
    | key z h=>exact⟨_,h.dr,by kernel_rfl⟩
    | deed z h=>exact⟨_,h.dr,by kernel_rfl⟩
    | house h=>exact⟨_,h.dr,by kernel_rfl⟩
    | late z h=>exact⟨_,h.dr,by kernel_rfl⟩
   obtain⟨fs,XJ,Xb⟩:=XJ;refine⟨a.dx,fs,XJ,Xb,a.dr,turn,vA,vK,vD,rfl,?_⟩;refine RefBy.come hR fun od G sG zd=>⟨X.xm,fun x hx=>?_⟩;have s1:=aF (o:=.ext (lP x (.ref (e.at k)) od)) hx;have ge:(aH G x (.ext (lP x (.ref (e.at k)) od))) x=some (.ext (lP x (.ref (e.at k)) od)):=aA;have sG1:=sG.trans s1;have SG:k=3->∃dx,od=some dx/\(aH G x (.ext (lP x (.ref (e.at k)) od))) dx=some (.xd [("house",.str z)]):=fun hk=>let ⟨dx,e1,g⟩:=zd hk;⟨dx,e1,s1 _ _ g⟩
   generalize aH G x (.ext (lP x (.ref (e.at k)) od))=G1 at ge sG1 SG ⊢;clear s1 zd hx;refine⟨_,_,_,ge,X.xk,.inr X.k0,_,_,_,ge,X.xk,.inr X.k1,_,_,_,ge,X.xk,.inr X.k2,_,_,_,ge,X.xk,.inr X.k3,eY rfl,fun l0 h0=>?_⟩;dsimp only [aL];have s2:=aF (o:=.lst [.bl (decide (0=k)),.bl (decide (1=k)),.bl (decide (2=k)),.bl (decide (3=k))]) h0;have g0:(aH G1 l0 (.lst [.bl (decide (0=k)),.bl (decide (1=k)),.bl (decide (2=k)),.bl (decide (3=k))])) l0=some (.lst [.bl (decide (0=k)),.bl (decide (1=k)),.bl (decide (2=k)),.bl (decide (3=k))]):=aA;generalize aH G1 l0 (.lst [.bl (decide (0=k)),.bl (decide (1=k)),.bl (decide (2=k)),.bl (decide (3=k))])=G2 at s2 g0 ⊢;have XQ:=s2 _ _ ge;refine⟨_,_,_,XQ,X.xk,.inr X.k4,_,_,_,XQ,X.xk,X.kV,eY rfl,fun m1 FD=>⟨_,_,aF FD _ _ g0,aA,eY rfl,fun l1 h1=>?_⟩⟩;dsimp only [aL,cons_append,List.nil_append];obtain⟨G3,e3⟩:∃G3,G3=aH (aH G2 m1 (.lst [.bl (decide (4=k)),.bl true])) l1 (.lst ((fJ k).map V.bl)):=⟨_,rfl⟩;have s3:Same G2 G3:=e3▸(aF FD).trans (aF h1);have g1:G3 l1=some (.lst ((fJ k).map V.bl)):=e3▸aA;show oG _ _ _ [some (.ref a.dr),some (.int turn),some vA,some vK,some vD,some .non,some (.ref x),some (.ref l1),none] (aH (aH G2 m1 (.lst [.bl (decide (4=k)),.bl true])) l1 (.lst ((fJ k).map V.bl)));rw[<- e3];clear e3;have ge3:=s3 _ _ XQ;refine⟨eY rfl,fun q1 hq1=>⟨_,false,_,aF hq1 _ _ ge3,X.xk,.inl ⟨[a1,a2,a3,a4,a5,a6,a7,a8,a9,SE],aA,X.a1⟩,eY rfl,fun l2 h2=>?_⟩⟩;dsimp only [aL];obtain⟨G4,e4⟩:∃G4,G4=aH (aH G3 q1 (.tup [.ref a1,.ref a2,.ref a3,.ref a4,.ref a5,.ref a6,.ref a7,.ref a8,.ref a9,.ref SE])) l2 (.lst [.bl false]):=⟨_,rfl⟩;have s4:Same G3 G4:=e4▸(aF hq1).trans (aF h2);have g2:G4 l2=some (.lst [.bl false]):=e4▸aA;show oG _ _ _ [some (.ref a.dr),some (.int turn),some vA,some vK,some vD,some .non,some (.ref x),some (.ref l1),some (.ref l2)] (aH (aH G3 q1 (.tup [.ref a1,.ref a2,.ref a3,.ref a4,.ref a5,.ref a6,.ref a7,.ref a8,.ref a9,.ref SE])) l2 (.lst [.bl false]));rw[<- e4];clear e4;have ge4:=s4 _ _ ge3;refine⟨eY rfl,fun q2 hq2=>⟨_,false,_,aF hq2 _ _ ge4,X.xk,.inl ⟨[b1,b2,b3],aA,X.a2⟩,eY rfl,fun m2 FE=>⟨_,_,aF FE _ _ (aF hq2 _ _ g2),aA,eY rfl,fun l3 h3=>?_⟩⟩⟩;dsimp only [aL,cons_append,List.nil_append];obtain⟨G5,e5⟩:∃G5,G5=aH (aH (aH G4 q2 (.tup [.ref b1,.ref b2,.ref b3])) m2 (.lst [.bl false])) l3 (.lst [.bl false,.bl false]):=⟨_,rfl⟩;have s5:Same G4 G5:=e5▸((aF hq2).trans (aF FE)).trans (aF h3);have g3:G5 l3=some (.lst [.bl false,.bl false]):=e5▸aA;show oG _ _ _ [some (.ref a.dr),some (.int turn),some vA,some vK,some vD,some .non,some (.ref x),some (.ref l1),some (.ref l3)] (aH (aH (aH G4 q2 (.tup [.ref b1,.ref b2,.ref b3])) m2 (.lst [.bl false])) l3 (.lst [.bl false,.bl false]));rw[<- e5];clear e5;have ge5:=s5 _ _ ge4;refine⟨eY rfl,fun l4 h4=>?_⟩;dsimp only [aL];have s6:=aF (o:=.lst [.ref l1,.ref l3]) h4;have g4:(aH G5 l4 (.lst [.ref l1,.ref l3])) l4=some (.lst [.ref l1,.ref l3]):=aA;generalize aH G5 l4 (.lst [.ref l1,.ref l3])=G6 at s6 g4 ⊢;have s26:=((s3.trans s4).trans s5).trans s6;have sA:=(sG1.trans s2).trans s26;have ge6:=s6 _ _ ge5;have PD:=s6 _ _ (s5 _ _ (s4 _ _ g1));have PF:=s6 _ _ g3;have two:∀ {G:Hp},Same G6 G->Rep G 2 (.ls ((fJ k).map Hb)) (.ref l1)/\Rep G 2 (.ls [Hb false,Hb false]) (.ref l3):=fun sg=>⟨⟨l1,_,rfl,sg _ _ PD,oC _⟩,⟨l3,_,rfl,sg _ _ PF,oC [false,false]⟩⟩
   refine⟨_,_,_,ge6,X.xk,.inr X.k3,?_⟩;show if decide (3=k)=true then _ else _
   refine iY (fun hk=>?_) (fun hk=>?_)
   ·obtain rfl:3=k:=of_decide_eq_true hk;obtain⟨dx,rfl,gx⟩:=SG rfl;have lk1:([(("house":Str),V.str z)]).lookup ("house":Str)=some (.str z):=by rw[lookup_cons];simp
    refine⟨x,_,dx,_,.str z,rfl,ge6,s26 _ _ (s2 _ _ gx),X.xk,M.hd,M.nu,lk1,eY rfl,fun l5 h5=>⟨_,_,aF h5 _ _ g4,aA,eY rfl,fun l6 h6=>?_⟩⟩;have s7:=(aF (o:=.lst [.str z]) h5).trans (aF (o:=.lst ([.ref l1,.ref l3]++[.str z])) h6);obtain⟨r1,r2⟩:=two s7;exact y8 _ _ ⟨.ref l6,_,_,_,rfl,sA.trans s7,l6,_,rfl,aA,.cons r1 (.cons r2 (.cons ⟨rfl,rfl⟩ .nil))⟩
   ·have JD:k≠3:=fun z=>of_decide_eq_false hk z.symm
    obtain⟨r1,r2⟩:=two (Same.refl _);refine y8 _ _ ⟨.ref l4,_,_,_,rfl,sA,l4,_,rfl,g4,?_⟩;rw[if_neg JD];exact .cons r1 (.cons r2 .nil)
  rintro _ H' ⟨v,o6,o7,o8,rfl,s',r'⟩;exact q v H' s' r'
def kG:Sp:=fun vs H Q _=>∃(k:Nat)(z:Str),vs=[.int (k:Int),.str z]/\k<=4/\∀v H',Same H H'->Rep H' 3 (kF k z) v->Q v H'
def Bh(T:Txt K mg)(D:DefAt K mg "_law_told" eT ["_law_which","_law_house"]):aI P w K mg base 1 "_law_told" ["_law_which","_law_house"] kG:=by
 refine D.go iG (fun vs H Q E h=>?_) (fun f cdv A outer s H vs Q E hr h=>?_)
 ·obtain⟨k,z,rfl,_⟩:=h;rfl
 ·obtain⟨k,z,rfl,hk,q⟩:=h;refine⟨_,(R.ae (R.ai (i:=2) iG.nd (R.aw (R.aa (R.bb rfl (js:=[none,some 0]) (N:=["_law_k","_law_which"]) (CompScope.by (aD eT) ["_law_which","_law_house","_law_found"] rfl rfl Zk) (aS rfl) (R.cq rfl T.b_range (R.aa R.ad R.ac)) (fun C s₂ H₂ fp=>⟨(R.gn (i:=0) (show(["_law_k","_law_which"]:List Str).Nodup by decide +kernel)),R.bn,(R.or (R.bj R.eq (R.v 0) (R.v 1)) (R.dh (R.bj R.eq (R.v 0) R.ad)))⟩)) (R.aa (R.aw (R.aa R.bl (R.aa R.bl R.ac))) R.ac)))) (R.ae (R.aq (R.am R.eq (R.v 0) R.ad) (R.af (R.ai (i:=2) iG.nd (R.op R.bh (R.v 2) (R.aw (R.aa (R.v 1) R.ac))))) R.ar) (R.af (R.ah (R.v 2))))),?_⟩;refine⟨6,rfl,Zd,Zd,?_⟩;have hb:∀i:Nat,i<6->(fJ k)[i]?=some (decide ((i:Int)=(k:Int))||decide ((i:Int)=5)):=fun i hi=>by
   have c6:i=0∨i=1∨i=2∨i=3∨i=4∨i=5:=by omega
   have k5:k=0∨k=1∨k=2∨k=3∨k=4:=by omega
   rcases c6 with rfl|rfl|rfl|rfl|rfl|rfl<;>rcases k5 with rfl|rfl|rfl|rfl|rfl<;>rfl
  refine bQ (eQ 0 (6:Int).toNat) (by rw[cO];decide) (fun i ys H'=>H'=H/\i<=6/\ys=((fJ k).take i).map V.bl) (fun i ys H' ⟨e1,e2,e3⟩=>⟨trivial,by rw[e3,gZ,oR];omega⟩) ⟨rfl,Zd,rfl⟩ (fun i v ys H' hv ⟨e1,e2,e3⟩=>?_) (fun ys H' ⟨e1,_,e3⟩=>?_)
  ·obtain⟨rfl,hi⟩:=nZ hv;have hi6:i<6:=hi;subst e1;dsimp only [aL];show if decide ((i:Int)=(k:Int))=true then _ else _
   have fin:∀b,b=(decide ((i:Int)=(k:Int))||decide ((i:Int)=5))->H'=H'/\i+1<=6/\ys++[V.bl b]=((fJ k).take (i+1)).map V.bl:=fun b WA=>by
    refine⟨rfl,Zo,?_⟩;rw[fU (hb i hi6),mF,e3,WA];rfl
   refine iY (fun h=>?_) (fun h=>?_)
   ·exact fin true (by rw[h];rfl)
   ·exact fin (decide ((i:Int)=5)) (by rw[h];rfl)
  ·subst e1;rw[cO,show(6:Int).toNat=6 from rfl,Hc (by show 6<=6;decide)]at e3;subst e3;intro l1 h1;refine⟨eY rfl,fun l2 h2=>⟨eY rfl,fun l3 h3=>?_⟩⟩;dsimp only [aL];have s3:=((aF (o:=.lst ((fJ k).map V.bl)) h1).trans (aF (o:=.lst [.bl false,.bl false]) h2)).trans (aF (o:=.lst [.ref l1,.ref l2]) h3);have g1:=aF (o:=.lst [.ref l1,.ref l2]) h3 _ _ (aF (o:=.lst [.bl false,.bl false]) h2 _ _ (aA (H:=H') (a:=l1) (o:=.lst ((fJ k).map V.bl))));have g2:=aF (o:=.lst [.ref l1,.ref l2]) h3 _ _ (aA (H:=aH H' l1 (.lst ((fJ k).map V.bl))) (a:=l2) (o:=.lst [.bl false,.bl false]));have g3:(aH (aH (aH H' l1 (.lst ((fJ k).map V.bl))) l2 (.lst [.bl false,.bl false])) l3 (.lst [.ref l1,.ref l2])) l3=some (.lst [.ref l1,.ref l2]):=aA;generalize aH (aH (aH H' l1 (.lst ((fJ k).map V.bl))) l2 (.lst [.bl false,.bl false])) l3 (.lst [.ref l1,.ref l2])=G at s3 g1 g2 g3 ⊢;have two:∀ {G':Hp},Same G G'->Rep G' 2 (.ls ((fJ k).map Hb)) (.ref l1)/\Rep G' 2 (.ls [Hb false,Hb false]) (.ref l2):=fun sg=>⟨⟨l1,_,rfl,sg _ _ g1,oC _⟩,⟨l2,_,rfl,sg _ _ g2,oC [false,false]⟩⟩
   show oG _ _ _ [some (.int (k:Int)),some (.str z),some (.ref l3)] G;refine cT (fun σ' G'=>∃v,σ'=[some (.int (k:Int)),some (.str z),some v]/\Same G G'/\Rep G' 3 (kF k z) v) (fun nx y8=>?_) ?_
   ·show if decide ((k:Int)=3)=true then _ else _
    refine iY (fun hk=>?_) (fun hk=>?_)
    ·obtain rfl:k=3:=by have:=of_decide_eq_true hk;omega
     refine⟨eY rfl,fun l5 h5=>⟨_,_,aF h5 _ _ g3,aA,eY rfl,fun l6 h6=>?_⟩⟩;have s7:=(aF (o:=.lst [.str z]) h5).trans (aF (o:=.lst ([.ref l1,.ref l2]++[.str z])) h6);obtain⟨r1,r2⟩:=two s7;exact y8 _ _ ⟨.ref l6,rfl,s7,l6,_,rfl,aA,.cons r1 (.cons r2 (.cons ⟨rfl,rfl⟩ .nil))⟩
    ·have JD:k≠3:=fun z=>of_decide_eq_false hk (by rw[z];rfl)
     obtain⟨r1,r2⟩:=two (Same.refl _);refine y8 _ _ ⟨.ref l3,rfl,Same.refl _,l3,_,rfl,g3,?_⟩;rw[if_neg JD];exact .cons r1 (.cons r2 .nil)
   rintro _ G' ⟨v,rfl,s',r'⟩;exact q v G' (s3.trans s') r'
def fK{d b:Addr}{H H':Hp}(s:Same H H'):Kp d b H H':=fun c o e _ _=>s c o e
structure Bv(H0 H:Hp)(v:V):Prop where
 pt:Pt H v
 nm:aP v LET 8=false
 ky:aP v (LET++tK) 12=false
 fr:∀x,v=.ref x->(∃xs,H x=some (.tup xs))∨H0 x=none
def iW{x y:Str}{c:Nat}(h:c∈y.cps.toList):c∈(x++y).cps.toList:=by rw[iI];exact mem_append_right _ h
def oE{z:Str}{c:Nat}{L:List Nat}{n:Int}(hc:c∈z.cps.toList)(hn:c∉L):aP (.str z) L n=false:=by
 rw[cQ];cases h:z.cps.toList.all (fun c=>decide (c∈L)) with
 | false=>rw[Bool.and_false]
 | true=>exact absurd (of_decide_eq_true (all_eq_true.mp h c hc)) hn
def qD{z:Str}{L:List Nat}{n:Int}(h:n<z.length):aP (.str z) L n=false:=by
 rw[cQ,decide_eq_false (by omega:¬ ((z.length:Int)<=n)),Bool.and_false,Bool.false_and]
def rW(x y:Str):(x++y).length=x.length+y.length:=by
 have e:∀z:Str,z.length=z.cps.toList.length:=fun z=>by simp[Str.length]
 rw[e,iI,wW,<- e,<- e]
def lD{H0 H:Hp}{z:Str}{c:Nat}(hl:z.length<=1000)(hc:c∈z.cps.toList)(hn:c∉LET++tK):Bv H0 H (.str z):=
 ⟨aQ hl,oE hc fun m=>hn (mem_append_left _ m),oE hc hn,fun _ e=>nomatch e⟩
def rX{H0 H:Hp}{v:V}(h:Pt H v)(h1:∀z,v≠.str z)(h2:∀x,v≠.ref x):Bv H0 H v:=by
 refine⟨h,?_,?_,fun x e=>absurd e (h2 x)⟩
 ·cases v<;>first|rfl|exact absurd rfl (h1 _)
 ·cases v<;>first|rfl|exact absurd rfl (h1 _)
def uQ:Sp:=fun vs H Q _=>∃(d b:Addr)(z:Str),vs=[.ref d,.str z]/\Dk H d b/\1<=z.length/\z.length<=12/\∀v H',Bv H H' v->Dk H' d b->Kp d b H H'->Q v H'
def Bi(T:Txt K mg)(f7:aI P w K mg base 1 "_law_draw" ["_law_deck_here","_law_many"] iU)(D:DefAt K mg "_law_no_word" dO ["_law_deck_here","_law_word"]):aI P w K mg base 2 "_law_no_word" ["_law_deck_here","_law_word"] uQ:=by
 refine D.go iH (fun vs H Q E h=>?_) (fun f cdv A outer s H vs Q E hr h=>?_)
 ·obtain⟨d,b,z,rfl,_⟩:=h;rfl
 ·obtain⟨d,b,z,rfl,dk,Xc,hz2,q⟩:=h;have f9:=hr;refine⟨_,(R.ae (R.ai (i:=2) iH.nd (R.aw (R.aa R.bo (R.aa R.bl (R.aa R.ad (R.aa (R.aj R.ac) (R.aa (R.aw (R.aa (R.v 1) R.ac)) (R.aa R.cj (R.aa R.ag (R.aa R.ag (R.aa (R.op R.bp (R.v 1) R.ag) (R.aa (R.op R.bp (R.v 1) R.ag) (R.aa (R.op R.bp (R.v 1) R.ag) (R.aa R.ag (R.aa R.ag (R.aa (R.op R.gm (R.v 1) R.ad) R.ac)))))))))))))))) (R.af (R.ah (R.ix (R.au (K:=K)) (R.v 2) (R.fn f7 f9 rfl (R.aa (R.v 0) (R.aa R.ad R.ac))))))),?_⟩;refine⟨bB rfl,fun t H1 s1 gt=>⟨eY rfl,fun l1 h1=>?_⟩⟩;intro d1 zf;have LQ:=aF (o:=.dK []) zf _ _ (aA (H:=H1) (a:=l1) (o:=.lst [.str z]));have s3:=s1.trans ((aF (o:=.lst [.str z]) h1).trans (aF (o:=.dK []) zf));have gt3:=aF (o:=.dK []) zf _ _ (aF (o:=.lst [.str z]) h1 _ _ gt);have NJ:(aH (aH H1 l1 (.lst [.str z])) d1 (.dK [])) d1=some (.dK []):=aA;have f1:H l1=none:=s1.free h1;have f2:H d1=none:=s1.free ((aF (o:=.lst [.str z]) h1).free zf);generalize aH (aH H1 l1 (.lst [.str z])) d1 (.dK [])=H3 at LQ s3 gt3 NJ ⊢;have sz:∀ {y:Str},y.length<=1->z.length+y.length<=sizeLine:=fun hy=>fO (m:=1000) Zo Zd
  refine⟨sz Zk,sz Zk,sz Zk,Zo,Zd,Zd,fun u hu=>⟨eY rfl,fun l2 h2=>?_⟩⟩;dsimp only [aL];obtain⟨G,eG⟩:∃G,G=aH H3 l2 (.lst [.non,.bl true,.int 7,.ref t,.ref l1,.ref d1,.str "",.str " ",.str (z++" "),.str (z++"A"),.str (z++"-"),.str "Z",.str "9a_",.str u]):=⟨_,rfl⟩;have s4:Same H3 G:=eG▸aF h2;have JG:G l2=some (.lst [.non,.bl true,.int 7,.ref t,.ref l1,.ref d1,.str "",.str " ",.str (z++" "),.str (z++"A"),.str (z++"-"),.str "Z",.str "9a_",.str u]):=eG▸aA;have XR:H l2=none:=s3.free h2;rw[<- eG];clear eG;have s:=s3.trans s4;have dG:=dk.same s;refine⟨d,b,14,rfl,dG,Zd,Zd,fun r G' r0 r1 XU kp=>?_⟩;have kA:Kp d b H G':=(fK s).trans kp;have nl:∀ {x:Addr},H x=none->x≠d/\x≠b:=fun hx=>dk.ne hx
  have XX:=kp _ _ JG (nl XR).1 (nl XR).2;have gt':=Kp.tk dG kp _ _ (s4 _ _ gt3);have XY:=kp _ _ (s4 _ _ LQ) (nl f1).1 (nl f1).2;have XZ:=kp _ _ (s4 _ _ NJ) (nl f2).1 (nl f2).2;have fin:∀v,Bv H G' v->Q v G':=fun v hb=>q v G' hb XU kA
  refine⟨_,SqL.of XX,?_⟩;have cv':12<u.length:=by rw[hu];show 12<z.length*13;omega
  have Ya:u.length<=1000:=by rw[hu];show z.length*13<=1000;omega
  have la:∀ {y:Str},y.length<=1->(z++y).length<=1000:=fun hy=>by rw[rW];omega
  have c14:r=0∨r=1∨r=2∨r=3∨r=4∨r=5∨r=6∨r=7∨r=8∨r=9∨r=10∨r=11∨r=12∨r=13:=by omega
  rcases c14 with rfl|rfl|rfl|rfl|rfl|rfl|rfl|rfl|rfl|rfl|rfl|rfl|rfl|rfl
  ·exact⟨_,rfl,fin _ (rX ⟨.non,trivial,fun _ e=>nomatch e⟩ (fun _ e=>nomatch e) fun _ e=>nomatch e)⟩
  ·exact⟨_,rfl,fin _ (rX ⟨.bl,trivial,fun _ e=>nomatch e⟩ (fun _ e=>nomatch e) fun _ e=>nomatch e)⟩
  ·exact⟨_,rfl,fin _ (rX eB (fun _ e=>nomatch e) fun _ e=>nomatch e)⟩
  ·exact⟨_,rfl,fin _ ⟨⟨.tup,⟨_,gt'⟩,fun _ e=>nomatch e⟩,rfl,rfl,fun x e=>.inl (by cases e;exact⟨_,gt'⟩)⟩⟩
  ·exact⟨_,rfl,fin _ ⟨⟨.lst,.inl ⟨_,XY⟩,fun _ e=>nomatch e⟩,rfl,rfl,fun x e=>.inr (by cases e;exact f1)⟩⟩
  ·exact⟨_,rfl,fin _ ⟨⟨.dct,⟨_,XZ⟩,fun _ e=>nomatch e⟩,rfl,rfl,fun x e=>.inr (by cases e;exact f2)⟩⟩
  ·exact⟨_,rfl,fin _ ⟨aQ Zk,Zk,Zk,fun _ e=>nomatch e⟩⟩
  ·exact⟨_,rfl,fin _ (lD (c:=32) Zk Zk Zd)⟩
  ·exact⟨_,rfl,fin _ (lD (c:=32) (la Zk) (iW Zk) Zd)⟩
  ·exact⟨_,rfl,fin _ (lD (c:=65) (la Zk) (iW Zk) Zd)⟩
  ·exact⟨_,rfl,fin _ (lD (c:=45) (la Zk) (iW Zk) Zd)⟩
  ·exact⟨_,rfl,fin _ (lD (c:=90) Zk Zk Zd)⟩
  ·exact⟨_,rfl,fin _ (lD (c:=95) Zk Zk Zd)⟩
  ·exact⟨_,rfl,fin _ ⟨aQ Ya,qD Zo,qD Zo,fun _ e=>nomatch e⟩⟩
structure Dv(H0 H:Hp)(v:V):Prop where
 th:Th H v
 ln:∀b xs,v=.ref b->H b=some (.tup xs)->xs.length<=1000
 nd:dR H v=false
 fr:∀x,v=.ref x->(∃xs,H x=some (.tup xs))∨H0 x=none
 fl:∀b xs,v=.ref b->H b=some (.tup xs)->∀y∈xs,∀G,Pt G y
def cC{H0 H:Hp}{x:Addr}{xs:List V}(g:H x=some (.tup xs))(hp:∀y∈xs,∀G,Pt G y)(hl:xs.length<=1000)(hd:iA xs=false):Dv H0 H (.ref x):=by
 refine⟨⟨⟨.tup,⟨_,g⟩,fun _ e=>nomatch e⟩,fun a ys e g' y hy=>?_⟩,fun a ys e g'=>?_,?_,fun y e=>.inl ?_,fun a ys e g' y hy=>?_⟩
 ·cases e;rw[g]at g';cases g';exact hp y hy H
 ·cases e;rw[g]at g';cases g';exact hl
 ·unfold dR;simp only [g];exact hd
 ·cases e;exact⟨_,g⟩
 ·cases e;rw[g]at g';cases g';exact hp y hy
def rY{H0 H:Hp}{v:V}(h:Pt H v)(h2:∀x,v≠.ref x):Dv H0 H v:=
 ⟨⟨h,fun a _ e=>absurd e (h2 a)⟩,fun a _ e=>absurd e (h2 a),by cases v<;>first|rfl|exact absurd rfl (h2 _),fun a e=>absurd e (h2 a),fun a _ e=>absurd e (h2 a)⟩
def uR:Sp:=fun vs H Q _=>∃(d b:Addr)(n o:Str),vs=[.ref d,.str n,.str o]/\Dk H d b/\isNm n/\isNm o/\∀v H',Dv H H' v->Dk H' d b->Kp d b H H'->Q v H'
def Bj(T:Txt K mg)(f7:aI P w K mg base 1 "_law_draw" ["_law_deck_here","_law_many"] iU)(D:DefAt K mg "_law_no_deed" dP ["_law_deck_here","_law_name","_law_other"]):aI P w K mg base 2 "_law_no_deed" ["_law_deck_here","_law_name","_law_other"] uR:=by
 refine D.go cA (fun vs H Q E h=>?_) (fun f cdv A outer s H vs Q E hr h=>?_)
 ·obtain⟨d,b,n,o,rfl,_⟩:=h;rfl
 ·obtain⟨d,b,n,o,rfl,dk,hn,ho,q⟩:=h;have f9:=hr;refine⟨_,(R.ae (R.ai (i:=3) cA.nd (R.aw (R.aa R.bo (R.aa R.ad (R.aa R.ag (R.aa (R.aj R.ac) (R.aa (R.aj (R.aa R.ag R.ac)) (R.aa (R.aj (R.aa R.ag (R.aa (R.v 1) R.ac))) (R.aa (R.aw (R.aa R.ag (R.aa (R.v 1) (R.aa R.ad R.ac)))) (R.aa (R.aj (R.aa R.ag (R.aa (R.v 1) (R.aa R.ad R.ac)))) (R.aa (R.aj (R.aa R.ag (R.aa (R.v 1) (R.aa R.bl R.ac)))) R.ac))))))))))) (R.ae (R.ai (i:=3) cA.nd (R.op R.bh (R.v 3) (R.aw (R.aa (R.aj (R.aa R.ag (R.aa (R.v 1) (R.aa (R.op R.ba (R.op R.cw R.ad R.ad) R.ad) R.ac)))) (R.aa (R.aj (R.aa R.ag (R.aa (R.v 1) (R.aa (R.bw R.ad) R.ac)))) (R.aa (R.aj (R.aa R.ag (R.aa (R.v 1) (R.aa R.ag R.ac)))) (R.aa (R.aj (R.aa R.ag (R.aa (R.v 1) (R.aa R.ad (R.aa R.ad R.ac))))) R.ac))))))) (R.ae (R.ai (i:=3) cA.nd (R.op R.bh (R.v 3) (R.aw (R.aa (R.aj (R.aa R.ag (R.aa (R.v 1) (R.aa R.ad R.ac)))) (R.aa (R.aj (R.aa R.ag (R.aa (R.v 1) (R.aa (R.v 1) (R.aa R.ad R.ac))))) (R.aa (R.aj (R.aa R.ag (R.aa (R.v 1) (R.aa R.ad R.ac)))) (R.aa (R.aj (R.aa R.ag (R.aa (R.v 2) (R.aa (R.v 2) (R.aa (R.v 1) (R.aa R.ad R.ac)))))) R.ac))))))) (R.ae (R.ai (i:=3) cA.nd (R.op R.bh (R.v 3) (R.aw (R.aa (R.aj (R.aa R.ag (R.aa (R.v 1) (R.aa R.ad R.ac)))) (R.aa (R.aj (R.aa R.ag (R.aa (R.v 2) (R.aa (R.v 1) (R.aa R.bo R.ac))))) (R.aa (R.aj (R.aa R.ag (R.aa R.ag (R.aa (R.v 1) (R.aa R.ad R.ac))))) (R.aa (R.aj (R.aa R.ag (R.aa (R.op R.bp (R.v 1) R.ag) (R.aa R.ad R.ac)))) R.ac))))))) (R.af (R.ah (R.ix (R.au (K:=K)) (R.v 3) (R.fn f7 f9 rfl (R.aa (R.v 0) (R.aa R.ad R.ac)))))))))),?_⟩;refine cT (fun σ' G=>∃l t3 t4 t5 l6 t7 t8,σ'=[some (.ref d),some (.str n),some (.str o),some (.ref l)]/\Same H G/\H l=none/\H l6=none/\G l=some (.lst [.non,.int 5,.str "add",.ref t3,.ref t4,.ref t5,.ref l6,.ref t7,.ref t8])/\G t3=some (.tup [])/\G t4=some (.tup [.str "add"])/\G t5=some (.tup [.str "add",.str n])/\G l6=some (.lst [.str "add",.str n,.int 5])/\G t7=some (.tup [.str "add",.str n,.int 0])/\G t8=some (.tup [.str "add",.str n,.bl true])) (fun nx y8=>?_) ?_
  ·refine⟨bB rfl,fun t3 H1 s1 g3=>⟨bB rfl,fun t4 H2 s2 g4=>⟨bB rfl,fun t5 H3 s3 g5=>⟨eY rfl,fun l6 h6=>⟨bB rfl,fun t7 H5 s5 g7=>⟨bB rfl,fun t8 H6 s6 g8=>⟨eY rfl,fun l h=>?_⟩⟩⟩⟩⟩⟩⟩;have RX:=(s1.trans s2).trans s3;have s4:=aF (o:=.lst [.str "add",.str n,.int 5]) h6;have VJ:=(s4.trans s5).trans s6;have s06:=RX.trans VJ;have s7:=aF (o:=.lst [.non,.int 5,.str "add",.ref t3,.ref t4,.ref t5,.ref l6,.ref t7,.ref t8]) h;exact y8 _ _ ⟨l,t3,t4,t5,l6,t7,t8,rfl,s06.trans s7,s06.free h,RX.free h6,aA,s7 _ _ (VJ _ _ (s3 _ _ (s2 _ _ g3))),s7 _ _ (VJ _ _ (s3 _ _ g4)),s7 _ _ (VJ _ _ g5),s7 _ _ (s6 _ _ (s5 _ _ aA)),s7 _ _ (s6 _ _ g7),s7 _ _ g8⟩
  rintro _ H1 ⟨l,t3,t4,t5,l6,t7,t8,rfl,s1,fl,Yb,gl,g3,g4,g5,g6,g7,g8⟩;refine cT (fun σ' G=>∃l' t9 zu HH HI,σ'=[some (.ref d),some (.str n),some (.str o),some (.ref l')]/\Same H1 G/\H l'=none/\G l'=some (.lst [.non,.int 5,.str "add",.ref t3,.ref t4,.ref t5,.ref l6,.ref t7,.ref t8,.ref t9,.ref zu,.ref HH,.ref HI])/\G t9=some (.tup [.str "add",.str n,.int 1000000000001])/\G zu=some (.tup [.str "add",.str n,.int (-1)])/\G HH=some (.tup [.str "add",.str n,.str "5"])/\G HI=some (.tup [.str "add",.str n,.int 5,.int 5])) (fun nx y8=>?_) ?_
  ·refine⟨⟨Zd,Zd,Zd⟩,bB rfl,fun t9 H2 s2 g9=>⟨bB rfl,fun zu H3 s3 su=>⟨bB rfl,fun HH H4 s4 Yc=>⟨bB rfl,fun HI H5 s5 Yd=>⟨eY rfl,fun m hm=>?_⟩⟩⟩⟩⟩;have FP:=((s2.trans s3).trans s4).trans s5;have s6:=aF (o:=.lst [.ref t9,.ref zu,.ref HH,.ref HI]) hm;refine⟨_,_,s6 _ _ (FP _ _ gl),aA,eY rfl,fun l' h'=>?_⟩;have s7:=s6.trans (aF (o:=.lst ([.non,.int 5,.str "add",.ref t3,.ref t4,.ref t5,.ref l6,.ref t7,.ref t8]++[.ref t9,.ref zu,.ref HH,.ref HI])) h');exact y8 _ _ ⟨l',t9,zu,HH,HI,rfl,FP.trans s7,s1.free (FP.free (s6.free h')),aA,s7 _ _ (s5 _ _ (s4 _ _ (s3 _ _ g9))),s7 _ _ (s5 _ _ (s4 _ _ su)),s7 _ _ (s5 _ _ Yc),s7 _ _ Yd⟩
  rintro _ H2 ⟨l2,t9,zu,HH,HI,rfl,s2,XR,JG,g9,su,Yc,Yd⟩;refine cT (fun σ' G=>∃l' SH SI NK SJ,σ'=[some (.ref d),some (.str n),some (.str o),some (.ref l')]/\Same H2 G/\H l'=none/\G l'=some (.lst [.non,.int 5,.str "add",.ref t3,.ref t4,.ref t5,.ref l6,.ref t7,.ref t8,.ref t9,.ref zu,.ref HH,.ref HI,.ref SH,.ref SI,.ref NK,.ref SJ])/\G SH=some (.tup [.str "Add",.str n,.int 5])/\G SI=some (.tup [.str "move",.str n,.str n,.int 5])/\G NK=some (.tup [.str "move",.str n,.int 5])/\G SJ=some (.tup [.str "pass",.str o,.str o,.str n,.int 5])) (fun nx y8=>?_) ?_
  ·refine⟨bB rfl,fun NL H2' GI Ye=>⟨bB rfl,fun AA H3 s3 NM=>⟨bB rfl,fun AB H4 s4 NN=>⟨bB rfl,fun AD H5 s5 NO=>⟨eY rfl,fun m hm=>?_⟩⟩⟩⟩⟩;have FP:=((GI.trans s3).trans s4).trans s5;have s6:=aF (o:=.lst [.ref NL,.ref AA,.ref AB,.ref AD]) hm;refine⟨_,_,s6 _ _ (FP _ _ JG),aA,eY rfl,fun l' h'=>?_⟩;have s7:=s6.trans (aF (o:=.lst ([.non,.int 5,.str "add",.ref t3,.ref t4,.ref t5,.ref l6,.ref t7,.ref t8,.ref t9,.ref zu,.ref HH,.ref HI]++[.ref NL,.ref AA,.ref AB,.ref AD])) h');exact y8 _ _ ⟨l',NL,AA,AB,AD,rfl,FP.trans s7,s1.free (s2.free (FP.free (s6.free h'))),aA,s7 _ _ (s5 _ _ (s4 _ _ (s3 _ _ Ye))),s7 _ _ (s5 _ _ (s4 _ _ NM)),s7 _ _ (s5 _ _ NN),s7 _ _ NO⟩
  rintro _ H3 ⟨l3,SH,SI,NK,SJ,rfl,s3,fl3,RS,g13,g14,g15,g16⟩;refine cT (fun σ' G=>∃l' Yf Yg Yh Yi,σ'=[some (.ref d),some (.str n),some (.str o),some (.ref l')]/\Same H3 G/\H l'=none/\G l'=some (.lst [.non,.int 5,.str "add",.ref t3,.ref t4,.ref t5,.ref l6,.ref t7,.ref t8,.ref t9,.ref zu,.ref HH,.ref HI,.ref SH,.ref SI,.ref NK,.ref SJ,.ref Yf,.ref Yg,.ref Yh,.ref Yi])/\G Yf=some (.tup [.str "send",.str n,.int 5])/\G Yg=some (.tup [.str "send",.str o,.str n,.non])/\G Yh=some (.tup [.str "fetch",.str "",.str n,.int 5])/\G Yi=some (.tup [.str "take",.str (n++"1"),.int 5])) (fun nx y8=>?_) ?_
  ·refine⟨bB rfl,fun NL H2' GI Ye=>⟨bB rfl,fun AA H3' zg NM=>⟨bB rfl,fun AB H4 s4 NN=>⟨fO (m:=1000) (by have:=hn.2.1;rw[show("1":Str).length=1 from by decide +kernel];omega) Zd,bB rfl,fun AD H5 s5 NO=>⟨eY rfl,fun m hm=>?_⟩⟩⟩⟩⟩;have FP:=((GI.trans zg).trans s4).trans s5;have s6:=aF (o:=.lst [.ref NL,.ref AA,.ref AB,.ref AD]) hm;refine⟨_,_,s6 _ _ (FP _ _ RS),aA,eY rfl,fun l' h'=>?_⟩;have s7:=s6.trans (aF (o:=.lst ([.non,.int 5,.str "add",.ref t3,.ref t4,.ref t5,.ref l6,.ref t7,.ref t8,.ref t9,.ref zu,.ref HH,.ref HI,.ref SH,.ref SI,.ref NK,.ref SJ]++[.ref NL,.ref AA,.ref AB,.ref AD])) h');exact y8 _ _ ⟨l',NL,AA,AB,AD,rfl,FP.trans s7,s1.free (s2.free (s3.free (FP.free (s6.free h')))),aA,s7 _ _ (s5 _ _ (s4 _ _ (zg _ _ Ye))),s7 _ _ (s5 _ _ (s4 _ _ NM)),s7 _ _ (s5 _ _ NN),s7 _ _ NO⟩
  rintro _ H4 ⟨l4,Yf,Yg,Yh,Yi,rfl,s4,fl4,gl4,g17,g18,g19,g20⟩;have SK:=s3.trans s4;have NP:=s2.trans SK;have sA:=s1.trans NP;have dG:=dk.same sA;refine⟨d,b,21,rfl,dG,Zd,Zd,fun r G r0 r1 XU kp=>?_⟩;have kA:Kp d b H G:=(fK sA).trans kp;have fin:∀v,Dv H G v->Q v G:=fun v hb=>q v G hb XU kA
  have tk:=Kp.tk dG kp;refine⟨_,SqL.of (kp _ _ gl4 (dk.ne fl4).1 (dk.ne fl4).2),?_⟩;have pn:∀G:Hp,Pt G (.str n):=fun _=>aQ hn.len
  have po:∀G:Hp,Pt G (.str o):=fun _=>aQ ho.len
  have pw:∀ {z:Str},z.length<=10->∀G:Hp,Pt G (.str z):=fun h _=>aQ Zo
  have c21:r=0∨r=1∨r=2∨r=3∨r=4∨r=5∨r=6∨r=7∨r=8∨r=9∨r=10∨r=11∨r=12∨r=13∨r=14∨r=15∨r=16∨r=17∨r=18∨r=19∨r=20:=by omega
  have pl:∀ {ys:List V},(∀y∈ys,∀G:Hp,Pt G y)->∀ {y:V},(∀G:Hp,Pt G y)->∀z∈y::ys,∀G:Hp,Pt G z:=fun h _ hy=>List.forall_mem_cons.mpr ⟨hy,h⟩
  have p0:∀y∈([]:List V),∀G:Hp,Pt G y:=fun _ h=>nomatch h
  have vg:∀G:Hp,Pt G (.int 5):=fun _=>eB
  have pb:∀G:Hp,Pt G (.bl true):=fun _=>⟨.bl,trivial,fun _ e=>nomatch e⟩
  have pnn:∀G:Hp,Pt G .non:=fun _=>⟨.non,trivial,fun _ e=>nomatch e⟩
  have pad:∀G:Hp,Pt G (.str "add"):=pw Zk;rcases c21 with rfl|rfl|rfl|rfl|rfl|rfl|rfl|rfl|rfl|rfl|rfl|rfl|rfl|rfl|rfl|rfl|rfl|rfl|rfl|rfl|rfl
  ·exact⟨_,rfl,fin _ (rY (pnn _) fun _ e=>nomatch e)⟩
  ·exact⟨_,rfl,fin _ (rY eB fun _ e=>nomatch e)⟩
  ·exact⟨_,rfl,fin _ (rY (pad _) fun _ e=>nomatch e)⟩
  ·exact⟨_,rfl,fin _ (cC (tk _ _ (NP _ _ g3)) p0 (bB rfl) rfl)⟩
  ·exact⟨_,rfl,fin _ (cC (tk _ _ (NP _ _ g4)) (pl p0 pad) (bB rfl) rfl)⟩
  ·exact⟨_,rfl,fin _ (cC (tk _ _ (NP _ _ g5)) (pl (pl p0 pn) pad) (bB rfl) rfl)⟩
  ·have g:=kp _ _ (NP _ _ g6) (dk.ne Yb).1 (dk.ne Yb).2;refine⟨_,rfl,fin _ ⟨⟨⟨.lst,.inl ⟨_,g⟩,fun _ e=>nomatch e⟩,fun a xs e g'=>?_⟩,fun a xs e g'=>?_,?_,fun x e=>.inr ?_,fun a xs e g'=>?_⟩⟩
   ·cases e;rw[g]at g';cases g'
   ·cases e;rw[g]at g';cases g'
   ·unfold dR;simp only [g]
   ·cases e;exact Yb
   ·cases e;rw[g]at g';cases g'
  ·exact⟨_,rfl,fin _ (cC (tk _ _ (NP _ _ g7)) (pl (pl (pl p0 fun _=>eB) pn) pad) (bB rfl) (Bool.and_false _))⟩
  ·exact⟨_,rfl,fin _ (cC (tk _ _ (NP _ _ g8)) (pl (pl (pl p0 pb) pn) pad) (bB rfl) (Bool.and_false _))⟩
  ·exact⟨_,rfl,fin _ (cC (tk _ _ (SK _ _ g9)) (pl (pl (pl p0 fun _=>eB) pn) pad) (bB rfl) (Bool.and_false _))⟩
  ·exact⟨_,rfl,fin _ (cC (tk _ _ (SK _ _ su)) (pl (pl (pl p0 fun _=>eB) pn) pad) (bB rfl) (Bool.and_false _))⟩
  ·exact⟨_,rfl,fin _ (cC (tk _ _ (SK _ _ Yc)) (pl (pl (pl p0 (pw Zk)) pn) pad) (bB rfl) (Bool.and_false _))⟩
  ·exact⟨_,rfl,fin _ (cC (tk _ _ (SK _ _ Yd)) (pl (pl (pl (pl p0 vg) vg) pn) pad) (bB rfl) rfl)⟩
  ·exact⟨_,rfl,fin _ (cC (tk _ _ (s4 _ _ g13)) (pl (pl (pl p0 vg) pn) (pw Zk)) (bB rfl) rfl)⟩
  ·refine⟨_,rfl,fin _ (cC (tk _ _ (s4 _ _ g14)) (pl (pl (pl (pl p0 vg) pn) pn) (pw Zk)) (bB rfl) ?_)⟩;have e:bZ (.str "move") [.str n,.str n]=false:=by
    show(_&&(!true||!decide (some (V.str n)=some (V.str n))))=false;rw[decide_eq_true rfl];exact Bool.and_false _
   show(true&&bZ (.str "move") [.str n,.str n]&&_)=false;rw[e];rfl
  ·exact⟨_,rfl,fin _ (cC (tk _ _ (s4 _ _ g15)) (pl (pl (pl p0 vg) pn) (pw Zk)) (bB rfl) rfl)⟩
  ·refine⟨_,rfl,fin _ (cC (tk _ _ (s4 _ _ g16)) (pl (pl (pl (pl (pl p0 vg) pn) po) po) (pw Zk)) (bB rfl) ?_)⟩;have e:bZ (.str "pass") [.str o,.str o,.str n]=false:=by
    show(_&&(!true||!decide (some (V.str o)=some (V.str o))))=false;rw[decide_eq_true rfl];exact Bool.and_false _
   show(true&&bZ (.str "pass") [.str o,.str o,.str n]&&_)=false;rw[e];rfl
  ·exact⟨_,rfl,fin _ (cC (tk _ _ g17) (pl (pl (pl p0 vg) pn) (pw Zk)) (bB rfl) rfl)⟩
  ·exact⟨_,rfl,fin _ (cC (tk _ _ g18) (pl (pl (pl (pl p0 pnn) pn) po) (pw Zk)) (bB rfl) (Bool.and_false _))⟩
  ·exact⟨_,rfl,fin _ (cC (tk _ _ g19) (pl (pl (pl (pl p0 vg) pn) (pw Zk)) (pw Zk)) (bB rfl) rfl)⟩
  ·refine⟨_,rfl,fin _ (cC (tk _ _ g20) (pl (pl (pl p0 vg) (fun _=>aQ (by rw[rW,show("1":Str).length=1 from by decide +kernel];have:=hn.2.1;omega))) (pw Zk)) (bB rfl) ?_)⟩;have e:bZ (.str "take") [.str (n++"1")]=false:=by
    show(true&&(oF (.str (n++"1"))&&true)&&_)=false;rw[show oF (.str (n++"1"))=false from oE (c:=49) (iW Zk) Zd];rfl
   show(true&&bZ (.str "take") [.str (n++"1")]&&_)=false;rw[e];rfl
def Ty(ns:List Str)(g:Str)(x:Dd):Prop:=∃(i:Nat)(p:Str×List V),(eC x)[i]?=some p/\p.1=g/\∀j p',j<i->(eC x)[j]?=some p'->p'.1∈ns
def Gv(z:Str)(ss:List Str):Bp (.str z) (ss.map V.str)=decide (z∈ss):=by
 induction ss with
 | nil=>rfl
 | cons s ss ih=>
  have e:Bp (.str z) ((s::ss).map V.str)=(decide (s=z)||Bp (.str z) (ss.map V.str)):=by
   unfold Bp;rw[map_cons,any_cons];congr 1
  rw[e,ih,<- Bool.decide_or];congr 1;rw[mem_cons];exact propext ⟨fun h=>h.imp Eq.symm id,fun h=>h.imp Eq.symm id⟩
def Bk(ss:List Str):(ss.map V.str).all jV=true:=by
 induction ss with
 | nil=>rfl
 | cons s ss ih=>rw[map_cons,all_cons,ih];rfl
def qE:Sp:=fun vs H Q _=>∃(d b l:Addr)(zs:List Str)(m:Nat),vs=[.ref d,.ref l,.int (m:Int)]/\Dk H d b/\H l=some (.lst (zs.map V.str))/\l≠d/\l≠b/\zs.length=8/\zs.Nodup/\(∀z∈zs,isNm z)/\m<=6/\∀(t:Addr)(x:Dd) H',H' t=some (.tup x.vs)->x.Ok->Ty (zs.take m) (zs.getD 7 "") x->Dk H' d b->Kp d b H H'->Q (.ref t) H'
def wU(T:Txt K mg)(f7:aI P w K mg base 1 "_law_draw" ["_law_deck_here","_law_many"] iU)(D:DefAt K mg "_law_houses_asked" bT ["_law_deck_here","_law_words","_law_many"]):aI P w K mg base 2 "_law_houses_asked" ["_law_deck_here","_law_words","_law_many"] qE:=by
 refine D.go bI (fun vs H Q E h=>?_) (fun f cdv A outer s H vs Q E hr h=>?_)
 ·obtain⟨d,b,l,zs,m,rfl,_⟩:=h;rfl
 ·obtain⟨d,b,l,zs,m,rfl,dk,gl,nd,nb,h8,RH,FI,hm,q⟩:=h;have f9:=hr;refine⟨_,(R.ae (R.gp (i:=3) (j:=4) bI.nd (R.aa (R.ix (R.au (K:=K)) (R.v 1) (R.fn f7 f9 rfl (R.aa (R.v 0) (R.aa R.ad R.ac)))) (R.aa (R.ix (R.au (K:=K)) (R.v 1) R.ad) R.ac))) (R.ae (R.ai (i:=5) bI.nd (R.ix (R.au (K:=K)) (R.aw (R.aa (R.v 4) (R.aa (R.v 3) R.ac))) (R.ce R.fc rfl T.b_int qX (R.aa (R.gy (R.bj (R.ia (K:=K)) (R.v 3) (R.sl (R.cf (K:=K)) (R.v 1) R.pn (R.ps (R.v 2)))) (R.dh (R.bj R.eq (R.fn f7 f9 rfl (R.aa (R.v 0) (R.aa R.ad R.ac))) R.ad))) R.ac)))) (R.ae (R.ai (i:=6) bI.nd (R.ix (R.au (K:=K)) (R.aw (R.aa (R.aj (R.aa R.ag (R.aa (R.v 4) (R.aa (R.v 3) (R.aa R.ad R.ac))))) (R.aa (R.aj (R.aa R.ag (R.aa (R.v 4) (R.aa (R.v 3) (R.aa R.ad R.ac))))) (R.aa (R.aj (R.aa R.ag (R.aa (R.v 4) (R.aa (R.v 5) (R.aa (R.v 3) (R.aa R.ad R.ac)))))) (R.aa (R.aj (R.aa R.ag (R.aa (R.v 5) (R.aa (R.v 4) (R.aa (R.v 3) (R.aa R.ad R.ac)))))) R.ac))))) (R.fn f7 f9 rfl (R.aa (R.v 0) (R.aa R.ad R.ac))))) (R.ae (R.aq (R.am R.eq (R.v 5) (R.v 4)) (R.af (R.ai (i:=6) bI.nd (R.aj (R.aa R.ag (R.aa (R.v 4) (R.aa (R.v 3) (R.aa R.ad R.ac))))))) R.ar) (R.af (R.ah (R.v 6))))))),?_⟩;refine⟨d,b,7,rfl,dk,Zd,Zd,fun r H1 r0 r1 D1 k1=>?_⟩;obtain⟨i,rfl⟩:=Int.eq_ofNat_of_zero_le r0;have hi:i<7:=by omega
  have LQ:=k1 _ _ gl nd nb;have KO:i<zs.length:=by omega
  have JH:7<zs.length:=by omega
  have eg:zs.getD 7 ""=zs[7]:=by rw[getD_eq_getElem?_getD,kI JH];rfl
  rw[eg]at q;have O3:zs[i]≠zs[7]:=fun e=>by
   have:=yP RH (i:=i) (j:=7) (x:=zs[7]) (by rw[kI KO,e]) (kI JH);omega
  have n1:isNm zs[i]:=FI _ (getElem_mem KO);have n2:isNm zs[7]:=FI _ (getElem_mem JH);refine⟨_,SqL.of LQ,.str zs[i],cU (by rw[jS,kI KO];rfl),_,SqL.of LQ,.str zs[7],cU (j:=7) (by rw[jS,kI JH];rfl),_,_,rfl,?_⟩;dsimp only [List.set];have FG:decide (zs[i]∈zs.take m)=true->zs[i]∈zs.take m:=of_decide_eq_true;generalize zs[i]=xx at O3 n1 FG ⊢;generalize zs[7]=go at O3 n2 q ⊢;refine cT (fun σ' G=>∃hs,σ'=[some (.ref d),some (.ref l),some (.int (m:Int)),some (.str xx),some (.str go),some (.str hs),none]/\(hs=go∨(hs=xx/\xx∈zs.take m))/\Dk G d b/\Kp d b H1 G) (fun nx y8=>?_) ?_
  ·refine⟨eY rfl,fun l2 h2=>?_⟩;have s2:=aF (o:=.lst [.str go,.str xx]) h2;have g2:(aH H1 l2 (.lst [.str go,.str xx])) l2=some (.lst [.str go,.str xx]):=aA;have n2':=D1.ne h2;generalize aH H1 l2 (.lst [.str go,.str xx])=H2 at s2 g2 ⊢;refine⟨_,SqL.of (s2 _ _ LQ),fun l3 h3=>?_⟩;have ND:dX (zs.map V.str) none (some (m:Int))=(zs.take m).map V.str:=by rw[hZ,map_take]
   rw[ND];have s3:=aF (o:=.lst ((zs.take m).map V.str)) h3;have g3:(aH H2 l3 (.lst ((zs.take m).map V.str))) l3=some (.lst ((zs.take m).map V.str)):=aA;generalize aH H2 l3 (.lst ((zs.take m).map V.str))=H3 at s3 g3 ⊢;have NQ:=s2.trans s3;have D3:=D1.same NQ;refine⟨l3,_,rfl,.inl (SqL.of g3),rfl,Bk _,?_⟩;rw[Gv];refine iY (fun hb=>?_) (fun hb=>?_)
   ·refine⟨d,b,2,rfl,D3,Zd,Zd,fun r H4 r0 r1 D4 k4=>?_⟩;have g24:=k4 _ _ (s3 _ _ g2) n2'.1 n2'.2;have c2:r=0∨r=1:=by omega
    rcases c2 with rfl|rfl
    ·exact⟨_,SqL.of g24,_,rfl,y8 _ _ ⟨xx,rfl,.inr ⟨rfl,FG hb⟩,D4,(fK NQ).trans k4⟩⟩
    ·exact⟨_,SqL.of g24,_,rfl,y8 _ _ ⟨go,rfl,.inl rfl,D4,(fK NQ).trans k4⟩⟩
   ·exact⟨_,SqL.of (s3 _ _ g2),_,rfl,y8 _ _ ⟨go,rfl,.inl rfl,D3,fK NQ⟩⟩
  rintro _ H2 ⟨hs,rfl,hhs,D2,k2⟩;have SM:=k1.trans k2;have SN:∀(t:Addr) G,G t=some (.tup [.str "send",.str go,.str xx,.int 5])->Dk G d b->Kp d b H G->Q (.ref t) G:=fun t G g D' k'=>q t (.send go xx 5) G g ⟨n2,n1,Zd,Zd⟩ ⟨0,_,rfl,rfl,fun j _ hj=>absurd hj (Nat.not_lt_zero j)⟩ D' k'
  refine cT (fun σ' G=>∃(t:Addr)(x:Dd),σ'=[some (.ref d),some (.ref l),some (.int (m:Int)),some (.str xx),some (.str go),some (.str hs),some (.ref t)]/\G t=some (.tup x.vs)/\(hs≠go->x.Ok/\Ty (zs.take m) go x)/\Dk G d b/\Kp d b H G) (fun nx y8=>?_) ?_
  ·refine⟨bB rfl,fun t1 H3 s3 g1=>⟨bB rfl,fun t2 H4 s4 g2=>⟨bB rfl,fun t3 H5 s5 g3=>⟨bB rfl,fun t4 H6 s6 g4=>⟨eY rfl,fun l5 h5=>?_⟩⟩⟩⟩⟩;have s36:=((s3.trans s4).trans s5).trans s6;have s7:=aF (o:=.lst [.ref t1,.ref t2,.ref t3,.ref t4]) h5;have g5:(aH H6 l5 (.lst [.ref t1,.ref t2,.ref t3,.ref t4])) l5=some (.lst [.ref t1,.ref t2,.ref t3,.ref t4]):=aA;have PD:=s7 _ _ (s6 _ _ (s5 _ _ (s4 _ _ g1)));have VL:=s7 _ _ (s6 _ _ (s5 _ _ g2));have PF:=s7 _ _ (s6 _ _ g3);have g4':=s7 _ _ g4;have Yj:=s36.trans s7;have n5:=D2.ne (s36.free h5);generalize aH H6 l5 (.lst [.ref t1,.ref t2,.ref t3,.ref t4])=H7 at g5 PD VL PF g4' Yj ⊢;have D7:=D2.same Yj;refine⟨d,b,4,rfl,D7,Zd,Zd,fun r H8 r0 r1 D8 k8=>?_⟩;have tk:=Kp.tk D7 k8;have kA:=(SM.trans (fK Yj)).trans k8;refine⟨_,SqL.of (k8 _ _ g5 n5.1 n5.2),?_⟩;have c4:r=0∨r=1∨r=2∨r=3:=by omega
   have hh:hs≠go->hs=xx/\xx∈zs.take m:=fun h=>hhs.resolve_left h
   have Yk:∀ {x:Dd} (j:Nat) (p':Str×List V),j<0->(eC x)[j]?=some p'->p'.1∈zs.take m:=fun j _ hj=>absurd hj (Nat.not_lt_zero j)
   rcases c4 with rfl|rfl|rfl|rfl
   ·exact⟨_,rfl,y8 _ _ ⟨t1,.send go xx 5,rfl,tk _ _ PD,fun _=>⟨⟨n2,n1,Zd,Zd⟩,0,_,rfl,rfl,Yk⟩,D8,kA⟩⟩
   ·exact⟨_,rfl,y8 _ _ ⟨t2,.fetch go xx 5,rfl,tk _ _ VL,fun _=>⟨⟨n2,n1,Zd,Zd⟩,0,_,rfl,rfl,Yk⟩,D8,kA⟩⟩
   ·exact⟨_,rfl,y8 _ _ ⟨t3,.pass go hs xx 5,rfl,tk _ _ PF,fun h=>⟨⟨n2,(hh h).1▸n1,n1,h.symm,Zd,Zd⟩,0,_,rfl,rfl,Yk⟩,D8,kA⟩⟩
   ·refine⟨_,rfl,y8 _ _ ⟨t4,.pass hs go xx 5,rfl,tk _ _ g4',fun h=>⟨⟨(hh h).1▸n1,n2,n1,h,Zd,Zd⟩,1,_,rfl,rfl,fun j p' hj hp=>?_⟩,D8,kA⟩⟩;obtain rfl:j=0:=by omega
    cases hp;exact(hh h).1▸(hh h).2
  rintro _ H3 ⟨t,x,rfl,gt,hx,D3,k3⟩;show if decide (hs=go)=true then _ else _
  refine iY (fun h=>?_) (fun h=>?_)
  ·exact⟨bB rfl,fun t2 H4 s4 g4=>SN t2 H4 g4 (D3.same s4) (k3.trans (fK s4))⟩
  ·obtain⟨x1,x2⟩:=hx (of_decide_eq_false h);exact q t x H3 gt x1 x2 D3 k3
def uS(c:CK):Sp:=fun vs H Q _=>∃(a:DA)(s:DS)(turn wh:Int)(vA v0 v1 v2 v3:V)(lb:Addr)(cr:List CR)(n:Nat),vs=[.ref a.dr,.int turn,vA,.ref lb,.int wh]/\DAt c H a s/\s.rows=uW cr/\CrAt H cr/\cr.length<=1/\s.safe=0/\(∀q∈cr,q.2.1+1=(n:Int)/\q.2.2<=turn)/\(cr=[]->n=1)/\1<=n/\0<=turn/\H lb=some (.lst [v0,v1,v2,v3])/\lb∉a.fix++s.runs.map (·.p) ∧
 ∀a' H',a'.dr=a.dr->DAt c H' a' (Uj {s with safe:=s.rows.length } turn n)->(∀b o,H b=some o->b∉a.fix++s.runs.map (·.p)->H' b=some o)->(∀b∈a'.fix,b∈a.fix∨H b=none)->Q (.bl true) H'
def Bl{c:CK}(T:Txt K mg)(vh:eW P w K mg base 2 c.D "force" ["self"] (uP c))(ym:eW P w K mg base 3 c.D "fall" ["self","more"] (yY c))(yn:eW P w K mg base 6 c.D "rise" ["self","turn"] (yZ c))(u9:aI P w K mg base 6 "_law_refused" ["_law_door","_law_turn","_law_asker","_law_key","_law_deed"] (iV c))(U2:aI P w K mg base 1 "_law_told" ["_law_which","_law_house"] kG)(D:DefAt K mg "_law_fallen_right" bU ["_law_door","_law_turn","_law_asker","_law_bad","_law_when"]):aI P w K mg base 7 "_law_fallen_right" ["_law_door","_law_turn","_law_asker","_law_bad","_law_when"] (uS c):=by
 refine D.go jD (fun vs H Q E h=>?_) (fun f cdv A outer s H vs Q E hr h=>?_)
 ·obtain⟨a,s,turn,wh,vA,v0,v1,v2,v3,lb,cr,n,rfl,_⟩:=h;rfl
 ·obtain⟨a,s,turn,wh,vA,v0,v1,v2,v3,lb,cr,n,rfl,h,ug,hc,hl,GY,hn,Xz,ZV,ZW,JI,Yl,q⟩:=h;have hu:=hr.units0;have sy:=hr.units;have tf:Room 2 _:=hr.mono Zd;have vi:Room 3 _:=hr.mono Zd;have vj:Room 6 _:=hr;have v8:Room 6 _:=hr;have U3:Room 1 _:=hr.mono Zd;refine⟨_,(R.ae (R.bc (R.bf vh tf (R.v 0))) (R.ae (R.bc (R.br ym vi (R.v 0) (R.aa R.ad R.ac))) (R.ae (R.aq (R.am (R.bv sy) (R.fn u9 v8 rfl (R.aa (R.v 0) (R.aa (R.v 4) (R.aa (R.v 2) (R.aa (R.ix (R.au (K:=K)) (R.v 3) R.ad) (R.aa (R.ix (R.au (K:=K)) (R.v 3) R.ad) R.ac)))))) (R.fn U2 U3 rfl (R.aa R.ad (R.aa R.ag R.ac)))) (R.af (R.ah R.bl)) R.ar) (R.af (R.ah (R.bj (R.jc (K:=K) hu) (R.br yn vj (R.v 0) (R.aa (R.v 1) R.ac)) (R.aw R.ac))))))),?_⟩;refine⟨_,_,h.dr,by kernel_rfl,a,s,cr,rfl,h,ug,hc,hl,GY,fun l H1 h1 m1=>?_⟩;refine⟨_,_,h1.dr,by kernel_rfl,a,_,0,rfl,h1,rfl,fun GH H2 fj hdn k2=>?_⟩;dsimp only;have ndr:lb≠a.dr:=fun e=>Yl (by rw[e];simp[DA.fix])
  have nj:lb≠a.j:=fun e=>Yl (by rw[e];simp[DA.fix])
  have KP:=k2 _ _ (m1.fr _ _ JI Yl) ndr nj;refine iD (fun v G=>v=false/\Same H2 G) (fun k hk=>?_) (fun _ h=>nomatch h.1) ?_
  ·refine⟨_,SqL.of KP,v2,rfl,_,SqL.of KP,v3,rfl,{a with jl:=GH },_,wh,vA,v2,v3,0,"",rfl,.down "" hdn,fun v H3 s3 r3=>?_⟩;exact⟨0,"",rfl,Zd,fun v' H4 s4 r4=>⟨3,kF 0 "",Zd,r3.same s4,r4,hk _ _ ⟨rfl,s3.trans s4⟩⟩⟩
  rintro H4 ⟨_,s4⟩;dsimp only [eX];have SO:Bb c H4 {a with jl:=GH } {s with safe:=s.rows.length }:=Own.same s4 hdn;have tk2:TK H H2:=fun b xs e=>k2 _ _ (m1.tk h _ _ e) (bF (m1.tk h _ _ e) h1.dr fun z=>nomatch z) (bF (m1.tk h _ _ e) h1.j fun z=>nomatch z)
  have hc4:CrAt H4 cr:=fun p hp=>let ⟨x3,x4,x5,e⟩:=hc p hp;⟨x3,x4,x5,s4 _ _ (tk2 _ _ e)⟩
  refine⟨_,_,SO.get 0 rfl,by kernel_rfl,{a with jl:=GH },_,turn,cr,n,rfl,SO,ug,hc4,hl,hn,Xz,ZV,ZW,fun l5 a' H5 e5 h5 f5 k5 g5=>?_⟩;refine⟨eY rfl,fun l6 h6=>?_⟩;have s6:=aF (o:=.lst []) h6;refine⟨_,_,_,rfl,rfl,SqL.of (s6 _ _ g5),SqL.of aA,?_⟩;refine q a' _ e5 (h5.same s6) (fun b o e hb=>?_) fun b hb=>?_
  ·have n1:b≠a.dr:=fun z=>hb (by rw[z];simp[DA.fix])
   have n2:b≠a.j:=fun z=>hb (by rw[z];simp[DA.fix])
   exact s6 _ _ (k5 _ _ (s4 _ _ (k2 _ _ (m1.fr _ _ e hb) n1 n2)) n1)
  ·rcases f5 b hb with z|z
   ·simp only [mem_cons,not_mem_nil,or_false]at z;rcases z with rfl|rfl|rfl|rfl
    ·exact .inl (by simp[DA.fix])
    ·exact .inl (by simp[DA.fix])
    ·exact .inl (by simp[DA.fix])
    ·exact .inr (m1.gr _ fj)
   ·have e2:=s4.free z;by_cases n1:b=a.dr
    ·exact .inl (by rw[n1];simp[DA.fix])
    by_cases n2:b=a.j
    ·exact .inl (by rw[n2];simp[DA.fix])
    refine .inr (m1.gr _ ?_)
    cases e:H1 b with
    | none=>rfl
    | some o=>rw[k2 _ _ e n1 n2]at e2;cases e2
def uT(c:CK):Sp:=fun vs H Q _=>∃(a:DA)(s:DS)(wh w0:Int)(q:Str×Str)(vD v1 v2 v3:V)(lb:Addr),vs=[.ref a.dr,.int wh,.str q.1,.str q.2,vD,.ref lb]/\DAt c H a s/\isNm q.1/\isKy q.2/\H lb=some (.lst [.int w0,v1,v2,v3])/\Pt H v1/\Pt H v2/\aP v1 LET 8=false/\aP v2 (LET++tK) 12=false/\∀H',Same H H'->Q (.bl true) H'
def Bm{c:CK}(T:Txt K mg)(u9:aI P w K mg base 6 "_law_refused" ["_law_door","_law_turn","_law_asker","_law_key","_law_deed"] (iV c))(U2:aI P w K mg base 1 "_law_told" ["_law_which","_law_house"] kG)(D:DefAt K mg "_law_words_right" bX ["_law_door","_law_when","_law_asker","_law_key","_law_deed","_law_bad"]):aI P w K mg base 7 "_law_words_right" ["_law_door","_law_when","_law_asker","_law_key","_law_deed","_law_bad"] (uT c):=by
 refine D.go eU (fun vs H Q E h=>?_) (fun f cdv A outer s H vs Q E hr h=>?_)
 ·obtain⟨a,s,wh,w0,q,vD,v1,v2,v3,lb,rfl,_⟩:=h;rfl
 ·obtain⟨a,s,wh,w0,qq,vD,v1,v2,v3,lb,rfl,h,hq1,hq2,JI,p1,p2,m1,m2,q⟩:=h;have sy:=hr.units;have v8:Room 6 _:=hr;have U3:Room 1 _:=hr.mono Zd;refine⟨_,(R.ae (R.bt PassesOwn.never rfl (R.be (K:=K) (R.aw (R.aa (R.aj (R.aa (R.v 1) (R.aa (R.ix (R.au (K:=K)) (R.v 5) R.ad) (R.aa (R.ix (R.au (K:=K)) (R.v 5) R.ad) (R.aa (R.ix (R.au (K:=K)) (R.v 5) R.ad) R.ac))))) (R.aa (R.aj (R.aa (R.ix (R.au (K:=K)) (R.v 5) R.ad) (R.aa (R.v 2) (R.aa (R.ix (R.au (K:=K)) (R.v 5) R.ad) (R.aa (R.ix (R.au (K:=K)) (R.v 5) R.ad) R.ac))))) (R.aa (R.aj (R.aa (R.v 1) (R.aa (R.ix (R.au (K:=K)) (R.v 5) R.ad) (R.aa (R.v 3) (R.aa (R.v 4) R.ac))))) R.ac))))) (R.gn (i:=6) eU.nd) (R.af (R.aq (R.am (R.bv sy) (R.fn u9 v8 rfl (R.aa (R.v 0) (R.aa (R.ix (R.ao (K:=K)) (R.v 6) R.ad) (R.aa (R.ix (R.ao (K:=K)) (R.v 6) R.ad) (R.aa (R.ix (R.ao (K:=K)) (R.v 6) R.ad) (R.aa (R.ix (R.ao (K:=K)) (R.v 6) R.ad) R.ac)))))) (R.fn U2 U3 rfl (R.aa R.ad (R.aa R.ag R.ac)))) (R.af (R.ah R.bl)) R.ar))) (R.af (R.ah R.bl))),?_⟩;refine⟨_,SqL.of JI,v1,rfl,_,SqL.of JI,v2,rfl,_,SqL.of JI,v3,rfl,bB rfl,fun t1 H1 s1 g1=>?_⟩;have KQ:=s1 _ _ JI;refine⟨_,SqL.of KQ,.int w0,rfl,_,SqL.of KQ,v2,rfl,_,SqL.of KQ,v3,rfl,bB rfl,fun t2 H2 s2 g2=>?_⟩;have KP:=s2 _ _ KQ;refine⟨_,SqL.of KP,v1,rfl,bB rfl,fun t3 H3 s3 g3=>⟨eY rfl,fun l hl=>?_⟩⟩;have s4:=aF (o:=.lst [.ref t1,.ref t2,.ref t3]) hl;have gl:(aH H3 l (.lst [.ref t1,.ref t2,.ref t3])) l=some (.lst [.ref t1,.ref t2,.ref t3]):=aA;generalize aH H3 l (.lst [.ref t1,.ref t2,.ref t3])=H4 at s4 gl ⊢;have sA:=((s1.trans s2).trans s3).trans s4;have PD:=s4 _ _ (s3 _ _ (s2 _ _ g1));have VL:=s4 _ _ (s3 _ _ g2);have PF:=s4 _ _ g3;refine⟨l,rfl,⟨_,SqL.of gl⟩,lX (eR K l [.ref t1,.ref t2,.ref t3]) (fun i σ G=>Same H4 G/\∃o,σ=[some (.ref a.dr),some (.int wh),some (.str qq.1),some (.str qq.2),some vD,some (.ref lb),o]) (fun i σ G e=>SqL.of (e.1 _ _ gl)) ⟨Same.refl _,_,rfl⟩ ?_ fun σ G e=>?_⟩
  ·rintro i x σ G hx ⟨sg,o,rfl⟩;have EO:∃(t:Addr)(tn:Int)(vA vK VM:V),x=.ref t/\G t=some (.tup [.int tn,vA,vK,VM])/\Pt H vA/\Pt H vK/\(aP vA LET 8&&aP vK (LET++tK) 12)=false:=by
    have c3:i=0∨i=1∨i=2:=by have:=(Zgs.mp hx).1;simp at this;omega
    rcases c3 with rfl|rfl|rfl
    ·cases hx;exact⟨t1,_,_,_,_,rfl,sg _ _ PD,p1,p2,by rw[m1];rfl⟩
    ·cases hx;exact⟨t2,_,_,_,_,rfl,sg _ _ VL,aQ hq1.len,p2,by rw[m2];exact Bool.and_false _⟩
    ·cases hx;exact⟨t3,_,_,_,_,rfl,sg _ _ PF,p1,aQ hq2.len,by rw[m1];rfl⟩
   obtain⟨t,tn,vA,vK,VM,rfl,gt,pA,pK,hb⟩:=EO;dsimp only [aL];have sG:=sA.trans sg;refine⟨_,SqT.of gt,.int tn,rfl,_,SqT.of gt,vA,rfl,_,SqT.of gt,vK,rfl,_,SqT.of gt,VM,rfl,a,s,tn,vA,vK,VM,1,"",rfl,.key "" (h.same sG) (pA.same sG) (pK.same sG) hb,fun v G1 s5 r5=>?_⟩;exact⟨1,"",rfl,Zd,fun v' G2 s6 r6=>⟨3,kF 1 "",Zd,r5.same s6,r6,(sg.trans s5).trans s6,_,rfl⟩⟩
  ·obtain⟨sg,o,rfl⟩:=e;exact q G (sA.trans sg)
def Kk:("abcdefghijklmnopqrstuvwxyz":Str)++("0123456789":Str)=tx KLET:=by rw[tI ("abcdefghijklmnopqrstuvwxyz":Str),qY,tI ("0123456789":Str),Eg,qV];rfl
def Tz:KLET.Nodup:=by decide
def WordsOf.nm{ws:List Str}(h:WordsOf LET 8 ws):∀z∈ws,isNm z:=fun z hz=>h.of z hz
def WordsOf.ky{ws:List Str}(h:WordsOf KLET 12 ws):∀z∈ws,isKy z:=fun z hz=>h.of z hz
def Kl{r:Int}(h:0<=r):∃z:Nat,r=z:=⟨r.toNat,Zo⟩
def Gx:("abcdefghijklmnopqrstuvwxyz":Str)=tx LET:=by rw[tI ("abcdefghijklmnopqrstuvwxyz":Str),qY]
def Vw:LET.Nodup:=by decide
def Qk{kvs:List (bJ×V)}{k:bJ}(h:k∈kvs.map (·.1)):∃v,aT kvs k=some v:=by
 cases e:aT kvs k with
 | some v=>exact⟨v,rfl⟩
 | none=>exact absurd h (fQ e)
structure LW(c:CK)(H:Hp)(d b ln:Addr)(zs:List Str)(a:DA)(s:DS):Prop where
 dk:Dk H d b
 gn:H ln=some (.lst (zs.map V.str))
 h:DAt c H a s
 nd:ln≠d
 nb:ln≠b
 ou:∀x∈[d,b,ln],x∉a.fix++s.runs.map (·.p)
def LW.draw{c:CK}{H H':Hp}{d b ln:Addr}{zs:List Str}{a:DA}{s:DS}(L:LW c H d b ln zs a s)(D:Dk H' d b)(k:Kp d b H H'):LW c H' d b ln zs a s:=
 ⟨D,k _ _ L.gn L.nd L.nb,L.h.keep (fun x o e hx=>k _ _ e (fun z=>L.ou d Zs (z▸hx)) fun z=>L.ou b Zs (z▸hx)) (Kp.tk L.dk k),L.nd,L.nb,L.ou⟩
def LW.same{c:CK}{H H':Hp}{d b ln:Addr}{zs:List Str}{a:DA}{s:DS}(L:LW c H d b ln zs a s)(k:Same H H'):LW c H' d b ln zs a s:=L.draw (L.dk.same k) (fK k)
def LW.new{c:CK}{H:Hp}{d b ln:Addr}{zs:List Str}{a:DA}{s:DS}(L:LW c H d b ln zs a s){x:Addr}(hx:H x=none):x≠d/\x≠b/\x∉a.fix++s.runs.map (·.p):=⟨(L.dk.ne hx).1,(L.dk.ne hx).2,L.h.fresh hx⟩
def LW.mv{c:CK}{H H':Hp}{d b ln:Addr}{zs:List Str}{a:DA}{s s':DS}(L:LW c H d b ln zs a s)(h':DAt c H' a s')(m:Mv a s s' H H'):LW c H' d b ln zs a s':=by
 obtain⟨VN,s0,k0,gd,gb,r0⟩:=L.dk.ex;have od:=L.ou d Zs;have ob:=L.ou b Zs;have on:=L.ou ln Zs;have key:∀x o,H x=some o->x∉a.fix++s.runs.map (·.p)->x∉a.fix++s'.runs.map (·.p):=fun x o e hx hm=>by
  rcases Zma.mp hm with z|z
  ·exact hx (mem_append_left _ z)
  ·obtain⟨r,hr,rfl⟩:=Zmm.mp z;rcases m.nw r hr with w|w
   ·exact hx (mem_append_right _ w)
   ·rw[w]at e;cases e
 refine⟨⟨VN,s0,k0,m.fr _ _ gd od,m.fr _ _ gb ob,r0⟩,m.fr _ _ L.gn on,h',L.nd,L.nb,fun x hx=>?_⟩;simp only [mem_cons,not_mem_nil,or_false]at hx;rcases hx with rfl|rfl|rfl
 ·exact key _ _ gd od
 ·exact key _ _ gb ob
 ·exact key _ _ L.gn on
structure BadAt(H:Hp)(out:Addr->Prop)(lb:Addr)(w0:Int)(v1 v2 v3:V):Prop where
 gl:H lb=some (.lst [.int w0,v1,v2,v3])
 ol:out lb
 o1:∀x,v1=.ref x->out x
 o2:∀x,v2=.ref x->out x
 o3:∀x,v3=.ref x->out x
 p1:Pt H v1
 p2:Pt H v2
 m1:aP v1 LET 8=false
 m2:aP v2 (LET++tK) 12=false
 t3:Pt H v3
 f3:∀b xs,v3=.ref b->H b=some (.tup xs)->xs.length<=1000/\∀y∈xs,∀G,Pt G y
 n3:dR H v3=false
def gT{H H':Hp}{v:V}(h:Pt H v)(k:∀x o,v=.ref x->H x=some o->H' x=some o):Pt H' v:=by
 obtain⟨kk,hk,hz⟩:=h;refine⟨kk,?_,hz⟩
 cases v with
 | ref x=>
  cases kk with
  | tup=>obtain⟨xs,g⟩:=hk;exact⟨xs,k _ _ rfl g⟩
  | lst=>
   rcases hk with⟨xs,g⟩|⟨o,xs,g⟩
   ·exact .inl ⟨xs,k _ _ rfl g⟩
   ·exact .inr ⟨o,xs,k _ _ rfl g⟩
  | dct=>obtain⟨xs,g⟩:=hk;exact⟨xs,k _ _ rfl g⟩
  | _=>exact hk
 | _=>cases kk<;>exact hk
def lE{H:Hp}{x:Addr}(h:Pt H (.ref x)):∃o,H x=some o:=by
 obtain⟨kk,hk,_⟩:=h
 cases kk with
 | tup=>obtain⟨xs,g⟩:=hk;exact⟨_,g⟩
 | lst=>
  rcases hk with⟨xs,g⟩|⟨o,xs,g⟩
  ·exact⟨_,g⟩
  ·exact⟨_,g⟩
 | dct=>obtain⟨xs,g⟩:=hk;exact⟨_,g⟩
 | _=>exact hk.elim
def BadAt.keep{H H':Hp}{out SQ:Addr->Prop}{lb:Addr}{w0:Int}{v1 v2 v3:V}(B:BadAt H out lb w0 v1 v2 v3)(k:∀x o,H x=some o->out x->H' x=some o)(ho:∀x o,H x=some o->out x->SQ x):BadAt H' SQ lb w0 v1 v2 v3:=by
 have e3:∀x,v3=.ref x->H' x=H x:=fun x e=>by
  obtain⟨o,g⟩:=lE (e▸B.t3);rw[g,k _ _ g (B.o3 x e)]
 refine⟨k _ _ B.gl B.ol,ho _ _ B.gl B.ol,fun x e=>?_,fun x e=>?_,fun x e=>?_,gT B.p1 fun x o e g=>k _ _ g (B.o1 x e),gT B.p2 fun x o e g=>k _ _ g (B.o2 x e),B.m1,B.m2,gT B.t3 fun x o e g=>k _ _ g (B.o3 x e),fun x xs e g=>B.f3 x xs e (by rw[<- e3 x e];exact g),?_⟩
 ·obtain⟨o,g⟩:=lE (e▸B.p1);exact ho _ _ g (B.o1 x e)
 ·obtain⟨o,g⟩:=lE (e▸B.p2);exact ho _ _ g (B.o2 x e)
 ·obtain⟨o,g⟩:=lE (e▸B.t3);exact ho _ _ g (B.o3 x e)
 ·have:=B.n3;unfold dR at this ⊢
  cases v3 with
  | ref x=>dsimp only at this ⊢;rw[e3 x rfl];exact this
  | _=>rfl
def BadAt.th{H:Hp}{out:Addr->Prop}{lb:Addr}{w0:Int}{v1 v2 v3:V}(B:BadAt H out lb w0 v1 v2 v3):Th H v3:=⟨B.t3,fun x xs e g y hy=>(B.f3 x xs e g).2 y hy H⟩
def BadAt.same{H H':Hp}{out:Addr->Prop}{lb:Addr}{w0:Int}{v1 v2 v3:V}(B:BadAt H out lb w0 v1 v2 v3)(s:Same H H'):BadAt H' out lb w0 v1 v2 v3:=B.keep (fun x o e _=>s _ _ e) fun _ _ _ o=>o
def Vx(x:Dd):TV:=.tp (x.vs.map .sc)
def Gy{H:Hp}{t:Addr}{x:Dd}{n:Nat}(g:H t=some (.tup x.vs)):Rep H (n+2) (Vx x) (.ref t):=by
 refine⟨t,_,rfl,g,?_⟩;cases x<;>exact .cons ⟨rfl,rfl⟩ (.cons ⟨rfl,rfl⟩ (.cons ⟨rfl,rfl⟩ (by first|exact .nil|exact .cons ⟨rfl,rfl⟩ (by first|exact .nil|exact .cons ⟨rfl,rfl⟩ .nil))))
def Wo(r:Rn):TV:=.tp [.sc (.int r.n),.sc (.str r.q.1),.sc (.str r.q.2),Vx r.x,.sc (.str r.st)]
def Gz{c:CK}{H:Hp}{a:DA}{s:DS}(h:DAt c H a s):∀ {rs:List Rn}{us:List V},(∀r∈rs,r∈s.runs)->Paired (Kj H) rs us->Paired (Rep H 3) (rs.map Wo) us
 | [],_,_,.nil=>.nil
 | r::rs,_,hm,.cons ⟨t,e,g⟩ p=>.cons ⟨t,_,e,g,.cons ⟨rfl,rfl⟩ (.cons ⟨rfl,rfl⟩ (.cons ⟨rfl,rfl⟩ (.cons (Gy (h.dd r (hm r Zs))) (.cons ⟨rfl,rfl⟩ .nil))))⟩ (Gz h (fun z hz=>hm z (by simp[hz])) p)
def Lx(turn:Int)(q:Str×Str)(x:Dd)(rs:List Rn):TV:=.tp [.sc (.int turn),.ls [.tp [.sc (.str "came"),.sc (.int 1),.sc (.int turn),.sc (.str q.1),.sc (.str q.2),Vx x]],.ls (rs.map Wo)]
def Ot(d b:Addr)(a:DA)(s:DS)(x:Addr):Prop:=x≠d/\x≠b/\x∉a.fix++s.runs.map (·.p)
def wV{c:CK}{H0 H:Hp}{d b ln:Addr}{zs:List Str}{a:DA}{s:DS}(L0:LW c H0 d b ln zs a s)(L:LW c H d b ln zs a s){v:V}(fr:∀x,v=.ref x->(∃xs,H x=some (.tup xs))∨H0 x=none):∀x,v=.ref x->Ot d b a s x:=fun x e=>by
 rcases fr x e with⟨xs,g⟩|g
 ·exact⟨(L.dk.tup_ne g).1,(L.dk.tup_ne g).2,L.h.out g ⟨_,rfl⟩⟩
 ·exact L0.new g
def mE{H H':Hp}{d b:Addr}{a:DA}{s:DS}{v:V}(h:Pt H v)(ho:∀x,v=.ref x->Ot d b a s x)(k:Kp d b H H'):Pt H' v:=gT h fun x o e g=>k _ _ g (ho x e).1 (ho x e).2.1
def LW.side{c:CK}{H:Hp}{d b ln:Addr}{zs:List Str}{a:DA}{s:DS}(L:LW c H d b ln zs a s){x:Addr}{us:List V}{o:HO}(g:H x=some (.lst us))(hx:Ot d b a s x)(hn:x≠ln):LW c (aH H x o) d b ln zs a s:=by
 obtain⟨VN,s0,k0,gd,gb,r0⟩:=L.dk.ex;have k:∀y u,H y=some u->y≠x->(aH H x o) y=some u:=fun y u e h=>by rw[aE h];exact e
 exact⟨⟨VN,s0,k0,k _ _ gd hx.1.symm,k _ _ gb hx.2.1.symm,r0⟩,k _ _ L.gn hn.symm,L.h.keep (fun y u e hy=>k _ _ e fun z=>hx.2.2 (z▸hy)) (jR g fun _ z=>nomatch z),L.nd,L.nb,L.ou⟩
structure LZ(c:CK)(G:Hp)(ln lf lb:Addr)(zs:List Str)(bs:List Bool)(w0:Int)(v1 v2 v3:V)(turn:Int)(as ky:Str)(hs:List (bJ×V))(d1 ra td:Addr)(x:Dd)(a:DA)(s:DS):Prop where
 h:DAt c G a s
 gn:G ln=some (.lst (zs.map V.str))
 gf:G lf=some (.lst (bs.map V.bl))
 B:BadAt G (fun x=>x∉a.fix++s.runs.map (·.p)) lb w0 v1 v2 v3
 gd:G d1=some (.tup (Dd.vs (.add as 1)))
 gr:G ra=some (.tup [.str "came",.int 1,.int turn,.str as,.str ky,.ref d1])
 gt:G td=some (.tup x.vs)
 tu:s.turn=turn
 nx:s.next=2
 hh:s.hs=hs
 ro:s.rows=[.ref ra]
 mf:∀k',k'≠ky->s.m (as,k')=none
 hL:s.L<=1
 rl:s.runs.length<=1
 rn:∀r∈s.runs,r.n<2
def LZ.same{c:CK}{G G':Hp}{ln lf lb:Addr}{zs:List Str}{bs:List Bool}{w0:Int}{v1 v2 v3:V}{turn:Int}{as ky:Str}{hs:List (bJ×V)}{d1 ra td:Addr}{x:Dd}{a:DA}{s:DS}(L:LZ c G ln lf lb zs bs w0 v1 v2 v3 turn as ky hs d1 ra td x a s)(k:Same G G'):LZ c G' ln lf lb zs bs w0 v1 v2 v3 turn as ky hs d1 ra td x a s:=
 ⟨L.h.same k,k _ _ L.gn,k _ _ L.gf,L.B.same k,k _ _ L.gd,k _ _ L.gr,k _ _ L.gt,L.tu,L.nx,L.hh,L.ro,L.mf,L.hL,L.rl,L.rn⟩
def uU{c:CK}{G:Hp}{ln lf lb:Addr}{zs:List Str}{bs:List Bool}{w0:Int}{v1 v2 v3:V}{turn:Int}{as ky:Str}{hs:List (bJ×V)}{d1 ra td:Addr}{x:Dd}{a:DA}{s:DS}(L:LZ c G ln lf lb zs bs w0 v1 v2 v3 turn as ky hs d1 ra td x a s){tk l1 l2:Addr}{us:List V}(g:G tk=some (.tup [.int s.turn,.ref l1,.ref l2]))(g1:G l1=some (.lst s.rows))(g2:G l2=some (.lst us))(p:Paired (Kj G) s.runs us):Rep G 5 (Lx turn (as,ky) (.add as 1) s.runs) (.ref tk):=by
 rw[L.tu]at g;rw[L.ro]at g1;exact⟨tk,_,rfl,g,.cons ⟨rfl,rfl⟩ (.cons ⟨l1,_,rfl,g1,.cons ⟨ra,_,rfl,L.gr,.cons ⟨rfl,rfl⟩ (.cons ⟨rfl,rfl⟩ (.cons ⟨rfl,rfl⟩ (.cons ⟨rfl,rfl⟩ (.cons ⟨rfl,rfl⟩ (.cons (Gy L.gd) .nil)))))⟩ .nil⟩ (.cons ⟨l2,us,rfl,g2,Gz L.h (fun _ h=>h) p⟩ .nil))⟩
def Ha{ky:Str}(h:isKy ky){z:Str}(hz:z.length=1)(hc:∀c∈z.cps.toList,c∈KLET):isKy (tx (dX ky.cps.toList none (some 11))++z):=by
 have el:ky.cps.toList.length=ky.length:=by simp[Str.length]
 rw[show(11:Int)=((11:Nat):Int) from rfl,hZ];have e:(tx (ky.cps.toList.take 11)++z).length=min 11 ky.length+1:=by rw[rW,cP,oR,el,hz]
 refine⟨Zo,Zo,fun c GD=>?_⟩;rw[iI,Fe]at GD;rcases Zma.mp GD with m|m
 ·exact h.2.2 c (mem_of_mem_take m)
 ·exact hc c m
def zA(K:W.Frag):Sp:=fun vs H Q _=>∃(a:Addr)(ns:List Int),vs=[.ref a]/\SqL K H a (ns.map V.int)/\ns.length<=63/\∀H',Q (.bl true) H'
def Ua{z:Str}(h:isNm z):isNm (tx (dX z.cps.toList none (some 5)))/\(tx (dX z.cps.toList none (some 5))).length<=5:=by
 have el:z.cps.toList.length=z.length:=by simp[Str.length]
 rw[show(5:Int)=((5:Nat):Int) from rfl,hZ];have e:(tx (z.cps.toList.take 5)).length=min 5 z.length:=by rw[cP,oR,el]
 obtain⟨h1,h2,h3⟩:=h;refine⟨⟨Zo,Zo,fun c hc=>?_⟩,Zo⟩;rw[Fe]at hc;exact h3 c (mem_of_mem_take hc)
def Ql{c:CK}{e:XC}{CH:Addr}(T:Txt K mg)(NR:aI P w K mg base 1 "_law_deck" ["_law_script"] (Ec K))(f7:aI P w K mg base 1 "_law_draw" ["_law_deck_here","_law_many"] iU)(yo:aI P w K mg base 2 "_law_unlike" ["_law_deck_here","_law_signs","_law_longest","_law_many"] pZ)(NS:rE P w K mg base 6 "Door" c.D ["self","name","life","houses"] [] (yU c))(HJ:rE P w K mg base 1 "House" CH ["self","rows","closed"] [.non,.non] (qC CH))(F0:jA P w K mg base 5 c.D "come" ["self","turn","asker","key","deed"] (rV c e))(qd:aI P w K mg base 2 "_law_houses_asked" ["_law_deck_here","_law_words","_law_many"] qE)(ui:aI P w K mg base 2 "_law_no_word" ["_law_deck_here","_law_word"] uQ)(FQ:aI P w K mg base 2 "_law_no_deed" ["_law_deck_here","_law_name","_law_other"] uR)(qe:aI P w K mg base 7 "_law_fallen_right" ["_law_door","_law_turn","_law_asker","_law_bad","_law_when"] (uS c))(tj:aI P w K mg base 7 "_law_words_right" ["_law_door","_law_when","_law_asker","_law_key","_law_deed","_law_bad"] (uT c))(u9:aI P w K mg base 6 "_law_refused" ["_law_door","_law_turn","_law_asker","_law_key","_law_deed"] (iV c))(U2:aI P w K mg base 1 "_law_told" ["_law_which","_law_house"] kG)(qf:eW P w K mg base 2 c.D "now" ["self"] (Lv c))(ll:eW P w K mg base 2 c.D "rows" ["self"] (yV c))(X2:eW P w K mg base 2 c.D "under" ["self"] (yW c)){f:Addr}{fd:FuncData}(F:Fun K "law" "law" iE f fd):gC P w K mg base pJ 8 f fd ["_law_script"] (zA K):=by
 refine F.go cF (fun vs H Q E h=>?_) (fun cdv A outer s H vs Q E hr h=>?_)
 ·obtain⟨a,ns,rfl,_⟩:=h;rfl
 ·obtain⟨sa,ns,rfl,hS,hlen,Q0⟩:=h;have hu:=hr.units0;have sy:=hr.units;have NT:Room 1 _:=hr.mono Zd;have f9:Room 1 _:=hr.mono Zd;have yp:Room 2 _:=hr.mono Zd;have KR:Room 7 _:=hr;have HK:Room 2 _:=hr.mono Zd;have C1:Room 5 _:=hr.mono Zd;have qg:Room 2 _:=hr.mono Zd;have uj:Room 2 _:=hr.mono Zd;have FR:Room 2 _:=hr.mono Zd;have qh:Room 7 _:=hr;have tm:Room 7 _:=hr;have v8:Room 6 _:=hr.mono Zd;have U3:Room 1 _:=hr.mono Zd;have lp:Room 2 _:=hr.mono Zd;have X3:Room 2 _:=hr.mono Zd;have U0:Room 2 _:=hr.mono Zd;refine⟨_,(R.ae (R.ai (i:=1) cF.nd (R.fn NR NT rfl (R.aa (R.v 0) R.ac))) (R.ae (R.ai (i:=2) cF.nd R.ag) (R.ae (R.ai (i:=3) cF.nd (R.fn yo yp rfl (R.aa (R.v 1) (R.aa (R.v 2) (R.aa R.ad (R.aa R.ad R.ac)))))) (R.ae (R.ai (i:=4) cF.nd (R.fn f7 f9 rfl (R.aa (R.v 1) (R.aa R.ad R.ac)))) (R.ae (R.ai (i:=5) cF.nd (R.ck NS KR rfl (R.aa (R.sl R.sS (R.ix (R.au (K:=K)) (R.v 3) R.ad) R.pn (R.ps R.ad)) (R.aa (R.op R.ba R.ad (R.fn f7 f9 rfl (R.aa (R.v 1) (R.aa (R.op R.cw R.ad R.ad) R.ac)))) (R.aa (R.bb rfl (js:=[none,some 3]) (N:=["_law_k","_law_words"]) (CompScope.by (aD iE) ["_law_script","_law_deck_here","_law_letters","_law_words","_law_many","_law_door","_law_turn","_law_asker","_law_key","_law_deed","_law_faults","_law_bad","_law_when","_law_kept","_law_other","_law_good"] rfl rfl Zk) (aS rfl) (R.cq rfl T.b_range (R.aa (R.v 4) R.ac)) (fun C s₂ H₂ fp=>⟨(R.gn (i:=0) (show(["_law_k","_law_words"]:List Str).Nodup by decide +kernel)),R.bn,(R.aj (R.aa (R.ix (R.au (K:=K)) (R.v 1) (R.v 0)) (R.aa (R.ic HJ HK rfl) R.ac)))⟩)) R.ac))))) (R.ae (R.ai (i:=6) cF.nd (R.op R.ba R.ad (R.fn f7 f9 rfl (R.aa (R.v 1) (R.aa (R.ix (R.au (K:=K)) (R.aw (R.aa R.ad (R.aa (R.op R.cw R.ad R.ad) R.ac))) (R.fn f7 f9 rfl (R.aa (R.v 1) (R.aa R.ad R.ac)))) R.ac))))) (R.ae (R.ai (i:=7) cF.nd (R.ix (R.au (K:=K)) (R.v 3) (R.fn f7 f9 rfl (R.aa (R.v 1) (R.aa R.ad R.ac))))) (R.ae (R.ai (i:=8) cF.nd (R.ix (R.au (K:=K)) (R.fn yo yp rfl (R.aa (R.v 1) (R.aa (R.op R.bp (R.v 2) R.ag) (R.aa R.ad (R.aa R.ad R.ac))))) R.ad)) (R.ae (R.aq (R.am (R.bv sy) (R.dy F0 C1 dL (R.v 5) (R.aa (R.v 6) (R.aa (R.v 7) (R.aa (R.v 8) (R.aa (R.aj (R.aa R.ag (R.aa (R.v 7) (R.aa R.ad R.ac)))) R.ac))))) (R.aj (R.aa R.ag (R.aa R.ad R.ac)))) (R.af (R.ah R.bl)) R.ar) (R.ae (R.ai (i:=9) cF.nd (R.fn qd qg rfl (R.aa (R.v 1) (R.aa (R.v 3) (R.aa (R.v 4) R.ac))))) (R.ae (R.fb (i:=10) cF.nd rfl (Or.inl rfl) rfl (js:=[none,some 1]) (N:=["_law_k","_law_deck_here"]) (CompScope.by (aD iE) ["_law_script","_law_deck_here","_law_letters","_law_words","_law_many","_law_door","_law_turn","_law_asker","_law_key","_law_deed","_law_faults","_law_bad","_law_when","_law_kept","_law_other","_law_good"] rfl rfl Zk) (aS rfl) (R.cq rfl T.b_range (R.aa R.ad R.ac)) (fun C s₂ H₂ fp=>⟨(R.gn (i:=0) (show(["_law_k","_law_deck_here"]:List Str).Nodup by decide +kernel)),R.bn,(R.bj R.eq (R.fn f7 f9 rfl (R.aa (R.v 1) (R.aa R.ad R.ac))) R.ad)⟩) rfl) (R.ae (R.ai (i:=11) cF.nd (R.aw (R.aa (R.op R.ie (R.op R.ie (R.v 6) R.ad) (R.fn f7 f9 rfl (R.aa (R.v 1) (R.aa (R.v 6) R.ac)))) (R.aa (R.fn ui uj rfl (R.aa (R.v 1) (R.aa (R.v 7) R.ac))) (R.aa (R.fn ui uj rfl (R.aa (R.v 1) (R.aa (R.v 8) R.ac))) R.ac))))) (R.ae (R.bc (R.cp (K:=K) PySem.F.plainAttrs_list PySem.F.slot_list_append PySem.F.type_list_append R.ib (R.v 11) (R.aa (R.fn FQ FR rfl (R.aa (R.v 1) (R.aa (R.ix (R.au (K:=K)) (R.v 3) (R.fn f7 f9 rfl (R.aa (R.v 1) (R.aa R.ad R.ac)))) (R.aa (R.ix (R.au (K:=K)) (R.v 3) R.ad) R.ac)))) R.ac))) (R.ae (R.ai (i:=12) cF.nd (R.ix (R.au (K:=K)) (R.aw (R.aa (R.ax (R.fm rfl) rfl T.b_min Ox (R.aa (R.op R.cw R.ad R.ad) (R.aa (R.op R.ba (R.v 6) (R.fn f7 f9 rfl (R.aa (R.v 1) (R.aa R.ad R.ac)))) R.ac))) (R.aa (R.ix (R.au (K:=K)) (R.v 11) R.ad) R.ac))) (R.ce R.fc rfl T.b_int qX (R.aa (R.ix (R.au (K:=K)) (R.v 10) R.ad) R.ac)))) (R.ae (R.aq (R.tw (R.cm (R.az (R.ix (R.au (K:=K)) (R.v 10) R.ad)) (R.cn (R.bi (R.az (R.fn qe qh rfl (R.aa (R.v 5) (R.aa (R.v 6) (R.aa (R.v 7) (R.aa (R.v 11) (R.aa (R.v 12) R.ac))))))))))) (R.af (R.ah R.bl)) R.ar) (R.ae (R.ai (i:=13) cF.nd (R.aj (R.aa (R.bf qf lp (R.v 5)) (R.aa (R.bf ll X3 (R.v 5)) (R.aa (R.bf X2 U0 (R.v 5)) R.ac))))) (R.ae (R.aq (R.tw (R.cm (R.az (R.ix (R.au (K:=K)) (R.v 10) R.ad)) (R.cn (R.bi (R.az (R.fn tj tm rfl (R.aa (R.v 5) (R.aa (R.v 12) (R.aa (R.v 7) (R.aa (R.v 8) (R.aa (R.v 9) (R.aa (R.v 11) R.ac)))))))))))) (R.af (R.ah R.bl)) R.ar) (R.ae (R.aq (R.tw (R.cm (R.az (R.ix (R.au (K:=K)) (R.v 10) R.ad)) (R.cn (R.am (R.bv sy) (R.fn u9 v8 rfl (R.aa (R.v 5) (R.aa (R.v 12) (R.aa (R.v 7) (R.aa (R.v 8) (R.aa (R.ix (R.au (K:=K)) (R.v 11) R.ad) R.ac)))))) (R.fn U2 U3 rfl (R.aa R.ad (R.aa R.ag R.ac))))))) (R.af (R.ah R.bl)) R.ar) (R.ae (R.aq (R.am (R.bv sy) (R.fn u9 v8 rfl (R.aa (R.v 5) (R.aa (R.v 12) (R.aa (R.v 7) (R.aa (R.v 8) (R.aa (R.v 9) R.ac)))))) (R.fn U2 U3 rfl (R.aa R.ad (R.aa (R.ix (R.au (K:=K)) (R.v 3) R.ad) R.ac)))) (R.af (R.ah R.bl)) R.ar) (R.ae (R.ai (i:=14) cF.nd (R.op R.bp (R.sl R.sS (R.v 8) R.pn (R.ps R.ad)) (R.ix (R.au (K:=K)) (R.aw (R.aa R.ag (R.aa R.ag R.ac))) (R.ce R.fc rfl T.b_int qX (R.aa (R.bj R.eq (R.v 8) (R.op R.bp (R.sl R.sS (R.v 8) R.pn (R.ps R.ad)) R.ag)) R.ac))))) (R.ae (R.ai (i:=15) cF.nd (R.aj (R.aa R.ag (R.aa (R.ix (R.au (K:=K)) (R.v 3) R.ad) (R.aa R.ad R.ac))))) (R.ae (R.aq (R.tw (R.cm (R.az (R.ix (R.au (K:=K)) (R.v 10) R.ad)) (R.cn (R.am (R.bv sy) (R.fn u9 v8 rfl (R.aa (R.v 5) (R.aa (R.v 12) (R.aa (R.v 7) (R.aa (R.v 14) (R.aa (R.v 15) R.ac)))))) (R.fn U2 U3 rfl (R.aa R.ad (R.aa R.ag R.ac))))))) (R.af (R.ah R.bl)) R.ar) (R.ae (R.aq (R.am (R.bv sy) (R.aj (R.aa (R.bf qf lp (R.v 5)) (R.aa (R.bf ll X3 (R.v 5)) (R.aa (R.bf X2 U0 (R.v 5)) R.ac)))) (R.v 13)) (R.af (R.ah R.bl)) R.ar) (R.af (R.ah (R.bj (R.fg sy) (R.dy F0 C1 dL (R.v 5) (R.aa (R.v 6) (R.aa (R.v 7) (R.aa (R.v 14) (R.aa (R.v 15) R.ac))))) (R.aj (R.aa R.ag (R.aa R.ad R.ac))))))))))))))))))))))))))))),?_⟩;refine⟨sa,ns,rfl,hS,fun d b H1 Zr Zn D1 s1=>?_⟩;dsimp only [aL];refine cT (fun σ' G=>σ'=[some (.ref sa),some (.ref d),some (.str (tx LET)),none,none,none,none,none,none,none,none,none,none,none,none,none]/\H1=G) (fun nx y8=>y8 _ _ ⟨by rw[<- Gx];rfl,rfl⟩) ?_;rintro _ _ ⟨rfl,rfl⟩;refine⟨d,b,LET,8,8,rfl,D1,Zd,Zd,Zd,Vw,Zd,Zd,fun ln zs H3 wz MX gn nn Ym D3 k3=>?_⟩;dsimp only [aL];have FI:=wz.nm;refine⟨d,b,7,rfl,D3,Zd,Zd,fun r1 H4 a0 a1 D4 k4=>?_⟩;obtain⟨m,rfl⟩:=Kl a0;have hm6:m<=6:=by omega
  dsimp only [aL];have gn4:=k4 _ _ gn nn Ym;have VO:0<zs.length:=by omega
  have hz0:=FI _ (getElem_mem VO);have L4:zs.length=8:=MX;refine cT (fun σ' G=>∃(a:DA)(nm:Str)(life:Int)(hs:List (bJ×V)),σ'=[some (.ref sa),some (.ref d),some (.str (tx LET)),some (.ref ln),some (.int (m:Int)),some (.ref a.dr),none,none,none,none,none,none,none,none,none,none]/\LW c G d b ln zs a (Qh nm life hs)/\(∀z,z∈zs.take m->∃v,aT hs (Sum.inr z)=some v)/\(∀z,z∉zs.take m->aT hs (Sum.inr z)=none)) (fun nx y8=>?_) ?_
  ·refine⟨_,SqL.of gn4,.str zs[0],cU (j:=0) (by rw[jS,kI VO];rfl),gE hz0.len,⟨Zd,Zd,Zd⟩,d,b,_,rfl,D4,Zd,Zd,fun r2 H5 b0 b1 D5 k5=>?_⟩;obtain⟨Xt,SR⟩:=Ua hz0;generalize tx (dX zs[0].cps.toList none (some 5))=nm at Xt SR ⊢;have Yn:=k5 _ _ gn4 nn Ym;refine⟨(m:Int),rfl,Zo,Zo,?_⟩;refine bQ (eQ 0 (m:Int).toNat) (by rw[cO];omega) (fun j ys G=>Same H5 G/\j<=m/\∃us:List W,ys=us.map (fun z=>V.ref z.1)/\us.length<=j/\Tg G us/\us.map (fun z=>z.2.1)=(zs.take j).map Sum.inr) (fun j ys G ⟨e1,_,us,e2,e3,_⟩=>⟨trivial,by rw[e2,gZ];exact e3⟩) ⟨Same.refl _,zero_le _,[],rfl,bY _,(fun _ h=>nomatch h),rfl⟩ (fun j x ys G hx ⟨e1,ejm,us,e2,e3,e4,e5⟩=>?_) (fun ys G ⟨e1,_,us,e2,e3,e4,e5⟩=>?_)
   ·obtain⟨rfl,hj⟩:=nZ hx;have hjm:j<m:=by have:(m:Int).toNat=m:=rfl;omega
    have hjz:j<zs.length:=by omega
    have hhj:zs[j]?=some zs[j]:=kI hjz;dsimp only [aL];refine⟨_,SqL.of (e1 _ _ Yn),.str zs[j],cU (by rw[jS,hhj];rfl),?_⟩;intro x dx MW Yo O3;refine⟨x,dx,rfl,aA,fun G1 f1 f2=>⟨rfl,?_⟩⟩;have sG:Same G G1:=fun p o e=>f1 _ _ (by rw[aE (aB e MW),aE (aB e Yo)];exact e) (aB e MW)
    refine⟨bB rfl,fun t G2 s2 gt=>⟨(e1.trans sG).trans s2,Zo,us++[(t,Sum.inr zs[j],.ref x)],by rw[e2,mF];rfl,by rw[wW];simpa using e3,fun z hz=>?_,?_⟩⟩
    ·rcases Zma.mp hz with m|m
     ·exact s2 _ _ (sG _ _ (e4 z m))
     ·rw[Zms.mp m];exact gt
    ·rw[mF,e5,fU hhj,mF];rfl
   rw[cO,show(m:Int).toNat=m from rfl]at e5;intro SS SU;have s6:=e1.trans (aF (o:=.lst ys) SU);have SV:(aH G SS (.lst ys)) SS=some (.lst (us.map fun z=>V.ref z.1)):=by rw[aA,e2]
   have wat:Tg (aH G SS (.lst ys)) us:=fun z hz=>aF SU _ _ (e4 z hz)
   generalize aH G SS (.lst ys)=H6 at s6 SV wat ⊢;have US:us.length<=6:=by
    have:=congrArg length e5;rw[gZ,gZ,oR]at this;omega
   intro p dx hp zd O3;have VP:∀ {q u},H6 q=some u->(aH (aH H6 dx (.own p)) p (.ins c.D dx [])) q=some u:=fun e=>by rw[aE (aB e hp),aE (aB e zd)];exact e
   refine⟨p,dx,SS,nm,_,us,rfl,aA,Xt,SR,VP SV,(fun z hz=>VP (wat z hz)),US,fun a H7 hdr h7 hfx k7=>⟨rfl,?_⟩⟩;have s7:Same H6 H7:=fun q u e=>k7 _ _ (VP e) (aB e hp)
   have ekv:dI [] (us.map (·.2))=us.map (·.2):=by
    rw[kS _ _ ?_ fun _ _=>rfl]
    ·rfl
    ·rw[map_map];show(us.map fun z=>z.2.1).Nodup;rw[e5];exact kT (wz.nd.sublist (List.take_sublist _ _))
   rw[ekv]at h7;have ek:(us.map (·.2)).map (·.1)=(zs.take m).map Sum.inr:=by rw[map_map];exact e5
   have NU:∀q u,H6 q=some u->q∉a.fix++([]:List Rn).map (·.p):=fun q u e m=>by
    have m':q∈a.fix:=by
     rcases Zma.mp m with z|z
     ·exact z
     ·exact nomatch z
    rcases hfx q m' with z|z
    ·rw[z]at e;rw[e]at hp;cases hp
    ·rw[VP e]at z;cases z
   have s57:=s6.trans s7;subst hdr;refine y8 _ _ ⟨a,nm,_,us.map (·.2),rfl,⟨D5.same s57,s57 _ _ Yn,h7,nn,Ym,fun x hx=>?_⟩,fun z hz=>Qk (by rw[ek];exact mem_map_of_mem hz),fun z hz=>?_⟩
   ·obtain⟨VN,s0,k0,gd,gb,_⟩:=D5.ex;simp only [mem_cons,not_mem_nil,or_false]at hx;rcases hx with rfl|rfl|rfl
    ·exact NU _ _ (s6 _ _ gd)
    ·exact NU _ _ (s6 _ _ gb)
    ·exact NU _ _ (s6 _ _ Yn)
   ·cases e:aT (us.map (·.2)) (Sum.inr z) with
    | none=>rfl
    | some v=>
     have:=mem_map_of_mem (f:=(·.1)) (nV e);rw[ek]at this;obtain⟨z',Xj,e'⟩:=Zmm.mp this;cases e';exact absurd Xj hz
  rintro _ H5 ⟨a,nm,life,hs,rfl,L5,JC,Yp⟩;refine cT (fun σ' G=>∃(turn:Nat),σ'=[some (.ref sa),some (.ref d),some (.str (tx LET)),some (.ref ln),some (.int (m:Int)),some (.ref a.dr),some (.int (turn:Int)),none,none,none,none,none,none,none,none,none]/\1<=turn/\turn<=1000000000000/\LW c G d b ln zs a (Qh nm life hs)) (fun nx y8=>?_) ?_
  ·refine⟨⟨Zd,Zd,Zd⟩,eY rfl,fun l1 h1=>?_⟩;have L6:=L5.same (aF (o:=.lst [.int 9,.int (10^(12:Int).toNat)]) h1);have g1:(aH H5 l1 (.lst [.int 9,.int (10^(12:Int).toNat)])) l1=some (.lst [.int 9,.int (10^(12:Int).toNat)]):=aA;have nl:=L5.new h1;generalize aH H5 l1 (.lst [.int 9,.int (10^(12:Int).toNat)])=H6 at L6 g1 ⊢;refine⟨d,b,2,rfl,L6.dk,Zd,Zd,fun r1 H7 a0 a1 D7 k7=>?_⟩;have L7:=L6.draw D7 k7;have g7:=k7 _ _ g1 nl.1 nl.2.1;have c2:∃mm:Int,oH [V.int 9,.int (10^(12:Int).toNat)] r1=some (.int mm)/\0<mm/\mm<=1000000000000:=by
    have:r1=0∨r1=1:=by omega
    rcases this with rfl|rfl
    ·exact⟨9,rfl,Zd,Zd⟩
    ·exact⟨_,rfl,Zd,Zd⟩
   obtain⟨mm,hat,hm0,FD⟩:=c2;refine⟨_,SqL.of g7,_,hat,d,b,mm,rfl,L7.dk,hm0,Zo,fun r2 H8 b0 b1 D8 k8=>?_⟩;obtain⟨t,rfl⟩:=Kl b0;refine y8 _ _ ⟨1+t,?_,Zo,Zo,L7.draw D8 k8⟩;rw[show((1+t:Nat):Int)=1+(t:Int) by omega];rfl
  rintro _ H6 ⟨turn,rfl,sj,ht2,L6⟩;refine⟨d,b,8,rfl,L6.dk,Zd,Zd,fun r1 H7 a0 a1 D7 k7=>?_⟩;obtain⟨i,rfl⟩:=Kl a0;have L7:=L6.draw D7 k7;have KO:i<zs.length:=by omega
  have has:=FI _ (getElem_mem KO);refine⟨_,SqL.of L7.gn,.str zs[i],cU (by rw[jS,kI KO];rfl),?_⟩;dsimp only [aL];generalize zs[i]=as at has ⊢;refine cT (fun σ' G=>∃(ky:Str),σ'=[some (.ref sa),some (.ref d),some (.str (tx LET)),some (.ref ln),some (.int (m:Int)),some (.ref a.dr),some (.int (turn:Int)),some (.str as),some (.str ky),none,none,none,none,none,none,none]/\isKy ky/\LW c G d b ln zs a (Qh nm life hs)) (fun nx y8=>?_) ?_
  ·refine⟨by rw[cP];exact fO (m:=1000) Zk Zd,?_⟩;rw[show tx LET++("0123456789":Str)=tx KLET by rw[<- Gx];exact Kk];refine⟨d,b,KLET,12,1,rfl,L7.dk,Zd,Zd,Zd,Tz,Zd,Zd,fun lk ws H8 ww QC gw nw nw' D8 k8=>?_⟩;obtain⟨ky,rfl⟩:∃ky,ws=[ky]:=by
    match ws,QC with
    | [ky],_=>exact⟨ky,rfl⟩
   exact⟨_,SqL.of gw,_,rfl,y8 _ _ ⟨ky,rfl,ww.ky ky Zs,L7.draw D8 k8⟩⟩
  rintro _ H8 ⟨ky,rfl,FF,L8⟩;refine iD (fun v G=>v=false/\∃p dx ra d1,LW c G d b ln zs a (lC (Qh nm life hs) turn (as,ky) d1 (.add as 1) p dx ra)/\G d1=some (.tup (Dd.vs (.add as 1)))/\G ra=some (.tup [.str "came",.int 1,.int (turn:Int),.str as,.str ky,.ref d1])) (fun k hk=>?_) (fun _ h=>nomatch h.1) ?_
  ·refine⟨_,_,L8.h.dr,by kernel_rfl,bB rfl,fun d1 H9 s9 NJ=>?_⟩;have L9:=L8.same s9;refine⟨a.dr,turn,.str as,.str ky,.ref d1,rfl,.inr ⟨a,_,rfl,L9.h,aQ has.len,aQ FF.len,.inr (.inr ⟨(as,ky),d1,.add as 1,rfl,rfl,rfl,has,FF,⟨has,Zd,Zd⟩,NJ,fun i p hi=>absurd hi (by simp[eC]),fun _=>.inr ⟨by show(0:Int)<=turn;omega,rfl,zero_le _,(fun r hr=>nomatch hr),zero_le _,zero_le _,fun t p dx ra JF h10 m10 SA gt=>?_⟩⟩)⟩⟩;refine⟨bB rfl,fun t2 VA VQ RG=>⟨2,.tp [.sc (.str "begun"),.sc (.int 1)],Zd,⟨t,_,rfl,VQ _ _ gt,.cons ⟨rfl,rfl⟩ (.cons ⟨rfl,rfl⟩ .nil)⟩,⟨t2,_,rfl,RG,.cons ⟨rfl,rfl⟩ (.cons ⟨rfl,rfl⟩ .nil)⟩,hk _ _ ⟨rfl,p,dx,ra,d1,(L9.mv h10 m10).same VQ,VQ _ _ (m10.tk L9.h _ _ NJ),VQ _ _ SA⟩⟩⟩
  rintro H9 ⟨_,p,dx,ra,d1,L9,NJ,SA⟩;dsimp only [eX];obtain⟨s0,FT⟩:∃s0,s0=lC (Qh nm life hs) turn (as,ky) d1 (.add as 1) p dx ra:=⟨_,rfl⟩;rw[<- FT]at L9;refine⟨d,b,ln,zs,m,rfl,L9.dk,L9.gn,L9.nd,L9.nb,MX,wz.nd,FI,hm6,fun td x JF gtd hx hmi D10 Yq=>?_⟩;dsimp only [aL];have L10:=L9.draw D10 Yq;have Yr:=Kp.tk L9.dk Yq _ _ NJ;have SW:=Kp.tk L9.dk Yq _ _ SA;refine cT (fun σ' G=>∃(lf:Addr)(b0 b1 b2 b3:Bool),σ'=[some (.ref sa),some (.ref d),some (.str (tx LET)),some (.ref ln),some (.int (m:Int)),some (.ref a.dr),some (.int (turn:Int)),some (.str as),some (.str ky),some (.ref td),some (.ref lf),none,none,none,none,none]/\LW c G d b ln zs a s0/\G lf=some (.lst [.bl b0,.bl b1,.bl b2,.bl b3])/\lf≠d/\lf≠b/\lf∉a.fix++s0.runs.map (·.p)/\TK JF G) (fun nx y8=>?_) ?_
  ·refine⟨4,rfl,Zd,Zd,?_⟩;refine bQ (eQ 0 (4:Int).toNat) (by rw[cO];decide) (fun j ys G=>LW c G d b ln zs a s0/\TK JF G/\∃bs:List Bool,ys=bs.map V.bl/\bs.length=j) (fun j ys G ⟨_,_,bs,e2,e3⟩=>⟨trivial,by rw[e2,gZ];omega⟩) ⟨L10,(fun _ _ e=>e),[],rfl,rfl⟩ (fun j v ys G hv ⟨LG,tk,bs,e2,e3⟩=>?_) (fun ys G ⟨LG,tk,bs,e2,e3⟩=>?_)
   ·obtain⟨rfl,hj⟩:=nZ hv;dsimp only [aL];refine⟨d,b,2,rfl,LG.dk,Zd,Zd,fun r G1 r0 r1 D1' k1'=>?_⟩;exact⟨LG.draw D1' k1',tk.trans (Kp.tk LG.dk k1'),bs++[decide (r=0)],by rw[e2,mF];rfl,by rw[wW,e3];rfl⟩
   ·rw[cO,show(4:Int).toNat=4 from rfl]at e3;obtain⟨b0,b1,b2,b3,rfl⟩:∃b0 b1 b2 b3,bs=[b0,b1,b2,b3]:=by
     match bs,e3 with
     | [b0,b1,b2,b3],_=>exact⟨b0,b1,b2,b3,rfl⟩
    subst e2;intro lf RW;have nl:=LG.new RW;exact y8 _ _ ⟨lf,b0,b1,b2,b3,rfl,LG.same (aF RW),aA,nl.1,nl.2.1,nl.2.2,tk.trans (TK.of (aF RW))⟩
  rintro _ VA ⟨lf,b0,b1,b2,b3,rfl,VR,glf,SX,SY,of,NV⟩;have Ys:=NV _ _ Yr;have TB:=NV _ _ SW;have TC:=NV _ _ gtd;refine cT (fun σ' G=>∃(lb:Addr)(w0:Int)(v1 v2:V),σ'=[some (.ref sa),some (.ref d),some (.str (tx LET)),some (.ref ln),some (.int (m:Int)),some (.ref a.dr),some (.int (turn:Int)),some (.str as),some (.str ky),some (.ref td),some (.ref lf),some (.ref lb),none,none,none,none]/\LW c G d b ln zs a s0/\G lf=some (.lst [.bl b0,.bl b1,.bl b2,.bl b3])/\TK VA G/\G lb=some (.lst [.int w0,v1,v2])/\Ot d b a s0 lb/\lb≠lf/\0<=w0/\w0<turn/\Pt G v1/\Pt G v2/\aP v1 LET 8=false/\aP v2 (LET++tK) 12=false/\(∀x,v1=.ref x->Ot d b a s0 x/\x≠lb)/\(∀x,v2=.ref x->Ot d b a s0 x/\x≠lb)) (fun nx y8=>?_) ?_
  ·refine⟨d,b,(turn:Int),rfl,VR.dk,Zo,Zo,fun r RP r0 r1 D12 SM=>?_⟩;have KS:=VR.draw D12 SM;refine⟨d,b,as,rfl,KS.dk,has.1,by have:=has.2.1;omega,fun v1 VB B1 Yt LR=>?_⟩;have yq:=KS.draw Yt LR;have o1:=wV KS yq B1.fr;refine⟨d,b,ky,rfl,yq.dk,FF.1,FF.2.1,fun v2 HL B2 TF EX=>⟨eY rfl,fun lb TH=>?_⟩⟩;have zh:=yq.draw TF EX;have o2:=wV yq zh B2.fr;have HM:=aF (o:=.lst [.int ((turn:Int)-1-r),v1,v2]) TH;have TJ:=EX _ _ (LR _ _ (SM _ _ glf SX SY) SX SY) SX SY;exact y8 _ _ ⟨lb,_,v1,v2,rfl,zh.same HM,HM _ _ TJ,(((Kp.tk VR.dk SM).trans (Kp.tk KS.dk LR)).trans (Kp.tk yq.dk EX)).trans (TK.of HM),aA,zh.new TH,(aB TJ TH).symm,Zo,Zo,(mE B1.pt o1 EX).same HM,B2.pt.same HM,B1.nm,B2.ky,fun x e=>⟨o1 x e,let ⟨_,g⟩:=lE (e▸mE B1.pt o1 EX);aB g TH⟩,fun x e=>⟨o2 x e,let ⟨_,g⟩:=lE (e▸B2.pt);aB g TH⟩⟩
  rintro _ RP ⟨lb,w0,v1,v2,rfl,KS,TL,Yu,JI,PH,Yv,hw0,hw1,p1,p2,m1,m2,o1,o2⟩;have JH:7<zs.length:=by omega
  refine cT (fun σ' G=>∃(v3:V),σ'=[some (.ref sa),some (.ref d),some (.str (tx LET)),some (.ref ln),some (.int (m:Int)),some (.ref a.dr),some (.int (turn:Int)),some (.str as),some (.str ky),some (.ref td),some (.ref lf),some (.ref lb),none,none,none,none]/\LW c G d b ln zs a s0/\G lf=some (.lst [.bl b0,.bl b1,.bl b2,.bl b3])/\TK RP G/\BadAt G (Ot d b a s0) lb w0 v1 v2 v3) (fun nx y8=>?_) ?_
  ·refine⟨.inl ⟨rfl,_,SqL.of JI⟩,d,b,7,rfl,KS.dk,Zd,Zd,fun r VB r0 r1 Yt LR=>?_⟩;obtain⟨i,rfl⟩:=Kl r0;have yq:=KS.draw Yt LR;have KO:i<zs.length:=by omega
   refine⟨_,SqL.of yq.gn,.str zs[i],cU (by rw[jS,kI KO];rfl),_,SqL.of yq.gn,.str zs[7],cU (j:=7) (by rw[jS,kI JH];rfl),?_⟩;refine⟨d,b,zs[i],zs[7],rfl,yq.dk,FI _ (getElem_mem KO),FI _ (getElem_mem JH),fun v3 HL B3 TF EX=>?_⟩;have zh:=yq.draw TF EX;have o3:=wV yq zh B3.fr;have kk:=LR.trans EX;have yr:=kk _ _ JI PH.1 PH.2.1;have lq:=kk _ _ TL SX SY;refine⟨lb,_,v3,rfl,rfl,yr,(by show 3<sizeLine;decide),?_⟩;have nln:lb≠ln:=fun z=>by
    have e:=zh.gn;rw[<- z,yr]at e;have:=congrArg length (HO.lst.inj (Option.some.inj e));rw[gZ,MX]at this;cases this
   have NK:TK HL (aH HL lb (.lst ([.int w0,v1,v2]++[v3]))):=jR yr fun _ z=>nomatch z
   have n3:∀x,v3=.ref x->x≠lb:=fun x e=>by
    rcases B3.fr x e with⟨xs,g⟩|g
    ·exact bF g yr fun z=>nomatch z
    ·exact(aB (LR _ _ JI PH.1 PH.2.1) g).symm
   have kp:∀y u,HL y=some u->y≠lb->(aH HL lb (.lst ([.int w0,v1,v2]++[v3]))) y=some u:=fun y u e h=>by rw[aE h];exact e
   have P1:=mE p1 (fun x e=>(o1 x e).1) kk;have P2:=mE p2 (fun x e=>(o2 x e).1) kk;have e3:∀x,v3=.ref x->(aH HL lb (.lst ([.int w0,v1,v2]++[v3]))) x=HL x:=fun x e=>by rw[aE (n3 x e)]
   refine y8 _ _ ⟨v3,rfl,zh.side yr PH nln,kp _ _ lq Yv.symm,((Kp.tk KS.dk LR).trans (Kp.tk yq.dk EX)).trans NK,⟨aA,PH,fun x e=>(o1 x e).1,fun x e=>(o2 x e).1,o3,gT P1 fun x o e g=>kp _ _ g (o1 x e).2,gT P2 fun x o e g=>kp _ _ g (o2 x e).2,m1,m2,gT B3.th.1 fun x o e g=>kp _ _ g (n3 x e),fun x xs e g=>?_,?_⟩⟩
   ·rw[e3 x e]at g;exact⟨B3.ln x xs e g,B3.fl x xs e g⟩
   ·have:=B3.nd;unfold dR at this ⊢
    cases v3 with
    | ref x=>dsimp only at this ⊢;rw[e3 x rfl];exact this
    | _=>rfl
  rintro _ VB ⟨v3,rfl,yq,TM,Yw,B13⟩;refine cT (fun σ' G=>∃(wh:Int),σ'=[some (.ref sa),some (.ref d),some (.str (tx LET)),some (.ref ln),some (.int (m:Int)),some (.ref a.dr),some (.int (turn:Int)),some (.str as),some (.str ky),some (.ref td),some (.ref lf),some (.ref lb),some (.int wh),none,none,none]/\(b3=true->wh<turn)/\LW c G d b ln zs a s0/\G lf=some (.lst [.bl b0,.bl b1,.bl b2,.bl b3])/\TK VB G/\BadAt G (Ot d b a s0) lb w0 v1 v2 v3) (fun nx y8=>?_) ?_
  ·refine⟨⟨Zd,Zd,Zd⟩,d,b,99,rfl,yq.dk,Zd,Zd,fun r HL r0 r1 TF EX=>?_⟩;have LS:=B13.keep (fun x o e h=>EX _ _ e h.1 h.2.1) fun _ _ _ h=>h
   have lq:=EX _ _ TM SX SY;have NW:=Kp.tk yq.dk EX;refine⟨_,SqL.of LS.gl,.int w0,rfl,eY rfl,fun l2 h2=>?_⟩;have HM:=aF (o:=.lst [.int (if (turn:Int)+r<10^(12:Int).toNat then (turn:Int)+r else 10^(12:Int).toNat),.int w0]) h2;have L15:=(yq.draw TF EX).same HM;have fin:∀wh:Int,(b3=true->wh<turn)->nx [some (.ref sa),some (.ref d),some (.str (tx LET)),some (.ref ln),some (.int (m:Int)),some (.ref a.dr),some (.int (turn:Int)),some (.str as),some (.str ky),some (.ref td),some (.ref lf),some (.ref lb),some (.int wh),none,none,none] _:=fun wh hw=>y8 _ _ ⟨wh,rfl,hw,L15,HM _ _ lq,NW.trans (TK.of HM),LS.same HM⟩
   refine⟨_,SqL.of (HM _ _ lq),.bl b3,rfl,_,SqL.of aA,?_⟩
   cases b3 with
   | true=>exact⟨.int w0,rfl,fin _ fun _=>hw1⟩
   | false=>exact⟨_,rfl,fin _ fun z=>nomatch z⟩
  rintro _ HL ⟨wh,rfl,hwh,zh,lq,NW,LS⟩;have Yx:=(Yu.trans Yw).trans NW;have NX:=Yx _ _ Ys;have EY:=Yx _ _ TB;have HN:=Yx _ _ TC;refine iD (fun v G=>v=false/\∃a' s',a'.dr=a.dr/\LZ c G ln lf lb zs [b0,b1,b2,b3] w0 v1 v2 v3 turn as ky hs d1 ra td x a' s') (fun k hk=>?_) (fun _ h=>nomatch h.1) ?_
  ·refine⟨_,SqL.of lq,.bl b0,rfl,?_⟩;have on:∀y u,HL y=some u->Ot d b a s0 y∨y=ln∨y=lf∨(∃xs,u=.tup xs)->y∉a.fix++s0.runs.map (·.p):=fun y u e h=>by
    rcases h with h|rfl|rfl|⟨xs,rfl⟩
    ·exact h.2.2
    ·exact zh.ou _ Zs
    ·exact of
    ·exact zh.h.out e ⟨_,rfl⟩
   cases b0 with
   | false=>
    refine hk _ _ ⟨rfl,a,s0,rfl,?_⟩;refine⟨zh.h,zh.gn,lq,LS.keep (fun _ _ e _=>e) (fun _ _ _ h=>h.2.2),NX,EY,HN,by rw[FT];rfl,by rw[FT];rfl,by rw[FT];rfl,by rw[FT];rfl,fun k' JD=>?_,by rw[FT];exact bY _,by rw[FT];exact bY _,fun r hr=>?_⟩
    ·rw[FT];exact KM.set_ne fun z=>JD (Prod.mk.inj z).2
    ·rw[FT]at hr;have:r=lV p dx 1 (as,ky) d1 (.add as 1) "new":=by simpa [lC,Qh]using hr
     rw[this];exact lt_succ_self 1
   | true=>
    refine⟨a,s0,(turn:Int),wh,.str as,.int w0,v1,v2,v3,lb,[(ra,1,(turn:Int))],2,rfl,zh.h,by rw[FT];rfl,fun q hq=>?_,bY _,by rw[FT];rfl,fun q hq=>?_,fun z=>absurd z Zs,Zd,Zo,LS.gl,LS.ol.2.2,fun a' G e1 h' fr nw=>?_⟩
    ·rw[Zms.mp hq];exact⟨_,_,_,EY⟩
    ·rw[Zms.mp hq];exact⟨rfl,Int.le_refl _⟩
    have fn:∀y u,HL y=some u->y∉a.fix++s0.runs.map (·.p)->y∉a'.fix++([]:List Rn).map (·.p):=fun y u e hy hm=>by
     rcases Zma.mp hm with z|z
     ·rcases nw y z with w|w
      ·exact hy (mem_append_left _ w)
      ·rw[w]at e;cases e
     ·exact nomatch z
    refine hk _ _ ⟨rfl,a',Uj {s0 with safe:=s0.rows.length } turn 2,e1,?_⟩;exact⟨h',fr _ _ zh.gn (on _ _ zh.gn (.inr (.inl rfl))),fr _ _ lq of,LS.keep (fun y u e h=>fr _ _ e h.2.2) (fun y u e h=>fn y u e h.2.2),fr _ _ NX (on _ _ NX (.inr (.inr (.inr ⟨_,rfl⟩)))),fr _ _ EY (on _ _ EY (.inr (.inr (.inr ⟨_,rfl⟩)))),fr _ _ HN (on _ _ HN (.inr (.inr (.inr ⟨_,rfl⟩)))),rfl,rfl,by rw[FT];rfl,by rw[FT];rfl,fun _ _=>rfl,zero_le _,zero_le _,fun r hr=>nomatch hr⟩
  rintro H15 ⟨_,a',s',ea,Z⟩;dsimp only [eX];clear zh LS yq B13 KS VR L10 L9;rw[<- ea];have TN:s'.runs.length<64:=Hd Z.rl Zd;refine cT (fun σ' G=>∃tk,σ'=[some (.ref sa),some (.ref d),some (.str (tx LET)),some (.ref ln),some (.int (m:Int)),some (.ref a'.dr),some (.int (turn:Int)),some (.str as),some (.str ky),some (.ref td),some (.ref lf),some (.ref lb),some (.int wh),some (.ref tk),none,none]/\LZ c G ln lf lb zs [b0,b1,b2,b3] w0 v1 v2 v3 turn as ky hs d1 ra td x a' s'/\Rep G 5 (Lx turn (as,ky) (.add as 1) s'.runs) (.ref tk)) (fun nx y8=>?_) ?_
  ·refine⟨_,_,Z.h.dr,by kernel_rfl,a',s',rfl,Z.h,_,_,Z.h.dr,by kernel_rfl,a',s',rfl,Z.h,fun l1 G1 _ VS g1=>?_⟩;have Z1:=Z.same VS;refine⟨_,_,Z1.h.dr,by kernel_rfl,a',s',rfl,Z1.h,TN,fun l2 us G2 _ GI g2 pu=>⟨bB rfl,fun tk G3 zg g3=>?_⟩⟩;have Z3:=(Z1.same GI).same zg;exact y8 _ _ ⟨tk,rfl,Z3,uU Z3 g3 (zg _ _ (GI _ _ g1)) (zg _ _ g2) (Paired.map' (fun _ _ ⟨t,e1,g⟩=>⟨t,e1,zg _ _ g⟩) pu)⟩
  rintro _ H16 ⟨tk,rfl,LU,R16⟩;clear Z;refine iD (fun v G=>v=false/\Same H16 G) (fun k hk=>?_) (fun _ h=>nomatch h.1) ?_
  ·refine⟨_,SqL.of LU.gf,.bl b1,rfl,?_⟩
   cases b1 with
   | false=>exact hk _ _ ⟨rfl,Same.refl _⟩
   | true=>exact⟨a',s',wh,w0,(as,ky),.ref td,v1,v2,v3,lb,rfl,LU.h,has,FF,LU.B.gl,LU.B.p1,LU.B.p2,LU.B.m1,LU.B.m2,fun G sG=>hk _ _ ⟨rfl,sG⟩⟩
  rintro H17 ⟨_,s17⟩;dsimp only [eX];have NY:=LU.same s17;refine iD (fun v G=>v=false/\Same H17 G) (fun k hk=>?_) (fun _ h=>nomatch h.1) ?_
  ·refine⟨_,SqL.of NY.gf,.bl b2,rfl,?_⟩
   cases b2 with
   | false=>exact hk _ _ ⟨rfl,Same.refl _⟩
   | true=>
    refine⟨_,SqL.of NY.B.gl,v3,rfl,a',s',wh,.str as,.str ky,v3,2,"",rfl,.deed "" NY.h (aQ has.len) (aQ FF.len) (dY has) (Lu FF) NY.B.th (fun b xs e g=>(NY.B.f3 b xs e g).1) NY.B.n3,fun v G1 sg r1=>?_⟩;exact⟨2,"",rfl,Zd,fun v' G2 LV r2=>⟨3,kF 2 "",Zd,r1.same LV,r2,hk _ _ ⟨rfl,sg.trans LV⟩⟩⟩
  rintro H18 ⟨_,s18⟩;dsimp only [eX];have PJ:=NY.same s18;have e7:zs.getD 7 ""=zs[7]:=by rw[getD_eq_getElem?_getD,kI JH];rfl
  have h7n:zs[7]∉zs.take m:=fun FG=>by
   obtain⟨j,hj,ej⟩:=List.mem_iff_getElem.mp FG;rw[oR]at hj;rw[List.getElem_take]at ej;have:=yP wz.nd (i:=j) (j:=7) (x:=zs[7]) (by rw[kI Zo,ej]) (kI JH);omega
  refine iD (fun v G=>v=false/\Same H18 G) (fun k hk=>?_) (fun _ h=>nomatch h.1) ?_
  ·obtain⟨i,q,hi,hq,hj⟩:=hmi;rw[e7]at hq;refine⟨a',s',wh,.str as,.str ky,.ref td,3,q.1,rfl,.house PJ.h (as,ky) td x rfl rfl rfl has FF hx PJ.gt i q hi (by rw[PJ.hh,hq];exact Yp _ h7n) (fun j p' hji si=>by rw[PJ.hh];exact JC _ (hj j p' hji si)),fun v G1 sg r1=>?_⟩;refine⟨_,SqL.of (sg _ _ PJ.gn),.str zs[7],cU (j:=7) (by rw[jS,kI JH];rfl),3,zs[7],rfl,Zd,fun v' G2 LV r2=>⟨3,kF 3 zs[7],Zd,hq▸r1.same LV,r2,hk _ _ ⟨rfl,sg.trans LV⟩⟩⟩
  rintro H19 ⟨_,s19⟩;dsimp only [eX];have Z19:=PJ.same s19;have sz:(tx (dX ky.cps.toList none (some 11))).length<=11:=by
   rw[show(11:Int)=((11:Nat):Int) from rfl,hZ,cP,oR];omega
  refine cT (fun σ' G=>∃ok,σ'=[some (.ref sa),some (.ref d),some (.str (tx LET)),some (.ref ln),some (.int (m:Int)),some (.ref a'.dr),some (.int (turn:Int)),some (.str as),some (.str ky),some (.ref td),some (.ref lf),some (.ref lb),some (.int wh),some (.ref tk),some (.str ok),none]/\isKy ok/\ok≠ky/\Same H19 G) (fun nx y8=>?_) ?_
  ·refine⟨gE FF.len,eY rfl,fun l1 h1=>⟨gE FF.len,fO (m:=1000) (by rw[show("0":Str).length=1 from by decide +kernel];omega) Zd,?_⟩⟩;have sl:=aF (o:=.lst [.str "0",.str "1"]) h1;have fin:∀z:Str,z.length=1->(∀c∈z.cps.toList,c∈KLET)->tx (dX ky.cps.toList none (some 11))++z≠ky->(tx (dX ky.cps.toList none (some 11))).length+z.length<=sizeLine/\nx [some (.ref sa),some (.ref d),some (.str (tx LET)),some (.ref ln),some (.int (m:Int)),some (.ref a'.dr),some (.int (turn:Int)),some (.str as),some (.str ky),some (.ref td),some (.ref lf),some (.ref lb),some (.int wh),some (.ref tk),some (.str (tx (dX ky.cps.toList none (some 11))++z)),none] _:=fun z hz hc O3=>⟨fO (m:=1000) Zo Zd,y8 _ _ ⟨_,rfl,Ha FF hz hc,O3,sl⟩⟩
   refine⟨_,SqL.of aA,?_⟩;by_cases hk:ky=tx (dX ky.cps.toList none (some 11))++"0"
   ·rw[decide_eq_true hk];refine⟨.str "1",rfl,fin "1" Zk Zk fun z=>?_⟩;have e1:=z.trans hk;have e2:(tx (dX ky.cps.toList none (some 11))++("1":Str)).cps.toList=(tx (dX ky.cps.toList none (some 11))++("0":Str)).cps.toList:=congrArg (fun y:Str=>y.cps.toList) e1;rw[iI,iI]at e2;exact absurd (List.append_cancel_left e2) Zk
   ·rw[decide_eq_false hk];exact⟨.str "0",rfl,fin "0" Zk Zk fun z=>hk z.symm⟩
  rintro _ H20 ⟨ok,rfl,hok,nok,s20⟩;have Z20:=Z19.same s20;have h0n:=FI _ (getElem_mem VO);refine⟨_,SqL.of Z20.gn,.str zs[0],cU (j:=0) (by rw[jS,kI VO];rfl),bB rfl,fun tg Yy s21 gtg=>?_⟩;dsimp only [aL];have VT:=Z20.same s21;have TQ:Yy tg=some (.tup (Dd.vs (.take zs[0] 7))):=gtg;have hxg:(Dd.take zs[0] 7).Ok:=⟨h0n,Zd,Zd⟩;show oG _ _ _ [some (.ref sa),some (.ref d),some (.str (tx LET)),some (.ref ln),some (.int (m:Int)),some (.ref a'.dr),some (.int (turn:Int)),some (.str as),some (.str ky),some (.ref td),some (.ref lf),some (.ref lb),some (.int wh),some (.ref tk),some (.str ok),some (.ref tg)] Yy;refine iD (fun v G=>v=false/\Same Yy G) (fun k hk=>?_) (fun _ h=>nomatch h.1) ?_
  ·refine⟨_,SqL.of VT.gf,.bl b3,rfl,?_⟩
   cases b3 with
   | false=>exact hk _ _ ⟨rfl,Same.refl _⟩
   | true=>
    refine⟨a',s',wh,.str as,.str ok,.ref tg,4,"",rfl,.late "" VT.h (as,ok) tg (.take zs[0] 7) rfl rfl rfl has hok hxg TQ (fun q hq=>absurd hq (by simp[eC])) (by rw[VT.tu];exact hwh rfl),fun v G1 sg r1=>?_⟩;exact⟨4,"",rfl,Zd,fun v' G2 LV r2=>⟨3,kF 4 "",Zd,r1.same LV,r2,hk _ _ ⟨rfl,sg.trans LV⟩⟩⟩
  rintro H22 ⟨_,Yz⟩;dsimp only [eX];have PK:=VT.same Yz;have R22:=R16.same (((((s17.trans s18).trans s19).trans s20).trans s21).trans Yz);refine iD (fun v G=>v=false/\Same H22 G) (fun k hk=>?_) (fun _ h=>nomatch h.1) ?_
  ·refine⟨_,_,PK.h.dr,by kernel_rfl,a',s',rfl,PK.h,_,_,PK.h.dr,by kernel_rfl,a',s',rfl,PK.h,fun l1 G1 _ VS g1=>?_⟩;have Z1:=PK.same VS;refine⟨_,_,Z1.h.dr,by kernel_rfl,a',s',rfl,Z1.h,TN,fun l2 us G2 _ GI g2 pu=>⟨bB rfl,fun tk2 G3 zg g3=>?_⟩⟩;have Z3:=(Z1.same GI).same zg;have sA:=(VS.trans GI).trans zg;exact⟨5,_,Zd,uU Z3 g3 (zg _ _ (GI _ _ g1)) (zg _ _ g2) (Paired.map' (fun _ _ ⟨t,e1,g⟩=>⟨t,e1,zg _ _ g⟩) pu),R22.same sA,hk _ _ ⟨rfl,sA⟩⟩
  rintro H23 ⟨_,NQ⟩;dsimp only [eX];have JJ:=PK.same NQ;have TR:=NQ _ _ (Yz _ _ TQ);have oq:yX s'.life turn (s'.m (as,ok))=true:=by rw[JJ.mf ok nok];rfl
  refine⟨_,_,JJ.h.dr,by kernel_rfl,a'.dr,turn,.str as,.str ok,.ref tg,rfl,.inr ⟨a',s',rfl,JJ.h,aQ has.len,aQ hok.len,.inr (.inr ⟨(as,ok),tg,.take zs[0] 7,rfl,rfl,rfl,has,hok,hxg,TR,fun i q hi=>absurd hi (by simp[eC]),fun _=>.inr ⟨by rw[JJ.tu];exact Int.le_refl _,oq,fO JJ.hL Zd,(fun r hr=>by rw[JJ.nx];exact JJ.rn r hr),fO JJ.rl Zd,by rw[JJ.ro];exact bB rfl,fun t p' dx' ra' H24 h24 m24 aJ' TU=>?_⟩⟩)⟩⟩;rw[JJ.nx]at TU;exact⟨bB rfl,fun t2 H25 FP RG=>⟨2,.tp [.sc (.str "begun"),.sc (.int 2)],Zd,⟨t,_,rfl,FP _ _ TU,.cons ⟨rfl,rfl⟩ (.cons ⟨rfl,rfl⟩ .nil)⟩,⟨t2,_,rfl,RG,.cons ⟨rfl,rfl⟩ (.cons ⟨rfl,rfl⟩ .nil)⟩,Q0 _⟩⟩
end
structure FA(K:W.Frag)(x:Str)(st:Stmt):Prop where
 ex:∃(f:Addr)(od an:Option Addr)(sl:Array (Option Value))(oc kV dc pm cd ct:Value),W.nsIn K mainGlobals x=some (some (.ref f))/\K.lookup f=some ⟨oc,od,.func (W.fnOf x x (aX st) (aM st) (aD st) .none kV dc pm an cd ct),sl⟩/\W.codeIn K cd x=true/\W.keepIn K (.ref f)=true
def FA.of{K:W.Frag}{x:Str}{st:Stmt}{f:Addr}{od an:Option Addr}{sl:Array (Option Value)}{oc kV dc pm cd ct:Value}(a:W.nsIn K mainGlobals x=some (some (.ref f)))(l:K.lookup f=some ⟨oc,od,.func (W.fnOf x x (aX st) (aM st) (aD st) .none kV dc pm an cd ct),sl⟩)(c:W.codeIn K cd x=true)(k:W.keepIn K (.ref f)=true):FA K x st:=⟨f,od,an,sl,oc,kV,dc,pm,cd,ct,a,l,c,k⟩
def FA.at{K:W.Frag}{x:Str}{st:Stmt}{ps:List Str}{h:Heap}{mg:Str->Option Value}(F:FA K x st)(X:K.In h)(G:h.Ns mainGlobals mg)(hb:∀(kV doc pm:Value)(an:Option Addr)(cdv ct:Value)(us:List Value),us.length=ps.length->bindArgs (W.fnOf x x (aX st) (aM st) (aD st) .none kV doc pm an cdv ct) ⟨us,[]⟩=pure (ps.zip us):=by intro _ _ _ _ _ _ us hl;first|exact(match us,hl with|[_],_=>rfl)|exact(match us,hl with|[_,_],_=>rfl)|exact(match us,hl with|[_,_,_],_=>rfl)|exact(match us,hl with|[_,_,_,_],_=>rfl)|exact(match us,hl with|[_,_,_,_,_],_=>rfl)|exact(match us,hl with|[_,_,_,_,_,_],_=>rfl)|exact(match us,hl with|[_,_,_,_,_,_,_],_=>rfl)):DefAt K mg x st ps:=by
 obtain⟨f,od,an,sl,oc,kV,dc,pm,cd,ct,a,l,c,k⟩:=F.ex;exact Pb X G a l c k hb
structure MA(K:W.Frag)(C:Addr)(m qual:Str)(st:Stmt):Prop where
 ex:∃(f:Addr)(od an:Option Addr)(sl:Array (Option Value))(oc kV dc pm cd ct:Value),W.findIn K (.ref C) m=some (some (.ref f))/\W.isFn K (.ref f)=true/\K.lookup f=some ⟨oc,od,.func (W.fnOf m qual (aX st) (aM st) (aD st) .none kV dc pm an cd ct),sl⟩/\W.codeIn K cd qual=true/\W.keepIn K (.ref f)=true
def MA.of{K:W.Frag}{C:Addr}{m qual:Str}{st:Stmt}{f:Addr}{od an:Option Addr}{sl:Array (Option Value)}{oc kV dc pm cd ct:Value}(a:W.findIn K (.ref C) m=some (some (.ref f)))(i:W.isFn K (.ref f)=true)(l:K.lookup f=some ⟨oc,od,.func (W.fnOf m qual (aX st) (aM st) (aD st) .none kV dc pm an cd ct),sl⟩)(c:W.codeIn K cd qual=true)(k:W.keepIn K (.ref f)=true):MA K C m qual st:=⟨f,od,an,sl,oc,kV,dc,pm,cd,ct,a,i,l,c,k⟩
def MA.at{K:W.Frag}{C:Addr}{m qual:Str}{st:Stmt}{ps:List Str}(F:MA K C m qual st)(cl:Cls K C)(hb:∀(kV doc pm:Value)(an:Option Addr)(cdv ct:Value)(us:List Value),us.length=ps.length->bindArgs (W.fnOf m qual (aX st) (aM st) (aD st) .none kV doc pm an cdv ct) ⟨us,[]⟩=pure (ps.zip us):=by intro _ _ _ _ _ _ us hl;first|exact(match us,hl with|[_],_=>rfl)|exact(match us,hl with|[_,_],_=>rfl)|exact(match us,hl with|[_,_,_],_=>rfl)|exact(match us,hl with|[_,_,_,_],_=>rfl)|exact(match us,hl with|[_,_,_,_,_],_=>rfl)|exact(match us,hl with|[_,_,_,_,_,_],_=>rfl)|exact(match us,hl with|[_,_,_,_,_,_,_],_=>rfl)):MethAt K C m qual st ps:=by
 obtain⟨f,od,an,sl,oc,kV,dc,pm,cd,ct,a,i,l,c,k⟩:=F.ex;exact⟨cl,_,_,jO l c k,⟨a,i,k⟩,(jO (st:=st) l c k).binds hb⟩
def Qm{l:W.OpenLaw}{w:World}{K:W.Frag}{h:Heap}{mg:Str->Option Value}{fa HQ:Addr}(X:K.In h)(G:h.Ns mainGlobals mg)(hfa:mg "law"=some (.ref fa)){NZ HR:Option Addr}{OA:Array (Option Value)}{OB HS HU HV AE HW:Value}(Y9:FA K "is_name" iO)(qi:FA K "is_key" jZ)(U4:FA K "is_whole" gJ)(K8:FA K "is_made_of" cW)(Z0:FA K "is_deed" iP)(O4:FA K "fits_word" dS)(Z2:FA K "asks_of" iQ)(U5:FA K "is_alive" gL)(vk:FA K "risen" eI)(K9:FA K "by_numbers" eJ)(M0:FA K "first_book" cY)(M3:FA K "risen_book" eM)(M4:FA K "risen_kept" cD)(Z4:FA K "rows_of" iR)(U6:FA K "_law_deck" gN)(U7:FA K "_law_draw" gO)(M5:FA K "_law_unlike" bS)(F8:FA K "_law_refused" dN)(U8:FA K "_law_told" eT)(F9:FA K "_law_no_word" dO)(G0:FA K "_law_no_deed" dP)(m9:FA K "_law_houses_asked" bT)(n4:FA K "_law_fallen_right" bU)(p6:FA K "_law_words_right" bX)(HX:W.nsIn K mainGlobals "law"=some (some (.ref HQ)))(HY:K.lookup HQ=some ⟨OB,NZ,.func (W.fnOf "law" "law" (aX iE) (aM iE) (aD iE) .none HS HU HV HR AE HW),OA⟩)(HZ:W.codeIn K AE "law"=true)(IA:W.keepIn K (.ref HQ)=true){b9:Addr}(vm:W.nsIn K mainGlobals "Keys"=some (some (.ref b9)))(vn:W.plainGet K b9 Str.empty=true)(vo:W.hasDictIn K b9=true)(vp:W.plainOver K b9=true)(vq:W.findIn K (.ref b9) "__setattr__"=some (some (.builtin "object.__setattr__")))(vt:W.makesIn K b9=true)(vv:W.keepIn K (.ref b9)=true)(O5:W.findIn K (.ref b9) "life"=some none)(p7:W.findIn K (.ref b9) "begun_ones"=some none)(l8:W.findIn K (.ref b9) "settled_ones"=some none){i9:Addr}{Z5 Z6:Option Addr}{Z7:Array (Option Value)}{Z8 Z9 jd je K0 jg:Value}(z6:W.findIn K (.ref b9) "__init__"=some (some (.ref i9)))(z7:W.isFn K (.ref i9)=true)(z8:K.lookup i9=some ⟨Z8,Z5,.func (W.fnOf "__init__" "Keys.__init__" (aX bL) (aM bL) (aD bL) .none Z9 jd je Z6 K0 jg),Z7⟩)(z9:W.codeIn K K0 "Keys.__init__"=true)(N9:W.keepIn K (.ref i9)=true)(O6:MA K b9 "look" "Keys.look" eZ)(M6:MA K b9 "begin" "Keys.begin" eF)(G7:MA K b9 "settle" "Keys.settle" jJ)(U9:MA K b9 "end" "Keys.end" gK)(C3:MA K b9 "is_kept" "Keys.is_kept" cX){c5:Addr}(vw:W.nsIn K mainGlobals "Book"=some (some (.ref c5)))(vx:W.plainGet K c5 Str.empty=true)(vy:W.hasDictIn K c5=true)(vz:W.plainOver K c5=true)(wa:W.findIn K (.ref c5) "__setattr__"=some (some (.builtin "object.__setattr__")))(wb:W.makesIn K c5=true)(wc:W.keepIn K (.ref c5)=true)(C4:W.findIn K (.ref c5) "amounts"=some none){j0:Addr}{jh ji:Option Addr}{jj:Array (Option Value)}{jk jm jn jo K1 jq:Value}{we:Addr}(A0:W.findIn K (.ref c5) "__init__"=some (some (.ref j0)))(A3:W.isFn K (.ref j0)=true)(A4:K.lookup j0=some ⟨jk,jh,.func (W.fnOf "__init__" "Book.__init__" (aX bM) (aM bM) (aD bM) (.ref we) jm jn jo ji K1 jq),jj⟩)(A5:W.codeIn K K1 "Book.__init__"=true)(O0:W.keepIn K (.ref j0)=true)(O7:MA K c5 "rows" "Book.rows" dU){KU:Option Addr}{uk:List Value}{KW:Nat}{IB:Array (Option Value)}(oi:K.lookup we=some ⟨.type "tuple",KU,.seq (toArray uk) KW,IB⟩)(wg:uk=[.none]){b4:Addr}(V0:W.nsIn K mainGlobals "Journal"=some (some (.ref b4)))(V1:W.plainGet K b4 Str.empty=true)(V2:W.hasDictIn K b4=true)(V3:W.plainOver K b4=true)(V4:W.findIn K (.ref b4) "__setattr__"=some (some (.builtin "object.__setattr__")))(V5:W.makesIn K b4=true)(V6:W.keepIn K (.ref b4)=true)(p8:W.findIn K (.ref b4) "written"=some none)(j8:W.findIn K (.ref b4) "safe_count"=some none){i0:Addr}{S0 S1:Option Addr}{S2:Array (Option Value)}{S3 S4 S5 S6 B9 S7:Value}{R7:Addr}(n6:W.findIn K (.ref b4) "__init__"=some (some (.ref i0)))(n8:W.isFn K (.ref i0)=true)(n9:K.lookup i0=some ⟨S3,S0,.func (W.fnOf "__init__" "Journal.__init__" (aX bD) (aM bD) (aD bD) (.ref R7) S4 S5 S6 S1 B9 S7),S2⟩)(o4:W.codeIn K B9 "Journal.__init__"=true)(C5:W.keepIn K (.ref i0)=true)(A6:MA K b4 "write" "Journal.write" cK)(A7:MA K b4 "force" "Journal.force" cM)(C6:MA K b4 "fall" "Journal.fall" cZ)(C7:MA K b4 "rows" "Journal.rows" dA)(C8:MA K b4 "safe" "Journal.safe" dB){lu:Tok}{AF:Option Addr}{X4:List Value}{AG:Nat}{yt:Array (Option Value)}(M7:K.lookup R7=some ⟨.type "tuple",AF,.seq (toArray X4) AG,yt⟩)(V7:X4=[.str ("") lu]){d5:Addr}(AH:W.nsIn K mainGlobals "Run"=some (some (.ref d5)))(AI:W.plainGet K d5 Str.empty=true)(AJ:W.hasDictIn K d5=true)(AK:W.plainOver K d5=true)(AL:W.findIn K (.ref d5) "__setattr__"=some (some (.builtin "object.__setattr__")))(AM:W.makesIn K d5=true)(AN:W.keepIn K (.ref d5)=true)(M8:W.findIn K (.ref d5) "number"=some none)(O8:W.findIn K (.ref d5) "asker"=some none)(jr:W.findIn K (.ref d5) "key"=some none)(V8:W.findIn K (.ref d5) "deed"=some none)(O9:W.findIn K (.ref d5) "stage"=some none)(P0:W.findIn K (.ref d5) "place"=some none)(P4:W.findIn K (.ref d5) "undos"=some none){j9:Addr}{mn mq:Option Addr}{mr:Array (Option Value)}{mw my mz ng O1 ni:Value}(C9:W.findIn K (.ref d5) "__init__"=some (some (.ref j9)))(D0:W.isFn K (.ref j9)=true)(D9:K.lookup j9=some ⟨mw,mn,.func (W.fnOf "__init__" "Run.__init__" (aX bR) (aM bR) (aD bR) .none my mz ng mq O1 ni),mr⟩)(E1:W.codeIn K O1 "Run.__init__"=true)(P5:W.keepIn K (.ref j9)=true)(E2:MA K d5 "as_tuple" "Run.as_tuple" dC){b6:Addr}(jt:W.nsIn K mainGlobals "Memory"=some (some (.ref b6)))(ju:W.plainGet K b6 Str.empty=true)(jv:W.hasDictIn K b6=true)(jw:W.plainOver K b6=true)(jy:W.findIn K (.ref b6) "__setattr__"=some (some (.builtin "object.__setattr__")))(jz:W.makesIn K b6=true)(kc:W.keepIn K (.ref b6)=true)(G8:W.findIn K (.ref b6) "turn"=some none)(G9:W.findIn K (.ref b6) "book"=some none)(p9:W.findIn K (.ref b6) "standing"=some none)(J0:W.findIn K (.ref b6) "runs"=some none)(k9:W.findIn K (.ref b6) "next_number"=some none){i3:Addr}{V9 W0:Option Addr}{W2:Array (Option Value)}{W3 W4 W5 W6 E3 W7:Value}(r9:W.findIn K (.ref b6) "__init__"=some (some (.ref i3)))(u0:W.isFn K (.ref i3)=true)(u3:K.lookup i3=some ⟨W3,V9,.func (W.fnOf "__init__" "Memory.__init__" (aX bG) (aM bG) (aD bG) .none W4 W5 W6 W0 E3 W7),W2⟩)(u4:W.codeIn K E3 "Memory.__init__"=true)(F1:W.keepIn K (.ref i3)=true)(M9:MA K b6 "put" "Memory.put" eN)(E4:MA K b6 "begin" "Memory.begin" dD){b7:Addr}(wj:W.nsIn K mainGlobals "Door"=some (some (.ref b7)))(wk:W.plainGet K b7 Str.empty=true)(wm:W.hasDictIn K b7=true)(wo:W.plainOver K b7=true)(wq:W.findIn K (.ref b7) "__setattr__"=some (some (.builtin "object.__setattr__")))(wt:W.makesIn K b7=true)(wu:W.keepIn K (.ref b7)=true)(P6:W.findIn K (.ref b7) "name"=some none)(P7:W.findIn K (.ref b7) "life"=some none)(J1:W.findIn K (.ref b7) "houses"=some none)(E5:W.findIn K (.ref b7) "journal"=some none)(J2:W.findIn K (.ref b7) "memory"=some none){j1:Addr}{kd ke:Option Addr}{kg:Array (Option Value)}{kh ki kj km K2 kn:Value}(A8:W.findIn K (.ref b7) "__init__"=some (some (.ref j1)))(A9:W.isFn K (.ref j1)=true)(B0:K.lookup j1=some ⟨kh,kd,.func (W.fnOf "__init__" "Door.__init__" (aX bN) (aM bN) (aD bN) .none ki kj km ke K2 kn),kg⟩)(B4:W.codeIn K K2 "Door.__init__"=true)(O2:W.keepIn K (.ref j1)=true)(P8:MA K b7 "come" "Door.come" fA)(N1:MA K b7 "force" "Door.force" eO)(P9:MA K b7 "fall" "Door.fall" fE)(Q5:MA K b7 "rise" "Door.rise" fF)(Q6:MA K b7 "rows" "Door.rows" fG)(W8:MA K b7 "now" "Door.now" gM)(N2:MA K b7 "under" "Door.under" dE)(B5:MA K b7 "house_of" "Door.house_of" cN)(N3:MA K b7 "known" "Door.known" eP){j6:Addr}(qj:W.nsIn K mainGlobals "House"=some (some (.ref j6)))(qk:W.plainGet K j6 Str.empty=true)(ql:W.hasDictIn K j6=true)(qm:W.plainOver K j6=true)(qo:W.findIn K (.ref j6) "__setattr__"=some (some (.builtin "object.__setattr__")))(qp:W.makesIn K j6=true)(qr:W.keepIn K (.ref j6)=true)(B6:W.findIn K (.ref j6) "amounts"=some none)(l7:W.findIn K (.ref j6) "closed_names"=some none)(B7:W.findIn K (.ref j6) "entries"=some none){i4:Addr}{X5 X6:Option Addr}{X7:Array (Option Value)}{X8 X9 Y0 Y1 F5 Y2:Value}{wx:Addr}(x6:W.findIn K (.ref j6) "__init__"=some (some (.ref i4)))(x8:W.isFn K (.ref i4)=true)(x9:K.lookup i4=some ⟨X8,X5,.func (W.fnOf "__init__" "House.__init__" (aX bK) (aM bK) (aD bK) (.ref wx) X9 Y0 Y1 X6 F5 Y2),X7⟩)(y4:W.codeIn K F5 "House.__init__"=true)(K3:W.keepIn K (.ref i4)=true){IC:Option Addr}{qt:List Value}{ID:Nat}{FU:Array (Option Value)}(qu:K.lookup wx=some ⟨.type "tuple",IC,.seq (toArray qt) ID,FU⟩)(qv:qt=[.none,.none]){d0:Addr}(N4:W.nsIn K mainGlobals "DoorError"=some (some (.ref d0))){c8:Addr}(oj:W.nsIn K mainGlobals "Down"=some (some (.ref c8))){c1:Addr}(Y3:W.nsIn K mainGlobals "NoKey"=some (some (.ref c1))){b8:Addr}(R8:W.nsIn K mainGlobals "NoDeed"=some (some (.ref b8))){b5:Addr}(N5:W.nsIn K mainGlobals "NoHouse"=some (some (.ref b5))){c9:Addr}(om:W.nsIn K mainGlobals "Late"=some (some (.ref c9))){B8:Addr}(wy:W.nsIn K mainGlobals "Busy"=some (some (.ref B8))){m5:Addr}(qw:W.nsIn K mainGlobals "NoAsk"=some (some (.ref m5))){d7:Addr}(Q7:W.nsIn K mainGlobals "NoChange"=some (some (.ref d7))){d4:Addr}(N6:W.nsIn K mainGlobals "NoJournal"=some (some (.ref d4))){j2:Addr}(kq:W.nsIn K mainGlobals "NoLine"=some (some (.ref j2))){j3:Addr}(kr:W.nsIn K mainGlobals "NoName"=some (some (.ref j3))){d8:Addr}(Q8:W.nsIn K mainGlobals "NoNumber"=some (some (.ref d8))){m6:Addr}(qx:W.nsIn K mainGlobals "NoRow"=some (some (.ref m6))){j4:Addr}(ku:W.nsIn K mainGlobals "NoRows"=some (some (.ref j4))){m7:Addr}(qy:W.nsIn K mainGlobals "NoWay"=some (some (.ref m7))){m8:Addr}(qz:W.nsIn K mainGlobals "Other"=some (some (.ref m8))){j5:Addr}(kz:W.nsIn K mainGlobals "Unsafe"=some (some (.ref j5))){nk:Addr}(IE:W.nsIn K mainGlobals "Up"=some (some (.ref nk))){c7:Addr}{S8 S9:Option Addr}{T1:Array (Option Value)}{T2 T3 T5 T6 C0 T7:Value}(E6:W.findIn K (.ref b5) "__init__"=some (some (.ref c7)))(o5:W.isFn K (.ref c7)=true)(i5:K.lookup c7=some ⟨T2,S8,.func (W.fnOf "__init__" "NoHouse.__init__" (aX aV) (aM aV) (aD aV) .none T3 T5 T6 S9 C0 T7),T1⟩)(i6:W.codeIn K C0 "NoHouse.__init__"=true)(i7:W.keepIn K (.ref c7)=true)(AO:W.specialIn K (.builtin "object.__class__") "__get__"=some (some (.builtin "getset_descriptor.__get__")))(AQ:W.takesIn K (.builtin "object.__class__")=some true)(xa:W.excIn K c8 [.type "ValueError",.type "Exception",.type "BaseException",.type "object"] "ValueError.__new__"=true)(AR:W.findIn K (.ref c8) "__getattribute__"=some (some (.builtin "BaseException.__getattribute__")))(AS:W.findIn K (.ref c8) "__getattr__"=some none)(AU:W.findIn K (.ref c8) "__class__"=some (some (.builtin "object.__class__")))(AV:W.mroIn K c8 (.type "object")=some true)(AW:W.mroIn K c8 (.type "BaseException")=some true)(AX:W.isClsIn K c8=true)(AY:W.exmOne K (.ref c8) (.ref d0)=some true)(AZ:W.kitOne K (.ref c8) (.ref c8)=some true)(BA:W.kitOne K (.ref c8) (.ref c1)=some false)(BC:W.kitOne K (.ref c8) (.ref b8)=some false)(BE:W.kitOne K (.ref c8) (.ref b5)=some false)(BF:W.kitOne K (.ref c8) (.ref c9)=some false)(BG:W.kitOne K (.ref c8) (.type "ValueError")=some true)(BH:W.kitAny K (.ref c8) [.ref B8,.ref m5,.ref d7,.ref d4,.ref j2,.ref j3,.ref d8,.ref m6,.ref j4,.ref m7]=some false)(BI:W.kitAny K (.ref c8) [.ref m8,.ref j5,.ref nk]=some false)(xb:W.excIn K c1 [.type "ValueError",.type "Exception",.type "BaseException",.type "object"] "ValueError.__new__"=true)(BJ:W.findIn K (.ref c1) "__getattribute__"=some (some (.builtin "BaseException.__getattribute__")))(BK:W.findIn K (.ref c1) "__getattr__"=some none)(BL:W.findIn K (.ref c1) "__class__"=some (some (.builtin "object.__class__")))(BN:W.mroIn K c1 (.type "object")=some true)(BO:W.mroIn K c1 (.type "BaseException")=some true)(BP:W.isClsIn K c1=true)(BQ:W.exmOne K (.ref c1) (.ref d0)=some true)(BS:W.kitOne K (.ref c1) (.ref c8)=some false)(BU:W.kitOne K (.ref c1) (.ref c1)=some true)(BV:W.kitOne K (.ref c1) (.ref b8)=some false)(BW:W.kitOne K (.ref c1) (.ref b5)=some false)(BX:W.kitOne K (.ref c1) (.ref c9)=some false)(BY:W.kitOne K (.ref c1) (.type "ValueError")=some true)(BZ:W.kitAny K (.ref c1) [.ref B8,.ref m5,.ref d7,.ref d4,.ref j2,.ref j3,.ref d8,.ref m6,.ref j4,.ref m7]=some false)(CA:W.kitAny K (.ref c1) [.ref m8,.ref j5,.ref nk]=some false)(xc:W.excIn K b8 [.type "ValueError",.type "Exception",.type "BaseException",.type "object"] "ValueError.__new__"=true)(CB:W.findIn K (.ref b8) "__getattribute__"=some (some (.builtin "BaseException.__getattribute__")))(CC:W.findIn K (.ref b8) "__getattr__"=some none)(CF:W.findIn K (.ref b8) "__class__"=some (some (.builtin "object.__class__")))(CG:W.mroIn K b8 (.type "object")=some true)(CI:W.mroIn K b8 (.type "BaseException")=some true)(CJ:W.isClsIn K b8=true)(CL:W.exmOne K (.ref b8) (.ref d0)=some true)(CM:W.kitOne K (.ref b8) (.ref c8)=some false)(CN:W.kitOne K (.ref b8) (.ref c1)=some false)(CO:W.kitOne K (.ref b8) (.ref b8)=some true)(CP:W.kitOne K (.ref b8) (.ref b5)=some false)(CQ:W.kitOne K (.ref b8) (.ref c9)=some false)(CS:W.kitOne K (.ref b8) (.type "ValueError")=some true)(CT:W.kitAny K (.ref b8) [.ref B8,.ref m5,.ref d7,.ref d4,.ref j2,.ref j3,.ref d8,.ref m6,.ref j4,.ref m7]=some false)(CU:W.kitAny K (.ref b8) [.ref m8,.ref j5,.ref nk]=some false)(CV:W.findIn K (.ref b5) "__getattribute__"=some (some (.builtin "BaseException.__getattribute__")))(CW:W.findIn K (.ref b5) "__getattr__"=some none)(CY:W.findIn K (.ref b5) "__class__"=some (some (.builtin "object.__class__")))(CZ:W.mroIn K b5 (.type "object")=some true)(DB:W.mroIn K b5 (.type "BaseException")=some true)(DC:W.isClsIn K b5=true)(DD:W.exmOne K (.ref b5) (.ref d0)=some true)(DE:W.kitOne K (.ref b5) (.ref c8)=some false)(DF:W.kitOne K (.ref b5) (.ref c1)=some false)(DG:W.kitOne K (.ref b5) (.ref b8)=some false)(DH:W.kitOne K (.ref b5) (.ref b5)=some true)(DI:W.kitOne K (.ref b5) (.ref c9)=some false)(DJ:W.kitOne K (.ref b5) (.type "ValueError")=some true)(DK:W.kitAny K (.ref b5) [.ref B8,.ref m5,.ref d7,.ref d4,.ref j2,.ref j3,.ref d8,.ref m6,.ref j4,.ref m7]=some false)(DL:W.kitAny K (.ref b5) [.ref m8,.ref j5,.ref nk]=some false)(xf:W.excIn K c9 [.type "ValueError",.type "Exception",.type "BaseException",.type "object"] "ValueError.__new__"=true)(DM:W.findIn K (.ref c9) "__getattribute__"=some (some (.builtin "BaseException.__getattribute__")))(DN:W.findIn K (.ref c9) "__getattr__"=some none)(DO:W.findIn K (.ref c9) "__class__"=some (some (.builtin "object.__class__")))(DP:W.mroIn K c9 (.type "object")=some true)(DQ:W.mroIn K c9 (.type "BaseException")=some true)(DR:W.isClsIn K c9=true)(DT:W.exmOne K (.ref c9) (.ref d0)=some true)(DU:W.kitOne K (.ref c9) (.ref c8)=some false)(DV:W.kitOne K (.ref c9) (.ref c1)=some false)(DX:W.kitOne K (.ref c9) (.ref b8)=some false)(DY:W.kitOne K (.ref c9) (.ref b5)=some false)(DZ:W.kitOne K (.ref c9) (.ref c9)=some true)(EA:W.kitOne K (.ref c9) (.type "ValueError")=some true)(EB:W.kitAny K (.ref c9) [.ref B8,.ref m5,.ref d7,.ref d4,.ref j2,.ref j3,.ref d8,.ref m6,.ref j4,.ref m7]=some false)(EC:W.kitAny K (.ref c9) [.ref m8,.ref j5,.ref nk]=some false)(IF:wE K b5 c7 [.type "ValueError",.type "Exception",.type "BaseException",.type "object"] "ValueError.__new__"=true)(OC:W.findIn K (.ref b5) "__setattr__"=some (some (.builtin "object.__setattr__")))(OD:rM K b5=true)(OE:W.hasDictIn K b5=true)(OF:W.takerIn K b5 "house"=some none)(IG:W.findIn K (.ref b5) "house"=some none)(IH:W.nsIn K mainGlobals "any"=some none)(N7:W.nsIn K mainGlobals "isinstance"=some none)(II:W.nsIn K mainGlobals "int"=some none)(ED:W.nsIn K mainGlobals "bool"=some none)(IJ:W.nsIn K mainGlobals "str"=some none)(IK:W.nsIn K mainGlobals "len"=some none)(IL:W.nsIn K mainGlobals "all"=some none)(xg:W.nsIn K mainGlobals "tuple"=some none)(EE:W.nsIn K mainGlobals "dict"=some none)(rb:W.nsIn K mainGlobals "sorted"=some none)(IM:W.nsIn K mainGlobals "max"=some none)(EF:W.nsIn K mainGlobals "list"=some none)(Q9:W.nsIn K mainGlobals "enumerate"=some none)(IP:W.nsIn K mainGlobals "sum"=some none)(xh:W.nsIn K mainGlobals "range"=some none)(IQ:W.nsIn K mainGlobals "min"=some none)(N8:W.nsIn K mainGlobals "ValueError"=some none){FV:Tok}(lg:W.nsIn K mainGlobals "LETTERS"=some (some (.str ("abcdefghijklmnopqrstuvwxyz") FV))){FW:Tok}(lh:W.nsIn K mainGlobals "FIGURES"=some (some (.str ("0123456789") FW))){rg:Tok}(E7:W.nsIn K mainGlobals "LONGEST_NAME"=some (some (.int (8) rg))){ua:Tok}(J3:W.nsIn K mainGlobals "LONGEST_KEY"=some (some (.int (12) ua))){OG:Tok}(EG:W.nsIn K mainGlobals "MOST"=some (some (.int (1000000000000) OG))){T8:Tok}(l9:W.nsIn K mainGlobals "LONGEST_DOOR_NAME"=some (some (.int (5) T8))){J4:Addr}{R5:List DictEntry}{ub:Nat}(J5:W.nsIn K mainGlobals "NAME_COUNTS"=some (some (.ref J4)))(J6:K.lookup J4=some ⟨.type "dict",none,.dict (toArray R5) ub,#[]⟩)(J7:Tab w.params R5 (WS))(J8:(J4==sysModules)=false){R6:Addr}{K4:List Value}{nq:Option Addr}{rh:Nat}{nv:Array (Option Value)}(E8:W.nsIn K mainGlobals "UNLIKE_WORDS"=some (some (.ref R6)))(E9:K.lookup R6=some ⟨.type "tuple",nq,.seq (toArray K4) rh,nv⟩)(u5:Vals (UW) K4)
  : ∃fd:FuncData,(∀(s:Shared)(v:Value),BindsTo s fd ⟨[v],[]⟩ [("_law_script",v)])/\∀base:Heap,K.In base->base.Ns mainGlobals mg->gC l.prog w K mg base pJ 8 fa fd ["_law_script"] (zA K):=by
 have e:=hfa.symm.trans (W.mg_of X G HX);cases e;have T:Txt K mg:=⟨W.mg_none_of X G IH,W.mg_none_of X G N7,W.mg_none_of X G II,W.mg_none_of X G ED,W.mg_none_of X G IJ,W.mg_none_of X G IK,W.mg_none_of X G IL,W.mg_none_of X G xg,W.mg_none_of X G EE,W.mg_none_of X G rb,W.mg_none_of X G IM,W.mg_none_of X G EF,W.mg_none_of X G Q9,W.mg_none_of X G IP,W.mg_none_of X G xh,W.mg_none_of X G IQ,W.mg_none_of X G N8,⟨_,W.mg_of X G lg⟩,⟨_,W.mg_of X G lh⟩,⟨_,W.mg_of X G E7⟩,⟨_,W.mg_of X G J3⟩,⟨_,W.mg_of X G EG⟩,⟨_,W.mg_of X G l9⟩⟩;have U:Wl w.params K mg:=⟨⟨_,W.mg_of X G J5,⟨_,_,J6,J7,J8⟩⟩,⟨_,W.mg_of X G E8,fun _=>.inr ⟨_,_,_,E9,rfl,rfl,by rw[eE,<- u5.length];decide,u5⟩⟩⟩;have R9:Cls K b9:=⟨vn,vo,vp,vq⟩;have OI:ClsAt K mg "Keys" b9 "Keys.__init__" bL ["self","life"] [[]]:=⟨i9,_,_,W.mg_of X G vm,⟨_,_,_,_,_,_,_,_,_,rfl,z8,z9⟩,⟨vt,z6,z7,vv⟩,by
  intro d hd;obtain rfl:=Zms.mp hd;exact⟨[],fun s us KI hl=>match us,(show us.length=2 by simpa using hl) with | [_,_],_=>BindsTo.of_eq rfl,.nil⟩⟩
 have EZ:Cls K c5:=⟨vx,vy,vz,wa⟩;subst wg;have OJ:ClsAt K mg "Book" c5 "Book.__init__" bM ["self","rows"] [[],[.non]]:=⟨j0,_,_,W.mg_of X G vw,⟨_,_,_,_,_,_,_,_,_,rfl,A4,A5⟩,⟨wb,A0,A3,wc⟩,by
  intro d hd;rcases mem_cons.mp hd with rfl|hd
  ·exact⟨[],fun s us KI hl=>match us,(show us.length=2 by simpa using hl) with|[_,_],_=>BindsTo.of_defaults (T:=we) rfl (KI _ _ oi) rfl rfl rfl,.nil⟩
  obtain rfl:=Zms.mp hd
  ·exact⟨[.none],fun s us KI hl=>match us,(show us.length=1 by simpa using hl) with | [_],_=>BindsTo.of_defaults (T:=we) rfl (KI _ _ oi) rfl rfl rfl,(.cons rfl .nil)⟩⟩
 have y6:Cls K b4:=⟨V1,V2,V3,V4⟩;subst V7;have GB:ClsAt K mg "Journal" b4 "Journal.__init__" bD ["self","text"] [[],[.str ("":Str)]]:=⟨i0,_,_,W.mg_of X G V0,⟨_,_,_,_,_,_,_,_,_,rfl,n9,o4⟩,⟨V5,n6,n8,V6⟩,by
  intro d hd;rcases mem_cons.mp hd with rfl|hd
  ·exact⟨[],fun s us KI hl=>match us,(show us.length=2 by simpa using hl) with|[_,_],_=>BindsTo.of_defaults (T:=R7) rfl (KI _ _ M7) rfl rfl rfl,.nil⟩
  obtain rfl:=Zms.mp hd
  ·exact⟨[.str ("":Str) lu],fun s us KI hl=>match us,(show us.length=1 by simpa using hl) with | [_],_=>BindsTo.of_defaults (T:=R7) rfl (KI _ _ M7) rfl rfl rfl,(.cons ⟨_,rfl⟩ .nil)⟩⟩
 have IT:Cls K d5:=⟨AI,AJ,AK,AL⟩;have TX:ClsAt K mg "Run" d5 "Run.__init__" bR ["self","number","asker","key","deed","stage"] [[]]:=⟨j9,_,_,W.mg_of X G AH,⟨_,_,_,_,_,_,_,_,_,rfl,D9,E1⟩,⟨AM,C9,D0,AN⟩,by
  intro d hd;obtain rfl:=Zms.mp hd;exact⟨[],fun s us KI hl=>match us,(show us.length=6 by simpa using hl) with | [_,_,_,_,_,_],_=>BindsTo.of_eq rfl,.nil⟩⟩
 have lj:Cls K b6:=⟨ju,jv,jw,jy⟩;have IU:ClsAt K mg "Memory" b6 "Memory.__init__" bG ["self","life","turn","up"] [[]]:=⟨i3,_,_,W.mg_of X G jt,⟨_,_,_,_,_,_,_,_,_,rfl,u3,u4⟩,⟨jz,r9,u0,kc⟩,by
  intro d hd;obtain rfl:=Zms.mp hd;exact⟨[],fun s us KI hl=>match us,(show us.length=4 by simpa using hl) with | [_,_,_,_],_=>BindsTo.of_eq rfl,.nil⟩⟩
 have y7:Cls K b7:=⟨wk,wm,wo,wq⟩;have OK:ClsAt K mg "Door" b7 "Door.__init__" bN ["self","name","life","houses"] [[]]:=⟨j1,_,_,W.mg_of X G wj,⟨_,_,_,_,_,_,_,_,_,rfl,B0,B4⟩,⟨wt,A8,A9,wu⟩,by
  intro d hd;obtain rfl:=Zms.mp hd;exact⟨[],fun s us KI hl=>match us,(show us.length=4 by simpa using hl) with | [_,_,_,_],_=>BindsTo.of_eq rfl,.nil⟩⟩
 have IV:Cls K j6:=⟨qk,ql,qm,qo⟩;subst qv;have KZ:ClsAt K mg "House" j6 "House.__init__" bK ["self","rows","closed"] [[.non,.non]]:=⟨i4,_,_,W.mg_of X G qj,⟨_,_,_,_,_,_,_,_,_,rfl,x9,y4⟩,⟨qp,x6,x8,qr⟩,by
  intro d hd;obtain rfl:=Zms.mp hd
  ·exact⟨[.none,.none],fun s us KI hl=>match us,(show us.length=1 by simpa using hl) with | [_],_=>BindsTo.of_defaults (T:=wx) rfl (KI _ _ qu) rfl rfl rfl,(.cons rfl (.cons rfl .nil))⟩⟩
 have GC:InitAt K c7 "NoHouse.__init__" aV ["self","house"]:=⟨⟨_,jO i5 i6 i7,(jO (st:=aV) i5 i6 i7).binds (fun _ _ _ _ _ _ us hl=>match us,hl with|[_,_],_=>rfl)⟩,o5⟩;refine⟨W.fnOf "law" "law" (aX iE) (aM iE) (aD iE) .none HS HU HV HR AE HW,fun s v=>.of_eq rfl,fun base _ _=>?_⟩;have TY:=jO (st:=iE) HY HZ IA;have BD:Kh K b7:=⟨y7,P6,P7,J1,E5,J2⟩;have BM:Lq K b6:=⟨lj,G8,G9,p9,J0,k9⟩;have BR:Vv K d5:=⟨IT,M8,O8,jr,V8,O9,P0,P4⟩;have JB:JT K b4:=⟨y6,p8,j8⟩;have BB:Vo K c5:=⟨EZ,C4⟩;have KT:Qu K b9:=⟨R9,O5,p7,l8⟩;have HB:Wm K j6:=⟨IV,B6,l7,B7⟩;have Q0:gV K c8:=⟨AR,AS,AU,AO,AQ,AV,AW,AX⟩;have R0:Bg K ⟨c8,c1,b8,b5,c9⟩ d0 [B8,m5,d7,d4,j2,j3,d8,m6,j4,m7] [m8,j5,nk] 0:=⟨AY,Q0,AZ,BA,BC,BE,BF,BG,BH,BI⟩;have Q1:gV K c1:=⟨BJ,BK,BL,AO,AQ,BN,BO,BP⟩;have R1:Bg K ⟨c8,c1,b8,b5,c9⟩ d0 [B8,m5,d7,d4,j2,j3,d8,m6,j4,m7] [m8,j5,nk] 1:=⟨BQ,Q1,BS,BU,BV,BW,BX,BY,BZ,CA⟩;have Q2:gV K b8:=⟨CB,CC,CF,AO,AQ,CG,CI,CJ⟩;have R2:Bg K ⟨c8,c1,b8,b5,c9⟩ d0 [B8,m5,d7,d4,j2,j3,d8,m6,j4,m7] [m8,j5,nk] 2:=⟨CL,Q2,CM,CN,CO,CP,CQ,CS,CT,CU⟩;have Q3:gV K b5:=⟨CV,CW,CY,AO,AQ,CZ,DB,DC⟩;have R3:Bg K ⟨c8,c1,b8,b5,c9⟩ d0 [B8,m5,d7,d4,j2,j3,d8,m6,j4,m7] [m8,j5,nk] 3:=⟨DD,Q3,DE,DF,DG,DH,DI,DJ,DK,DL⟩;have Q4:gV K c9:=⟨DM,DN,DO,AO,AQ,DP,DQ,DR⟩;have R4:Bg K ⟨c8,c1,b8,b5,c9⟩ d0 [B8,m5,d7,d4,j2,j3,d8,m6,j4,m7] [m8,j5,nk] 4:=⟨DT,Q4,DU,DV,DX,DY,DZ,EA,EB,EC⟩;have XT:Wn K mg (⟨c8,c1,b8,b5,c9⟩:XC) c7:=⟨⟨W.mg_of X G oj,xa⟩,⟨W.mg_of X G Y3,xb⟩,⟨W.mg_of X G R8,xc⟩,⟨W.mg_of X G N5,IF⟩,⟨W.mg_of X G om,xf⟩⟩;have RT:Tx K mg (⟨c8,c1,b8,b5,c9⟩:XC) d0 [B8,m5,d7,d4,j2,j3,d8,m6,j4,m7] [m8,j5,nk]:=⟨W.mg_of X G N4,W.mg_of X G oj,W.mg_of X G Y3,W.mg_of X G R8,W.mg_of X G N5,W.mg_of X G om,(fun k hk=>match k,hk with|0,_=>R0|1,_=>R1|2,_=>R2|3,_=>R3|4,_=>R4),OE,IG⟩;have LX:=Ju (P:=l.prog) (w:=w) (mg:=mg) (base:=base) T (K8.at X G);have IW:=wK T LX (Y9.at X G);have YA:=At T LX (qi.at X G);have cwh:=Fx (P:=l.prog) (w:=w) (mg:=mg) (base:=base) T (U4.at X G);have YB:=Jv T U IW (O4.at X G);have TZ:=wM T YB cwh (Z0.at X G);have UA:=Jw (P:=l.prog) (w:=w) (mg:=mg) (base:=base) T (Z2.at X G);have cbr:=wN (P:=l.prog) (w:=w) (mg:=mg) (base:=base) T BB (O7.at EZ);have cbi:=Ge (P:=l.prog) (w:=w) (mg:=mg) (base:=base) T BB OJ;have cal:=Fz (P:=l.prog) (w:=w) (mg:=mg) (base:=base) (U5.at X G);have cik:=Au KT cal (C3.at R9);have clo:=Jx KT cik (O6.at R9);have cbe:=Ga (P:=l.prog) (w:=w) (mg:=mg) (base:=base) KT (M6.at R9);have cki:=Fy (P:=l.prog) (w:=w) (mg:=mg) (base:=base) KT OI;have cby:=Pz (P:=l.prog) (w:=w) (mg:=mg) (base:=base) (K9.at X G);have cfb:=Qa (cbi [] Zs) (M0.at X G);have crb:=Qb cfb (M3.at X G);have crk:=Qc (P:=l.prog) (w:=w) (mg:=mg) (base:=base) (M4.at X G);have cri:=Ke T cby crb crk cbr (vk.at X G);have cro:=uK (P:=l.prog) (w:=w) (mg:=mg) (base:=base) T (Z4.at X G);have cji:=Aw T JB cro GB;have cjw:=Ax (P:=l.prog) (w:=w) (mg:=mg) (base:=base) JB (A6.at y6);have cjf:=Ay (P:=l.prog) (w:=w) (mg:=mg) (base:=base) T JB (A7.at y6);have YC:=Gf (P:=l.prog) (w:=w) (mg:=mg) (base:=base) T JB (C7.at y6);have cjs:=Gg (P:=l.prog) (w:=w) (mg:=mg) (base:=base) JB (C8.at y6);have cjl:=Gh JB cjf (C6.at y6);have YD:=Kf (P:=l.prog) (w:=w) (mg:=mg) (base:=base) BR TX;have cas:=Qd (P:=l.prog) (w:=w) (mg:=mg) (base:=base) BR (E2.at IT);have cpu:=Qe (c:=⟨b7,b6,d5,b4,c5,b9⟩) BM cbe (YD [] Zs) (M9.at lj);have cmb:=Ba (c:=⟨b7,b6,d5,b4,c5,b9⟩) BM cpu (E4.at lj);have cmi:=Qg (c:=⟨b7,b6,d5,b4,c5,b9⟩) BM (cbi [] Zs) (cki [] Zs) IU;have cdi:=Go (c:=⟨b7,b6,d5,b4,c5,b9⟩) T BD IW (cji [.str ("":Str)] Zs) cri (cmi [] Zs) OK;have UB:=Bc (P:=l.prog) (w:=w) (mg:=mg) (base:=base) (c:=⟨b7,b6,d5,b4,c5,b9⟩) BD XT.xD (N3.at y7);have YE:=Qi (c:=⟨b7,b6,d5,b4,c5,b9⟩) BM UB (W8.at y7);have cdw:=Gp (c:=⟨b7,b6,d5,b4,c5,b9⟩) BD YC (Q6.at y7);have cun:=Gq (c:=⟨b7,b6,d5,b4,c5,b9⟩) T BM UB cas (N2.at y7);have cho:=wQ (P:=l.prog) (w:=w) (mg:=mg) (base:=base) HB KZ;have inh:=Qj (P:=l.prog) (w:=w) (mg:=mg) (base:=base) ⟨OC,OD,OF⟩ GC;have chx:=Be (c:=⟨b7,b6,d5,b4,c5,b9⟩) BD XT.xH inh (B5.at y7);have cfo:=Bf (c:=⟨b7,b6,d5,b4,c5,b9⟩) BD UB cjs cjf YC (N1.at y7);have cfa:=Gr (c:=⟨b7,b6,d5,b4,c5,b9⟩) BD UB cjl (P9.at y7);have crs:=Gs (c:=⟨b7,b6,d5,b4,c5,b9⟩) T BD BM YC cri (cmi [] Zs) (Q5.at y7);have ccm:=Gu (c:=⟨b7,b6,d5,b4,c5,b9⟩) T XT BD BM UB IW YA TZ UA chx clo cmb cjw (P8.at y7);have YF:=wR (c:=⟨b7,b6,d5,b4,c5,b9⟩) T T.b_ValueError RT (W.mg_of X G wy) (W.mg_of X G qw) (W.mg_of X G Q7) (W.mg_of X G N6) (W.mg_of X G kq) (W.mg_of X G kr) (W.mg_of X G Q8) (W.mg_of X G qx) (W.mg_of X G ku) (W.mg_of X G qy) (W.mg_of X G qz) (W.mg_of X G kz) (W.mg_of X G IE) ccm (F8.at X G);have YG:=Bh (P:=l.prog) (w:=w) (mg:=mg) (base:=base) T (U8.at X G);have cdk:=Jy (P:=l.prog) (w:=w) (mg:=mg) (base:=base) T (U6.at X G);have UC:=Gb (P:=l.prog) (w:=w) (mg:=mg) (base:=base) (U7.at X G);have cul:=Av T UC (M5.at X G);have cnw:=Bi T UC (F9.at X G);have cnd:=Bj T UC (G0.at X G);have cha:=wU T UC (m9.at X G);have cfr:=Bl (c:=⟨b7,b6,d5,b4,c5,b9⟩) T cfo cfa crs YF YG (n4.at X G);have cwr:=Bm (c:=⟨b7,b6,d5,b4,c5,b9⟩) T YF YG (p6.at X G);exact Ql (c:=⟨b7,b6,d5,b4,c5,b9⟩) T cdk UC cul (cdi [] Zs) (cho [.non,.non] Zs) ccm cha cnw cnd cfr cwr YF YG YE cdw cun TY
def Vy{l:W.OpenLaw}{q:Program}{loose:List Str}{XP:(Str->Option Value)->Heap->Prop}{YP:World->Heap->Prop}{d:DefRec}{K:Params->W.Frag}(hn:l.most=some 63)(QD:d.params.defaults=[])(hY:∀(w:World)(h:Heap),YP w h->(K w.params).In h)(F:∀(w:World)(mg:Str->Option Value)(fa:Addr)(h:Heap),(K w.params).In h->h.Ns mainGlobals mg->mg d.name=some (.ref fa) →
   ∃fd:FuncData,(∀(s:Shared)(u:Value),BindsTo s fd ⟨[u],[]⟩ [("_law_script",u)])/\∀base:Heap,(K w.params).In base->base.Ns mainGlobals mg->gC l.prog w (K w.params) mg base pJ 8 fa fd ["_law_script"] (zA (K w.params))) :
  W.WalkO q loose XP YP l.row.toRowW d [] (fun f vs=>PySem.call f vs):=
 L2.xO (n:=63) (k:=8) (x:="_law_script") (CX:=fun _=>pJ) (sp:=fun w=>zA (K w.params)) hn Zd QD ⟨rfl,Zd,Zd⟩ hY F (fun _ _ a ns hl _ hS=>⟨a,ns,rfl,hS,hl,fun _=>rfl⟩) fun _ _ _ _ _ z=>z
end KL
namespace PySem.W.Fast
def tw4115469799790085486:=0
def tw17094415016901473091:=0
def tw14642528381974563026:=0
def tw3628219754295666652:=0
def tw4670275425256929679:=0
def tw12675766644206935298:=0
def tw9200795547784415283:=0
def tw14716282835542683078:=0
def tw7682181661315348184:=0
def tw5467829070003404506:=0
def tw9314993289264351842:=0
def tw5889240743654166168:=0
def tw13036724541314411230:=0
def tw829724755126630731:=0
def tw5531818916845627742:=0
def tw16782862828286856310:=0
def tw14905992951337641564:=0
def tw17177240120466378522:=0
def tw17064494167460063923:=0
def tw472630793933187332:=0
def tw887722967383791621:=0
def tw4434117919894376491:=0
def tw8452811635127902976:=0
def tw14954101404339238151:=0
def tw12375231465473517461:=0
def tw6577919267457877254:=0
def tw12404333277454227754:=0
def tw13772614013275338387:=0
def tw6007401597363152440:=0
def tw7542324243845492211:=0
def tw15138244095014592324:=0
def tw7140519483246462392:=0
def tw8869091163983878252:=0
def tw15703859559490271300:=0
def tw2352581136001490751:=0
def tw9133143443155583029:=0
def tw709437077420959105:=0
def tw1220628624646537390:=0
def tw6219813692981669836:=0
def tw13793823575010760475:=0
def tw8356928629365751515:=0
def tw2799129858752293655:=0
def tw3473234292945309154:=0
def tw11602894873453930531:=0
def tw7396636142412668797:=0
def tw316396339142786054:=0
def tw2117441631234955279:=0
def tw12425305254987049759:=0
def tw5814018970012747480:=0
def tw15498375928017776236:=0
def tw12918056913506493709:=0
def tw3815799764970556437:=0
def tw13252206211107450462:=0
def tw12120577260637595589:=0
def tw8150084380510155939:=0
def tw9342403557589674424:=0
def tw17136657771695375053:=0
def tw3730948096467238387:=0
def tw5429257097862377483:=0
def tw6225354909518186463:=0
def tw4107488474070103751:=0
def tw13412087117770692538:=0
def tw2646072702483747734:=0
def tw17051063734134606959:=0
def tw16304966632835839961:=0
def tw2310607287970004949:=0
def tw12008690139327630290:=0
def tw7975763371424596583:=0
def tw13743033396487781556:=0
def tw4861057439909356131:=0
def tw6291826907369046088:=0
def tw10132489699178039195:=0
def tw1174987101010770838:=0
def tw16328320148572981502:=0
def tw12256663651740275440:=0
def tw13084692990168521125:=0
def tw16225383014261796491:=0
def tw6807232331292402155:=0
def tw17772981019672758466:=0
def tw13808680505015966446:=0
def tw17153856450411096373:=0
def tw9535260337340964282:=0
def tw16993628538740322789:=0
def tw17854710483825733314:=0
def tw15332192822465168239:=0
def tw17624491236379374478:=0
def tw5769238476916078491:=0
def tw12764334534093185593:=0
def tw14159314845108768441:=0
def tw12991111702118102073:=0
def tw2669949494546049099:=0
def tw3188788224662676931:=0
def tw4918233602467091784:=0
def tw16925166532783501936:=0
def tw12085121262689067512:=0
def tw11770677549272254826:=0
def tw4880291397288023793:=0
def tw16694273490453378897:=0
def tw13942303728177129488:=0
def tw8774522125108366270:=0
def tw5530155803379186925:=0
def tw11812994949881699605:=0
def tw4061157982486664566:=0
def tw10882424653796845533:=0
def tw14830201490309586572:=0
def tw8475475046111616384:=0
def tw9929022821813062310:=0
def tw17971532730404827412:=0
def tw6804975656265300851:=0
def tw667442301091827589:=0
def tw7091536706706641338:=0
def tw18277257738212917467:=0
def tw18121697068356154530:=0
def tw721841930519778714:=0
def tw2198425706236616725:=0
def tw14029484517908130485:=0
def tw11871731723218263861:=0
def tw4926605404729121662:=0
def tw11205950083241272278:=0
def tw16656347767609101416:=0
def tw8321576387895708561:=0
def tw780519001564526571:=0
def tw15594847542121187772:=0
def tw1636638772022642058:=0
def tw2972384780969404004:=0
def tw3359931801454634957:=0
def tw1816424095054717059:=0
def tw1993057265616876962:=0
def tw16356450065655524366:=0
def tw3224479655038743352:=0
def tw5381145159511892195:=0
def tw1802084552698353575:=0
def tw18316779668923009954:=0
def tw17058723595561873501:=0
def tw981002390796476444:=0
def tw6998300164183101717:=0
def tw15619905727503711506:=0
def tw18270785484089748202:=0
def tw12821974754556281010:=0
def tw17905396901680124531:=0
def tw4487299635027483992:=0
def tw4355272829758719638:=0
def tw9863903792141478114:=0
def tw11472899339761893064:=0
def tw1897588155092341457:=0
def tw12612789096023599487:=0
def tw11107532444238096943:=0
def tw10752777795721922708:=0
def tw16711388213530953528:=0
def tw15728369204496905071:=0
def tw9468842428547229651:=0
def tw14921245439616040139:=0
def tw7828063914426593367:=0
def tw15093012030178132073:=0
def tw6354883376710675153:=0
def tw1959624168361788805:=0
def tw12616197361171632420:=0
def tw6117151760213349281:=0
def tw1205895988700533913:=0
def tw266604858007271610:=0
def tw3588419971397006699:=0
def tw12170391101605586285:=0
def tw12832717496949694388:=0
def tw121208456717292812:=0
def tw11415561189197537791:=0
def tw11046185359055718851:=0
def tw8775724845456299922:=0
def tw10110380492968243008:=0
def tw2050080541115408237:=0
def tw5556096794649108596:=0
def tw16388527971699793782:=0
def tw7115459152600184345:=0
def tw15822057892302505950:=0
def tw16454877483812367697:=0
def tw12304532809254428728:=0
def tw18445846238751098492:=0
def tw2562959889887242740:=0
def tw12146356387368247573:=0
def tw6090332457317935497:=0
def tw8667185074990456660:=0
def tw17751454401407119635:=0
def tw4232603429148870460:=0
def tw2137744336814652133:=0
def tw7170358540602735212:=0
def tw18279107480033371316:=0
def tw4916301184158140296:=0
def tw9183720923683660258:=0
def tw10883925784169915756:=0
def tw10772346217521197323:=0
def tw14206528965890414271:=0
def tw4613996956939148860:=0
def tw12602320415027508286:=0
def tw10286135477767373158:=0
def tw16530687846874766305:=0
def tw394379730810451772:=0
def tw1558023726086533584:=0
def tw9887370361599646341:=0
def tw2886202622393649407:=0
def tw13513217936530625187:=0
def tw4875515409173586642:=0
def tw18023510843422459285:=0
def tw14644318043557597044:=0
def tw1064967005951019804:=0
def tw5547114127875799957:=0
def tw14819797857696480991:=0
def tw1983760010803223340:=0
def tw16868697361295588827:=0
def tw5283171790400036697:=0
def tw5817180712121608346:=0
def tw587033106017165834:=0
def tw3859516580721001263:=0
def tw13713287569849247936:=0
def tw12923022893998041697:=0
def tw1598112713511573106:=0
def tw5249510421358047029:=0
def tw14172833777130275005:=0
def tw17113110469072541123:=0
def tw8291517249307870507:=0
def tw2971617922165652208:=0
def tw14749064186350471350:=0
def tw2876891868318190019:=0
def tw4955556243965401073:=0
def tw7746970472188501795:=0
def tw2193864943521323811:=0
def tw5979305185290456087:=0
def tw2088514388688370882:=0
def tw10136491282545305177:=0
def tw1758297786055310273:=0
def tw16276960265673746655:=0
def tw14918997305717777621:=0
def tw10732948526620090445:=0
def tw10619812980849449057:=0
def tw8048732321153293308:=0
def tw14449504494961009823:=0
def tw1790917229585146844:=0
def tw598380530042264963:=0
def tw13008736085075896005:=0
def tw6487676073911863485:=0
def tw6756089795036612501:=0
def tw10391331007096674837:=0
def tw1523727028291153928:=0
def tw10737083995445030959:=0
def tw6671699438493782870:=0
def tw12632887616763822536:=0
def tw1383057883184193325:=0
def tw780559363789921620:=0
def tw9943488142648116722:=0
def tw967735560859985557:=0
def tw15569871290994166252:=0
def tw1036799189585287084:=0
def tw17315321510112506480:=0
def tw18012899786449416074:=0
def tw9789682422212953985:=0
def tw3928429834026032315:=0
def tw14529262930981052780:=0
def tw7880507176218995525:=0
def tw3688826366694451785:=0
def tw1236225615251141346:=0
def tw10371480072761369330:=0
def tw12160383230153290426:=0
def tw6487261072184104625:=0
def tw7685011223866796025:=0
def tw850865970342582170:=0
def tw13083165602631708884:=0
def tw2703832734644425075:=0
def tw1929428301921844106:=0
def tw17090376772371130845:=0
def tw570937575936538066:=0
def tw13179005566367373660:=0
def tw5532117828834499451:=0
def tw10713308815040342014:=0
def tw10629011597724246049:=0
def tw7913883575117153691:=0
def tw9092491309473058011:=0
def tw16781373711024957183:=0
def tw16817794291277727051:=0
def tw408996774383713164:=0
def tw16132675420319526546:=0
def tw16918936553329076498:=0
def tw1780632860485032114:=0
def tw743524522898927371:=0
def tw11142335474602936758:=0
def tw16734423570678688568:=0
def tw13338321863500657092:=0
def tw12024738353890685994:=0
def tw8638371427335110913:=0
def tw8965970411352165036:=0
def tw6042218175988286924:=0
def tw11683230370464383106:=0
def tw12479236591615837528:=0
def tw11486515727375663955:=0
def tw5780834313492859220:=0
def tw15042365136253084325:=0
def tw9199430546351993820:=0
def tw9118482993764111094:=0
def tw14827482546547312503:=0
def tw1592658786906338630:=0
def tw9194886218894889602:=0
def tw2739732611140656253:=0
def tw5933240789135216477:=0
def tw13968723565849651369:=0
def tw1313335784275279409:=0
def tw1674350914455776394:=0
def tw17620656945168418847:=0
def tw2102549199614792009:=0
def tw3708904708523848255:=0
def tw13297403472198328640:=0
def tw14461976866071148993:=0
def tw12219243818013320486:=0
def tw17961629955813891022:=0
def tw2525525091541217432:=0
def tw7282990453065314800:=0
def tw9516288372558329432:=0
def tw8123165187555393247:=0
def tw6793642577015219698:=0
def tw312016629362225388:=0
def tw12787664863566288990:=0
def tw8789235119702428113:=0
def tw14055952778140220240:=0
def tw14691253432542263738:=0
def tw10708073001401933961:=0
def tw7932584979541365980:=0
def tw11622620098248510762:=0
def tw12339607735385385307:=0
def tw737654417342512157:=0
def tw4932855783186081266:=0
def tw13468175013305495308:=0
def tw6612281359922801589:=0
def tw3637291435187851411:=0
def tw3682419801204436309:=0
def tw5547363357304674253:=0
def tw12971765366908351216:=0
def tw13146123739241066012:=0
def tw1498631091291506705:=0
def tw2005964856901986728:=0
def tw13994819219923278553:=0
def tw10076661134942995558:=0
def tw1868941637971059242:=0
def tw1087081778938646764:=0
def tw1593861828608602712:=0
def tw976659094996873520:=0
def tw16021317310673099288:=0
def tw7286096523819433542:=0
def tw10803640670172264203:=0
def tw9729740799758967906:=0
def tw18038045543552116462:=0
def tw1802044842203399951:=0
def tw10343516874198902357:=0
def tw3824128551533579905:=0
def tw15164541023616861347:=0
def tw1596145047376420921:=0
def tw13269995669423688892:=0
def tw8887612767806828548:=0
def tw67616104270090004:=0
def tw2231187911679499981:=0
def tw16857104608742096892:=0
def tw3177319687562609116:=0
def tw14482076113345979216:=0
def tw2259113000581213248:=0
def tw11050967644051032257:=0
def tw7496689536895619345:=0
def tw647469897655013627:=0
def tw18050846662403982572:=0
def tw5431698897090300673:=0
def tw13359898222581670986:=0
def tw9345844627024636895:=0
def tw9697272765701752998:=0
def tw12722060942878761502:=0
def tw5410314133302722453:=0
def tw9747121442723140547:=0
def tw7096313856525820923:=0
def tw11653971387958952145:=0
def tw11604184141105174467:=0
def tw11336812779301004475:=0
def tw6410118186668585066:=0
def tw1509134308937849037:=0
def tw5645799524414357350:=0
def tw4537917635475321939:=0
def tw18430702219504517784:=0
def tw15323322938291302833:=0
def tw17851152763094341909:=0
def tw17336404507526022259:=0
def tw13581935414953379346:=0
def tw17062768092012086504:=0
def tw8077460598274547008:=0
def tw6565478451160847399:=0
def tw85564014312908504:=0
def tw965568161342106100:=0
def tw11020229200076112117:=0
def tw940519544480203478:=0
def tw8217730525804133575:=0
def tw9158681522428709208:=0
def tw9776158133286068679:=0
def tw10047247083624036427:=0
def tw7100693915328289248:=0
def tw16927218210328322202:=0
def tw14448191533725418069:=0
def tw6785391609377811424:=0
def tw16518088105178110107:=0
def tw7222786843873448658:=0
def tw4729385978117976336:=0
def tw13759099228120517900:=0
def tw4986443964353504613:=0
def tw13076442234666502314:=0
def tw8881594708196940838:=0
def tw11700596732647928737:=0
def tw16867210519245433943:=0
def tw1614020776900962211:=0
def tw5686352407742060633:=0
def tw3956672833515154083:=0
def tw2609151194130434028:=0
def tw10455945879113969636:=0
def tw4758558225221924218:=0
def tw1167751156958285932:=0
def tw3048649984719038777:=0
def tw5647151772607304048:=0
def tw9762834814165432480:=0
def tw9304307343315234662:=0
def tw16581950543017670388:=0
def tw11677158684152363687:=0
def tw15075392843857954195:=0
def tw11967675741543740261:=0
def tw611898968949220203:=0
def tw16169446448415569691:=0
def tw5466261160515695996:=0
def tw3939205294195911537:=0
def tw17060293988842065865:=0
def tw825607621806850684:=0
def tw12475896471572881212:=0
def tw5042014339778578084:=0
def tw8025626088588351604:=0
def tw5884871416577636764:=0
def tw8270058183428152106:=0
def tw5828703069926828376:=0
def tw14528857819287382788:=0
def tw9190920410807262765:=0
def tw16597087073109272881:=0
def tw13089047729650438045:=0
def tw7143414452329512205:=0
def tw16601612488760540819:=0
def tw7551092205410799154:=0
def tw11965118333845632691:=0
def tw9957045482366590531:=0
def tw15424496849456209036:=0
def tw10658749800797642818:=0
def tw2937438624399540834:=0
def tw12720256676039841002:=0
def tw9033339418546625475:=0
def tw3291509458961226335:=0
def tw13192320598178092575:=0
def tw13740451450882906268:=0
def tw8665211406319994236:=0
def tw11303887399071523651:=0
def tw5168245253816531491:=0
def tw7922319249200438671:=0
def tw14800091079310959083:=0
def tw13890141262070196706:=0
def tw9507088941315669318:=0
def tw1234345575882843818:=0
def tw11520498945765115271:=0
def tw15981733407806208079:=0
def tw16735012343481303203:=0
def tw18162819148052990298:=0
def tw9236986421873121155:=0
def tw9302822724126460583:=0
def tw3433562646959272681:=0
def tw14499344536345529120:=0
def tw775924646327433836:=0
def tw4661229185231834330:=0
def tw4348096977220343596:=0
def tw4217073253483011634:=0
def tw2336188223779098956:=0
def tw17670032923958833710:=0
def tw7979482845680931702:=0
def tw14447851004987800572:=0
def tw14902571703846970492:=0
def tw6044383039605065984:=0
def tw1853279514144897246:=0
def tw10481841064719442665:=0
def tw2315322115035283177:=0
def tw13959361642182477897:=0
def tw11999681735860712114:=0
def tw12877586454275935093:=0
def tw227558923015179591:=0
def tw10858962907384575730:=0
def tw11718067090051557479:=0
def tw9072243278351921028:=0
def tw10735506090180097639:=0
def tw11196028032235451959:=0
def tw9962210803266884213:=0
def tw6880164408732380801:=0
def tw13452269422494265115:=0
def tw16005132904232899266:=0
def tw14242591074043863429:=0
def tw2537663021598005059:=0
def tw4449684431810499786:=0
def tw13871843570971163808:=0
def tw3417335178553865782:=0
def tw18132435531443988325:=0
def tw3306622101258852716:=0
def tw7110687481815636806:=0
def tw14914783544384529041:=0
def tw15095592495483507899:=0
def tw17337465233074522344:=0
def tw17381766600550081426:=0
def tw8308260594616456722:=0
def tw12917658783090547869:=0
def tw2069646275634870664:=0
def tw10038844368963007311:=0
def tw11437721826001726395:=0
def tw1203164423849571063:=0
def tw8582611539005437438:=0
def tw10117709560237939905:=0
def tw5911555457505306306:=0
def tw2895419554003604421:=0
def tw13599472952865193532:=0
def tw16261773067640538749:=0
def tw14069786299693645684:=0
def tw12215082877643917790:=0
def tw10354267196668359407:=0
def tw5270036401511396696:=0
def tw5632081568876763890:=0
def tw4498789054028263652:=0
def tw8332019535836795446:=0
def tw4899896332497671263:=0
def tw7186796912068487492:=0
def tw996340311558069094:=0
def tw13473591014563727484:=0
def tw2590422145243684808:=0
def tw18244609541161712542:=0
def tw5910589812440324765:=0
def tw9370892217505571377:=0
def tw6360145089887217586:=0
def tw5300696873887644304:=0
def tw372359150196306506:=0
def tw11313077585370170890:=0
def tw15589513079621735605:=0
def tw801888777079276954:=0
def tw9351488369767732253:=0
def tw3147967011011756749:=0
def tw1764484997438936075:=0
def tw11418427727821336912:=0
def tw16423747217242206570:=0
def tw13432511130574313757:=0
def tw5809446153871149022:=0
def tw6148925668554243997:=0
def tw4159746213390121319:=0
def tw8033414322454450477:=0
def tw15276028060269976442:=0
def tw6795615212354622913:=0
def tw15068522890723593175:=0
def tw8729307639124419776:=0
def tw982143561982691174:=0
def tw12131654317129544690:=0
def tw7333783109186133944:=0
def tw4825360343013595886:=0
def tw12742023287538709060:=0
def tw11538770406161616943:=0
def tw5593304402412554129:=0
def tw1998104120221363614:=0
def tw3893617929089120652:=0
def tw1956310901335113089:=0
def tw10547317593491638970:=0
def tw4721493366050658775:=0
def tw15988663490862955374:=0
def tw1119433778009804391:=0
def tw4717107646881892078:=0
def tw6728851814999841431:=0
def tw697077870087841165:=0
def tw9463045725953109302:=0
def tw12582903266667996234:=0
def tw4473265728875139445:=0
def tw740282506646079358:=0
def tw13280694068614068302:=0
def tw13506111190341436298:=0
def tw8344252732932348373:=0
def tw9967294719643151237:=0
def tw5639860817751705875:=0
def tw9351742645514775521:=0
def tw12336999326432628539:=0
def tw7935779185448245432:=0
def tw4787903031263512797:=0
def tw559940087232636914:=0
def tw3644249231385544711:=0
def tw10938878512424526654:=0
def tw1023920448740979141:=0
def tw14534156576349429612:=0
def tw9520261329757272274:=0
def tw3709006427767509566:=0
def tw13877854458768879421:=0
def tw8177427500106236542:=0
def tw432998783551636932:=0
def tw5835957093924137959:=0
def tw1533375294190669023:=0
def tw7141898810920474882:=0
def tw10677281323372797710:=0
def tw15836962752484432260:=0
def tw2261420883846624371:=0
def tw3119794821514628617:=0
def tw1198264904433480272:=0
def tw2318986956551627448:=0
def tw16336211156947621433:=0
def tw4133324144380167015:=0
def tw17685549251601344040:=0
def tw2523191912529703882:=0
def tw1717450952236518563:=0
def tw991597392587006175:=0
def tw17691889645779860095:=0
def tw8224176885393398814:=0
def tw8913100716274521503:=0
def tw12851424440521644534:=0
def tw1248284537548503783:=0
def tw4567403605374399929:=0
def tw17409115221288805428:=0
def tw17326960513939818452:=0
def tw9768825272911847684:=0
def tw6264954584060386549:=0
def tw10142557985694202135:=0
def tw8836756270946790461:=0
def tw134999341652131616:=0
def tw8675635772506709373:=0
def tw6429077611707139998:=0
def tw17660691959268916029:=0
def tw16622318232010212214:=0
def tw8520883619778534057:=0
def tw838828967275674513:=0
def tw14823328096873051702:=0
def tw7994841799528144762:=0
def tw12059414614148377386:=0
def tw1455025794781714693:=0
def tw16026046412809688763:=0
def tw4123339021076771998:=0
def tw5445128394743357315:=0
def tw16763187338942678274:=0
def tw14831927122640601627:=0
def tw18361311339565676381:=0
def tw2147544764330861206:=0
def tw17113172671264393424:=0
def tw1285705345570905410:=0
def tw11443197779843003736:=0
def tw11836547401827642324:=0
def tw11399057095451867525:=0
def tw14834300194701577868:=0
def tw13342031952047020719:=0
def tw3455160379871928622:=0
def tw5629392566152127249:=0
def tw17492628354614556476:=0
def tw4234543356880044615:=0
def tw17894564660203267803:=0
def tw12004968267904536842:=0
def tw17824489958940334936:=0
def tw14164702287424636095:=0
def tw3275998301590332157:=0
def tw10316065864005058845:=0
def tw9197031526324222894:=0
def tw11937844943464812063:=0
def tw8086029463390558997:=0
def tw12857330470411048490:=0
def tw8207359061220507917:=0
def tw13291681086113183405:=0
def tw122304429194799541:=0
def tw7370956630255298066:=0
def tw4737003338010978892:=0
def tw15290894827279100999:=0
def tw10953548917982304035:=0
def tw14528727173003786721:=0
def tw17261447982873365085:=0
def tw7416141470867038456:=0
def tw11485447407753458157:=0
def tw5340245820578958040:=0
def tw15544766036875841252:=0
def tw15226040375416436013:=0
def tw4101487778427728269:=0
def tw11058633927161024851:=0
def tw11364339881161705051:=0
def tw2213892322929331235:=0
def tw17909764313116760623:=0
def tw10721260585249163164:=0
def tw9516943254054948411:=0
def tw10596632776844399086:=0
def tw10181289987304023042:=0
def tw12708904305097040579:=0
def tw16864753546859430636:=0
def tw15799847987558271969:=0
def tw15418621080271026175:=0
def tw8284967622841158320:=0
def tw8896937461404079070:=0
def tw12657568381977287779:=0
def tw4313110072793132640:=0
def tw8220291820527158508:=0
def tw13145965709770011929:=0
def tw13881209876959901102:=0
def tw4164439752698661367:=0
def tw6252733527123832403:=0
def tw6277233374219063599:=0
def tw17134411396484935532:=0
def tw12369929680747496732:=0
def tw7113537341632814571:=0
def tw3653778180591079484:=0
def tw2799594754106672474:=0
def tw8980380486252328593:=0
def tw13329463236396086239:=0
def tw4122347718308749427:=0
def tw15777284752490317793:=0
def tw8409606595475616066:=0
def tw14657062012448143182:=0
def tw5221091688143012327:=0
def tw8967315686084835116:=0
def tw15083069876217208090:=0
def tw7548967001938585392:=0
def tw8582938426949465753:=0
def tw16266504593346430077:=0
def tw16009739353380189531:=0
def tw3257180039693535417:=0
def tw2456143866300151201:=0
def tw14486030188740575658:=0
def tw102362645873547088:=0
def tw3168365783191855180:=0
def tw9262443750036399672:=0
def tw5352874075701029667:=0
def tw9715138312167975294:=0
def tw17611737485369428362:=0
def tw1183404050235135053:=0
def tw15772535847310369467:=0
def tw8006870343088993820:=0
def tw14037775686934410124:=0
def tw6414531905376654488:=0
def tw3403791582472710975:=0
def tw5917794830088115849:=0
def tw9052420569366037275:=0
def tw3221013181546398821:=0
def tw1805391470682066333:=0
def tw1547500980640900995:=0
def tw1855580616806116730:=0
def tw4751630214472339210:=0
def tw2560605884858375204:=0
def tw10389759230752564765:=0
def tw12216643210749496801:=0
def tw5426075771696652532:=0
def tw14362242364111225644:=0
def tw3140664197961868705:=0
def tw3898599979749097249:=0
def tw12805374242434844153:=0
def tw3650241383612394152:=0
def tw16659105813938315105:=0
def tw44486068349991075:=0
def tw7187573614377622033:=0
def tw5293809057364405872:=0
def tw1528972474336297977:=0
def tw15378390866984961197:=0
def tw2923123893695291009:=0
def tw15760607748313333756:=0
def tw2314035990977018209:=0
def tw101692292418780900:=0
def tw6571615734809656012:=0
def tw14581474698499956059:=0
def tw4984001682463432153:=0
def tw13557643863874938513:=0
def tw4154677727892625442:=0
def tw13417953993239532056:=0
def tw4772104803134866713:=0
def tw5036748601159951163:=0
def tw14720472481106467274:=0
def tw6670629455517412449:=0
def tw10954269779824468180:=0
end PySem.W.Fast
open PySem PySem.W PyProof.Rows
set_option maxRecDepth 100000 in
set_option maxHeartbeats 0 in
theorem PySem.Challenge.cw_oncedoor_k61_asks_refused_holds : PySem.Challenge.rw_oncedoor_k61_asks_refused.Holds := by
 w_on;o_law;k_head;(case hw=>w_witness2)
 k_fill
 refine KL.Vy (l:=PySem.Challenge.rw_oncedoor_k61_asks_refused) rfl rfl (fun w h Y=>W.kIn_of Y) ?F
 case F=>
  intro w mg fa h KX G LC;refine' KL.Qm KX G LC ?Y9 ?qi ?U4 ?K8 ?Z0 ?O4 ?Z2 ?U5 ?vk ?K9 ?M0 ?M3 ?M4 ?Z4 ?U6 ?U7 ?M5 ?F8 ?U8 ?F9 ?G0 ?m9 ?n4 ?p6 ?HX ?HY ?HZ ?IA ?vm ?vn ?vo ?vp ?vq ?vt ?vv ?O5 ?p7 ?l8 ?z6 ?z7 ?z8 ?z9 ?N9 ?O6 ?M6 ?G7 ?U9 ?C3 ?vw ?vx ?vy ?vz ?wa ?wb ?wc ?C4 ?A0 ?A3 ?A4 ?A5 ?O0 ?O7 ?oi ?wg ?V0 ?V1 ?V2 ?V3 ?V4 ?V5 ?V6 ?p8 ?j8 ?n6 ?n8 ?n9 ?o4 ?C5 ?A6 ?A7 ?C6 ?C7 ?C8 ?M7 ?V7 ?AH ?AI ?AJ ?AK ?AL ?AM ?AN ?M8 ?O8 ?jr ?V8 ?O9 ?P0 ?P4 ?C9 ?D0 ?D9 ?E1 ?P5 ?E2 ?jt ?ju ?jv ?jw ?jy ?jz ?kc ?G8 ?G9 ?p9 ?J0 ?k9 ?r9 ?u0 ?u3 ?u4 ?F1 ?M9 ?E4 ?wj ?wk ?wm ?wo ?wq ?wt ?wu ?P6 ?P7 ?J1 ?E5 ?J2 ?A8 ?A9 ?B0 ?B4 ?O2 ?P8 ?N1 ?P9 ?Q5 ?Q6 ?W8 ?N2 ?B5 ?N3 ?qj ?qk ?ql ?qm ?qo ?qp ?qr ?B6 ?l7 ?B7 ?x6 ?x8 ?x9 ?y4 ?K3 ?qu ?qv ?N4 ?oj ?Y3 ?R8 ?N5 ?om ?wy ?qw ?Q7 ?N6 ?kq ?kr ?Q8 ?qx ?ku ?qy ?qz ?kz ?IE ?E6 ?o5 ?i5 ?i6 ?i7 ?AO ?AQ ?xa ?AR ?AS ?AU ?AV ?AW ?AX ?AY ?AZ ?BA ?BC ?BE ?BF ?BG ?BH ?BI ?xb ?BJ ?BK ?BL ?BN ?BO ?BP ?BQ ?BS ?BU ?BV ?BW ?BX ?BY ?BZ ?CA ?xc ?CB ?CC ?CF ?CG ?CI ?CJ ?CL ?CM ?CN ?CO ?CP ?CQ ?CS ?CT ?CU ?CV ?CW ?CY ?CZ ?DB ?DC ?DD ?DE ?DF ?DG ?DH ?DI ?DJ ?DK ?DL ?xf ?DM ?DN ?DO ?DP ?DQ ?DR ?DT ?DU ?DV ?DX ?DY ?DZ ?EA ?EB ?EC ?IF ?OC ?OD ?OE ?OF ?IG ?IH ?N7 ?II ?ED ?IJ ?IK ?IL ?xg ?EE ?rb ?IM ?EF ?Q9 ?IP ?xh ?IQ ?N8 ?lg ?lh ?E7 ?J3 ?EG ?l9 ?J5 ?J6 ?J7 ?J8 ?E8 ?E9 ?u5
  case Y9|qi|U4|K8|Z0|O4|Z2|U5|vk|K9|M0|M3|M4|Z4|U6|U7|M5|F8|U8|F9|G0|m9|n4|p6=>refine' KL.FA.of ?a ?l ?c ?k;(case a=>k_is);(case l=>k_is);(case c=>k_is);case k=>k_is
  case HX|HY|HZ|IA|vm|vn|vo|vp|vq|vt|vv|O5|p7|l8|z6|z7|z8|z9|N9=>k_is
  case O6|M6|G7|U9|C3=>refine' KL.MA.of ?a ?i ?l ?c ?k;(case a=>k_is);(case i=>k_is);(case l=>k_is);(case c=>k_is);case k=>k_is
  case vw|vx|vy|vz|wa|wb|wc|C4|A0|A3|A4|A5|O0=>k_is
  case O7=>refine' KL.MA.of ?a ?i ?l ?c ?k;(case a=>k_is);(case i=>k_is);(case l=>k_is);(case c=>k_is);case k=>k_is
  case oi=>k_is
  case wg=>exact rfl
  case V0|V1|V2|V3|V4|V5|V6|p8|j8|n6|n8|n9|o4|C5=>k_is
  case A6|A7|C6|C7|C8=>refine' KL.MA.of ?a ?i ?l ?c ?k;(case a=>k_is);(case i=>k_is);(case l=>k_is);(case c=>k_is);case k=>k_is
  case M7=>k_is
  case V7=>exact rfl
  case AH|AI|AJ|AK|AL|AM|AN|M8|O8|jr|V8|O9|P0|P4|C9|D0|D9|E1|P5=>k_is
  case E2=>refine' KL.MA.of ?a ?i ?l ?c ?k;(case a=>k_is);(case i=>k_is);(case l=>k_is);(case c=>k_is);case k=>k_is
  case jt|ju|jv|jw|jy|jz|kc|G8|G9|p9|J0|k9|r9|u0|u3|u4|F1=>k_is
  case M9|E4=>refine' KL.MA.of ?a ?i ?l ?c ?k;(case a=>k_is);(case i=>k_is);(case l=>k_is);(case c=>k_is);case k=>k_is
  case wj|wk|wm|wo|wq|wt|wu|P6|P7|J1|E5|J2|A8|A9|B0|B4|O2=>k_is
  case P8|N1|P9|Q5|Q6|W8|N2|B5|N3=>refine' KL.MA.of ?a ?i ?l ?c ?k;(case a=>k_is);(case i=>k_is);(case l=>k_is);(case c=>k_is);case k=>k_is
  case qj|qk|ql|qm|qo|qp|qr|B6|l7|B7|x6|x8|x9|y4|K3|qu=>k_is
  case qv=>exact rfl
  case N4|oj|Y3|R8|N5|om|wy|qw|Q7|N6|kq|kr|Q8|qx|ku|qy|qz|kz|IE|E6|o5|i5|i6|i7|AO|AQ=>k_is
  case xa=>k_exc
  case AR|AS|AU|AV|AW|AX=>k_is
  case AY=>kts_exm
  case AZ|BA|BC|BE|BF|BG|BH|BI=>kit_is
  case xb=>k_exc
  case BJ|BK|BL|BN|BO|BP=>k_is
  case BQ=>kts_exm
  case BS|BU|BV|BW|BX|BY|BZ|CA=>kit_is
  case xc=>k_exc
  case CB|CC|CF|CG|CI|CJ=>k_is
  case CL=>kts_exm
  case CM|CN|CO|CP|CQ|CS|CT|CU=>kit_is
  case CV|CW|CY|CZ|DB|DC=>k_is
  case DD=>kts_exm
  case DE|DF|DG|DH|DI|DJ|DK|DL=>kit_is
  case xf=>k_exc
  case DM|DN|DO|DP|DQ|DR=>k_is
  case DT=>kts_exm
  case DU|DV|DX|DY|DZ|EA|EB|EC=>kit_is
  case IF=>kernel_rfl
  case OC=>k_is
  case OD=>kernel_rfl
  case OE=>k_is
  case OF=>kernel_rfl
  case IG|IH|N7|II|ED|IJ|IK|IL|xg|EE|rb|IM|EF|Q9|IP|xh|IQ|N8|lg|lh|E7|J3|EG|l9|J5|J6=>k_is
  case J7=>repeat (first | exact True.intro | refine And.intro ⟨_,rfl⟩ (And.intro rfl (And.intro ⟨_,rfl⟩ ?_)))
  case J8=>decide
  case E8|E9=>k_is
  case u5=>repeat (first | exact .nil | refine .cons ⟨_,rfl⟩ ?_)
