import PyProof.Rows.All
import Wide.All
import OpenK.AllK
import Wide.FinOn
import Lean
import PyProof.EqAt
import PyProof.EqKinds
import PyProof.TupleCall
import KE.KSortTup
import KE.KDictSum
import KE.KDictOf
import PyProof.AttrMissHeap
import OpenK.KRaise
import KE.KIsAll
import KE.KEqDict
import KE.KTryMore
import KE.RegKIsAll
import KE.RegKTryMore
import PyProof.NsDelKeeps
import PyProof.ExcArgs
import PyProof.FitsReplace
import PyProof.Rows.StrJoin2
import PySem.Challenge.RW_oncedoor_k94_whole_lives
set_option Elab.async false
set_option linter.all false
set_option maxRecDepth 100000
set_option maxHeartbeats 4000000
set_option compiler.extract_closed false
section
variable{a b c d e f g h i G:Prop}
theorem yE0(h:a)(k:a->G):G:=k h
theorem yA2(t:a->b->G):a/\b->G:=λh=>t h.1 h.2
theorem yA3(t:a->b->c->G):a/\b/\c->G:=yA2 λx=>yA2 (t x)
theorem yA4(t:a->b->c->d->G):a/\b/\c/\d->G:=yA2 λx=>yA3 (t x)
theorem yA5(t:a->b->c->d->e->G):a/\b/\c/\d/\e->G:=yA2 λx=>yA4 (t x)
theorem yA6(t:a->b->c->d->e->f->G):a/\b/\c/\d/\e/\f->G:=yA2 λx=>yA5 (t x)
theorem yA7(t:a->b->c->d->e->f->g->G):a/\b/\c/\d/\e/\f/\g->G:=yA2 λx=>yA6 (t x)
theorem yA8(t:a->b->c->d->e->f->g->h->G):a/\b/\c/\d/\e/\f/\g/\h->G:=yA2 λx=>yA7 (t x)
theorem yA9(t:a->b->c->d->e->f->g->h->i->G):a/\b/\c/\d/\e/\f/\g/\h/\i->G:=yA2 λx=>yA8 (t x)
variable{α β γ δ ε ζ η θ ι:Sort _}
theorem yE1{P:α->Prop}(t:∀x,P x->G):(∃x,P x)->G:=λh=>h.elim t
theorem yE2{P:α->β->Prop}(t:∀a b,P a b->G):(∃a b,P a b)->G:=yE1 λx=>yE1 (t x)
theorem yE3{P:α->β->γ->Prop}(t:∀a b c,P a b c->G):(∃a b c,P a b c)->G:=yE1 λx=>yE2 (t x)
theorem yE4{P:α->β->γ->δ->Prop}(t:∀a b c d,P a b c d->G):(∃a b c d,P a b c d)->G:=yE1 λx=>yE3 (t x)
theorem yE5{P:α->β->γ->δ->ε->Prop}(t:∀a b c d e,P a b c d e->G):(∃a b c d e,P a b c d e)->G:=yE1 λx=>yE4 (t x)
theorem yE6{P:α->β->γ->δ->ε->ζ->Prop}(t:∀a b c d e f,P a b c d e f->G):(∃a b c d e f,P a b c d e f)->G:=yE1 λx=>yE5 (t x)
theorem yE7{P:α->β->γ->δ->ε->ζ->η->Prop}(t:∀a b c d e f g,P a b c d e f g->G):(∃a b c d e f g,P a b c d e f g)->G:=yE1 λx=>yE6 (t x)
theorem yE8{P:α->β->γ->δ->ε->ζ->η->θ->Prop}(t:∀a b c d e f g h,P a b c d e f g h->G):(∃a b c d e f g h,P a b c d e f g h)->G:=yE1 λx=>yE7 (t x)
theorem yE9{P:α->β->γ->δ->ε->ζ->η->θ->ι->Prop}(t:∀a b c d e f g h i,P a b c d e f g h i->G):(∃a b c d e f g h i,P a b c d e f g h i)->G:=yE1 λx=>yE8 (t x)
end
abbrev ZB:=List (PySem.Addr×PySem.Obj)
abbrev XV:=PySem.Value->PySem.Shared->Prop
abbrev W1:=PySem.Str->Option PySem.Value
def WP:=@PySem.wpAny_bind
def WF:=@PySem.wpAny_pure
def V4:=@Bool.false_ne_true
def U3:=@of_decide_eq_true
def UV:=@of_decide_eq_false
def UF:=@decide_eq_true
def T0:=@decide_eq_false
def TW:=@PySem.Heap.get?_push_size
abbrev TD:=PySem.Addr
abbrev Q3:=PySem.Value
abbrev PP:=PySem.Shared
def O8:=@if_pos
def NE:=@if_neg
def IN:=@absurd
def FS:=@Nat.le_of_ble_eq_true
def FM:=@List.mem_append_left
def EQ:=@List.mem_append_right
def EK:=@Nat.lt_of_lt_of_le
def EJ:=@List.not_mem_nil
def CG:=@List.filterMap_append
def CF:=@List.filterMap_cons
def AT:=@List.flatMap_cons
abbrev AC:List PySem.Str:=["self"]
abbrev zv:List PySem.Str:=["thing"]
abbrev zu:List PySem.Str:=["deed"]
abbrev zt:List PySem.Str:=["rows"]
abbrev zr:List PySem.Str:=["self","name"]
abbrev QZZ:List PySem.Str:=["row"]
abbrev QZY:List PySem.Str:=["self","number","asker","key","deed","stage"]
abbrev QZX:List PySem.Str:=["book","deed"]
abbrev QZW:List PySem.Str:=["self","more"]
abbrev QZV:List PySem.Str:=["_law_script"]
abbrev QZU:List PySem.Str:=["self","turn"]
abbrev QZT:List PySem.Str:=["rows","came"]
abbrev QZS:List PySem.Str:=["self","life","turn","up"]
abbrev QZR:List PySem.Str:=["self","run"]
abbrev QZQ:List PySem.Str:=["thing","signs","longest"]
abbrev QZP:List PySem.Str:=["self","rows"]
abbrev QZO:List PySem.Str:=["self","text"]
abbrev QZN:List PySem.Str:=["self","row"]
abbrev QZM:List PySem.Str:=["word","names"]
abbrev QZL:List PySem.Str:=["deed","answer"]
abbrev QZK:List PySem.Str:=["self","life"]
abbrev QZJ:List PySem.Str:=["self","pair","turn"]
abbrev QZI:List PySem.Str:=["since","life","turn"]
abbrev QZH:List PySem.Str:=["rows","done","asked","came","still"]
abbrev QZG:List PySem.Str:=["self","name","life","houses"]
abbrev QZF:List PySem.Str:=["self","run","answer"]
abbrev QZE:List PySem.Str:=["_law_deck_here","_law_many"]
abbrev QZD:List PySem.Str:=["thing","least","most"]
abbrev QZC:List PySem.Str:=["self","asker","key","number","deed"]
abbrev QZB:List PySem.Str:=["self","asker","key","turn","answer"]
abbrev QZA:List PySem.Str:=["self","pair"]
abbrev QZz:List PySem.Str:=["self","changes"]
abbrev QZy:List PySem.Str:=["rows","word"]
abbrev QZx:List PySem.Str:=["self","other"]
abbrev QZw:List PySem.Str:=["self","turn","asker","key","deed"]
abbrev QZv:List PySem.Str:=["self","number","way"]
abbrev QZu:List PySem.Str:=["seen","deed"]
abbrev QZt:List PySem.Str:=["_law_door","_law_number"]
abbrev QZs:List PySem.Str:=["self","asker","key","turn"]
abbrev QZr:List PySem.Str:=["rows","life","turn","numbers","up","has","came","busy","kept"]
abbrev QZq:List PySem.Str:=["rows","life","turn","numbers"]
abbrev QZp:List PySem.Str:=["kept","life","turn"]
abbrev QZo:List PySem.Str:=["rows","turn","numbers"]
abbrev QZn:List PySem.Str:=["self","asker","key","deed"]
abbrev QZm:List PySem.Str:=["self","number","turn","answer"]
abbrev QZl:List PySem.Str:=["_law_deck_here","_law_signs","_law_longest","_law_many","_law_word","_law_size","_law_at","_law_first","_law_ends"]
abbrev QZk:List PySem.Str:=["_law_deck_here","_law_signs","_law_longest","_law_many"]
abbrev QZj:List PySem.Str:=["_law_deck_here","_law_door","_law_turn"]
abbrev QZi:List PySem.Str:=["_law_table","_law_turn","_law_life"]
abbrev QZh:List PySem.Str:=["_law_deck_here","_law_door","_law_table","_law_turn","_law_life","_law_book"]
abbrev QZg:List PySem.Str:=["rows","came","kept"]
abbrev QZf:List PySem.Str:=["name","by","book"]
abbrev QZe:List PySem.Str:=["kept","life","turn","last","entry"]
abbrev QZd:List PySem.Str:=["_law_script","_law_deck_here","_law_letters","_law_words","_law_keys","_law_life","_law_door","_law_book","_law_table","_law_turn","_law_k","_law_spot","_law_deed","_law_some","_law_end"]
abbrev QZc:List PySem.Str:=["_law_k","_law_deck_here","_law_signs"]
abbrev QZb:List PySem.Str:=["_law_k","_law_signs","_law_first","_law_ends"]
abbrev QZa:List PySem.Str:=["_law_spot","_law_life","_law_table"]
open List (mem_filter mem_range filterMap_cons mem_cons mem_append_left getElem_inj mem_filterMap mem_append_right map_cons append_nil nodup_cons of_mem_zip length filterMap_map length_drop map_nil all_cons any_cons length_singleton find?_cons cons_append length_nil filter_cons length_filter_le nodup_nil any_eq_true lookup_cons drop_zero all_eq_true getElem_mem foldl_cons map_map toArray mem_of_mem_take pairwise_cons le_trans perm_nil drop_length getD_eq_getElem?_getD map_congr_left not_mem_nil filter_eq_self filter range_succ ext_getElem getElem_of_mem all_map pairwise_map filter_append take_length mem_map_of_mem mem_or_eq_of_mem_set map_set nodup_append append_assoc foldl_append filterMap_append flatMap_append flatMap_cons mem_flatMap mem_reverse)
open Nat (lt_of_lt_of_le ne_of_lt le_of_lt ne_of_gt le_of_eq lt_succ_self zero_le le_succ lt_trans lt_succ_of_lt le_of_ble_eq_true min_le_left le_succ_of_le mod_lt sub_self)
def Zk{p:Prop}(h:p:=by decide +kernel):p:=h
def Zo{p:Prop}(h:p:=by omega):p:=h
def Zs{p:Prop}(h:p:=by simp):p:=h
def Zd{p:Prop}(h:p:=by decide):p:=h
def aR:=@List.length_map
def iD:=@PySem.Heap.get?_push_of_some
def Zgs:=@List.getElem?_eq_some_iff
def fX:=@List.getElem?_eq_getElem
def fR:=@List.mem_cons_of_mem
def Zmm:=@List.mem_map
def dN:=@List.map_append
def uC:=@List.length_append
def dW:=@List.getElem?_map
def fT:=@Nat.le_trans
def fY:=@List.mem_cons_self
def dX:=@List.size_toArray
def oX:=@List.length_take
def lJ:=@List.take_of_length_le
def Zma:=@List.mem_append
def Zms:=@List.mem_singleton
def yK:=@List.length_cons
def uD:=@Nat.lt_of_le_of_lt
def bA:=@Nat.le_refl
def jJ:=@List.mem_of_getElem?
namespace L2
open PySem PySem.Spec PyProof.Rows
abbrev aS:=Sum Int Str
def nF:aS->Q3->Bool
 | .inl k,v=>Value.isInt k v
 | .inr x,v=>Value.isStrOf x v
def aCl(w:World):aS->Int
 | .inl k=>hashInt k
 | .inr x=>hashStr w x
def bH:∀ {k:aS}{v:Q3},nF k v=true->(∃i t,k=Sum.inl i/\v=Value.int i t)∨(∃x t,k=Sum.inr x/\v=Value.str x t)
 | .inl i,v,h=>by
  obtain⟨t,e⟩:=Value.isInt_shape (k:=i) (v:=v) h;exact .inl ⟨i,t,rfl,e⟩
 | .inr x,v,h=>by
  obtain⟨t,e⟩:=Value.isStrOf_shape (x:=x) (v:=v) h;exact .inr ⟨x,t,rfl,e⟩
def Fz(i:Int)(t:Tok):nF (.inl i) (.int i t)=true:=by simp[nF,Value.isInt]
def Ga(x:Str)(t:Tok):nF (.inr x) (.str x t)=true:=by simp[nF,Value.isStrOf]
def Wu(a b:Int):decide ((Sum.inl a:aS)=Sum.inl b)=(a==b):=by
 by_cases e:a=b
 ·subst e;simp
 ·have h:¬ (Sum.inl a:aS)=Sum.inl b:=λq=>e (Sum.inl.inj q)
  rw[T0 h];exact(beq_eq_false_iff_ne.mpr e).symm
def Wv(a b:Str):decide ((Sum.inr a:aS)=Sum.inr b)=decide (a=b):=by
 by_cases e:a=b
 ·subst e;simp
 ·have h:¬ (Sum.inr a:aS)=Sum.inr b:=λq=>e (Sum.inr.inj q)
  rw[T0 h,T0 e]
def Ww(a:Int)(b:Str):decide ((Sum.inl a:aS)=Sum.inr b)=false:=T0 (λq=>nomatch q)
def Wx(a:Str)(b:Int):decide ((Sum.inr a:aS)=Sum.inl b)=false:=T0 (λq=>nomatch q)
def aX(prog:Program)(w:World):PySem.KeyKind prog w aS where
 is:=nF
 hash:=aCl w
 inj:=λv a b g f=>by
  rcases bH g with⟨i,t,rfl,rfl⟩|⟨x,t,rfl,rfl⟩
  ·rcases bH f with⟨j,u,rfl,e⟩|⟨y,u,rfl,e⟩
   ·injection e with c _;rw[c]
   ·exact nomatch e
  ·rcases bH f with⟨j,u,rfl,e⟩|⟨y,u,rfl,e⟩
   ·exact nomatch e
   ·injection e with c _;rw[c]
 byValue:=λk v h=>by
  rcases bH h with⟨i,t,rfl,rfl⟩|⟨x,t,rfl,rfl⟩<;>rfl
 pyHash:=λd h=>by
  rcases bH d with⟨i,t,rfl,rfl⟩|⟨x,t,rfl,rfl⟩
  ·exact wpAny_pyHash_int h
  ·exact wpAny_pyHash_str h
 eqBool:=λl d h=>by
  rcases bH l with⟨i,t,rfl,rfl⟩|⟨x,t,rfl,rfl⟩
  ·rcases bH d with⟨j,u,rfl,rfl⟩|⟨y,u,rfl,rfl⟩
   ·rw[Wu]at h;exact wpAny_eqBool_int h
   ·rw[Ww]at h;exact SeqAt.EqAt.int_str i t y u _ _ _ _ h
  ·rcases bH d with⟨j,u,rfl,rfl⟩|⟨y,u,rfl,rfl⟩
   ·rw[Wx]at h;exact SeqAt.EqAt.str_int x t j u _ _ _ _ h
   ·rw[Wv]at h;exact wpAny_eqBool_str h
 «strs»:=λk x t v h=>by
  rcases bH h with⟨i,u,rfl,e⟩|⟨y,u,rfl,e⟩
  ·exact nomatch e
  ·injection e with c _
   subst c;cases v<;>rfl
def yL(prog:Program)(w:World)(i:Int)(t:Tok):(aX prog w).is (.inl i) (.int i t)=true:=Fz i t
def yM(prog:Program)(w:World)(x:Str)(t:Tok):(aX prog w).is (.inr x) (.str x t)=true:=Ga x t
inductive V where
 | non|bl (b:Bool)|int (i:Int)|str (x:Str)|byt (b:Array UInt8)|flt (b:UInt64)|ref (a:TD)|ty (n:String)
 deriving DecidableEq
def RelV:V->Q3->Prop
 | .non,u=>u=Value.none
 | .bl b,u=>u=Value.bool b
 | .int i,u=>∃t,u=Value.int i t
 | .str x,u=>∃t,u=Value.str x t
 | .byt b,u=>∃t,u=Value.bytes b t
 | .flt b,u=>∃t,u=Value.float b t
 | .ref a,u=>u=Value.ref a
 | .ty n,u=>u=Value.type n
abbrev Vals:List V->List Q3->Prop:=Paired RelV
def Vals.length{xs:List V}{us:List Q3}(r:Vals xs us):xs.length=us.length:=Paired.length r
theorem Vals.get:∀ {xs:List V}{us:List Q3}{i:Nat}{x:V},Vals xs us->xs[i]?=some x->∃u,us[i]?=some u/\RelV x u
 | _,_,_,_,.nil,e=>by simp at e
 | _,_,0,_,.cons r _,e=>by simp at e;subst e;exact⟨_,rfl,r⟩
 | _,_,i+1,x,.cons _ t,e=>by
  obtain⟨u,a,b⟩:=Vals.get (i:=i) (x:=x) t (by simpa using e);exact⟨u,by simpa using a,b⟩
def Vals.set{x:V}{u:Q3}(r:RelV x u):∀ {xs:List V}{us:List Q3} (i:Nat),Vals xs us->Vals (xs.set i x) (us.set i u)
 | _,_,_,.nil=>.nil
 | _,_,0,.cons _ t=>.cons r t
 | _,_,i+1,.cons q t=>.cons q (Vals.set r i t)
def Vals.append:∀ {xs ys:List V}{us a:List Q3},Vals xs us->Vals ys a->Vals (xs++ys) (us++a)
 | _,_,_,_,.nil,s=>s
 | _,_,_,_,.cons r t,s=>.cons r (Vals.append t s)
def Vals.take:∀ {xs:List V}{us:List Q3} (n:Nat),Vals xs us->Vals (xs.take n) (us.take n)
 | _,_,0,_=>.nil
 | _,_,_+1,.nil=>.nil
 | _,_,n+1,.cons r t=>.cons r (Vals.take n t)
def Vals.drop:∀ {xs:List V}{us:List Q3} (n:Nat),Vals xs us->Vals (xs.drop n) (us.drop n)
 | _,_,0,r=>r
 | _,_,_+1,.nil=>.nil
 | _,_,n+1,.cons _ t=>Vals.drop n t
def RelO:Option V->Option Q3->Prop
 | some v,some u=>RelV v u
 | none,none=>True
 | _,_=>False
def KV{κ:Type}:List (κ×V)->List (κ×Q3)->Prop:=Paired λ(p:κ×V) (q:κ×Q3)=>p.1=q.1/\RelV p.2 q.2
def kV:aS->V
 | .inl i=>.int i
 | .inr x=>.str x
inductive HO where
 /-- a list -/
 | lst (xs:List V)
 /-- a tuple (never changes) -/
 | tup (xs:List V)
 /-- a dict whose keys are ints and texts;one whose keys are tuples of ints and texts (the empty one is both) -/
 | dK (kvs:List (aS×V))|dT (kvs:List (List aS×V))
 /-- a set of ints: its members,its size -/
 | set (S:Int->Bool) (n:Nat)
 /-- an instance of the class at C,its dict at dx,its attributes -/
 | ins (C dx:TD) (fs:List (Str×V))
 /-- the dict of the instance at x -/
 | own (x:TD)
 /-- the dict of an exception -/
 | xd (fs:List (Str×V))
 /-- a bound method,f of x -/
 | met (f x:TD)
 /-- a range object lo,lo+1,.. below hi -/
 | rng (lo hi:Int)
 /-- a thing that is known to the object (the script;a dict while a loop walks it): read,never written while it is so -/
 | frz (o:Obj) (u:HO)
 /-- a code object's table -/
 | tbl (ps:Array Value)
 /-- any other thing,by what is true of its one object (a def of one's own: SetO a S n:=HO.ext λh=>..) -/
 | ext (φ:Heap->Prop)
abbrev Hp:=Addr->Option HO
def aH(H:Hp)(a:TD)(o:HO):Hp:=λb=>if b=a then some o else H b
def aA{H:Hp}{a:TD}{o:HO}:aH H a o a=some o:=by unfold aH;rw[O8 rfl]
def aB{H:Hp}{a b:TD}{o:HO}(h:b≠a):aH H a o b=H b:=by unfold aH;rw[NE h]
def jK{H:Hp}{a:TD}{o u:HO}:aH (aH H a o) a u=aH H a u:=by
 funext b;unfold aH;split<;>rfl
def aK{H:Hp}{a b:TD}{o u:HO}(h:H a=some o)(h':H b=some u)(d:o≠u):a≠b:=by
 intro e;subst e;rw[h]at h';exact d (Option.some.inj h')
def aE{H:Hp}{a b:TD}{o:HO}(h:H a=some o)(h':H b=none):a≠b:=by
 intro e;subst e;rw[h]at h';cases h'
section
variable (P:Program) (w:World)
def ObjOk(H:Hp)(h:Heap)(a:TD):HO->Prop
 | .lst b=>b.length<=sizeLine/\∃(d:List Q3)(n:Nat),Vals b d/\h.get? a=some {cls:=.type "list",data:=.seq d.toArray n }
 | .tup b=>b.length<=sizeLine/\∃d:List Q3,Vals b d/\IsTup h a d.toArray
 | .dK e=>e.length<=sizeLine/\(a==sysModules)=false/\∃vs,KV e vs/\h.DictOf (aX P w) a vs
 | .dT e=>e.length<=sizeLine/\(a==sysModules)=false/\∃b:List (List aS×TD×Q3),
   Paired (λ(p:List aS×V) (q:List aS×TD×Q3)=>p.1=q.1/\H q.2.1=some (.tup (p.1.map kV))/\RelV p.2 q.2.2) e b ∧
   ∃o j m,h.get? a=some o/\o.ExactDict/\o.data=.dict j m/\j.toList=b.map (entryOfKey (tupleKind (aX P w)))/\(b.map (·.1)).Nodup
 | .set S n=>h.SetOf (intKind P w) a S n
 | .ins C g fs=>H g=some (.own a)/\fs.length<=1000/\g≠a/\h.get? a=some (W.instObj C g) ∧
   ∃c,h.Ns1 g c/\(∀f,RelO (fs.lookup f) (c f))/\PySem.Within c (fs.map (·.1))
 | .own _=>∃o,h.get? a=some o
 | .xd fs=>∃c,h.Ns1 a c/\∀f,RelO (fs.lookup f) (c f)
 | .rng lo r=>∃t u v,h.get? a=some {cls:=.type "range",data:=.fields #[.int lo t,.int r u,.int 1 v] }
 | .frz o u=>h.get? a=some o/\ObjOk H h a u
 | .tbl ps=>h.get? a=some {cls:=.none,data:=.fields ps }
 | .met f x=>h.get? a=some (W.methodObj (.ref f) (.ref x))
 | .ext i=>i h/\(∃o,h.get? a=some o)/\∀k l:Heap,i k->(∀o,k.get? a=some o->l.get? a=some o)->i l
def HOk(H:Hp)(h:Heap):Prop:=∀a o,H a=some o->ObjOk P w H h a o
end
section
variable {P:Program}{w:World}{H H':Hp}{h h':Heap}{a:TD}{o:HO}
def ObjOk.lt(x:ObjOk P w H h a o):a<h.objs.size:=by
 cases o with
 | lst c=>obtain⟨_,_,_,_,e⟩:=x;exact Heap.lt_size e
 | tup c=>obtain⟨_,_,_,p⟩:=x;exact p.lt
 | dK b=>obtain⟨_,_,_,_,o,_,_,e,_⟩:=x;exact Heap.lt_size e
 | dT b=>revert x;refine yA3 λ_ _=>yE1 λ_=>yA2 λ_=>yE3 λo _ _=>yA2 λe _=>?_;exact Heap.lt_size e
 | set S n=>revert x;refine yE4 λo _ _ _=>yA2 λe _=>?_;exact Heap.lt_size e
 | ins C d fs=>revert x;refine yA5 λ_ _ _ e _=>?_;exact Heap.lt_size e
 | own y=>obtain⟨_,e⟩:=x;exact Heap.lt_size e
 | xd fs=>obtain⟨_,⟨_,_,_,e,_⟩,_⟩:=x;exact Heap.lt_size e
 | rng lo g=>revert x;refine yE3 λ_ _ _ e=>?_;exact Heap.lt_size e
 | frz i u=>obtain⟨e,_⟩:=x;exact Heap.lt_size e
 | tbl ps=>exact Heap.lt_size (show h.get? a=some _ from x)
 | met f y=>exact Heap.lt_size (show h.get? a=some _ from x)
 | ext j=>obtain⟨_,⟨_,e⟩,_⟩:=x;exact Heap.lt_size e
def Paired.mapP{e g:Type}{F G:e->g->Prop}:∀ {c:List e}{d:List g},Paired F c d->(∀a b,F a b->G a b)->Paired G c d
 | _,_,.nil,_=>.nil
 | _,_,.cons r t,f=>.cons (f _ _ r) (Paired.mapP t f)
def ObjOk.stay(x:ObjOk P w H h a o)(k:∀b u,(b=a∨H b=some (.own a))->h.get? b=some u->h'.get? b=some u)(B:∀b,H b=some (.own a)->H' b=some (.own a))(D:∀b xs,H b=some (.tup xs)->H' b=some (.tup xs)):ObjOk P w H' h' a o:=by
 induction o with
 | lst xs=>obtain⟨z,l,n,r,e⟩:=x;exact⟨z,l,n,r,k _ _ (.inl rfl) e⟩
 | tup xs=>obtain⟨z,l,r,g,e,c⟩:=x;exact⟨z,l,r,g,k _ _ (.inl rfl) e,c⟩
 | dK A=>obtain⟨z,y,vs,r,g,i,j,e,c⟩:=x;exact⟨z,y,vs,r,g,i,j,k _ _ (.inl rfl) e,c⟩
 | dT A=>
  revert x;refine yA3 λz y=>yE1 λxs=>yA2 λr=>yE3 λg i j=>yA2 λe c=>?_;exact⟨z,y,xs,Paired.mapP r λp q z=>⟨z.1,D _ _ z.2.1,z.2.2⟩,g,i,j,k _ _ (.inl rfl) e,c⟩
 | set S n=>revert x;refine yE4 λg i j t=>yA2 λe c=>?_;exact⟨g,i,j,t,k _ _ (.inl rfl) e,c⟩
 | ins C G fs=>
  obtain⟨d,z,ne,e,m,⟨s,i,j,E,c⟩,r⟩:=x;exact⟨B _ d,z,ne,k _ _ (.inl rfl) e,m,⟨s,i,j,k _ _ (.inr d) E,c⟩,r⟩
 | own y=>obtain⟨g,e⟩:=x;exact⟨g,k _ _ (.inl rfl) e⟩
 | xd fs=>obtain⟨m,⟨s,i,j,e,c⟩,r⟩:=x;exact⟨m,⟨s,i,j,k _ _ (.inl rfl) e,c⟩,r⟩
 | rng lo I=>revert x;refine yE3 λt u v e=>?_;exact⟨t,u,v,k _ _ (.inl rfl) e⟩
 | frz g u F=>obtain⟨e,q⟩:=x;exact⟨k _ _ (.inl rfl) e,F q⟩
 | tbl ps=>
  have e:h.get? a=some {cls:=.none,data:=.fields ps }:=x;show h'.get? a=some {cls:=.none,data:=.fields ps };exact k a _ (.inl rfl) e
 | met f y=>
  have e:h.get? a=some (W.methodObj (.ref f) (.ref y)):=x;show h'.get? a=some (W.methodObj (.ref f) (.ref y));exact k a _ (.inl rfl) e
 | ext J=>obtain⟨p,⟨o,e⟩,st⟩:=x;exact⟨st _ _ p λo q=>k _ _ (.inl rfl) q,⟨o,k _ _ (.inl rfl) e⟩,st⟩
def HOk.lt(x:HOk P w H h)(e:H a=some o):a<h.objs.size:=(x a o e).lt
def HOk.fresh(x:HOk P w H h)(e:h.objs.size<=a):H a=none:=by
 cases q:H a with
 | none=>rfl
 | some u=>exact IN (EK (x.lt q) e) (Nat.lt_irrefl _)
def HOk.kept(x:HOk P w H h)(k:∀b u,h.get? b=some u->h'.get? b=some u):HOk P w H h':=λa o e=>
 (x a o e).stay (λb u _ q=>k b u q) (λ_ q=>q) λ_ _ q=>q
def HOk.laid(x:HOk P w H h)(k:∀b u,h.get? b=some u->h'.get? b=some u)(g:h.objs.size<=a)(new:ObjOk P w (aH H a o) h' a o):HOk P w (aH H a o) h':=λb u e=>by
 have d:=x.fresh g;by_cases f:b=a
 ·subst f;rw[aA]at e;cases e;exact new
 ·rw[aB f]at e;exact(x b u e).stay (λc v _ q=>k c v q) (λc q=>by rw[aB (aE q d)];exact q) λc i q=>by rw[aB (aE q d)];exact q
end
def Rd(H:Hp)(a:TD)(u:HO):Prop:=H a=some u∨∃o,H a=some (.frz o u)
def Rd.ok{P:Program}{w:World}{H:Hp}{h:Heap}{a:TD}{u:HO}(r:Rd H a u)(x:HOk P w H h):ObjOk P w H h a u:=by
 rcases r with r|⟨o,r⟩
 ·exact x a u r
 ·obtain⟨_,q⟩:=x a _ r;exact q
def Mut:Option HO->Prop
 | some (.lst _)=>True
 | some (.dK _)=>True
 | some (.dT _)=>True
 | some (.set _ _)=>True
 | some (.ins _ _ _)=>True
 | some (.ext _)=>True
 | _=>False
section
variable {P:Program}{w:World}{H:Hp}{h h':Heap}{x e:TD}{o':HO}
def HOk.write(ok:HOk P w H h)(a:Mut (H x))(j:e=x∨H e=some (.own x))(k:∀b u,b≠e->h.get? b=some u->h'.get? b=some u)(n:∃u,h'.get? e=some u)(new:ObjOk P w (aH H x o') h' x o'):HOk P w (aH H x o') h':=λb u q=>by
 have l:∀c y,H c=some (.own y)->c≠x:=λc y r z=>by subst z;rw[r]at a;exact a
 have o:∀c d,H c=some (.tup d)->c≠x:=λc d r z=>by subst z;rw[r]at a;exact a
 by_cases f:b=x
 ·subst f;rw[aA]at q;cases q;exact new
 ·rw[aB f]at q;by_cases g:b=e
  ·have m:H b=some (.own x):=by
    rcases j with z|z
    ·exact IN (g.trans z) f
    ·rw[g];exact z
   rw[q]at m;cases m;obtain⟨v,p⟩:=n;exact⟨v,by rw[g];exact p⟩
  ·refine(ok b u q).stay (λc v i r=>k c v ?_ r) (λc r=>by rw[aB (l c b r)];exact r) λc d r=>by rw[aB (o c d r)];exact r
   rcases i with rfl|i
   ·exact g
   ·rintro rfl;rcases j with z|z
    ·exact l c b i z
    ·rw[i]at z;cases z;exact f rfl
end
structure Un(fs ex:List TD)(H H':Hp)(h h':Heap):Prop where
 keep:∀b o,h.get? b=some o->H b=none->b∉fs->b∉ex->h'.get? b=some o
 slot:∀b o,h.get? b=some o->H b=none->b∈fs->b∉ex->∃sl,h'.get? b=some {o with slots:=sl }
 free:∀b o,h.get? b=some o->H b=none->b∉ex->H' b=none
 there:∀b o,h.get? b=some o->b∉ex->∃o',h'.get? b=some o'
 tups:∀b xs,H b=some (.tup xs)->H' b=some (.tup xs)
 frzs:∀b o u,H b=some (.frz o u)->H' b=some (.frz o u)
 tbls:∀b ps,H b=some (.tbl ps)->∃more,H' b=some (.tbl (ps++more))
section
variable {fs fs' ex ex':List TD}{H H1 H2:Hp}{h h1 h2 h':Heap}{a x e:TD}{o:HO}
def Un.any(u:Un fs ex H H1 h h1){b:TD}{c:Obj}(q:h.get? b=some c)(n:H b=none)(d:b∉ex):∃sl,h1.get? b=some {c with slots:=sl }:=by
 by_cases f:b∈fs
 ·exact u.slot b c q n f d
 ·exact⟨c.slots,u.keep b c q n f d⟩
def Un.kept(k:∀b u,h.get? b=some u->h'.get? b=some u):Un fs ex H H h h':=
 ⟨λb c q _ _ _=>k b c q,λb c q _ _ _=>⟨c.slots,k b c q⟩,λ_ _ _ n _=>n,λb c q _=>⟨c,k b c q⟩,λ_ _ q=>q,λ_ _ _ q=>q,λ_ ps q=>⟨#[],by rw[q];simp⟩⟩
def Un.refl:Un fs ex H H h h:=Un.kept λ_ _ q=>q
def Un.laid(k:∀b u,h.get? b=some u->h'.get? b=some u)(d:h.objs.size<=a)(c:H a=none):Un fs ex H (aH H a o) h h' where
 keep:=λb u q _ _ _=>k b u q
 slot:=λb u q _ _ _=>⟨u.slots,k b u q⟩
 free:=λb u q n _=>by rw[aB (ne_of_lt (EK (Heap.lt_size q) d))];exact n
 there:=λb u q _=>⟨u,k b u q⟩
 tups:=λb f q=>by rw[aB (aE q c)];exact q
 frzs:=λb u f q=>by rw[aB (aE q c)];exact q
 tbls:=λb ps q=>⟨#[],by rw[aB (aE q c),q];simp⟩
def Un.write(c:Mut (H x))(j:e=x∨H e=some (.own x))(k:∀b u,b≠e->h.get? b=some u->h'.get? b=some u)(l:∃u,h'.get? e=some u):Un fs ex H (aH H x o) h h':=by
 have f:∀b,H b=none->b≠x:=λb n z=>by subst z;rw[n]at c;exact c
 have g:∀b,H b=none->b≠e:=λb n z=>by
  subst z;rcases j with r|r
  ·exact f b n r
  ·rw[n]at r;cases r
 have d:∀b u,H b=some u->¬ Mut (some u)->b≠x:=λb u q nm z=>by subst z;rw[q]at c;exact nm c
 refine⟨λb u q n _ _=>k b u (g b n) q,λb u q n _ _=>⟨u.slots,k b u (g b n) q⟩,λb u q n _=>by rw[aB (f b n)];exact n,λb u q _=>?_,
  λb m q=>by rw[aB (d b _ q λz=>z)];exact q,λb u m q=>by rw[aB (d b _ q λz=>z)];exact q,λb ps q=>⟨#[],by rw[aB (d b _ q λz=>z),q];simp⟩⟩
 by_cases i:b=e
 ·subst i;exact l
 ·exact⟨u,k b u i q⟩
end
def trk(h:Heap)(H:Hp):List Addr:=(List.range h.objs.size).filter λa=>(H a).isSome
def wM(h:Heap)(H:Hp):Heap:=W.hideAll h (trk h H)
def Gb(h:Heap)(H:Hp):(wM h H).objs.size=h.objs.size:=W.hideAll_size _ _
def Js{h:Heap}{H:Hp}{b:TD}{o:Obj}(e:h.get? b=some o)(n:H b=none):(wM h H).get? b=some o:=
 W.hideAll_get _ e λa=>by
  have q:(H b).isSome=true:=(mem_filter.mp a).2;rw[n]at q;simp at q
def Rh{h:Heap}{H:Hp}{b:TD}{o:Obj}(e:(wM h H).get? b=some o):h.get? b=some o/\H b=none:=by
 have a:h.get? b=some o:=W.of_hideAll (trk h H) e;refine⟨a,?_⟩
 cases q:H b with
 | none=>rfl
 | some x=>
  have c:b∈trk h H:=mem_filter.mpr ⟨mem_range.mpr (Heap.lt_size a),by simp[q]⟩;have z:(wM h H).get? b=none:=W.hideAll_none (trk h H) c;rw[z]at e;cases e
structure Mod(K:W.Frag)(mg:W1)(base:Heap):Prop where
 kin:K.In base
 glob:base.Ns mainGlobals mg
 blt:∃mb,base.Ns builtinsNs mb/\∀x:Str,x≠"__name__"->mb x=bootBuiltins x
 nolimit:base.NoLimit
structure Cx where
 prog:Program
 w:World
 K:W.Frag
 mg:Str->Option Value
 base:Heap
 A:Around
 N:List Str
 s₀:Shared
 H₀:Hp
 env:Env
 outer:List Env
 stack:List Env
 ex:List Addr
 fn:Str->Bool
 calm:Bool
 pn:List (TD×Obj)
 xe:Q3->PP->Prop
def Jt(l:List Env):List Addr:=l.filterMap (·.frame)
abbrev Cx.fs(X:Cx):List Addr:=Jt X.outer
def Wy(sc:Scope)(x:Str):Prop:=sc.names.lookup x=some .local∨sc.names.lookup x=some .cell∨sc.names.lookup x=some .free
def Vn(sc:Scope)(x:Str):Prop:=sc.names.lookup x=some .local∨sc.names.lookup x=some .cell
def aCm(env:Env)(h:Heap)(m:W1)(x:Str)(u:Q3):Prop:=
 (env.kindOf x=some .local/\m x=some u)∨((env.kindOf x=some .cell∨env.kindOf x=some .free)/\∃c,env.cells.lookup x=some c/\h.IsCell c (some u))
structure Cx.Ok(X:Cx):Prop where
 mod:Mod X.K X.mg X.base
 kind:X.env.scope.kind=.function
 glob:X.env.globals=mainGlobals
 blt:X.env.builtins=builtinsNs
 above:X.s₀.heap.objs.size<=X.env.locals
 inj:∀x y c,X.env.cells.lookup x=some c->X.env.cells.lookup y=some c->x=y
 has:∀x,(X.env.kindOf x=some .cell∨X.env.kindOf x=some .free)->∃c,X.env.cells.lookup x=some c
 cab:∀x c,X.fn x=true->X.env.cells.lookup x=some c->X.s₀.heap.objs.size<=c
 hd:X.calm=true->X.A.handled=none
 frames:X.A.frames=some X.stack
 stk:X.stack=X.outer∨(X.stack=X.env::X.outer/\X.env.frame=some X.env.locals)
 exf:∀b∈X.ex,b≠X.env.locals/\∀x c,X.env.cells.lookup x=some c->c≠b
 bs:∀b o,X.base.get? b=some o->X.s₀.heap.get? b=some o/\X.H₀ b=none
 bsz:X.base.objs.size<=X.s₀.heap.objs.size
 noex:∀b o,X.base.get? b=some o->b∉X.ex
 exfs:∀b∈X.ex,b∉X.fs
 funs:X.s₀.heap.FunFrames X.base X.outer
 frf:∀b∈X.fs,X.H₀ b=none
structure Inv(X:Cx)(pins:ZB)(σ:List (Option V))(H:Hp)(s:PP):Prop where
 ok:X.Ok
 os:s.os=X.s₀.os
 bare:AllBare s.gens
 base:Un X.fs X.ex X.H₀ H X.s₀.heap s.heap
 loc:∃m,s.heap.Ns X.env.locals m/\∀(i:Nat)(x:Str)(v:V),X.N[i]?=some x->σ[i]?=some (some v)->Wy X.env.scope x->∃u,RelV v u/\aCm X.env s.heap m x u
 cell:∀x c,X.env.cells.lookup x=some c->∃v,s.heap.IsCell c v
 free:H X.env.locals=none
 freeC:∀x c,X.env.cells.lookup x=some c->H c=none
 pin:∀p∈X.pn++pins,s.heap.get? p.1=some p.2/\H p.1=none/\p.1≠X.env.locals/\p.1∉X.fs/\∀v,p.2.data≠.cell v
 hok:HOk X.prog X.w H s.heap
 len:σ.length=X.N.length
section
variable {X:Cx}{pins:ZB}{σ:List (Option V)}{H H':Hp}{s:PP}{h':Heap}
def Cx.Ok.nofr(ok:X.Ok){b:TD}{o:Obj}(e:X.base.get? b=some o):b∉X.fs:=λa=>by
 have:=(ok.funs.mem a).1;rw[e]at this;cases this
def Inv.bs(I:Inv X pins σ H s):∀b o,X.base.get? b=some o->s.heap.get? b=some o/\H b=none:=λb o e=>
 ⟨I.base.keep b o (I.ok.bs b o e).1 (I.ok.bs b o e).2 (I.ok.nofr e) (I.ok.noex b o e),I.base.free b o (I.ok.bs b o e).1 (I.ok.bs b o e).2 (I.ok.noex b o e)⟩
def Inv.bk(I:Inv X pins σ H s):∀b o,X.base.get? b=some o->s.heap.get? b=some o:=λb o e=>(I.bs b o e).1
def Inv.mod(I:Inv X pins σ H s):Mod X.K X.mg X.base:=I.ok.mod
def Inv.kIn(I:Inv X pins σ H s):X.K.In s.heap:=I.ok.mod.kin.keeps I.bk
def Inv.fr(I:Inv X pins σ H s):∃m,Fr X.base X.env.locals s.heap m:=
 let ⟨m,a,_⟩:=I.loc
 ⟨m,a,I.bk,fT I.ok.bsz I.ok.above⟩
def Inv.lt(I:Inv X pins σ H s):X.env.locals<s.heap.objs.size:=let ⟨_,a,_⟩:=I.loc;a.lt
def Inv.sz(I:Inv X pins σ H s):X.s₀.heap.objs.size<=s.heap.objs.size:=fT I.ok.above (le_of_lt I.lt)
def Inv.nofs(I:Inv X pins σ H s){a:TD}(h:s.heap.objs.size<=a):a∉X.fs:=λb=>by
 obtain⟨_,o,c,_⟩:=I.ok.funs.mem b;exact IN (EK (Heap.lt_size c) (fT I.sz h)) (Nat.lt_irrefl _)
def Inv.cne(I:Inv X pins σ H s):∀x c,X.env.cells.lookup x=some c->c≠X.env.locals:=λx c e z=>by
 obtain⟨v,o,a,hd⟩:=I.cell x c e;obtain⟨m,⟨f,g,h,b,d,_⟩,_⟩:=I.loc;rw[z,b]at a;cases a;rw[d]at hd;cases hd
def Inv.funs(I:Inv X pins σ H s):s.heap.FunFrames X.base X.outer:=by
 have all:∀(l:List Env),(∀b∈Jt l,b∈X.fs)->X.s₀.heap.FunFrames X.base l->s.heap.FunFrames X.base l:=by
  intro l;induction l with
  | nil=>intro _ _;trivial
  | cons n r g=>
   intro f h;obtain⟨i,⟨L,o,a,j,k,hd⟩,m⟩:=h;have c:L∈X.fs:=f L (by unfold Jt;rw[CF,a];exact fY);obtain⟨sl,e⟩:=I.base.slot L o k (I.ok.frf L c) c λz=>I.ok.exfs L z c
   exact⟨i,⟨L,_,a,j,e,hd⟩,g (λb d=>f b (by unfold Jt;rw[CF,a];exact fR _ d)) m⟩
 exact all X.outer (λ_ d=>d) I.ok.funs
def Inv.stack(I:Inv X pins σ H s):s.heap.FunFrames X.base X.stack:=by
 rcases I.ok.stk with e|⟨e,a⟩
 ·rw[e];exact I.funs
 ·rw[e];obtain⟨m,b,_⟩:=I.loc;refine .cons (by rw[I.ok.kind];decide) a b ?_ I.funs;exact Heap.get?_none_of_le (fT I.ok.bsz I.ok.above)
def Inv.stkSub(I:Inv X pins σ H s):∀b∈Jt X.stack,b∈X.env.locals::X.fs:=λb a=>by
 rcases I.ok.stk with e|⟨e,c⟩
 ·rw[e]at a;exact fR _ a
 ·rw[e]at a;unfold Jt at a;rw[CF,c]at a;exact a
def Inv.stkFree(I:Inv X pins σ H s):∀b∈Jt X.stack,H b=none:=λb hb=>by
 rcases mem_cons.mp (I.stkSub b hb) with e|hb
 ·rw[e];exact I.free
 ·obtain⟨_,o,a,_⟩:=I.ok.funs.mem hb;exact I.base.free b o a (I.ok.frf b hb) λz=>I.ok.exfs b z hb
def Inv.step{g':Array GenState}{t':Nat}{d':Drawn}{ch:List TD}(I:Inv X pins σ H s)(j:∀b∈ch,(b∈X.ex∨X.s₀.heap.objs.size<=b)/\b≠X.env.locals/\(∀x c,X.env.cells.lookup x=some c->c≠b)/\∀p∈X.pn++pins,p.1≠b)(keep:∀b o,b≠X.env.locals->b∉X.fs->b∉ch->s.heap.get? b=some o->H b=none->h'.get? b=some o)(slot:∀b o,b≠X.env.locals->b∈X.fs->b∉ch->s.heap.get? b=some o->H b=none->∃sl,h'.get? b=some {o with slots:=sl })(free:∀b o,b∉ch->s.heap.get? b=some o->H b=none->H' b=none)(F:∀b o,b∉ch->s.heap.get? b=some o->∃o',h'.get? b=some o')(tups:∀b xs,H b=some (.tup xs)->H' b=some (.tup xs))(G:∀b o u,H b=some (.frz o u)->H' b=some (.frz o u))(J:∀b ps,H b=some (.tbl ps)->∃more,H' b=some (.tbl (ps++more)))(M:∀m,s.heap.Ns X.env.locals m->h'.Ns X.env.locals m)(K:HOk X.prog X.w H' h')(N:AllBare g') :
  Inv X pins σ H' {s with heap:=h',gens:=g',drawn:=d',toks:=t' }:=by
 have B:∀b o,X.s₀.heap.get? b=some o->b≠X.env.locals:=λb o e=>ne_of_lt (EK (Heap.lt_size e) I.ok.above)
 have y:∀b o,X.s₀.heap.get? b=some o->b∉X.ex->b∉ch:=λb o e a g=>by
  rcases(j b g).1 with z|z
  ·exact a z
  ·exact IN (EK (Heap.lt_size e) z) (Nat.lt_irrefl _)
 have A:∀x c,X.env.cells.lookup x=some c->∀v,s.heap.IsCell c v->h'.IsCell c v:=λx c e v ⟨o,h,hd⟩=>by
  have t:c∉ch:=λz=>(j c z).2.2.1 x c e rfl
  by_cases C:c∈X.fs
  ·obtain⟨sl,q⟩:=slot c o (I.cne x c e) C t h (I.freeC x c e);exact⟨_,q,hd⟩
  ·exact⟨o,keep c o (I.cne x c e) C t h (I.freeC x c e),hd⟩
 refine⟨I.ok,I.os,N,⟨λb o e n g a=>?_,λb o e n g a=>?_,λb o e n a=>?_,λb o e a=>?_,λb xs e=>tups b xs (I.base.tups b xs e),λb o xs e=>G b o xs (I.base.frzs b o xs e),λb ps e=>?_⟩,?_,λx c e=>?_,?_,λx c e=>?_,λp D=>?_,K,I.len⟩
 ·exact keep b o (B b o e) g (y b o e a) (I.base.keep b o e n g a) (I.base.free b o e n a)
 ·obtain⟨sl,f⟩:=I.base.slot b o e n g a;obtain⟨L,w⟩:=slot b _ (B b o e) g (y b o e a) f (I.base.free b o e n a);exact⟨L,w⟩
 ·obtain⟨o',f⟩:=I.base.there b o e a;exact free b o' (y b o e a) f (I.base.free b o e n a)
 ·obtain⟨o',f⟩:=I.base.there b o e a;exact F b o' (y b o e a) f
 ·obtain⟨O,f⟩:=I.base.tbls b ps e;obtain⟨m2,w⟩:=J b _ f;exact⟨O++m2,by rw[w,Array.append_assoc]⟩
 ·obtain⟨m,P,Q⟩:=I.loc;refine⟨m,M m P,λi x v f w R=>?_⟩;obtain⟨u,r,l⟩:=Q i x v f w R;refine⟨u,r,?_⟩;rcases l with l|⟨k,c,e,z⟩
  ·exact .inl l
  ·exact .inr ⟨k,c,e,A x c e _ z⟩
 ·obtain⟨v,z⟩:=I.cell x c e;exact⟨v,A x c e v z⟩
 ·obtain⟨m,⟨o,_,_,h,_⟩,_⟩:=I.loc;exact free _ o (λz=>(j _ z).2.1 rfl) h I.free
 ·obtain⟨v,o,h,hd⟩:=I.cell x c e;exact free c o (λz=>(j c z).2.2.1 x c e rfl) h (I.freeC x c e)
 ·refine yE0 (I.pin p D) (yA5 λe n ne E d=>?_);have t:p.1∉ch:=λz=>(j p.1 z).2.2.2 p D rfl
  exact⟨keep p.1 p.2 ne E t e n,free p.1 p.2 t e n,ne,E,d⟩
def Inv.un{t':Nat}(I:Inv X pins σ H s)(u:Un X.fs [] H H' s.heap h')(f:HOk X.prog X.w H' h'):Inv X pins σ H' {s with heap:=h',toks:=t' }:=by
 obtain⟨m,⟨o,l,p,c,r⟩,_⟩:=id I.loc;obtain⟨sl,g⟩:=u.any c I.free Zs;exact I.step (g':=s.gens) (d':=s.drawn) (ch:=[]) (λ_ z=>nomatch z) (λb o _ a _ e n=>u.keep b o e n a Zs) (λb o _ a _ e n=>u.slot b o e n a Zs) (λb o _ e n=>u.free b o e n Zs) (λb o _ e=>u.there b o e Zs) u.tups u.frzs u.tbls (λq h=>by
  obtain⟨t,i,j,d,k⟩:=h;rw[c]at d;cases d;exact⟨_,i,j,g,k⟩) f I.bare
def Inv.call{g':Array GenState}{t':Nat}{d':Drawn}{ch:List TD}(I:Inv X pins σ H s)(u:Un (Jt X.stack) ch H H' s.heap h')(i:HOk X.prog X.w H' h')(j:AllBare g')(f:∀b∈ch,(b∈X.ex∨X.s₀.heap.objs.size<=b)/\b≠X.env.locals/\(∀x c,X.env.cells.lookup x=some c->c≠b)/\∀p∈X.pn++pins,p.1≠b) :
  Inv X pins σ H' {s with heap:=h',gens:=g',drawn:=d',toks:=t' }:=by
 obtain⟨m,⟨o,w,y,g,r⟩,_⟩:=id I.loc;obtain⟨sl,d⟩:=u.any g I.free λz=>(f _ z).2.1 rfl
 exact I.step (ch:=ch) f (λb o d k a e n=>u.keep b o e n (λz=>(mem_cons.mp (I.stkSub b z)).elim d k) a) (λb o _ _ a e n=>u.any e n a) (λb o a e n=>u.free b o e n a) (λb o a e=>u.there b o e a) u.tups u.frzs u.tbls (λA l=>by
  obtain⟨B,q,t,h,v⟩:=l;rw[g]at h;cases h;exact⟨_,q,t,d,v⟩) i j
def Inv.turned{t':Nat}{it:TD}(I:Inv X pins σ H s)(k:∀b o,b≠it->s.heap.get? b=some o->h'.get? b=some o)(g:H it=none)(d:it≠X.env.locals)(h:it∈X.ex∨X.s₀.heap.objs.size<=it)(i:∀x c,X.env.cells.lookup x=some c->c≠it)(j:∀p∈X.pn++pins,p.1≠it):Inv X pins σ H {s with heap:=h',toks:=t' }:=by
 have f:∀b u,H b=some u->b≠it:=λb u e z=>by rw[z,g]at e;cases e
 refine I.step (g':=s.gens) (d':=s.drawn) (ch:=[it]) (λb l=>?_) (λb o _ _ a e _=>k b o (λz=>a (by simp[z])) e) (λb o _ _ a e _=>⟨o.slots,k b o (λz=>a (by simp[z])) e⟩) (λ_ _ _ _ n=>n)
  (λb o a e=>⟨o,k b o (λz=>a (by simp[z])) e⟩) (λ_ _ e=>e) (λ_ _ _ e=>e) (λb ps e=>⟨#[],by rw[e];simp⟩) (λm t=>?_) (λb u e=>?_) I.bare
 ·have e:b=it:=by simpa using l
  subst e;exact⟨h,d,i,j⟩
 ·obtain⟨o,w,y,A,r⟩:=t;exact⟨o,w,y,k _ o (Ne.symm d) A,r⟩
 ·refine(I.hok b u e).stay (λc v a q=>k c v ?_ q) (λ_ q=>q) λ_ _ q=>q;rcases a with z|z
  ·rw[z];exact f b u e
  ·exact f c _ z
def Inv.tok(I:Inv X pins σ H s)(t:Nat):Inv X pins σ H {s with toks:=t }:=I.un (h':=s.heap) (t':=t) Un.refl I.hok
def Inv.kept{t':Nat}(I:Inv X pins σ H s)(k:∀b u,s.heap.get? b=some u->h'.get? b=some u):Inv X pins σ H {s with heap:=h',toks:=t' }:=I.un (Un.kept k) (I.hok.kept k)
def Inv.laid{a:TD}{o:HO}{t':Nat}(I:Inv X pins σ H s)(k:∀b u,s.heap.get? b=some u->h'.get? b=some u)(c:s.heap.objs.size<=a)(new:ObjOk X.prog X.w (aH H a o) h' a o) :
  Inv X pins σ (aH H a o) {s with heap:=h',toks:=t' }:=I.un (Un.laid k c (I.hok.fresh c)) (I.hok.laid k c new)
def Inv.write{x e:TD}{o:HO}{t':Nat}(I:Inv X pins σ H s)(a:Mut (H x))(c:e=x∨H e=some (.own x))(k:∀b u,b≠e->s.heap.get? b=some u->h'.get? b=some u)(d:∃u,h'.get? e=some u)(new:ObjOk X.prog X.w (aH H x o) h' x o):Inv X pins σ (aH H x o) {s with heap:=h',toks:=t' }:=I.un (Un.write a c k d) (I.hok.write a c k d new)
def Inv.weak{a:List (Option V)}(I:Inv X pins σ H s)(b:a.length=σ.length)(w:∀(i:Nat) v,a[i]?=some (some v)->σ[i]?=some (some v)):Inv X pins a H s:=
 ⟨I.ok,I.os,I.bare,I.base,let ⟨m,c,d⟩:=I.loc;⟨m,c,λi x v e f g=>d i x v e (w i v f) g⟩,I.cell,I.free,I.freeC,I.pin,I.hok,b.trans I.len⟩
def Inv.pins_of{a:ZB}(I:Inv X pins σ H s)(h:∀p∈a,s.heap.get? p.1=some p.2/\H p.1=none/\p.1≠X.env.locals/\p.1∉X.fs/\∀v,p.2.data≠.cell v):Inv X a σ H s:=
 ⟨I.ok,I.os,I.bare,I.base,I.loc,I.cell,I.free,I.freeC,λp b=>(Zma.mp b).elim (λz=>I.pin p (FM _ z)) (h p),I.hok,I.len⟩
def yN{N:List Str}(c:N.Nodup){i j:Nat}{x:Str}(a:N[i]?=some x)(b:N[j]?=some x):i=j:=by
 obtain⟨f,d⟩:=Zgs.mp a;obtain⟨g,e⟩:=Zgs.mp b;exact(getElem_inj c).mp (d.trans e.symm)
def uW{a1:Model}{A:Around}{E:XV}{i:Nat}{x:Str}{v:V}{u:Q3}{Q:Unit->PP->Prop}(I:Inv X pins σ H s)(U:X.N.Nodup)(C:X.N[i]?=some x)(l:Vn X.env.scope x)(r:RelV v u)(a0:∀G,Inv X pins (σ.set i (some v)) H G->(∃a,Heap.SameBut a s.heap G.heap/\(a=X.env.locals∨X.env.cells.lookup x=some a))->Q () G)(hf:X.fn x=true∨X.env.scope.names.lookup x=some .local:=by first|exact .inl rfl|exact .inr rfl|assumption):wpAny a1 A (storeName X.env x u) Q E s:=by
 obtain⟨a2,J,W⟩:=id I.loc;have QH:(X.env.scope.kind == .class||(X.env.scope.kind == .module&&X.env.locals != X.env.globals))=false:=by rw[I.ok.kind];rfl
 have Y:i<σ.length:=by rw[I.len];exact(Zgs.mp C).1
 have cne:=I.cne;have T:∀ {a:TD}{h':Heap},(∃o,s.heap.get? a=some o/\H a=none)->Heap.SameBut a s.heap h'->HOk X.prog X.w H h':=λ{a h'} ha f b ob e=>by
  obtain⟨_,_,Z⟩:=ha;refine(I.hok b ob e).stay (λc D h q=>(f.2 c ?_).trans q) (λ_ q=>q) λ_ _ q=>q;rintro rfl;rcases h with rfl|h
  ·rw[Z]at e;cases e
  ·rw[Z]at h;cases h
 rcases l with t|t
 ·refine wpAny_storeName_local t J (λh' CT f=>?_) QH;obtain⟨oL,_,_,hoL,_⟩:=id J;refine a0 _ ⟨I.ok,I.os,I.bare,⟨λb o e n w l=>?_,λb o e n w l=>?_,I.base.free,λb o e l=>?_,I.base.tups,I.base.frzs,I.base.tbls⟩,⟨_,CT,λj y K g m L=>?_⟩,λy c e=>?_,I.free,I.freeC,λp M=>?_,T ⟨oL,hoL,I.free⟩ f,by simpa using I.len⟩ ⟨_,f,.inl rfl⟩
  ·exact(f.2 b (ne_of_lt (EK (Heap.lt_size e) I.ok.above))).trans (I.base.keep b o e n w l)
  ·obtain⟨sl,g⟩:=I.base.slot b o e n w l;exact⟨sl,(f.2 b (ne_of_lt (EK (Heap.lt_size e) I.ok.above))).trans g⟩
  ·obtain⟨N,g⟩:=I.base.there b o e l;exact⟨N,(f.2 b (ne_of_lt (EK (Heap.lt_size e) I.ok.above))).trans g⟩
  ·by_cases B:j=i
   ·subst B;rw[C]at g;cases g;rw[List.getElem?_set_self Y]at m;cases m;exact⟨u,r,.inl ⟨t,Zs⟩⟩
   ·rw[List.getElem?_set_ne (Ne.symm B)]at m;obtain⟨O,P,q⟩:=W j y K g m L;refine⟨O,P,?_⟩;rcases q with⟨k,e⟩|⟨k,c,e,z⟩
    ·refine .inl ⟨k,?_⟩;have:y≠x:=λe=>B (yN U g (e▸C))
     simp[this,e]
    ·exact .inr ⟨k,c,e,z.sameBut f (cne y c e)⟩
  ·obtain⟨D,z⟩:=I.cell y c e;exact⟨D,z.sameBut f (cne y c e)⟩
  ·refine yE0 (I.pin p M) (yA5 λe n ne R d=>?_);exact⟨(f.2 p.1 ne).trans e,n,ne,R,d⟩
 ·have S:X.fn x=true:=by
   rcases hf with z|z
   ·exact z
   ·rw[z]at t;cases t
  obtain⟨c,h⟩:=I.ok.has x (.inl t);obtain⟨D,z⟩:=I.cell x c h;refine wpAny_storeName_cell I.ok.kind t h z (λh' CU f=>?_);obtain⟨oc,NY,QI⟩:=id z;refine a0 {s with heap:=h' } ⟨I.ok,I.os,I.bare,⟨λb o e n w l=>?_,λb o e n w l=>?_,I.base.free,λb o e l=>?_,I.base.tups,I.base.frzs,I.base.tbls⟩,⟨a2,J.sameBut f (Ne.symm (cne x c h)),λj y K g m L=>?_⟩,λy F e=>?_,I.free,I.freeC,λp M=>?_,T ⟨oc,NY,I.freeC x c h⟩ f,by simpa using I.len⟩ ⟨c,f,.inr h⟩
  ·exact(f.2 b (ne_of_lt (EK (Heap.lt_size e) (I.ok.cab x c S h)))).trans (I.base.keep b o e n w l)
  ·obtain⟨sl,g⟩:=I.base.slot b o e n w l;exact⟨sl,(f.2 b (ne_of_lt (EK (Heap.lt_size e) (I.ok.cab x c S h)))).trans g⟩
  ·obtain⟨N,g⟩:=I.base.there b o e l;exact⟨N,(f.2 b (ne_of_lt (EK (Heap.lt_size e) (I.ok.cab x c S h)))).trans g⟩
  ·by_cases B:j=i
   ·subst B;rw[C]at g;cases g;rw[List.getElem?_set_self Y]at m;cases m;exact⟨u,r,.inr ⟨.inl t,c,h,CU⟩⟩
   ·rw[List.getElem?_set_ne (Ne.symm B)]at m;obtain⟨O,P,q⟩:=W j y K g m L;refine⟨O,P,?_⟩;rcases q with q|⟨k,F,e,z'⟩
    ·exact .inl q
    ·refine .inr ⟨k,F,e,z'.sameBut f ?_⟩;rintro rfl;exact B (yN U g (I.ok.inj _ _ _ e h▸C))
  ·by_cases WG:F=c
   ·subst WG;exact⟨_,CU⟩
   ·obtain⟨w2,z2⟩:=I.cell y F e;exact⟨w2,z2.sameBut f WG⟩
  ·refine yE0 (I.pin p M) (yA5 λe n ne R d=>?_);refine⟨(f.2 p.1 ?_).trans e,n,ne,R,d⟩;intro q;rw[q,NY]at e;have q':oc=p.2:=Option.some.inj e;exact d D (by rw[<- q'];exact QI)
def yO{M:Model}{A:Around}{E:XV}{i:Nat}{x:Str}{v:V}{u:Q3}{Q:Unit->PP->Prop}(I:Inv X pins σ H s)(b:X.N.Nodup)(c:X.N[i]?=some x)(d:Vn X.env.scope x)(r:RelV v u)(h:∀a,Inv X pins (σ.set i (some v)) H a->Q () a)(e:X.fn x=true∨X.env.scope.names.lookup x=some .local:=by first|exact .inl rfl|exact .inr rfl|assumption):wpAny M A (storeName X.env x u) Q E s:=
 uW I b c d r (λa f _=>h a f) e
def Inv.call'{a:PP}{ch:List TD}(I:Inv X pins σ H s)(f:a.os=s.os)(u:Un (Jt X.stack) ch H H' s.heap a.heap)(d:HOk X.prog X.w H' a.heap)(g:AllBare a.gens)(h:∀b∈ch,(b∈X.ex∨X.s₀.heap.objs.size<=b)/\b≠X.env.locals/\(∀x c,X.env.cells.lookup x=some c->c≠b)/\∀p∈X.pn++pins,p.1≠b):Inv X pins σ H' a:=by
 obtain⟨h',g',d',t',i⟩:=a;have e:i=s.os:=f;subst e;exact I.call (g':=g') (t':=t') (d':=d') u d g h
end
abbrev XK:=Value->Option TD->Hp->Prop
abbrev St:=List (Option V)
abbrev VK:=V->Hp->Prop
abbrev TE:=St->Hp->VK->Prop
abbrev TT:=St->Hp->(Bool->Hp->Prop)->Prop
abbrev TA:=St->Hp->(List V->Hp->Prop)->Prop
structure kN where
 nx:St->Hp->Prop
 rt:VK
 bk:St->Hp->Prop:=λ_ _=>False
 ct:St->Hp->Prop:=λ_ _=>False
abbrev TS:=kN->St->Hp->Prop
def EP(X:Cx)(b:ZB)(d:St)(Q:VK)(u:Q3)(c:PP):Prop:=∃v a,Inv X b d a c/\RelV v u/\Q v a
def TP(X:Cx)(c:ZB)(e:St)(Q:Bool->Hp->Prop)(b:Bool)(d:PP):Prop:=∃a,Inv X c e a d/\Q b a
def AP(X:Cx)(b:ZB)(d:St)(Q:List V->Hp->Prop)(us:List Q3)(c:PP):Prop:=∃vs a,Inv X b d a c/\Vals vs us/\Q vs a
def SP(X:Cx)(c:ZB)(D:kN)(f:Flow)(d:PP):Prop:=
 match f with
 | .next=>∃ b a,Inv X c b a d/\D.nx b a
 | .brk=>∃ b a,Inv X c b a d/\D.bk b a
 | .cont=>∃ b a,Inv X c b a d/\D.ct b a
 | .ret u=>∃v b a,Inv X c b a d/\RelV v u/\D.rt v a
def PE(X:Cx)(e:Expr)(t:TE):Prop:=
 ∀(b:ZB)(s:PP)(a:St)(H:Hp)(Q:VK),Inv X b a H s->t a H Q->wpAny (model X.prog X.w) X.A (eval e X.env) (EP X b a Q) X.xe s
def PT(X:Cx)(e:Expr)(t:TT):Prop:=
 ∀(b:ZB)(s:PP)(a:St)(H:Hp)(Q:Bool->Hp->Prop),Inv X b a H s->t a H Q->wpAny (model X.prog X.w) X.A (isTrue e X.env (eval e X.env)) (TP X b a Q) X.xe s
def PW(X:Cx)(e:Expr)(t:TT):Prop:=
 ∀(whole:Sem Value)(b:ZB)(s:PP)(a:St)(H:Hp)(Q:Bool->Hp->Prop),Inv X b a H s->t a H Q->wpAny (model X.prog X.w) X.A (isTrue e X.env whole) (TP X b a Q) X.xe s
def PW.pt{X:Cx}{e:Expr}{t:TT}(h:PW X e t):PT X e t:=h _
def PA(X:Cx)(es:List Expr)(t:TA):Prop:=
 ∀(c:Pos)(b:ZB)(s:PP)(a:St)(H:Hp)(Q:List V->Hp->Prop),Inv X b a H s->t a H Q->wpAny (model X.prog X.w) X.A (spliced (backTo c (starEach es X.env))) (AP X b a Q) X.xe s
def PS(X:Cx)(st:Stmt)(t:TS):Prop:=
 ∀(a:ZB)(s:PP)(b:St)(H:Hp)(D:kN),Inv X a b H s->t D b H->wpAny (model X.prog X.w) X.A (exec st X.env) (SP X a D) X.xe s
def PSs(X:Cx)(st:List Stmt)(t:TS):Prop:=
 ∀(a:ZB)(s:PP)(b:St)(H:Hp)(D:kN),Inv X a b H s->t D b H->wpAny (model X.prog X.w) X.A (execs st X.env) (SP X a D) X.xe s
def bN{c:Type}{t:Sem c}{Q b:c->PP->Prop}{M:Model}{A:Around}{E:XV}{s:PP}(h:wpAny M A t Q E s)(d:∀a s,Q a s->b a s):wpAny M A t b E s:=wpAny_mono h d λ_ _ x=>x
section
variable {X:Cx}
def bin{a b:Expr}{g tb:TE}(l:PE X a g)(m:PE X b tb){d:ZB}{s:PP}{c:St}{H:Hp}{R:V->V->Hp->Prop}(I:Inv X d c H s)(h:g c H λx H1=>tb c H1 λy H2=>R x y H2){i:Type}{Q:i->PP->Prop}{f:Q3->Q3->Sem i}(n:∀v u e x y H2,Inv X d c H2 e->RelV x v->RelV y u->R x y H2->wpAny (model X.prog X.w) X.A (f v u) Q X.xe e) :
  wpAny (model X.prog X.w) X.A (eval a X.env) (λv j=>wpAny (model X.prog X.w) X.A (eval b X.env) (λu k=>wpAny (model X.prog X.w) X.A (f v u) Q X.xe k) X.xe j) X.xe s:=by
 refine bN (l d s c H _ I h) ?_;rintro v o ⟨x,H1,p,q,r⟩;refine bN (m d o c H1 _ p r) ?_;rintro u e ⟨y,H2,t,w,z⟩;exact n v u e x y H2 t q w z
def Wz(i:Nat):TE:=λa H Q=>∃v,a[i]?=some (some v)/\Q v H
def tC(v:V):TE:=λ_ H Q=>Q v H
def Xa{i:Nat}{x:Str}{pos:Pos}(j:X.N[i]?=some x)(k:Wy X.env.scope x)(hd:(x==("__debug__":Str))=false:=by decide)(n:(x==("__classdict__":Str))=false:=by decide):PE X (.Name x pos) (Wz i):=by
 intro g s t H Q I h;obtain⟨v,e,h⟩:=h;obtain⟨m,o,p⟩:=I.loc;obtain⟨u,r,l⟩:=p i x v j e k;have b:EP X g t Q u s:=⟨v,H,I,r,h⟩;rcases l with⟨a,q⟩|⟨a,c,d,f⟩
 ·exact wpAny_Name (wpAny_loadName_local I.ok.kind a o q b) hd
 ·rcases a with a|a
  ·exact wpAny_Name (wpAny_loadName_cell I.ok.kind a d f b) hd
  ·exact wpAny_Name (wpAny_loadName_free I.ok.kind a d f b n) hd
def Xb{i j pos}:PE X (.Constant (.int i) j pos) (tC (.int i)):=λ_ _ _ H _ I h=>wpAny_Constant_int ⟨.int i,H,I.tok _,⟨_,rfl⟩,h⟩
def aAY{b j pos}:PE X (.Constant (.bool b) j pos) (tC (.bl b)):=λ_ _ _ H _ I h=>Constant_bool ⟨.bl b,H,I,rfl,h⟩
def Xc{j pos}:PE X (.Constant .none j pos) (tC .non):=λ_ _ _ H _ I h=>Constant_none ⟨.non,H,I,rfl,h⟩
def Xd{x j pos}:PE X (.Constant (.str x) j pos) (tC (.str x)):=λ_ _ _ H _ I h=>Calls.Constant_str ⟨.str x,H,I.tok _,⟨_,rfl⟩,h⟩
def Gl(X:Cx)(x:Str):Prop:=X.env.kindOf x=some .globalImplicit
def rF{E:XV}{a:ZB}{s:PP}{d:St}{H:Hp}{x:Str}{u:Q3}{pos:Pos}{Q:XV}(I:Inv X a d H s)(b:Gl X x)(c:X.mg x=some u)(h:Q u s)(hd:(x==("__debug__":Str))=false:=by decide):wpAny (model X.prog X.w) X.A (eval (.Name x pos) X.env) Q E s:=
 Calls.Name_function_global I.ok.kind b (Calls.loadGlobal_global (by rw[I.ok.glob];exact I.mod.glob.keeps I.bk) c h) hd
def rV{E:XV}{a:ZB}{s:PP}{i:St}{H:Hp}{x:Str}{u:Q3}{pos:Pos}{Q:XV}(I:Inv X a i H s)(b:Gl X x)(c:X.mg x=none)(d:bootBuiltins x=some u)(h:Q u s)(e:x≠"__name__":=by decide)(hd:(x==("__debug__":Str))=false:=by decide):wpAny (model X.prog X.w) X.A (eval (.Name x pos) X.env) Q E s:=by
 obtain⟨j,f,g⟩:=I.mod.blt;exact Calls.Name_function_global I.ok.kind b (Calls.loadGlobal_builtin (by rw[I.ok.glob];exact I.mod.glob.keeps I.bk) c (by rw[I.ok.blt];exact f.keeps I.bk) ((g x e).trans d) h) hd
def wN{x:Str}{v:V}{u:Q3}{pos:Pos}(a:Gl X x)(b:X.mg x=some u)(r:RelV v u)(hd:(x==("__debug__":Str))=false:=by decide):PE X (.Name x pos) (tC v):=
 λ_ _ _ H _ I h=>rF I a b ⟨v,H,I,r,h⟩ hd
def Ri{x:Str}{v:V}{u:Q3}{pos:Pos}(a:Gl X x)(b:X.mg x=none)(c:bootBuiltins x=some u)(r:RelV v u)(d:x≠"__name__":=by decide)(hd:(x==("__debug__":Str))=false:=by decide):PE X (.Name x pos) (tC v):=
 λ_ _ _ H _ I h=>rV I a b c ⟨v,H,I,r,h⟩ d hd
variable {a b:Expr}{ta tb:TE}{pos:Pos}
def PC(X:Cx)(op:CmpOp)(a b:Expr)(t:TE):Prop:=
 ∀(d:ZB)(s:PP)(c:St)(H:Hp)(Q:VK),Inv X d c H s->t c H Q →
  wpAny (model X.prog X.w) X.A (eval a X.env) (λv e=>wpAny (model X.prog X.w) X.A (eval b X.env) (λu f=>wpAny (model X.prog X.w) X.A (compareOp op v u) (EP X d c Q) X.xe f) X.xe e) X.xe s
def tB(t:TE):TT:=λe H Q=>t e H λx d=>∃c,x=.bl c/\Q c d
def aCn{op:CmpOp}{t:TE}(h:PC X op a b t)(e:behindInMarks op b=false:=by first|exact o _ Zd Zd|rfl):PT X (.Compare a [op] [b] pos) (tB t):=by
 intro f s n H Q I g;refine wpAny_isTrue_Compare1 (bN (h f s n H _ I g) λv p e=>bN e λu r i=>bN i ?_) e;rintro c w ⟨x,j,k,l,m⟩;obtain⟨d,rfl,q⟩:=m;cases l;exact wpAny_truthy_bool ⟨j,k,q⟩
def Xe{e:Expr}{t:TE}(h:PE X e t)(f:∀whole,isTrue e X.env whole=(do let v←whole;standAt e.pos;holding [v] (truthy v)):=by intro _;rfl):PT X e (tB t):=by
 intro c s m H Q I g;refine isTrue_plain (bN (h c s m H _ I g) ?_) (f _);rintro v n ⟨x,i,j,k,l⟩;obtain⟨d,rfl,q⟩:=l;cases k;exact wpAny_truthy_bool ⟨i,j,q⟩
variable {tA CV:TT}{rest:List Expr}
def Rj(t u:TT):TT:=λe H Q=>t e H λc d=>if c=true then u e d Q else Q false d
def tOr(t u:TT):TT:=λe H Q=>t e H λc d=>if c=true then Q true d else u e d Q
def aAZ(t:TT):TT:=λe H Q=>t e H λc d=>Q (!c) d
def Rk(f:PT X a tA):PW X (.BoolOp .And [a] pos) tA:=by
 intro i d s g H Q I h;refine isTrue_and (bN (f d s g H Q I h) λc j e=>?_)
 cases c with
 | true=>exact isTrue_and_nil e
 | false=>exact e
def Xf(f:PT X a tA):PW X (.BoolOp .Or [a] pos) tA:=by
 intro i d s g H Q I h;refine isTrue_or (bN (f d s g H Q I h) λc j e=>?_)
 cases c with
 | false=>exact isTrue_or_nil e
 | true=>exact e
def Xg(j:PT X a tA)(k:PW X (.BoolOp .And (b::rest) pos) CV):PW X (.BoolOp .And (a::b::rest) pos) (Rj tA CV):=by
 intro l d s i H Q I h;refine isTrue_and (bN (j d s i H _ I h) ?_);rintro c m ⟨e,f,g⟩
 cases c with
 | true=>exact k l d m i e Q f g
 | false=>exact⟨e,f,g⟩
def aA0(j:PT X a tA)(k:PW X (.BoolOp .Or (b::rest) pos) CV):PW X (.BoolOp .Or (a::b::rest) pos) (tOr tA CV):=by
 intro l d s i H Q I h;refine isTrue_or (bN (j d s i H _ I h) ?_);rintro c m ⟨e,f,g⟩
 cases c with
 | true=>exact⟨e,f,g⟩
 | false=>exact k l d m i e Q f g
def Xh(e:PT X a tA):PT X (.UnaryOp .Not a pos) (aAZ tA):=by
 intro d s g H Q I h;exact isTrue_not (e d s g H (λc f=>Q (!c) f) I h)
def Ju(ta tb:TE):TE:=λe H Q=>ta e H λx d=>∃c,x=.bl c/\if c=true then tb e d Q else Q (.bl false) d
def Xi(ta tb:TE):TE:=λe H Q=>ta e H λx d=>∃c,x=.bl c/\if c=true then Q (.bl true) d else tb e d Q
def Xj{op}{t:TE}(h:PE X a t):PE X (.BoolOp op [a] pos) t:=λc s e H Q I d=>BoolOp_one (h c s e H Q I d)
def Xk(j:PE X a ta)(k:PE X (.BoolOp .And (b::rest) pos) tb):PE X (.BoolOp .And (a::b::rest) pos) (Ju ta tb):=by
 intro e s i H Q I h;refine BoolOp_and (bN (j e s i H _ I h) ?_);refine λv l=>yE2 λx f=>yA3 λg m d=>?_;obtain⟨c,rfl,d⟩:=d;cases m;refine wpAny_truthy_bool ?_
 cases c with
 | true=>exact k e l i f Q g d
 | false=>exact⟨.bl false,f,g,rfl,d⟩
def aA1(j:PE X a ta)(k:PE X (.BoolOp .Or (b::rest) pos) tb):PE X (.BoolOp .Or (a::b::rest) pos) (Xi ta tb):=by
 intro e s i H Q I h;refine BoolOp_or (bN (j e s i H _ I h) ?_);refine λv l=>yE2 λx f=>yA3 λg m d=>?_;obtain⟨c,rfl,d⟩:=d;cases m;refine wpAny_truthy_bool ?_
 cases c with
 | false=>exact k e l i f Q g d
 | true=>exact⟨.bl true,f,g,rfl,d⟩
end
def SqL(K:W.Frag)(H:Hp)(a:TD)(xs:List V):Prop:=
 Rd H a (.lst xs)∨
  ∃(o:Obj)(b:Array Value)(n:Nat),K.lookup a=some o/\o.cls=.type "list"/\o.dict=none/\o.data=.seq b n/\b.size<=sizeLine/\Vals xs b.toList
def SqT(K:W.Frag)(H:Hp)(a:TD)(xs:List V):Prop:=
 Rd H a (.tup xs)∨
  ∃(o:Obj)(b:Array Value)(n:Nat),K.lookup a=some o/\o.cls=.type "tuple"/\o.data=.seq b n/\b.size<=sizeLine/\Vals xs b.toList
def aCo:Q3->Option V
 | .none=>some .non
 | .bool b=>some (.bl b)
 | .int i _=>some (.int i)
 | .str x _=>some (.str x)
 | .bytes b _=>some (.byt b)
 | .float b _=>some (.flt b)
 | .ref a=>some (.ref a)
 | .type n=>some (.ty n)
 | _=>none
def RelV.abs{x:V}{u:Q3}(r:RelV x u):aCo u=some x:=by
 cases x with
 | non=>cases r;rfl
 | bl _=>cases r;rfl
 | int _=>obtain⟨t,rfl⟩:=r;rfl
 | str _=>obtain⟨t,rfl⟩:=r;rfl
 | byt _=>obtain⟨t,rfl⟩:=r;rfl
 | flt _=>obtain⟨t,rfl⟩:=r;rfl
 | ref _=>cases r;rfl
 | ty _=>cases r;rfl
def RelV.inj{x y:V}{u:Q3}(r:RelV x u)(q:RelV y u):x=y:=Option.some.inj (r.abs.symm.trans q.abs)
theorem Vals.inj:∀ {xs ys:List V}{us:List Q3},Vals xs us->Vals ys us->xs=ys
 | _,_,_,.nil,.nil=>rfl
 | _,_,_,.cons r t,.cons a b=>by rw[r.inj a,Vals.inj t b]
section
variable {X:Cx}{pins:ZB}{σ:St}{H:Hp}{s:PP}{a:TD}{xs ys:List V}
def SqL.of{K:W.Frag}(h:H a=some (.lst xs)):SqL K H a xs:=.inl (.inl h)
def QYY:=@SqL.of
def SqT.of{K:W.Frag}(h:H a=some (.tup xs)):SqT K H a xs:=.inl (.inl h)
def QYZ:=@SqT.of
def Inv.list(I:Inv X pins σ H s)(h:SqL X.K H a xs):∃its:List Q3,Vals xs its/\PlainL s.heap a its.toArray/\xs.length<=sizeLine:=by
 rcases h with h|⟨o,its,n,b,c,hd,d,f,r⟩
 ·obtain⟨z,its,n,r,e⟩:=h.ok I.hok;exact⟨its,r,⟨_,n,e,rfl,rfl,rfl⟩,z⟩
 ·refine⟨its.toList,r,⟨o,n,I.kIn a o b,c,hd,by simpa using d⟩,?_⟩;have e:=r.length;simp only [Array.length_toList]at e;omega
def Inv.tuple(I:Inv X pins σ H s)(h:SqT X.K H a xs):∃its:List Q3,Vals xs its/\IsTup s.heap a its.toArray/\xs.length<=sizeLine:=by
 rcases h with h|⟨o,its,n,b,c,d,f,r⟩
 ·obtain⟨z,its,r,p⟩:=h.ok I.hok;exact⟨its,r,p,z⟩
 ·refine⟨its.toList,r,⟨o,I.kIn a o b,c,n,by simpa using d⟩,?_⟩;have e:=r.length;simp only [Array.length_toList]at e;omega
def Inv.list_inj(I:Inv X pins σ H s)(h:SqL X.K H a xs)(h':SqL X.K H a ys):xs=ys:=by
 obtain⟨g,r,⟨o,n,e,_,_,d⟩,_⟩:=I.list h;obtain⟨f,i,⟨k,l,b,_,_,c⟩,_⟩:=I.list h';rw[e]at b;cases b;rw[d]at c;injection c with j _
 have:g=f:=by simpa using congrArg Array.toList j
 subst this;exact r.inj i
def Inv.tuple_inj(I:Inv X pins σ H s)(h:SqT X.K H a xs)(h':SqT X.K H a ys):xs=ys:=by
 obtain⟨g,r,⟨o,e,_,n,d⟩,_⟩:=I.tuple h;obtain⟨f,i,⟨k,b,_,l,c⟩,_⟩:=I.tuple h';rw[e]at b;cases b;rw[d]at c;injection c with j _
 have:g=f:=by simpa using congrArg Array.toList j
 subst this;exact r.inj i
end
abbrev Cx.wish(X:Cx)(E:XV):Cx:={X with xe:=E }
abbrev Cx.nox(X:Cx):Cx:=X.wish λ_ _=>False
def Cx.Ok.wish{X:Cx}(ok:X.Ok)(E:XV):(X.wish E).Ok:=
 ⟨ok.mod,ok.kind,ok.glob,ok.blt,ok.above,ok.inj,ok.has,ok.cab,ok.hd,ok.frames,ok.stk,ok.exf,ok.bs,ok.bsz,ok.noex,ok.exfs,ok.funs,ok.frf⟩
def Cx.Ok.unwish{X:Cx}{E:XV}(ok:(X.wish E).Ok):X.Ok:=
 ⟨ok.mod,ok.kind,ok.glob,ok.blt,ok.above,ok.inj,ok.has,ok.cab,ok.hd,ok.frames,ok.stk,ok.exf,ok.bs,ok.bsz,ok.noex,ok.exfs,ok.funs,ok.frf⟩
section
variable {X:Cx}{pins:ZB}{σ:St}{H:Hp}{s:PP}{E:XV}
def Inv.wish(I:Inv X pins σ H s)(E:XV):Inv (X.wish E) pins σ H s:=⟨I.ok.wish E,I.os,I.bare,I.base,I.loc,I.cell,I.free,I.freeC,I.pin,I.hok,I.len⟩
def Inv.unwish(I:Inv (X.wish E) pins σ H s):Inv X pins σ H s:=⟨I.ok.unwish,I.os,I.bare,I.base,I.loc,I.cell,I.free,I.freeC,I.pin,I.hok,I.len⟩
def SP.unwish{D:kN}{f:Flow}{c:PP}(h:SP (X.wish E) pins D f c):SP X pins D f c:=by
 cases f with
 | next=>obtain⟨a,b,I,q⟩:=h;exact⟨a,b,I.unwish,q⟩
 | brk=>obtain⟨a,b,I,q⟩:=h;exact⟨a,b,I.unwish,q⟩
 | cont=>obtain⟨a,b,I,q⟩:=h;exact⟨a,b,I.unwish,q⟩
 | ret u=>obtain⟨v,a,b,I,r,q⟩:=h;exact⟨v,a,b,I.unwish,r,q⟩
def PSs.nox{st:List Stmt}{t:TS}(h:PSs X.nox st t):PSs X st t:=λpins s σ H D I a=>
 wpAny_mono (h pins s σ H D (I.wish _) a) (λ_ _ q=>q.unwish) λ_ _ z=>False.elim z
end
section
variable {X:Cx}{st:Stmt}{rest:List Stmt}{t u:TS}{e:Expr}{te:TE}{pos:Pos}
def iW:TS:=λD a H=>D.nx a H
def Rl(t u:TS):TS:=λD a H=>t {D with nx:=u D } a H
def Rm:PSs X [] iW:=λ_ _ a H _ I h=>wpAny_execs_nil ⟨a,H,I,h⟩
def Jv(c:PS X st t)(d:PSs X rest u):PSs X (st::rest) (Rl t u):=by
 intro a s k H D I h;refine wpAny_execs_cons (bN (c a s k H {D with nx:=u D } I h) λf g q=>?_)
 cases f with
 | next=>
  obtain⟨b,i,j,q⟩:=q;exact d a g b i D j q
 | ret v=>exact q
 | brk=>exact q
 | cont=>exact q
def Ro(b:PS X st t):PSs X [st] t:=by
 intro a s c H D I h;refine wpAny_execs_cons (bN (b a s c H D I h) λf d q=>?_)
 cases f with
 | next=>exact wpAny_execs_nil q
 | ret v=>exact q
 | brk=>exact q
 | cont=>exact q
def Inv.quiet{a:ZB}{b:St}{H:Hp}{s:PP}(I:Inv X a b H s):interactive X.env=false:=by simp[interactive,I.ok.kind]
def Vo(te:TE):TS:=λD a H=>te a H λ_ b=>D.nx a b
def Rp(c:PE X e te)(hs:swapsWith e none pos.line X.env=pure false:=by rfl):PS X (.Expr e pos) (Vo te):=by
 intro b s a H D I h;exact wpAny_Expr_any (bN (c b s a H _ I h) λv i ⟨x,d,f,j,g⟩=>⟨a,d,f,g⟩) I.quiet hs
def aA2(te:TE):TS:=λD a H=>te a H D.rt
def Xl(c:PE X e te):PS X (.Return (some e) pos) (aA2 te):=by
 intro b s a H D I h;exact wpAny_Return_some (bN (c b s a H _ I h) λv j ⟨x,d,f,g,i⟩=>⟨x,a,d,f,g,i⟩)
def Xm(c:TT)(t u:TS):TS:=λD a H=>c a H λb d=>if b=true then t D a d else u D a d
def aA3{c:Expr}{a b:List Stmt}{i:TT}(n:PT X c i)(o:PSs X a t)(p:PSs X b u):PS X (.If c a b pos) (Xm i t u):=by
 intro f s g H D I h;refine wpAny_If (bN (n f s g H _ I h) ?_);rintro d j ⟨k,l,m⟩
 cases d with
 | true=>exact o f j g k D l m
 | false=>exact p f j g k D l m
end
abbrev TG:=V->St->Hp->(St->Hp->Prop)->Prop
abbrev Dc:=List V->St->Hp->(St->Hp->Prop)->Prop
def PG(X:Cx)(e:Expr)(t:TG):Prop:=
 ∀(a:ZB)(s:PP)(d:St)(H:Hp)(v:V)(u:Q3)(Q:St->Hp->Prop),Inv X a d H s->RelV v u->t v d H Q →
  wpAny (model X.prog X.w) X.A (assign e X.env u) (λ_ f=>∃ b c,Inv X a b c f/\Q b c) X.xe s
def PGs(X:Cx)(f:List Expr)(t:Dc):Prop:=
 ∀(a:ZB)(s:PP)(e:St)(H:Hp)(vs:List V)(c:List Q3)(Q:St->Hp->Prop),Inv X a e H s->Vals vs c->t vs e H Q →
  wpAny (model X.prog X.w) X.A (assignInOrder ((assignEach f X.env).map (·.2)) c) (λ_ g=>∃ b d,Inv X a b d g/\Q b d) X.xe s
abbrev Gc:=V->V->V->Hp->(Hp->Prop)->Prop
def Rq(X:Cx)(t:Gc):Prop:=
 ∀(a:ZB)(s:PP)(e:St)(H:Hp)(o i v:V)(b c u:Q3)(Q:Hp->Prop),Inv X a e H s->RelV o b->RelV i c->RelV v u->t o i v H Q →
  wpAny (model X.prog X.w) X.A (setItem b c u) (λ_ f=>∃d,Inv X a e d f/\Q d) X.xe s
section
variable {X:Cx}{pos:Pos}
def aJ(i:Nat):TG:=λv a H Q=>Q (a.set i (some v)) H
def Rr{i:Nat}{x:Str}(a:X.N.Nodup)(b:X.N[i]?=some x)(c:Vn X.env.scope x)(d:X.fn x=true∨X.env.scope.names.lookup x=some .local:=by first|exact .inl rfl|exact .inr rfl|assumption):PG X (.Name x pos) (aJ i):=by
 intro f s j H v u Q I r h;exact wpAny_assign_Name (yO I a b c r (λg e=>⟨_,H,e,h⟩) d)
def Xn:Dc:=λvs a H Q=>vs=[]/\Q a H
def Jw(t:TG)(u:Dc):Dc:=λvs c H Q=>∃v r,vs=v::r/\t v c H λa b=>u r a b Q
def Rs:PGs X [] Xn:=by
 intro b s a H vs c Q I r h;obtain⟨e,h⟩:=h;subst e;cases r;exact assignInOrder_nil ⟨a,H,I,h⟩
def Jx{e:Expr}{es:List Expr}{t:TG}{u:Dc}(c:PG X e t)(d:PGs X es u)(hs:(assignEach (e::es) X.env).map (·.2)=assign e X.env::(assignEach es X.env).map (·.2):=by rfl):PGs X (e::es) (Jw t u):=by
 intro a s m H vs n Q I r h;obtain⟨v,vr,f,h⟩:=h;subst f;cases r with
 | cons r g=>
  rw[hs];refine assignInOrder_cons (bN (c a s m H _ _ _ I r h) ?_);rintro _ i ⟨b,j,k,l⟩;exact d a i b j _ _ Q k g l
def Rt(K:W.Frag)(n:Nat)(t:Dc):TG:=λv c H Q=>∃a b,v=.ref a/\SqT K H a b/\b.length=n/\t b c H Q
def Xo{es:List Expr}{k:Nat}{t:Dc}{n:Nat}(i:X.calm=true)(h:PGs X es t)(j:(assignEach es X.env).length=n:=by rfl)(l:(assignEach es X.env).findIdx? (·.1)=none:=by rfl):PG X (.Tuple es k pos) (Rt X.K n t):=by
 intro d s g H v u Q I r c;revert c;refine yE2 λa m=>yA4 λp q w c=>?_;subst p;cases r;obtain⟨B,f,x,C⟩:=I.tuple q;refine assign_Tuple_tuple (I.ok.hd i) x (by simp[j,<- w,f.length]) l λy z=>?_;have A:Inv X d g H {s with heap:=y }:=I.kept (t':=s.toks) λb o e=>z b o (ne_of_lt (Heap.lt_size e)) e
 exact h d _ g H m _ Q A (by simpa using f) c
def Xp(b c:TE)(t:Gc):TG:=λv a H Q=>b a H λo d=>c a d λi e=>t o i v e λf=>Q a f
def Xq{o i:Expr}{e f:TE}{t:Gc}(g:PE X o e)(j:PE X i f)(hs:Rq X t)(k:∀v,assign (.Subscript o i pos) X.env v=(do
   let a←holding [v] (eval o X.env)
   let b←holding [v,a] (eval i X.env)
   standAt pos
   holding [v,a,b] (setItem a b v)
   release [v,a,b] []):=by intro _;rfl):PG X (.Subscript o i pos) (Xp e f t):=by
 intro d s c H v u Q I r h;rw[k];refine WP (wpAny_holding (bN (g d s c H _ I h) ?_));refine λa l=>yE2 λx m=>yA3 λn p q=>?_;refine WP (wpAny_holding (bN (j d l c m _ n q) ?_));refine λb w=>yE2 λy z=>yA3 λA B C=>?_;refine WP (wpAny_standAt (WP (wpAny_holding (bN (hs d w c z x y v a b u _ A p B r C) ?_))));rintro _ G ⟨D,E,F⟩;exact wpAny_release ⟨c,D,E,F⟩
def Jy(b:TE)(g:TG):TS:=λD a H=>b a H λx c=>g x a c D.nx
def Xr{a e:Expr}{c:TE}{g:TG}(f:PE X e c)(i:PG X a g)(hs:swapsWithSole [a] e pos.line X.env=pure false:=by rfl)(j:swappedStores [a] e X.env=pure none:=by rfl)(k:(assignEach [a] X.env).map (·.2)=[assign a X.env]:=by rfl):PS X (.Assign [a] e pos) (Jy c g):=by
 intro b s d H D I h;refine wpAny_Assign_stores (bN (f b s d H _ I h) ?_) hs j;refine λv l=>yE2 λx m=>yA3 λn o p=>?_;rw[k];exact bN (i b l d m x v _ n o p) λ_ r q=>q
def Xs{i:Nat}{x:Str}{e:Expr}{b:TE}{a:Pos}(d:X.N.Nodup)(f:X.N[i]?=some x)(g:Vn X.env.scope x)(j:PE X e b)(hs:swapsWith e (some (.Name x a)) pos.line X.env=pure false:=by rfl)(k:X.fn x=true∨X.env.scope.names.lookup x=some .local:=by first|exact .inl rfl|exact .inr rfl|assumption) :
  PS X (.Assign [.Name x a] e pos) (Jy b (aJ i)):=by
 intro c s q H D I h;refine wpAny_Assign_Name (bN (j c s q H _ I h) ?_) hs;rintro v r ⟨y,l,m,n,o⟩;exact yO m d f g n (λt p=>⟨_,l,p,o⟩) k
end
structure It where
 go:Nat->Hp->Prop
 yld:Nat->Hp->V->Hp->Prop
 stop:Nat->Hp->Prop
def oZ(X:Cx)(a:ZB)(H:Hp)(b:TD):Prop:=
 H b=none/\b≠X.env.locals/\b∉X.fs/\(b∈X.ex∨X.s₀.heap.objs.size<=b)/\(∀x c,X.env.cells.lookup x=some c->c≠b)/\∀p∈X.pn++a,p.1≠b
def Inv.fpOk{X:Cx}{d:ZB}{h:St}{H H':Hp}{s:PP}{b:TD}(I:Inv X d h H s)(a:s.heap.objs.size<=b)(f:H' b=none):oZ X d H' b:=by
 refine⟨f,ne_of_gt (EK I.lt a),I.nofs a,.inr (fT I.sz a),λx c e z=>?_,λp g z=>?_⟩
 ·obtain⟨v,q⟩:=I.cell x c e;exact IN (EK q.lt (by rw[z];exact a)) (Nat.lt_irrefl _)
 ·exact IN (EK (Heap.lt_size (I.pin p g).1) (by rw[z];exact a)) (Nat.lt_irrefl _)
structure rW(P:Program)(w:World)(K:W.Frag)(tg:Expr)(J:It)(fp:List TD)(it:TD)(tn:Nat->Heap->Prop):Prop where
 mem:it∈fp
 obj:∀i h,tn i h->∀b∈fp,∃o,h.get? b=some o/\∀v,o.data≠.cell v
 keep:∀i h h',tn i h->(∀b∈fp,∀o,h.get? b=some o->h'.get? b=some o)->tn i h'
 item:∀(X:Cx),X.prog=P->X.w=w->X.K=K->X.calm=true->∀(i:Nat)(pins:ZB)(s:PP)(σ:St)(H:Hp)(E:XV),Inv X pins σ H s->(∀b∈fp,oZ X pins H b)->tn i s.heap->J.go i H →
  wpAny (model P w) X.A (pyNext (.ref it)) (λr s1=>∃u,r=some u ∧
   wpAny (model P w) X.A (letOwnedTupleGo tg (.ref it) u) (λ_ s2=>∃x H',Inv X pins σ H' s2/\RelV x u/\J.yld i H x H'/\tn (i+1) s2.heap/\∀b∈fp,H' b=none) E s1) E s
 done:∀(X:Cx),X.prog=P->X.w=w->X.K=K->X.calm=true->∀(i:Nat)(pins:ZB)(s:PP)(σ:St)(H:Hp)(E:XV),Inv X pins σ H s->(∀b∈fp,oZ X pins H b)->tn i s.heap->J.stop i H →
  wpAny (model P w) X.A (pyNext (.ref it)) (λr s1=>r=none/\Inv X pins σ H s1) E s
 self:∀(A:Around)(i:Nat)(s:PP)(Q:XV)(E:XV),tn i s.heap->Q (.ref it) s->wpAny (model P w) A (pyIter (.ref it)) Q E s
abbrev TI:=St->Hp->(It->Hp->Prop)->Prop
def PIE(X:Cx)(c:ZB)(i:St)(g:Expr)(R:It->Hp->Prop)(h:Q3)(d:PP):Prop:=
 ∃(it:TD)(e:List TD)(f:Nat->Heap->Prop)(J:It)(a:Hp),h=.ref it/\Inv X c i a d/\rW X.prog X.w X.K g J e it f/\f 0 d.heap/\(∀b∈e,oZ X c a b)/\R J a
def PI(X:Cx)(c iter:Expr)(d:TI):Prop:=
 ∀(b:ZB)(s:PP)(a:St)(H:Hp)(R:It->Hp->Prop),Inv X b a H s->d a H R →
  wpAny (model X.prog X.w) X.A (eval iter X.env) (λv e=>wpAny (model X.prog X.w) X.A (pyIter v) (PIE X b a c R) X.xe e) X.xe s
def qJ{M:Model}{A:Around}{E:XV}{s:PP}{b:Expr}{it:TD}{u:Q3}{o:Obj}{n:String}{vs:Array Value}{Q:Unit->PP->Prop}(c:s.heap.get? it=some o)(d:o.cls=.type n)(hd:o.data=.fields vs)(e:["enumerate","zip","dict_itemiterator","dict_reverseitemiterator","odict_iterator","itertools.zip_longest","itertools.pairwise"].contains n=false)(a:Q () s):wpAny M A (letOwnedTupleGo b (.ref it) u) Q E s:=by
  unfold letOwnedTupleGo;cases b<;>first
    | exact WF a
    | (cases u <;> first
        | exact WF a
        | (refine WP (wpAny_load c ?_)
           rw[d,hd];show wpAny M A (if (["enumerate","zip","dict_itemiterator","dict_reverseitemiterator","odict_iterator","itertools.zip_longest","itertools.pairwise"].contains n&&vs[0]? == some (rawInt _))=true then _ else _) Q E s;rw[NE (by intro h;rw[e,Bool.false_and]at h;cases h)];exact WF a))
def Vp(K:W.Frag)(a:TD):It:=
 ⟨λi H=>∃b x,SqL K H a b/\b[i]?=some x,λi H x c=>c=H/\∀b,SqL K H a b->b[i]?=some x,λi H=>∃b,SqL K H a b/\b.length<=i⟩
def Itt(K:W.Frag)(a:TD):It:=
 ⟨λi H=>∃b x,SqT K H a b/\b[i]?=some x,λi H x c=>c=H/\∀b,SqT K H a b->b[i]?=some x,λi H=>∃b,SqT K H a b/\b.length<=i⟩
def Itr(lo:Int)(n:Nat):It:=⟨λi _=>i<n,λi H x a=>a=H/\x=.int (lo+i),λi _=>n<=i⟩
def Gd{P:Program}{w:World}{K:W.Frag}{N:Expr}(a it:TD):rW P w K N (Vp K a) [it] it (λi h=>h.IsListIter it a i) where
 mem:=by simp
 obj:=λi h st b f=>by
  have e:b=it:=by simpa using f
  subst e;obtain⟨o,e,c,d⟩:=st;exact⟨o,e,λv z=>by rw[d]at z;cases z⟩
 keep:=λi h g st k=>st.at λo e=>k it Zs o e
 item:=by
  intro X m n q G i F s L H E I j st r;subst m n q;obtain⟨O,x,l,t⟩:=r;obtain⟨M,y,p,Q⟩:=I.list l;obtain⟨u,R,S⟩:=y.get t;refine yE0 (j it Zs) (yA6 λA f1 f2 B C D=>?_);refine wpAny_pyNext_list_item st p.isList (x:=u) (by simpa using R) λg J T=>?_;have U:Inv X F L H {s with heap:=g }:=I.turned (t':=s.toks) (λb o f e=>(T.2 b f).trans e) A f1 B C D;obtain⟨o,e,c,d⟩:=id J;exact⟨u,rfl,qJ (s:={s with heap:=g }) e c d Zd ⟨x,H,U,S,⟨rfl,λZ V=>by rw[I.list_inj V l];exact t⟩,J,λb f=>(j b f).1⟩⟩
 done:=by
  intro X m n q G i F s L H E I j st r;subst m n q;obtain⟨O,l,t⟩:=r;obtain⟨M,y,p,Q⟩:=I.list l;refine yE0 (j it Zs) (yA6 λA f1 f2 B C D=>?_);have hl:=y.length;exact wpAny_pyNext_list_end (I.ok.hd G) st p.isList (by simp;omega) λg Y=>⟨rfl,I.turned (t':=s.toks) (λb o f e=>Y b o f e) A f1 B C D⟩
 self:=λ_ _ _ _ _ st h=>wpAny_pyIter_listiter st h
def Ay{P:Program}{w:World}{K:W.Frag}{N:Expr}(a it:TD):rW P w K N (Itt K a) [it] it (λi h=>h.IsTupleIter it a i) where
 mem:=by simp
 obj:=λi h st b f=>by
  have e:b=it:=by simpa using f
  subst e;obtain⟨o,e,c,d⟩:=st;exact⟨o,e,λv z=>by rw[d]at z;cases z⟩
 keep:=λi h g st k=>st.at λo e=>k it Zs o e
 item:=by
  intro X n q r J i G s M H E I j st t;subst n q r;obtain⟨O,x,l,y⟩:=t;obtain⟨m,A,p,Q⟩:=I.tuple l;obtain⟨u,R,S⟩:=A.get y;refine yE0 (j it Zs) (yA6 λB f1 f2 C D F=>?_);refine wpAny_pyNext_tuple_item st (show s.heap.IsTuple a m.toArray from p) (x:=u) (by simpa using R) λg L T=>?_;have U:Inv X G M H {s with heap:=g }:=I.turned (t':=s.toks) (λb o f e=>(T.2 b f).trans e) B f1 C D F;obtain⟨o,e,c,d⟩:=id L;exact⟨u,rfl,qJ (s:={s with heap:=g }) e c d Zd ⟨x,H,U,S,⟨rfl,λZ V=>by rw[I.tuple_inj V l];exact y⟩,L,λb f=>(j b f).1⟩⟩
 done:=by
  intro X n q r J i G s M H E I j st t;subst n q r;obtain⟨O,l,y⟩:=t;obtain⟨m,A,p,Q⟩:=I.tuple l;refine yE0 (j it Zs) (yA6 λB f1 f2 C D F=>?_);have hl:=A.length;exact wpAny_pyNext_tuple_end (I.ok.hd J) st (show s.heap.IsTuple a m.toArray from p) (by simp;omega) λg Y=>⟨rfl,I.turned (t':=s.toks) (λb o f e=>Y b o f e) B f1 C D F⟩
 self:=λ_ _ _ _ _ st h=>wpAny_pyIter_tupleiter st h
def Az{P:Program}{w:World}{K:W.Frag}{B:Expr}(it:TD)(lo:Int)(n:Nat):rW P w K B (Itr lo n) [it] it (λi h=>IsRangeIter h it (lo+(i:Nat)*1) ((n:Int)-(i:Nat)) 1) where
 mem:=by simp
 obj:=λi h st b a=>by
  have e:b=it:=by simpa using a
  subst e;exact⟨_,st,λv z=>by
   have C:Data.fields _=Data.cell v:=z;cases C⟩
 keep:=λi h c st k=>k it Zs _ st
 item:=by
  intro X f g j l i x s A H E I d st m;subst f g j;refine yE0 (d it Zs) (yA6 λp f1 f2 q r u=>?_);have W:=Walks.range (prog:=X.prog) (w:=X.w) (I.ok.hd l) it lo 1 n;refine W.item i s _ _ m st λv c tk D y F=>?_;obtain⟨t,rfl⟩:=D;have G:Inv X x A H {s with heap:=c,toks:=tk }:=I.turned (λb o a e=>F b o (by simpa using a) e) p f1 q r u;refine⟨_,rfl,qJ (s:={s with heap:=c,toks:=tk }) (n:="range_iterator") y rfl rfl Zd ⟨.int (lo+i),H,G,⟨t,?_⟩,⟨rfl,rfl⟩,y,λb a=>(d b a).1⟩⟩;rw[Int.mul_one]
 done:=by
  intro X f g j l i x s A H E I d st m;subst f g j;refine yE0 (d it Zs) (yA6 λp f1 f2 q r u=>?_);exact wpAny_pyNext_range_end (I.ok.hd l) st (by have:n<=i:=m;omega) λc J=>⟨rfl,I.turned (t':=s.toks) (λb o a e=>J b o a e) p f1 q r u⟩
 self:=λ_ _ _ _ _ st h=>wpAny_pyIter_rangeiter st h
section
variable {X:Cx}{tg:Expr}
def Jz(K:W.Frag)(c:TE):TI:=λe H R=>c e H λx b=>∃a,x=.ref a/\(∃d,SqL K b a d)/\R (Vp K a) b
def Xt(K:W.Frag)(c:TE):TI:=λe H R=>c e H λx b=>∃a,x=.ref a/\(∃d,SqT K b a d)/\R (Itt K a) b
def Ru{l:Expr}{f:TE}(i:PE X l f):PI X tg l (Jz X.K f):=by
 intro g s t H R I h;refine bN (i g s t H _ I h) ?_;refine λv c=>yE2 λx j=>yA3 λd k m=>?_
 obtain⟨a,e,⟨w,n⟩,q⟩:=m;subst e;cases k;obtain⟨u,y,p,z⟩:=d.list n;refine wpAny_pyIter_list p.isList ?_;refine⟨c.heap.objs.size,[c.heap.objs.size],_,_,j,rfl,d.kept (t':=c.toks) λb o e=>iD _ e,Gd a _,⟨_,TW _ rfl,rfl,rfl⟩,λb r=>?_,q⟩;have e:b=c.heap.objs.size:=by simpa using r
 subst e;exact d.fpOk (bA _) (d.hok.fresh (bA _))
def Xu{l:Expr}{f:TE}(j:PE X l f):PI X tg l (Xt X.K f):=by
 intro g s u H R I h;refine bN (j g s u H _ I h) ?_;refine λv c=>yE2 λx k=>yA3 λd m n=>?_
 obtain⟨a,e,⟨w,r⟩,q⟩:=n;subst e;cases m;obtain⟨i,y,p,z⟩:=d.tuple r;refine wpAny_pyIter_tuple (show c.heap.IsTuple a i.toArray from p) ?_;refine⟨c.heap.objs.size,[c.heap.objs.size],_,_,k,rfl,d.kept (t':=c.toks) λb o e=>iD _ e,Ay a _,⟨_,TW _ rfl,rfl,rfl⟩,λb t=>?_,q⟩;have e:b=c.heap.objs.size:=by simpa using t
 subst e;exact d.fpOk (bA _) (d.hok.fresh (bA _))
def Ka{c:ZB}{f:St}{H:Hp}{s:PP}{R:It->Hp->Prop}{E:XV}{lo a:Int}{t u v:Tok}{tk:Nat}(I:Inv X c f H s)(g:-(2^62)<=lo)(h:lo<2^62)(i:-(2^62)<=a)(j:a<2^62)(q:R (Itr lo (a-lo).toNat) H):wpAny (model X.prog X.w) X.A (pyIter (.ref s.heap.objs.size)) (PIE X c f tg R) E {s with heap:=s.heap.push {cls:=.type "range",data:=.fields #[.int lo t,.int a u,.int 1 v] },toks:=tk }:=by
 refine wpAny_pyIter_range (IsRange.new ..) (small_one g h i j) ?_;have d:Inv X c f H {s with heap:=s.heap.push {cls:=.type "range",data:=.fields #[.int lo t,.int a u,.int 1 v] },toks:=tk }:=I.kept λb o e=>iD _ e
 refine⟨(s.heap.push {cls:=.type "range",data:=.fields #[.int lo t,.int a u,.int 1 v] }).objs.size,[(s.heap.push {cls:=.type "range",data:=.fields #[.int lo t,.int a u,.int 1 v] }).objs.size],_,_,H,rfl,
  d.kept (t':=tk) λb o e=>iD _ e,Az _ lo (a - lo).toNat,?_,λb k=>?_,q⟩
 ·have l:lo+((0:Nat):Int)*1=lo:=by simp
  have m:(((a-lo).toNat:Nat):Int)-((0:Nat):Int)=Builtin.Range.rangeSize lo a 1:=by rw[rangeSize_one];split<;>omega
  show IsRangeIter _ _ (lo+((0:Nat):Int)*1) ((((a-lo).toNat:Nat):Int)-((0:Nat):Int)) 1;rw[l,m];exact TW _ rfl
 ·have e:b=(s.heap.push {cls:=.type "range",data:=.fields #[.int lo t,.int a u,.int 1 v] }).objs.size:=by simpa using k
  subst e;exact d.fpOk (bA _) (d.hok.fresh (bA _))
def Vq(a:TA):TI:=λc H R=>a c H λvs b=>∃j:Int,vs=[.int j]/\-(2^62)<=j/\j<2^62/\R (Itr 0 j.toNat) b
def Ge{a:Expr}{c:TA}{p pos:Pos}(f:Gl X "range")(g:X.mg "range"=none)(i:PA X [a] c)(hs:starEach [a] X.env=[(false,eval a X.env)]:=by rfl):PI X tg (.Call (.Name "range" p) [a] [] pos) (Vq c):=by
 intro d s o H R I h;refine Call_ (rV I f g boot_range (PyProof.Rows.callWith_type1 (bN (i pos d s o H _ I h) ?_) hs rfl));refine λu v=>yE2 λvs w=>yA3 λk l b=>?_;revert b;refine yE1 λj=>yA4 λe b m q=>?_;subst e;cases l with
 | cons r n=>
  cases n;obtain⟨t,rfl⟩:=r;exact call_range_1 (Ka k Zo Zo b m (by simpa using q))
def aA5(f:TI)(g:TG)(tb:TS):TS:=λD a H=>f a H λJ h=>∃W:Nat->Nat->St->Hp->Prop,(∃m,W 0 m a h)/\∀i m a H,W i m a H →
 (J.stop i H/\D.nx a H)∨(J.go i H/\∃N:St->Hp->Prop,(∀ c b,N c b->∃d,d<m/\W (i+1) d c b)/\∀x b,J.yld i H x b->g x a b λe j=>tb {D with nx:=N,ct:=N,bk:=D.nx } e j)
def rX(fp:List TD)(h:Heap):List (TD×Obj):=fp.filterMap λb=>(h.get? b).map λo=>(b,o)
def jL{fp:List TD}{h:Heap}{b:TD}{o:Obj}(a:b∈fp)(e:h.get? b=some o):(b,o)∈rX fp h:=mem_filterMap.mpr ⟨b,a,by rw[e];rfl⟩
def Gf{fp:List TD}{h:Heap}{p:TD×Obj}(a:p∈rX fp h):p.1∈fp/\h.get? p.1=some p.2:=by
 obtain⟨b,c,e⟩:=mem_filterMap.mp a
 cases q:h.get? b with
 | none=>rw[q]at e;cases e
 | some o=>
  rw[q]at e;have d:(b,o)=p:=Option.some.inj e;subst d;exact⟨c,q⟩
def Inv.pinned{a:ZB}{g:St}{H:Hp}{s:PP}{fp:List TD}(I:Inv X a g H s)(h:∀b∈fp,oZ X a H b)(i:∀b∈fp,∃o,s.heap.get? b=some o/\∀v,o.data≠.cell v):Inv X (a++rX fp s.heap) g H s:=
 I.pins_of λp j=>(Zma.mp j).elim (λz=>I.pin p (EQ _ z)) λz=>by
  obtain⟨c,e⟩:=Gf z;refine yE0 (h p.1 c) (yA4 λk f1 f2 _=>?_);obtain⟨o,f,d⟩:=i p.1 c;rw[e]at f;cases f;exact⟨e,k,f1,f2,d⟩
def Inv.unpinned{a pl:ZB}{b:St}{H:Hp}{s:PP}(I:Inv X (a++pl) b H s):Inv X a b H s:=I.pins_of λp c=>I.pin p (EQ _ (FM _ c))
def Xv{iter:Expr}{B:List Stmt}{C:TI}{g:TG}{tb:TS}{pos:Pos}(q:PassesOwn (model X.prog X.w) X.A X.env X.xe)(D:X.calm=true)(O:PI X tg iter C)(P:PG X tg g)(c:PSs X B tb)(hs:∀x,foldedSetIterable iter X.env x=pure x:=by intro _;rfl):PS X (.For tg iter B [] pos) (aA5 C g tb):=by
 intro k s M a0 a7 a1 a2;refine wpAny_For (bN (O k s M a0 _ a1 a2) λv s1 Q=>bN Q λNZ s2 R=>?_) hs;revert R;refine yE5 λit r E a8 S=>yA6 λe U T V f2=>yE1 λW=>yA2 λζ turn=>?_;obtain⟨Y,Z⟩:=ζ;subst e;have w:∀ {h:Hp},(∀b∈r,h b=none)->∀b∈r,oZ X k h b:=λhn b c=>⟨hn b c,(f2 b c).2⟩
 refine codeAny_forLoop_any (λn F=>∃i l h,Inv X k l h F/\E i F.heap/\(∀b∈r,h b=none)/\W i n l h) ?_ Y ⟨0,M,S,U,V,λb c=>(f2 b c).1,Z⟩;refine λn G=>yE3 λi p u=>yA4 λH I J w3=>?_;rcases turn i n p u w3 with⟨stop,qn⟩|⟨go,a3,hN,step⟩
 ·refine wpAny_passesOwn q (bN (T.done X rfl rfl rfl D i k G p u X.xe H (w J) I stop) ?_);rintro a4 s4 ⟨y,I4⟩;subst y;exact wpAny_execs_nil ⟨p,u,I4,qn⟩
 ·refine wpAny_passesOwn q (bN (T.item X rfl rfl rfl D i k G p u X.xe H (w J) I go) ?_);rintro a4 s4 ⟨a5,y,h4⟩;subst y;refine wpAny_passesOwn q (bN h4 ?_);refine λ_ K=>yE2 λx L=>yA5 λI5 r5 y5 z QJ=>?_;have QK:=I5.pinned (w QJ) (T.obj _ _ z);refine wpAny_passesOwn q (bN (P _ K p L x a5 _ QK r5 (step x L y5)) ?_);refine λ_ s6=>yE2 λN H6=>yA2 λI6 q6=>?_;refine wpAny_passesOwn q (bN (c _ s6 N H6 _ I6 q6) λa6 A j=>?_);have again:∀ {a:St}{d:Hp},Inv X (k++rX r K.heap) a d A->a3 a d->∃m,m<n/\∃i l h,Inv X k l h A/\E i A.heap/\(∀b∈r,h b=none)/\W i m l h:=λ{a d} f t=>by
   obtain⟨m',hm,w7⟩:=hN a d t;refine⟨m',hm,i+1,a,d,f.unpinned,T.keep _ _ _ z λb c o e=>(f.pin (b,o) (EQ _ (EQ _ (jL c e)))).1,λb c=>?_,w7⟩;obtain⟨o,e,a9⟩:=T.obj _ _ z b c;exact(f.pin (b,o) (EQ _ (EQ _ (jL c e)))).2.1
  cases a6 with
  | next=>revert j;refine yE2 λa d=>yA2 λf t=>?_;exact again f t
  | cont=>revert j;refine yE2 λa d=>yA2 λf t=>?_;exact again f t
  | brk=>revert j;refine yE2 λa d=>yA2 λf j=>?_;exact⟨a,d,f.unpinned,j⟩
  | ret v=>revert j;refine yE3 λx7 a d=>yA3 λf r7 j=>?_;exact⟨x7,a,d,f.unpinned,r7,j⟩
end
abbrev R2:=V->V->Hp->VK->Prop
def OpR(X:Cx)(f:Q3->Q3->Sem Value)(r:R2):Prop:=
 ∀(a:ZB)(s:PP)(b:St)(H:Hp)(x y:V)(v u:Q3)(Q:VK),Inv X a b H s->RelV x v->RelV y u->r x y H Q →
  wpAny (model X.prog X.w) X.A (f v u) (EP X a b Q) X.xe s
def UnR(X:Cx)(f:Q3->Sem Value)(r:V->Hp->VK->Prop):Prop:=
 ∀(a:ZB)(s:PP)(b:St)(H:Hp)(x:V)(v:Q3)(Q:VK),Inv X a b H s->RelV x v->r x H Q →
  wpAny (model X.prog X.w) X.A (f v) (EP X a b Q) X.xe s
def CallR(X:Cx)(f:Q3)(r:List V->Hp->VK->Prop):Prop:=
 ∀(a:ZB)(s:PP)(d:St)(H:Hp)(b:List V)(c:List Q3)(Q:VK),Inv X a d H s->Vals b c->r b H Q →
  wpAny (model X.prog X.w) X.A (call f c) (EP X a d Q) X.xe s
def uX(r:R2)(b tb:TE):TE:=λa H Q=>b a H λx c=>tb a c λy d=>r x y d Q
def tUn(r:V->Hp->VK->Prop)(a:TE):TE:=λc H Q=>a c H λx b=>r x b Q
def rI(C:Int->Int->Prop)(g:Int->Int->V):R2:=λx y H Q=>∃i j,x=.int i/\y=.int j/\C i j/\Q (g i j) H
def Rv(g:Int->Int->V):R2:=λx y H Q=>∃i j,x=.int i/\y=.int j/\Q (g i j) H
def rU(g:Int->V):V->Hp->VK->Prop:=λx H Q=>∃i,x=.int i/\Q (g i) H
section
variable {X:Cx}{a b c:Expr}{ta tb tc:TE}{pos:Pos}
def Xw(k:PE X a ta)(l:PE X b tb){e:ZB}{s:PP}{d:St}{H:Hp}{R:V->V->Hp->Prop}(I:Inv X e d H s)(h:ta d H λx H1=>tb d H1 λy H2=>R x y H2){Q:XV}{f:Q3->Q3->Sem Value}(m:∀v u g x y H2,Inv X e d H2 g->RelV x v->RelV y u->R x y H2->wpAny (model X.prog X.w) X.A (f v u) Q X.xe g) :
  wpAny (model X.prog X.w) X.A (eval a X.env) (λv i=>wpAny (model X.prog X.w) X.A (eval b X.env) (λu j=>wpAny (model X.prog X.w) X.A (f v u) Q X.xe j) X.xe i) X.xe s:=by
 refine bN (k e s d H _ I h) ?_;rintro v n ⟨x,H1,o,p,q⟩;refine bN (l e n d H1 _ o q) ?_;rintro u g ⟨y,H2,r,t,w⟩;exact m v u g x y H2 r p t w
def aA6{op:Operator}{r:R2}(e:OpR X (binaryOp op) r)(f:PE X a ta)(g:PE X b tb):PE X (.BinOp a op b pos) (uX r ta tb):=by
 intro d s n H Q I h;exact wpAny_BinOp (Xw f g I h λv u i x y j k l m q=>e d i n j x y v u Q k l m q)
def aA7{op:UnaryOp}{r:V->Hp->VK->Prop}(f:UnR X (unaryOp op) r)(g:PE X a ta):PE X (.UnaryOp op a pos) (tUn r ta):=by
 intro d s e H Q I h;exact UnaryOp_ (bN (g d s e H _ I h) λv i ⟨x,j,k,l,m⟩=>f d i e j x v Q k l m)
def opI{f:Q3->Q3->Sem Value}{C:Int->Int->Prop}{g:Int->Int->Int}(rule:∀(i j:Int)(t u:Tok)(s:PP)(Q:XV)(E:XV),C i j->Q (.int (g i j) s.toks) {s with toks:=s.toks+1 }->wpAny (model X.prog X.w) X.A (f (.int i t) (.int j u)) Q E s) :
  OpR X f (rI C λi j=>.int (g i j)):=by
 intro m s n H x y v u Q I d e h;obtain⟨i,j,rfl,rfl,k,q⟩:=h;obtain⟨t,rfl⟩:=d;obtain⟨l,rfl⟩:=e;exact rule i j t l s _ _ k ⟨.int (g i j),H,I.tok _,⟨_,rfl⟩,q⟩
def aA8{f:Q3->Q3->Sem Value}{g:Int->Int->Int}(rule:∀(i j:Int)(t u:Tok)(s:PP)(Q:XV)(E:XV),Q (.int (g i j) s.toks) {s with toks:=s.toks+1 }->wpAny (model X.prog X.w) X.A (f (.int i t) (.int j u)) Q E s) :
  OpR X f (Rv λi j=>.int (g i j)):=by
 intro l s m H x y v u Q I d e h;obtain⟨i,j,rfl,rfl,q⟩:=h;obtain⟨t,rfl⟩:=d;obtain⟨k,rfl⟩:=e;exact rule i j t k s _ _ ⟨.int (g i j),H,I.tok _,⟨_,rfl⟩,q⟩
def Rw{f:Q3->Q3->Sem Value}{g:Int->Int->Bool}(rule:∀(i j:Int)(t u:Tok)(s:PP)(Q:XV)(E:XV),Q (.bool (g i j)) s->wpAny (model X.prog X.w) X.A (f (.int i t) (.int j u)) Q E s) :
  OpR X f (Rv λi j=>.bl (g i j)):=by
 intro l s m H x y v u Q I d e h;obtain⟨i,j,rfl,rfl,q⟩:=h;obtain⟨t,rfl⟩:=d;obtain⟨k,rfl⟩:=e;exact rule i j t k s _ _ ⟨.bl (g i j),H,I,rfl,q⟩
def Xx(i j:Int):Prop:=0<=j/\j<=1000000/\i.natAbs<2^64
def CMul(i j:Int):Prop:=(-(2^64)<i/\i<2^64)∨(-(2^64)<j/\j<2^64)
def CMul.ok{i j:Int}(h:CMul i j):IntMulOk i j:=by
 rcases h with⟨d,e⟩|⟨d,e⟩
 ·exact .of_left (intBits_le_64 d e)
 ·exact .of_right (intBits_le_64 d e)
def Xy:OpR X (binaryOp .Add) (Rv λi j=>.int (i+j)):=aA8 λ_ _ _ _ _ _ _ q=>add_int q
def Xz:OpR X (binaryOp .Sub) (Rv λi j=>.int (i-j)):=aA8 λ_ _ _ _ _ _ _ q=>sub_int q
def Ya:OpR X (binaryOp .Mult) (rI CMul λi j=>.int (i*j)):=opI λ_ _ _ _ _ _ _ d q=>mul_int q d.ok
def Yb:OpR X (binaryOp .Mod) (rI (λ_ j=>0<j) λi j=>.int (i%j)):=opI λi j _ _ _ _ _ d q=>by
 have e:(0:Int)<j:=d;exact mod_int' Zo (by rw[Int.fmod_eq_emod_of_nonneg i Zo];exact q)
def Yc:OpR X (binaryOp .Pow) (rI Xx λi j=>.int (i^j.toNat)):=opI λ_ _ _ _ _ _ _ d q=>pow_int_small d.1 d.2.1 d.2.2 q
def unI{f:Q3->Sem Value}{g:Int->Int}(rule:∀(i:Int)(t:Tok)(s:PP)(Q:XV)(E:XV),Q (.int (g i) s.toks) {s with toks:=s.toks+1 }->wpAny (model X.prog X.w) X.A (f (.int i t)) Q E s) :
  UnR X f (rU λi=>.int (g i)):=by
 intro e s j H x v Q I d h;obtain⟨i,rfl,q⟩:=h;obtain⟨t,rfl⟩:=d;exact rule i t s _ _ ⟨.int (g i),H,I.tok _,⟨_,rfl⟩,q⟩
def Yd:UnR X (unaryOp .USub) (rU λi=>.int (-i)):=unI λ_ _ _ _ _ q=>neg_int q
end
def scal:V->V->Bool
 | .non,.non=>true|.non,.int _=>true|.int _,.non=>true|.non,.bl _=>true|.bl _,.non=>true|.non,.str _=>true|.str _,.non=>true
 | .int _,.int _=>true|.bl _,.bl _=>true|.str _,.str _=>true|.byt _,.byt _=>true
 | .int _,.str _=>true|.str _,.int _=>true|.bl _,.str _=>true|.str _,.bl _=>true
 | _,_=>false
def rEq:R2:=λx y H Q=>scal x y=true/\Q (.bl (decide (x=y))) H
def rNe:R2:=λx y H Q=>scal x y=true/\Q (.bl (!decide (x=y))) H
def De{i j:Int}:decide (V.int i=V.int j)=(i==j):=by
 rw[Bool.eq_iff_iff];simp
def Kb{i j:Bool}:decide (V.bl i=V.bl j)=(i==j):=by
 rw[Bool.eq_iff_iff];simp
def Df{i j:Str}:decide (V.str i=V.str j)=(i==j):=by
 rw[Bool.eq_iff_iff];simp
def Dg{i j:Array UInt8}:decide (V.byt i=V.byt j)=(i.toList==j.toList):=by
 rw[Bool.eq_iff_iff];cases i;cases j;simp
section
variable {X:Cx}{a b c:Expr}{ta tb tc:TE}{pos:Pos}
def bD{d:ZB}{g:St}{H:Hp}{s:PP}{Q:VK}{k f:Bool}(I:Inv X d g H s)(q:Q (.bl k) H)(e:k=f):EP X d g Q (.bool f) s:=by
 subst e;exact⟨.bl k,H,I,rfl,q⟩
def Vr:OpR X (compareOp .Eq) rEq:=by
 intro k s l H x y v u Q I g d h;obtain⟨f,q⟩:=h
 cases x with
 | non=>
  cases g
  cases y with
  | non=>cases d;exact PySem.EqNone.eq_none_none (bD I q Zs)
  | bl j=>cases d;exact PySem.EqNone.eq_none_bool (bD I q Zs)
  | int j=>obtain⟨e,rfl⟩:=d;exact PySem.EqNone.eq_none_int (bD I q Zs)
  | str j=>obtain⟨e,rfl⟩:=d;exact PySem.EqNone.eq_none_str (bD I q Zs)
  | _=>exact IN (show false=true from f) V4
 | bl i=>
  cases g
  cases y with
  | non=>cases d;exact PySem.EqNone.eq_bool_none (bD I q Zs)
  | bl j=>cases d;exact eq_bool (bD I q Kb)
  | str j=>obtain⟨e,rfl⟩:=d;exact PySem.EqMixed.eq_bool_str (bD I q Zs)
  | _=>exact IN (show false=true from f) V4
 | int i=>
  obtain⟨t,rfl⟩:=g
  cases y with
  | non=>cases d;exact PySem.EqNone.eq_int_none (bD I q Zs)
  | int j=>obtain⟨e,rfl⟩:=d;exact eq_int (bD I q De)
  | str j=>obtain⟨e,rfl⟩:=d;exact PySem.EqMixed.eq_int_str (bD I q Zs)
  | _=>exact IN (show false=true from f) V4
 | str i=>
  obtain⟨t,rfl⟩:=g
  cases y with
  | non=>cases d;exact PySem.EqNone.eq_str_none (bD I q Zs)
  | bl j=>cases d;exact PySem.EqMixed.eq_str_bool (bD I q Zs)
  | int j=>obtain⟨e,rfl⟩:=d;exact PySem.EqMixed.eq_str_int (bD I q Zs)
  | str j=>obtain⟨e,rfl⟩:=d;exact eq_str (bD I q Df)
  | _=>exact IN (show false=true from f) V4
 | byt i=>
  obtain⟨t,rfl⟩:=g
  cases y with
  | byt j=>obtain⟨e,rfl⟩:=d;exact W.eq_bytes (bD I q Dg)
  | _=>exact IN (show false=true from f) V4
 | _=>cases y<;>exact IN (show false=true from f) V4
def Vs:OpR X (compareOp .NotEq) rNe:=by
 intro k s l H x y v u Q I g d h;obtain⟨f,q⟩:=h
 cases x with
 | non=>
  cases g
  cases y with
  | non=>cases d;exact PySem.EqNone.ne_none_none (bD I q Zs)
  | bl j=>cases d;exact PySem.EqNone.ne_none_bool (bD I q Zs)
  | int j=>obtain⟨e,rfl⟩:=d;exact PySem.EqNone.ne_none_int (bD I q Zs)
  | str j=>obtain⟨e,rfl⟩:=d;exact PySem.EqNone.ne_none_str (bD I q Zs)
  | _=>exact IN (show false=true from f) V4
 | bl i=>
  cases g
  cases y with
  | non=>cases d;exact PySem.EqNone.ne_bool_none (bD I q Zs)
  | bl j=>cases d;exact ne_bool (bD I q (congrArg not Kb))
  | str j=>obtain⟨e,rfl⟩:=d;exact PySem.EqMixed.ne_bool_str (bD I q Zs)
  | _=>exact IN (show false=true from f) V4
 | int i=>
  obtain⟨t,rfl⟩:=g
  cases y with
  | non=>cases d;exact PySem.EqNone.ne_int_none (bD I q Zs)
  | int j=>obtain⟨e,rfl⟩:=d;exact ne_int (bD I q (congrArg not De))
  | str j=>obtain⟨e,rfl⟩:=d;exact PySem.EqMixed.ne_int_str (bD I q Zs)
  | _=>exact IN (show false=true from f) V4
 | str i=>
  obtain⟨t,rfl⟩:=g
  cases y with
  | non=>cases d;exact PySem.EqNone.ne_str_none (bD I q Zs)
  | bl j=>cases d;exact PySem.EqMixed.ne_str_bool (bD I q Zs)
  | int j=>obtain⟨e,rfl⟩:=d;exact PySem.EqMixed.ne_str_int (bD I q Zs)
  | str j=>obtain⟨e,rfl⟩:=d;exact ne_str (bD I q (congrArg not Df))
  | _=>exact IN (show false=true from f) V4
 | byt i=>
  obtain⟨t,rfl⟩:=g
  cases y with
  | byt j=>obtain⟨e,rfl⟩:=d;exact W.ne_bytes (bD I q (congrArg not Dg))
  | _=>exact IN (show false=true from f) V4
 | _=>cases y<;>exact IN (show false=true from f) V4
def aA9:OpR X (compareOp .Lt) (Rv λi j=>.bl (decide (i<j))):=Rw λ_ _ _ _ _ _ _ q=>lt_int q
def aBa:OpR X (compareOp .LtE) (Rv λi j=>.bl (decide (i<=j))):=Rw λ_ _ _ _ _ _ _ q=>le_int q
def aBb:OpR X (compareOp .Gt) (Rv λi j=>.bl (decide (j<i))):=Rw λ_ _ _ _ _ _ _ q=>gt_int q
def aBc:OpR X (compareOp .GtE) (Rv λi j=>.bl (decide (j<=i))):=Rw λ_ _ _ _ _ _ _ q=>ge_int q
def Gg:OpR X (compareOp .In) (λx y H Q=>∃i j,x=.str i/\y=.str j/\Q (.bl (!(Builtin.Str.occurrences j i 0 j.length 1).isEmpty)) H):=by
 intro f s k H x y v u Q I d e h;obtain⟨i,j,rfl,rfl,q⟩:=h;obtain⟨t,rfl⟩:=d;obtain⟨g,rfl⟩:=e;exact in_str (bD I q rfl)
def Ye:OpR X (compareOp .Is) (λx y H Q=>y=.non/\Q (.bl (decide (x=.non))) H):=by
 intro f s g H x y v u Q I d e h;obtain⟨rfl,q⟩:=h;cases e;refine is_none_gen (bD I q ?_);cases x<;>first
  | (cases d;rfl)
  | (obtain⟨t,rfl⟩:=d;rfl)
def Rx:OpR X (compareOp .IsNot) (λx y H Q=>y=.non/\Q (.bl (!decide (x=.non))) H):=by
 intro f s g H x y v u Q I d e h;obtain⟨rfl,q⟩:=h;cases e;refine isnot_none_gen (bD I q ?_);cases x<;>first
  | (cases d;rfl)
  | (obtain⟨t,rfl⟩:=d;rfl)
def wO(b:Expr){op:CmpOp}(h:op≠.In:=by decide)(d:op≠.NotIn:=by decide):behindInMarks op b=false:=by
 have e:(op==CmpOp.In)=false:=by cases op<;>first|rfl|exact IN rfl h
 have f:(op==CmpOp.NotIn)=false:=by cases op<;>first|rfl|exact IN rfl d
 cases b<;>simp[behindInMarks,e,f]
def Ry{op:CmpOp}{r:R2}(e:OpR X (compareOp op) r)(f:PE X a ta)(g:PE X b tb)(i:behindInMarks op b=false):PE X (.Compare a [op] [b] pos) (uX r ta tb):=by
 intro d s o H Q I h;exact wpAny_Compare1 (Xw f g I h λv u j x y k l m n q=>e d j o k x y v u Q l m n q) i
def Dh(t:TE):TT:=λe H Q=>t e H λx d=>∃k,x=.bl k/\Q k d
def Rz{op:CmpOp}{r:R2}(g:OpR X (compareOp op) r)(i:PE X a ta)(j:PE X b tb)(l:behindInMarks op b=false):PT X (.Compare a [op] [b] pos) (Dh (uX r ta tb)):=by
 intro d s f H Q I h;refine wpAny_isTrue_Compare1 (bN (i d s f H _ I h) λv m ⟨x,n,o,p,q⟩=>bN (j d m f n _ o q) λu t ⟨y,w,A,B,C⟩=>
  bN (g d t f w x y v u _ A p B C) λc J ⟨z,D,E,F,k,e,G⟩=>?_) l
 subst e;cases F;exact wpAny_truthy_bool ⟨D,E,G⟩
def wP(r r':R2)(ta tb tc:TE):TE:=λd H Q=>ta d H λx f=>tb d f λy g=>r x y g λz e=>∃k,z=.bl k ∧
 (if k=true then tc d e λh i=>r' y h i Q else Q (.bl false) e)
def Kc{op i:CmpOp}{r r':R2}(o:OpR X (compareOp op) r)(p:OpR X (compareOp i) r')(q:PE X a ta)(t:PE X b tb)(w:PE X c tc)(A:lastMarks [op,i] [b,c]=false:=by with_unfolding_all rfl):PE X (.Compare a [op,i] [b,c] pos) (wP r r' ta tb tc):=by
 intro f s g H Q I h;refine Compare_chain (bN (q f s g H _ I h) λv B ⟨x,C,D,E,F⟩=>chain_link (bN (t f B g C _ D F) λu G ⟨y,J,K,j,L⟩=>
  bN (o f G g J x y v u _ K E j L) λd M ⟨z,l,m,N,k,e,n⟩=>?_)) A
 subst e;cases N;refine wpAny_truthy_bool ?_
 cases k with
 | false=>exact ite_ff ⟨.bl false,l,m,rfl,n⟩
 | true=>exact ite_tt (chain_last (bN (w f M g l _ m n) λO P ⟨R,S,T,U,V⟩=>p f P g S y R u O Q T j U V))
def Ke{op f:CmpOp}{r r':R2}(m:OpR X (compareOp op) r)(n:OpR X (compareOp f) r')(o:PE X a ta)(p:PE X b tb)(q:PE X c tc)(t:lastMarks [op,f] [b,c]=false:=by with_unfolding_all rfl):PT X (.Compare a [op,f] [b,c] pos) (Dh (wP r r' ta tb tc)):=by
 intro d s e H a1 I h;refine isTrue_chain (bN (o d s e H _ I h) λv w ⟨x,z,A,B,C⟩=>test_link (bN (p d w e z _ A C) λu D ⟨y,E,F,g,G⟩=>
  bN (m d D e E x y v u _ F B g G) λa2 J ⟨a3,i,j,K,k,a0,l⟩=>?_)) t
 subst a0;cases K;refine wpAny_truthy_bool ?_
 cases k with
 | false=>
  obtain⟨k',L,M⟩:=l;cases L;exact ite_ff ⟨i,j,M⟩
 | true=>
  refine ite_tt (test_last (bN (q d J e i _ j l) λN O ⟨P,Q,R,S,T⟩=>bN (n d O e Q y P u N _ R g S T) ?_));rintro d' s5 ⟨z2,U,V,W,k2,Y,Z⟩;subst Y;cases W;exact wpAny_truthy_bool ⟨U,V,Z⟩
def pA:(sizeLine:Nat)<2^63:=by rw[sizeLine_eq];decide
def Ba:OpR X (binaryOp .Add) (λx y H Q=>∃i j,x=.str i/\y=.str j/\i.length+j.length<=sizeLine/\Q (.str (i++j)) H):=by
 intro k s l H x y v u Q I d e h;obtain⟨i,j,rfl,rfl,f,q⟩:=h;obtain⟨t,rfl⟩:=d;obtain⟨g,rfl⟩:=e;exact add_str (λg tk=>⟨.str (i++j),H,I.tok _,⟨_,rfl⟩,q⟩) f
def iE{x:V}{us:List Q3}(r:Vals [x] us):∃u,us=[u]/\RelV x u:=by
 cases r with
 | cons d e=>cases e;exact⟨_,rfl,d⟩
def aBd{x y:V}{us:List Q3}(r:Vals [x,y] us):∃u d,us=[u,d]/\RelV x u/\RelV y d:=by
 cases r with
 | cons e f=>
  cases f with
  | cons g h=>cases h;exact⟨_,_,rfl,e,g⟩
def Gh(e:X.calm=true):CallR X (.builtin "max") (λxs H Q=>∃i j,xs=[.int i,.int j]/\Q (.int (if j>i then j else i)) H):=by
 intro f s o H xs g Q I r h;obtain⟨i,j,rfl,q⟩:=h;obtain⟨u,l,rfl,⟨t,rfl⟩,⟨m,rfl⟩⟩:=aBd r;refine max_two_ints (I.ok.hd e) λn tk k=>⟨_,H,I.kept k,?_,q⟩;by_cases d:j>i
 ·rw[O8 d,O8 d];exact⟨_,rfl⟩
 ·rw[NE d,NE d];exact⟨_,rfl⟩
end
structure ObjM(h:Heap)(x dx C:TD)(mA:W1):Prop where
 obj:h.get? x=some (W.instObj C dx)
 ns:h.Ns1 dx mA
 ne:dx≠x
def Gi{h:Heap}{dx:TD}{b:W1}(n:h.Ns1 dx b):∃c,h.get? dx=some c/\∀name,W.lookIn name c=some (b name):=by
 refine yE0 n (yE3 λo d m=>yA5 λf hd g _ i=>?_);refine⟨o,f,λname=>?_⟩;have e:=i name;unfold nsFind findBy at e;rw[<- Array.find?_toList]at e;unfold W.lookIn;rw[hd];dsimp only;split
 ·rename_i y q;rw[q]at e;exact congrArg some e
 ·rename_i q;rw[q]at e;have a:d.toList.any (·.refKey)=false:=by
   rw[List.any_eq_false];intro y j;obtain⟨z,t,k⟩:=g y (Array.mem_toList_iff.mp j);simp[DictEntry.refKey,k]
  have l:¬ d.toList.any (·.refKey)=true:=by rw[a];exact V4
  rw[NE l];exact congrArg some e
def ObjM.look{h:Heap}{x dx C:TD}{b:W1}(I:ObjM h x dx C b):∃a,W.InstAt h x (W.instObj C dx) C (some a)/\∀name,W.lookIn name a=some (b name):=
 let ⟨a,c,d⟩:=Gi I.ns
 ⟨a,⟨I.obj,rfl,rfl,c⟩,d⟩
section
variable {prog:Program}{w:World}{A:Around}{E:XV}{s:PP}{K:W.Frag}{x dx C f:TD}{mA:W1}{name:Str}{v:Q3}
def Sa{a:Bool}{Q:XV}(X:K.In s.heap)(I:ObjM s.heap x dx C mA)(c:W.plainGet K C name=true)(d:W.hasDictIn K C=true)(e:W.findIn K (.ref C) name=some none)(g:mA name=some v)(b:W.handedIn v=true)(h:Q v {s with toks:=s.toks+1 }) :
  wpAny (model prog w) A (getAttr (.ref x) name a) Q E s:=by
 obtain⟨j,J,i⟩:=I.look;exact W.get_value X J (W.plainGet_of c).1 (W.findObj_own d e rfl (by rw[i,g])) b h
def Kf{pl:Sem Bool}{Q:Q3×List Q3->PP->Prop}(X:K.In s.heap)(I:ObjM s.heap x dx C mA)(a:W.plainGet K C name=true)(b:W.findIn K (.ref C) name=some (some (.ref f)))(c:W.isFn K (.ref f)=true)(d:mA name=none)(h:Q (.ref f,[.ref x]) s) :
  wpAny (model prog w) A (getMethod (.ref x) name pl) Q E s:=by
 obtain⟨e,J,g⟩:=I.look;exact W.method_fn X J (W.plainGet_of a).1 (W.plainGet_of a).2 b (beq_iff_eq.mp c) (by show(W.lookIn name e).map (·.isSome)=some false;rw[g,d];rfl) h
def Sb{c:List Str}{Q:Unit->PP->Prop}(X:K.In s.heap)(I:ObjM s.heap x dx C mA)(hs:W.findIn K (.ref C) "__setattr__"=some (some (.builtin "object.__setattr__")))(k:W.plainOver K C=true)(l:W.takerIn K C name=some none)(m:W.hasDictIn K C=true)(n:PySem.Within mA c)(hsz:c.length<=sizeLine)(h:∀h',ObjM h' x dx C (λy=>if y=name then some v else mA y)->Heap.SameBut dx s.heap h'->Q () {s with heap:=h',toks:=s.toks+2 }) :
  wpAny (model prog w) A (setAttr (.ref x) name v) Q E s:=by
 obtain⟨z,J,B⟩:=I.look;refine W.set_plain X J hs (W.osa_open (s:={s with toks:=s.toks+1 }) (r:=none) X J k l λb=>?_);obtain⟨D,o,p⟩:=W.any_some m;have q:s.heap.get? x=some ⟨.ref C,some dx,.plain,#[]⟩:=I.obj;refine WP (WF (WP (WP (wpAny_loadPart q (WP (W.Looks.here (s:={s with toks:=s.toks+1 }) (W.looks_clsIn X o) ?_))))));rw[p];refine WF (a:=some dx) (WP (WF (WP ?_)));refine wpAny_nsSet1 (s:={s with toks:=s.toks+1 }) I.ns λh' d e=>?_;refine yE0 (d.count (PySem.Within.cons name v n)) (yE3 λF t u=>yA3 λg i j=>?_);refine WP (wpAny_lookBehind g (by rw[i];exact pastItsLine_dict (fT j (by rw[yK];omega))) ?_);exact WF (h _ ⟨(e.2 _ (Ne.symm I.ne)).trans I.obj,d,I.ne⟩ e)
def Kg{R:Result->PP->Prop}{vs:List Q3}{a:List (Str × Value)}(X:K.In s.heap)(c:W.makesIn K C=true)(e:W.findIn K (.ref C) "__init__"=some (some (.ref f)))(i:W.typeIn K (.ref f)=some (.type "function"))(h:codeAny (model prog w) (A.under (.builtin "type.__call__" ⟨.ref C::vs,a⟩)) (.call (.ref f) ⟨.ref (s.heap.objs.size+1)::vs,a⟩) (W.InitBack (s.heap.objs.size+1) R)
   {s with heap:=(s.heap.push W.emptyDict).push (W.instObj C s.heap.objs.size) }) :
  codeAny (model prog w) A (.call (.ref C) ⟨vs,a⟩) R s:=by
 obtain⟨j,g,d,t,os⟩:=s;exact W.make_core (W.makes_of X c) (W.looks_findIn X e) (λb=>W.bind_fn X b i) (.inl rfl) h
end
def bK(f:Str)(v:V):List (Str×V)->List (Str×V)
 | []=>[(f,v)]
 | (g,x)::r=>if g=f then (g,v)::r else (g,x)::bK f v r
theorem qK(f g:Str)(v:V):∀fs:List (Str×V),(bK f v fs).lookup g=if g=f then some v else fs.lookup g
 | []=>by
  show List.lookup g [(f,v)]=_;by_cases h:g=f
  ·have a:(g==f)=true:=beq_iff_eq.mpr h;simp only [List.lookup,a,O8 h]
  ·have a:(g==f)=false:=beq_eq_false_iff_ne.mpr h;simp only [List.lookup,a,NE h]
 | (k,x)::r=>by
  have c:=qK f g v r;rw[show bK f v ((k,x)::r)=(if k=f then (k,v)::r else (k,x)::bK f v r) from rfl];by_cases b:k=f
  ·rw[O8 b];by_cases h:g=k
   ·have a:(g==k)=true:=beq_iff_eq.mpr h;simp only [List.lookup,a,O8 (h.trans b)]
   ·have a:(g==k)=false:=beq_eq_false_iff_ne.mpr h;simp only [List.lookup,a,NE (λe:g=f=>h (e.trans b.symm))]
  ·rw[NE b];by_cases h:g=k
   ·have a:(g==k)=true:=beq_iff_eq.mpr h;simp only [List.lookup,a,NE (λe:g=f=>b (h.symm.trans e))]
   ·have a:(g==k)=false:=beq_eq_false_iff_ne.mpr h;simp only [List.lookup,a];exact c
def pB(f:Str)(v:V):∀fs:List (Str×V),f∈(bK f v fs).map (·.1)/\∀g,g∈fs.map (·.1)->g∈(bK f v fs).map (·.1)
 | []=>⟨by simp[bK],λg h=>by simp at h⟩
 | (k,x)::r=>by
  obtain⟨b,c⟩:=pB f v r;rw[show bK f v ((k,x)::r)=(if k=f then (k,v)::r else (k,x)::bK f v r) from rfl];by_cases a:k=f
  ·rw[O8 a];subst a;exact⟨Zs,λg h=>by simpa using h⟩
  ·rw[NE a];refine⟨?_,λg h=>?_⟩
   ·rw[map_cons];exact fR _ b
   ·rw[map_cons]at h ⊢;rcases mem_cons.mp h with e|e
    ·exact mem_cons.mpr (.inl e)
    ·exact fR _ (c g e)
theorem qL(f:Str)(v:V):∀fs:List (Str×V),(bK f v fs).length<=fs.length+1
 | []=>by simp[bK]
 | (k,x)::r=>by
  have b:=qL f v r;rw[show bK f v ((k,x)::r)=(if k=f then (k,v)::r else (k,x)::bK f v r) from rfl];by_cases a:k=f
  ·rw[O8 a,yK,yK];omega
  ·rw[NE a,yK,yK];omega
def RelO.some_of{v:V}{o:Option Q3}(r:RelO (some v) o):∃u,o=some u/\RelV v u:=by
 cases o with
 | none=>exact(show False from r).elim
 | some u=>exact⟨u,rfl,r⟩
def RelO.none_of{o:Option Q3}(r:RelO none o):o=none:=by
 cases o with
 | none=>rfl
 | some u=>exact(show False from r).elim
def Gj{v:V}{u:Q3}(r:RelV v u):W.handedIn u=true:=by
 cases v with
 | non=>cases(show u=Value.none from r);rfl
 | bl b=>cases(show u=Value.bool b from r);rfl
 | int i=>obtain⟨t,e⟩:=(show ∃t,u=Value.int i t from r);cases e;rfl
 | str x=>obtain⟨t,e⟩:=(show ∃t,u=Value.str x t from r);cases e;rfl
 | byt b=>obtain⟨t,e⟩:=(show ∃t,u=Value.bytes b t from r);cases e;rfl
 | flt b=>obtain⟨t,e⟩:=(show ∃t,u=Value.float b t from r);cases e;rfl
 | ref a=>cases(show u=Value.ref a from r);rfl
 | ty n=>cases(show u=Value.type n from r);rfl
section
variable {P:Program}{w:World}{H H':Hp}{h h':Heap}{a C dx:TD}{fs fs':List (Str×V)}
def rG(c:HOk P w H h)(e:H a=some (.ins C dx fs)):∃b,ObjM h a dx C b/\(∀f,RelO (fs.lookup f) (b f))/\PySem.Within b (fs.map (·.1))/\fs.length<=1000/\H dx=some (.own a):=by
 refine yE0 (show ObjOk P w H h a (.ins C dx fs) from c a _ e) (yA5 λd z ne g=>yE1 λb=>yA3 λn r q=>?_);exact⟨b,⟨g,n,ne⟩,r,q,z,d⟩
end
structure Cls(K:W.Frag)(C:TD):Prop where
 pg:W.plainGet K C Str.empty=true
 hd:W.hasDictIn K C=true
 po:W.plainOver K C=true
 sa:W.findIn K (.ref C) "__setattr__"=some (some (.builtin "object.__setattr__"))
def Cls.get{K:W.Frag}{C:TD}(c:Cls K C)(f:Str):W.plainGet K C f=true:=c.pg
def NoAttr(K:W.Frag)(C:TD)(f:Str):Prop:=W.findIn K (.ref C) f=some none
def NoAttr.taker{K:W.Frag}{C:TD}{f:Str}(n:NoAttr K C f):W.takerIn K C f=some none:=by
 unfold W.takerIn;rw[show W.findIn K (.ref C) f=some none from n];rfl
structure Kh(K:W.Frag)(C:TD)(m:Str)(f:TD):Prop where
 at_:W.findIn K (.ref C) m=some (some (.ref f))
 fn:W.isFn K (.ref f)=true
 kp:W.keepIn K (.ref f)=true
section
variable {X:Cx}{pins:ZB}{σ:St}{H:Hp}{s:PP}{a C dx:TD}{fs:List (Str×V)}{f:Str}{v:V}{A:Around}{E:XV}
def Bb{b:Bool}{Q:XV}(I:Inv X pins σ H s)(e:H a=some (.ins C dx fs))(c:Cls X.K C)(n:NoAttr X.K C f)(l:fs.lookup f=some v)(h:∀u d,Inv X pins σ H d->RelV v u->Q u d):wpAny (model X.prog X.w) A (getAttr (.ref a) f b) Q E s:=by
 refine yE0 (rG I.hok e) (yE1 λi=>yA5 λO r _ _ _=>?_);obtain⟨u,j,g⟩:=RelO.some_of (v:=v) (o:=i f) (by rw[<- l];exact r f);exact Sa I.kIn O (c.get f) c.hd n j (Gj g) (h u _ (I.tok _) g)
def mL{m:Str}{g:TD}{pl:Sem Bool}{Q:Q3×List Q3->PP->Prop}(I:Inv X pins σ H s)(e:H a=some (.ins C dx fs))(c:Cls X.K C)(k:Kh X.K C m g)(l:fs.lookup m=none)(h:Q (.ref g,[.ref a]) s):wpAny (model X.prog X.w) A (getMethod (.ref a) m pl) Q E s:=by
 refine yE0 (rG I.hok e) (yE1 λb=>yA5 λO r _ _ _=>?_);have d:b m=none:=RelO.none_of (by rw[<- l];exact r m);exact Kf I.kIn O (c.get m) k.at_ k.fn d h
def Bc{y:V}{u:Q3}{Q:Unit->PP->Prop}(I:Inv X pins σ H s)(e:H a=some (.ins C dx fs))(c:Cls X.K C)(n:NoAttr X.K C f)(G:fs.length<1000)(m:RelV y u)(h:∀i,Inv X pins σ (aH H a (.ins C dx (bK f y fs))) i->Q () i):wpAny (model X.prog X.w) A (setAttr (.ref a) f u) Q E s:=by
 refine yE0 (rG I.hok e) (yE1 λj=>yA5 λO r k _ l=>?_);have p:(fs.map (·.1)).length<=sizeLine:=by rw[aR,sizeLine_eq];omega
 refine Sb I.kIn O c.sa c.po n.taker c.hd k p λt d w=>h _ ?_;have hd:∃o,t.get? dx=some o:=let ⟨o,_,_,B,_⟩:=d.ns;⟨o,B⟩;refine I.write (x:=a) (e:=dx) (by rw[e];exact True.intro) (.inr l) (λb q D z=>(w.2 b D).trans z) hd ?_;refine⟨by rw[aB O.ne];exact l,?_,O.ne,d.obj,_,d.ns,λg=>?_,λg F=>?_⟩
 ·have:=qL f y fs;omega
 ·show RelO ((bK f y fs).lookup g) (if g=f then some u else j g);rw[qK];by_cases q:g=f
  ·rw[O8 q,O8 q];exact m
  ·rw[NE q,NE q];exact r g
 ·by_cases q:g=f
  ·rw[q];exact(pB f y fs).1
  ·refine(pB f y fs).2 g (k g λz=>F ?_);show(if g=f then some u else j g)=none;rw[NE q];exact z
def Inv.made(I:Inv X pins σ H s):Inv X pins σ (aH (aH H s.heap.objs.size (.own (s.heap.objs.size+1))) (s.heap.objs.size+1) (.ins C s.heap.objs.size []))
  {s with heap:=(s.heap.push W.emptyDict).push (W.instObj C s.heap.objs.size) }:=by
 have c:(s.heap.push W.emptyDict).get? s.heap.objs.size=some W.emptyDict:=TW s.heap rfl;have d:((s.heap.push W.emptyDict).push (W.instObj C s.heap.objs.size)).get? (s.heap.objs.size+1)=some (W.instObj C s.heap.objs.size):=by
  have:=TW (s.heap.push W.emptyDict) (o:=W.instObj C s.heap.objs.size) rfl
  rwa [Heap.size_push]at this
 have g:(s.heap.push W.emptyDict).Ns s.heap.objs.size (λ_=>none):=⟨W.emptyDict,#[],_,c,rfl,(λe h=>IN h Zs),λ_=>rfl⟩;have i:=I.laid (a:=s.heap.objs.size) (o:=.own (s.heap.objs.size+1)) (h':=s.heap.push W.emptyDict) (t':=s.toks) (λb u q=>iD _ q) (bA _) ⟨_,c⟩;refine i.laid (a:=s.heap.objs.size+1) (o:=.ins C s.heap.objs.size []) (t':=s.toks) (λb u q=>iD _ q) (le_of_eq (Heap.size_push _ _)) ?_;have ne:s.heap.objs.size≠s.heap.objs.size+1:=ne_of_lt (lt_succ_self _);refine⟨by rw[aB ne,aA],zero_le _,ne,d,λ_=>none,(Heap.Ns1.of_empty g).at λo q=>iD _ q,λ_=>True.intro,λy j=>IN rfl j⟩
def Sc{prog:Program}{w:World}{env:Env}{e:Expr}{f:Str}{pos:Pos}{s:PP}{Q:XV}(c:attributeBase e f env (eval e env)=eval e env)(h:wpAny (model prog w) A (eval e env) (λo b=>wpAny (model prog w) A (getAttr o f true) Q E b) E s):wpAny (model prog w) A (eval (.Attribute e f pos) env) Q E s:=
 Attribute_any_ h (by rw[arm_eval_Attribute,c])
end
section
variable {X:Cx}{pins:ZB}{σ:St}{H:Hp}{s:PP}{A:Around}{E:XV}{Q:XV}{c:Q3}{b:Bool}
inductive nG(K:W.Frag)(H:Hp):V->Q3->Prop where
 | non:nG K H .non (.type "NoneType")
 | bl (x:Bool):nG K H (.bl x) (.type "bool")
 | int (i:Int):nG K H (.int i) (.type "int")
 | str (x:Str):nG K H (.str x) (.type "str")
 | flt (x:UInt64):nG K H (.flt x) (.type "float")
 | lst {a:TD}{xs:List V} (e:H a=some (.lst xs)):nG K H (.ref a) (.type "list")
 | frz {a:TD}{o:Obj}{xs:List V} (e:H a=some (.frz o (.lst xs))):nG K H (.ref a) (.type "list")
 | tup {a:TD}{xs:List V} (e:H a=some (.tup xs)):nG K H (.ref a) (.type "tuple")
 | dK {a:TD}{kvs:List (aS×V)} (e:H a=some (.dK kvs)):nG K H (.ref a) (.type "dict")
 | dT {a:TD}{kvs:List (List aS×V)} (e:H a=some (.dT kvs)):nG K H (.ref a) (.type "dict")
 | ins {a C dx:TD}{fs:List (Str×V)} (e:H a=some (.ins C dx fs)) (cl:Cls K C) (ha:W.findIn K (.ref C) "__class__"=some (some (.builtin "object.__class__")))
   (hn:W.specialIn K (.builtin "object.__class__") "__get__"=some (some (.builtin "getset_descriptor.__get__"))) (htk:W.takesIn K (.builtin "object.__class__")=some true)
   (hm:W.mroIn K C (.type "object")=some true):nG K H (.ref a) (.ref C)
def Gk{x:V}{u t:Q3}(I:Inv X pins σ H s)(d:RelV x u)(ty:nG X.K H x t)(e:W.kitOne X.K t c=some b)(h:∀tk,Q (.bool b) {s with toks:=tk }) :
  wpAny (model X.prog X.w) A (call (.builtin "isinstance") [u,c]) Q E s:=by
 cases ty with
 | non=>cases(show u=Value.none from d);exact W.kia_one W.kitx_none I.kIn True.intro e nofun h
 | bl y=>cases(show u=Value.bool y from d);exact W.kia_one W.kitx_bool I.kIn True.intro e nofun h
 | int i=>obtain⟨t,q⟩:=(show ∃t,u=Value.int i t from d);cases q;exact W.kia_one W.kitx_int I.kIn True.intro e nofun h
 | str y=>obtain⟨t,q⟩:=(show ∃t,u=Value.str y t from d);cases q;exact W.kia_one W.kitx_str I.kIn True.intro e nofun h
 | flt y=>obtain⟨t,q⟩:=(show ∃t,u=Value.float y t from d);cases q;exact W.kia_one W.kitx_float I.kIn True.intro e nofun h
 | @lst a j f=>
  cases(show u=Value.ref a from d);obtain⟨_,_,n,_,g⟩:=(show ObjOk X.prog X.w H s.heap a (.lst j) from I.hok a _ f);exact W.kia_one W.kitx_list I.kIn ⟨_,g,rfl⟩ e nofun h
 | @frz a v j f=>
  cases(show u=Value.ref a from d);obtain⟨_,_,_,n,_,g⟩:=(show ObjOk X.prog X.w H s.heap a (.frz v (.lst j)) from I.hok a _ f);exact W.kia_one W.kitx_list I.kIn ⟨_,g,rfl⟩ e nofun h
 | @tup a j f=>
  cases(show u=Value.ref a from d);obtain⟨_,_,_,p⟩:=(show ObjOk X.prog X.w H s.heap a (.tup j) from I.hok a _ f);obtain⟨o,g,k,_⟩:=p;exact W.kia_one W.kitx_tuple I.kIn ⟨o,g,k⟩ e nofun h
 | @dK a l f=>
  cases(show u=Value.ref a from d);obtain⟨_,_,vs,_,p⟩:=(show ObjOk X.prog X.w H s.heap a (.dK l) from I.hok a _ f);revert p;refine yE3 λo w z=>yA3 λg k _=>?_;exact W.kia_one W.kitx_dict I.kIn ⟨o,g,k.1⟩ e nofun h
 | @dT a l f=>
  cases(show u=Value.ref a from d);refine yE0 (show ObjOk X.prog X.w H s.heap a (.dT l) from I.hok a _ f) (yA3 λ_ _=>yE1 λj=>yA2 λ_=>yE3 λo w z=>yA3 λg k _=>?_);exact W.kia_one W.kitx_dict I.kIn ⟨o,g,k.1⟩ e nofun h
 | @ins a C G fs f m B D r F=>
  cases(show u=Value.ref a from d);obtain⟨K,O,_⟩:=rG I.hok f;obtain⟨L,J,_⟩:=O.look;exact W.kia_one (W.kitx_own (m.get _) m.hd B D r F) I.kIn J e nofun h
end
structure Room(k:Nat)(A:Around):Prop where
 hd:A.handled=none
 dp:A.depth+3*k+5<recursionLimit
 un:A.units+16*k+200<cLine
def Room.mono{j k:Nat}{A:Around}(r:Room k A)(h:j<=k):Room j A:=⟨r.hd,by have:=r.dp;omega,by have:=r.un;omega⟩
def Room.deeper{k:Nat}{A:Around}(r:Room (k+1) A)(env:Env):Room k (A.deeper env):=
 ⟨r.hd,by have:=r.dp;show A.depth+1+3*k+5<_;omega,by have:=r.un;show A.units+3+16*k+200<_;omega⟩
def Bd{A:Around}{C:TD}{us:List Q3}{a:List (Str×Q3)}:(A.under (.builtin "type.__call__" ⟨.ref C::us,a⟩)).depth=A.depth+1:=by
 first|rfl|simp[Around.under,Code.weight,Code.isCreation,Code.isGuard,Code.isCaller,Code.frames,Code.isFrame,guardIds]
def Be{A:Around}{C:TD}{us:List Q3}{a:List (Str×Q3)}:(A.under (.builtin "type.__call__" ⟨.ref C::us,a⟩)).units=A.units+1:=by
 first|rfl|simp[Around.under,Code.cUnits,Code.frames,Code.isFrame]
def Room.make{k:Nat}{A:Around}(r:Room (k+1) A)(C:TD)(us:List Q3)(a:List (Str×Q3)):Room k (A.under (.builtin "type.__call__" ⟨.ref C::us,a⟩)):=
 ⟨r.hd,by have:=r.dp;rw[Bd];omega,by have:=r.un;rw[Be];omega⟩
def Room.depth{k:Nat}{A:Around}(r:Room k A):A.depth<recursionLimit:=by have:=r.dp;omega
def Room.units{k:Nat}{A:Around}(r:Room k A):A.units+64<cLine:=by have:=r.un;omega
def Room.units0{k:Nat}{A:Around}(r:Room k A):A.units<cLine:=by have:=r.un;omega
def yP:TA:=λ_ H Q=>Q [] H
def qM(b:TE)(c:TA):TA:=λa H Q=>b a H λx d=>c a d λe f=>Q (x::e) f
section
variable {X:Cx}{e:Expr}{es:List Expr}{te:TE}{t:TA}{pos:Pos}
def Bf:PA X [] yP:=λ_ _ _ _ H Q I h=>Calls.spliced_nil ⟨[],H,I,.nil,h⟩
def wQ(c:PE X e te)(d:PA X es t)(hs:starEach (e::es) X.env=(false,eval e X.env)::starEach es X.env:=by rfl):PA X (e::es) (qM te t):=by
 intro pos a s b H Q I h;rw[hs];show wpAny _ _ (spliced ((false,eval e X.env)::backTo pos (starEach es X.env))) _ _ s;refine Calls.spliced_cons (bN (c a s b H _ I h) ?_);refine λu f=>yE2 λx g=>yA3 λi j k=>?_;exact bN (d pos a f b g _ i k) λq r ⟨l,m,n,o,p⟩=>⟨x::l,m,n,.cons j o,p⟩
def aBe(t:TA):TE:=λc H Q=>t c H λa b=>a.length<=sizeLine/\∀p,b p=none->Q (.ref p) (aH b p (.tup a))
def aBf(t:TA):TE:=λc H Q=>t c H λa b=>a.length<=sizeLine/\∀p,b p=none->Q (.ref p) (aH b p (.lst a))
def Yf{g}(h:PA X es t):PE X (.Tuple es g pos) (aBe t):=by
 intro f s m H Q I i;refine wpAny_Tuple_spliced (bN (h pos f s m H _ I i) λj a ⟨k,c,d,r,z,q⟩=>⟨by rw[<- r.length];exact z,?_⟩);have l:c a.heap.objs.size=none:=d.hok.fresh (bA _);refine⟨.ref a.heap.objs.size,aH c a.heap.objs.size (.tup k),d.laid (t':=a.toks) (λb u e=>iD _ e) (bA _) ?_,rfl,q _ l⟩;exact⟨z,j,r,⟨_,TW _ rfl,rfl,_,rfl⟩⟩
def Yg(h:PA X es t):PE X (.List es pos) (aBf t):=by
 intro f s l H Q I g;refine wpAny_List_spliced (bN (h pos f s l H _ I g) λi a ⟨j,c,d,r,z,q⟩=>⟨by rw[<- r.length];exact z,?_⟩);have k:c a.heap.objs.size=none:=d.hok.fresh (bA _);refine⟨.ref a.heap.objs.size,aH c a.heap.objs.size (.lst j),d.laid (t':=a.toks) (λb u e=>iD _ e) (bA _) ?_,rfl,q _ k⟩;exact⟨z,i,0,r,TW _ rfl⟩
end
abbrev Sp:=List V->Hp->VK->XK->Prop
abbrev Ki:=List Env->Hp->PP->XK->Q3->PP->Prop
structure Env0(P:Program)(w:World)(K:W.Frag)(mg:W1)(base:Heap)(A:Around)(outer:List Env)(s:PP)(H:Hp):Prop where
 frames:A.frames=some outer
 mod:Mod K mg base
 bs:∀b o,base.get? b=some o->s.heap.get? b=some o/\H b=none
 bsz:base.objs.size<=s.heap.objs.size
 funs:s.heap.FunFrames base outer
 frf:∀b∈Jt outer,H b=none
 hok:HOk P w H s.heap
 bare:AllBare s.gens
def CE(c:List Env)(P:Program)(w:World)(H:Hp)(s:PP)(Q:VK)(u:Q3)(a:PP):Prop:=
 ∃v b,a.os=s.os/\AllBare a.gens/\Un (Jt c) [] H b s.heap a.heap/\HOk P w b a.heap/\RelV v u/\Q v b
def CR(CX:Ki)(a:List Env)(P:Program)(w:World)(H:Hp)(s:PP)(Q:VK)(E:XK)(r:Result)(b:PP):Prop:=
 match r with
 | .ok (.ret u)=>CE a P w H s Q u b
 | .ok _=>False
 | .error e=>CX a H s E e b
structure FnOk(P:Program)(w:World)(K:W.Frag)(mg:W1)(base:Heap)(CX:Ki)(k:Nat)(f:TD)(fd:FuncData)(ps:List Str)(sp:Sp):Prop where
 len:∀vs H Q E,sp vs H Q E->vs.length=ps.length
 run:∀(A:Around)(outer:List Env)(s:PP)(H:Hp)(args:Args)(us:List Q3)(vs:List V)(Q:VK)(E:XK),Room k A->Env0 P w K mg base A outer s H->BindsTo s fd args (ps.zip us)->Vals vs us->sp vs H Q E →
  codeAny (model P w) A (.call (.ref f) args) (CR CX outer P w H s Q E) s
def FnOk.imp{P:Program}{w:World}{K:W.Frag}{mg:W1}{base:Heap}{CX:Ki}{k:Nat}{f:TD}{a:FuncData}{ps:List Str}{sp b:Sp}(F:FnOk P w K mg base CX k f a ps sp)(h:∀vs H Q E,b vs H Q E->sp vs H Q E):FnOk P w K mg base CX k f a ps b:=
 ⟨λvs H Q E q=>F.len vs H Q E (h _ _ _ _ q),λA c s H d e vs Q E g i j l m=>F.run A c s H d e vs Q E g i j l (h _ _ _ _ m)⟩
def Env0.make{P:Program}{w:World}{K:W.Frag}{mg:W1}{base:Heap}{A:Around}{a:List Env}{s:PP}{H:Hp}(e:Env0 P w K mg base A a s H)(C:TD)(us:List Q3)(b:List (Str×Q3)) :
  Env0 P w K mg base (A.under (.builtin "type.__call__" ⟨.ref C::us,b⟩)) a s H:=⟨by first|exact e.frames|(simpa [Around.under,Code.envs,Code.isFrame,pushEnvs]using e.frames),e.mod,e.bs,e.bsz,e.funs,e.frf,e.hok,e.bare⟩
section
variable {X:Cx}{pins:ZB}{σ:St}{H:Hp}{s s':PP}
def Inv.env0(I:Inv X pins σ H s):Env0 X.prog X.w X.K X.mg X.base X.A X.stack s H:=
 ⟨I.ok.frames,I.ok.mod,I.bs,fT I.ok.bsz I.sz,I.stack,I.stkFree,I.hok,I.bare⟩
def Inv.after{Q:VK}{u:Q3}(I:Inv X pins σ H s)(h:CE X.stack X.prog X.w H s Q u s'):EP X pins σ Q u s':=by
 revert h;refine yE2 λv f=>yA6 λos a un c r q=>?_;obtain⟨i,g,d,t,e⟩:=s';obtain rfl:e=s.os:=os;exact⟨v,f,I.call (h':=i) (g':=g) (d':=d) (t':=t) (ch:=[]) un c a (λb z=>IN z Zs),r,q⟩
end
def aBg(sp:Sp)(dvs:List V)(E:XK)(t:TA):TE:=λb H Q=>t b H λvs a=>sp (vs++dvs) a Q E
def Dl(C:TD)(sp:Sp)(dvs:List V)(E:XK)(t:TA):TE:=λd H Q=>t d H λvs b=>∀x a,b x=none->b a=none->a≠x →
 sp (.ref x::(vs++dvs)) (aH (aH b a (.own x)) x (.ins C a [])) (λv c=>v=.non/\Q (.ref x) c) E
def Binds(K:W.Frag)(b:FuncData)(ps:List Str)(ds:List Q3):Prop:=
 ∀(s:PP)(a:List Q3),K.In s.heap->(a++ds).length=ps.length->BindsTo s b ⟨a,[]⟩ (ps.zip (a++ds))
def Binds.all{K:W.Frag}{a:FuncData}{ps:List Str}(h:∀us:List Q3,us.length=ps.length->bindArgs a ⟨us,[]⟩=pure (ps.zip us)):Binds K a ps []:=λs us _ b=>by
 rw[append_nil]at b ⊢;exact .of_eq (h us b)
def pC(CX:Ki)(X:Cx)(E:XK):Prop:=∀(b:ZB)(c:St)(H:Hp)(s:PP)(e:Q3)(a:PP),Inv X b c H s->CX X.stack H s E e a->X.xe e a
section
variable {X:Cx}{CX:Ki}{k:Nat}{f C:TD}{fd:FuncData}{ps:List Str}{sp:Sp}{dvs:List V}{ds:List Q3}{E:XK}{x m:Str}{p pos apos:Pos}{e o:Expr}{es:List Expr}{ta:TE}{t:TA}
def wR{b:ZB}{c:St}{H:Hp}{s:PP}{Q:VK}{us:List Q3}{vs:List V}(F:FnOk X.prog X.w X.K X.mg X.base CX k f fd ps sp)(g:Room k X.A)(i:Binds X.K fd ps ds)(hd:Vals dvs ds)(j:pC CX X E)(I:Inv X b c H s)(r:Vals vs us)(h:sp (vs++dvs) H Q E):wpAny (model X.prog X.w) X.A (call (.ref f) us) (EP X b c Q) X.xe s:=by
 have d:Vals (vs++dvs) (us++ds):=r.append hd;have l:(us++ds).length=ps.length:=by rw[<- d.length];exact F.len _ _ _ _ h
 refine wpAny_call (codeAny_mono (F.run X.A X.stack s H ⟨us,[]⟩ (us++ds) (vs++dvs) Q E g I.env0 (i s us I.kIn l) d h) λr n a=>?_)
 cases r with
 | error e=>exact j b c H s e n I a
 | ok q=>
  cases q with
  | ret u=>exact I.after a
  | next=>exact False.elim a
  | brk=>exact False.elim a
  | cont=>exact False.elim a
def Sd(F:FnOk X.prog X.w X.K X.mg X.base CX k f fd ps sp)(c:Room k X.A)(d:Gl X x)(g:X.mg x=some (.ref f))(i:W.keepIn X.K (.ref f)=true)(j:Binds X.K fd ps ds)(hd:Vals dvs ds)(l:pC CX X E)(n:PA X (e::es) t)(u:(x==("__debug__":Str))=false:=by decide)(v:starEach (e::es) X.env=(false,eval e X.env)::starEach es X.env:=by rfl)(w:(backTo pos (starEach es X.env)).any (·.1)=false:=by rfl) :
  PE X (.Call (.Name x p) (e::es) [] pos) (aBg sp dvs E t):=by
 intro b s y H Q I h;refine wpAny_Call_Name_kw (rF I d g ?_ u);refine W.callWith_K (h₀:=X.base) I.ok.mod.kin i (bN (n pos b s y H _ I h) λz A ⟨vs,B,a,r,q⟩=>⟨a.kIn,?_⟩) v w;exact wR F c j hd l a r q
structure Mk(K:W.Frag)(C f:TD):Prop where
 makes:W.makesIn K C=true
 init:W.findIn K (.ref C) "__init__"=some (some (.ref f))
 fn:W.isFn K (.ref f)=true
 kp:W.keepIn K (.ref C)=true
def yQ{c:ZB}{d:St}{H:Hp}{s:PP}{Q:VK}{us:List Q3}{vs:List V}(M:Mk X.K C f)(F:FnOk X.prog X.w X.K X.mg X.base CX k f fd ps sp)(j:Room (k+1) X.A)(l:Binds X.K fd ps ds)(hd:Vals dvs ds)(n:pC CX X E)(I:Inv X c d H s)(r:Vals vs us)(h:∀x dx,H x=none->H dx=none->dx≠x->sp (.ref x::(vs++dvs)) (aH (aH H dx (.own x)) x (.ins C dx [])) (λv H2=>v=.non/\Q (.ref x) H2) E) :
  wpAny (model X.prog X.w) X.A (call (.ref C) us) (EP X c d Q) X.xe s:=by
 have g:=h (s.heap.objs.size+1) s.heap.objs.size (I.hok.fresh (le_succ _)) (I.hok.fresh (bA _)) (ne_of_lt (lt_succ_self _));have b:=Inv.made (C:=C) I;have i:Vals (V.ref (s.heap.objs.size+1)::(vs++dvs)) (Value.ref (s.heap.objs.size+1)::(us++ds)):=.cons rfl (r.append hd);have q:(Value.ref (s.heap.objs.size+1)::us++ds).length=ps.length:=by
  have e:=i.length;rw[F.len _ _ _ _ g]at e;exact e.symm
 refine wpAny_call (Kg (f:=f) I.kIn M.makes M.init (beq_iff_eq.mp M.fn) (codeAny_mono (F.run _ X.stack _ _ ⟨Value.ref (s.heap.objs.size+1)::us,[]⟩ (Value.ref (s.heap.objs.size+1)::(us++ds)) _ _ E (j.make C us [])
  (b.env0.make C us []) (l _ (Value.ref (s.heap.objs.size+1)::us) b.kIn q) i g) λr w a=>?_))
 cases r with
 | error e=>exact n c d _ _ e w b a
 | ok y=>
  cases y with
  | ret u=>
   refine yE0 (b.after a) (yE2 λv z=>yA4 λA B D G=>?_);subst D;exact⟨B,⟨V.ref (s.heap.objs.size+1),z,A,rfl,G⟩⟩
  | next=>exact False.elim a
  | brk=>exact False.elim a
  | cont=>exact False.elim a
def Se(M:Mk X.K C f)(F:FnOk X.prog X.w X.K X.mg X.base CX k f fd ps sp)(c:Room (k+1) X.A)(d:Gl X x)(g:X.mg x=some (.ref C))(i:Binds X.K fd ps ds)(hd:Vals dvs ds)(j:pC CX X E)(l:PA X (e::es) t)(n:(x==("__debug__":Str))=false:=by decide)(u:starEach (e::es) X.env=(false,eval e X.env)::starEach es X.env:=by rfl)(v:(backTo pos (starEach es X.env)).any (·.1)=false:=by rfl) :
  PE X (.Call (.Name x p) (e::es) [] pos) (Dl C sp dvs E t):=by
 intro b s w H Q I h;refine wpAny_Call_Name_kw (rF I d g ?_ n);refine W.callWith_K (h₀:=X.base) I.ok.mod.kin M.kp (bN (l pos b s w H _ I h) λy z ⟨vs,A,a,r,q⟩=>⟨a.kIn,?_⟩) u v;exact yQ M F c i hd j a r q
def Kj(M:Mk X.K C f)(F:FnOk X.prog X.w X.K X.mg X.base CX k f fd ps sp)(a:Room (k+1) X.A)(b:Gl X x)(c:X.mg x=some (.ref C))(d:Binds X.K fd ps ds)(hd:Vals dvs ds)(g:pC CX X E)(i:(x==("__debug__":Str))=false:=by decide):PE X (.Call (.Name x p) [] [] pos) (Dl C sp dvs E yP):=by
 intro j s l H Q I h;refine wpAny_Call_Name_kw (rF I b c ?_ i);exact W.callWith_K0 I.kIn M.kp (yQ (us:=[]) M F a d hd g I .nil h)
end
structure aI(N P:List Str)(sc:Scope):Prop where
 kind:sc.kind=.function
 co:sc.isCoroutine=false
 gen:sc.isGenerator=false
 nd:N.Nodup
 pre:N.take P.length=P
 par:∀x∈P,sc.names.lookup x=some .local∨sc.names.lookup x=some .cell
 nofree:∀y∈sc.names,y.2≠.free
theorem uY{kindOf:Str->Option NameKind}{x:Str}:∀ {binds:List (Str×Q3)}{m:W1},(∀v,(x,v)∉binds)->bindL kindOf binds m x=m x
 | [],_,_=>rfl
 | (n,v)::r,m,h=>by
  unfold bindL;rw[uY λw a=>h w (fR _ a)];split
  ·have:x≠n:=by rintro rfl;exact h v fY
   simp[this]
  ·rfl
theorem uZ{kindOf:Str->Option NameKind}{x:Str}:∀ {binds:List (Str×Q3)}{m:W1},(∀v,(x,v)∉binds)->bindC kindOf binds m x=m x
 | [],_,_=>rfl
 | (n,v)::r,m,h=>by
  unfold bindC;rw[uZ λw a=>h w (fR _ a)];split
  ·rfl
  ·have:x≠n:=by rintro rfl;exact h v fY
   simp[this]
theorem vA{kindOf:Str->Option NameKind}{x:Str}{v:Q3}:∀ {P:List Str}{vs:List Q3}{i:Nat}{m:W1},P.Nodup->P[i]?=some x->vs[i]?=some v->kindOf x=some .local →
  bindL kindOf (P.zip vs) m x=some v
 | [],_,_,_,_,h,_,_=>by simp at h
 | _::_,[],_,_,_,_,h,_=>by simp at h
 | p::P,w::vs,0,m,c,a,b,d=>by
  simp at a b;subst a;subst b;show bindL kindOf ((p,w)::P.zip vs) m p=_;unfold bindL;rw[uY λv e=>(nodup_cons.mp c).1 (of_mem_zip e).1,O8 d];simp
 | p::P,w::vs,i+1,m,c,a,b,d=>by
  show bindL kindOf ((p,w)::P.zip vs) m x=_;unfold bindL;exact vA (i:=i) (nodup_cons.mp c).2 (by simpa using a) (by simpa using b) d
theorem vB{kindOf:Str->Option NameKind}{x:Str}{v:Q3}:∀ {P:List Str}{vs:List Q3}{i:Nat}{m:W1},P.Nodup->P[i]?=some x->vs[i]?=some v->kindOf x≠some .local →
  bindC kindOf (P.zip vs) m x=some v
 | [],_,_,_,_,h,_,_=>by simp at h
 | _::_,[],_,_,_,_,h,_=>by simp at h
 | p::P,w::vs,0,m,c,a,b,d=>by
  simp at a b;subst a;subst b;show bindC kindOf ((p,w)::P.zip vs) m p=_;unfold bindC;rw[uZ λv e=>(nodup_cons.mp c).1 (of_mem_zip e).1,NE d];simp
 | p::P,w::vs,i+1,m,c,a,b,d=>by
  show bindC kindOf ((p,w)::P.zip vs) m x=_;unfold bindC;exact vB (i:=i) (nodup_cons.mp c).2 (by simpa using a) (by simpa using b) d
def start(N:List Str)(vs:List V):St:=vs.map some++List.replicate (N.length-vs.length) none
def mM(CX:Ki)(P:Program)(w:World)(K:W.Frag)(mg:W1)(base:Heap)(N:List Str)(b:Str)(a:Scope)(f:TD)(c:Q3)(A:Around)(outer:List Env)(s:PP)(H:Hp)(E:XK):Cx where
 prog:=P
 w:=w
 K:=K
 mg:=mg
 base:=base
 A:=A.deeper (envOfC b a s.heap.objs.size f c)
 N:=N
 s₀:=s
 H₀:=H
 env:=envOfC b a s.heap.objs.size f c
 outer:=outer
 stack:=envOfC b a s.heap.objs.size f c::outer
 ex:=[]
 calm:=true
 fn:=λ_=>true
 pn:=[]
 xe:=λe g=>wpAny (model P w) (A.deeper (envOfC b a s.heap.objs.size f c)) (leaving (envOfC b a s.heap.objs.size f c) e) (λ_ d=>CX outer H s E e d) (λh d=>CX outer H s E h d) g
def yR{sc:Scope}{n:Nat}{x:Str}(h:sc.names.lookup x=some .cell):∃c,(cellsFrom n sc.names []).lookup x=some c:=by
 have q:=W.cellsFrom_some sc.names n [] (.inl h);exact Option.isSome_iff_exists.mp q
def Gm{CX:Ki}{P:Program}{w:World}{K:W.Frag}{mg:W1}{base:Heap}{N ps:List Str}{m:Str}{g:Scope}{f:TD}{o:Q3}{A:Around}{C:List Env}{s F:PP}{H:Hp}{E:XK}{us:List Q3}{vs:List V}(S:aI N ps g)(hd:A.handled=none)(e0:Env0 P w K mg base A C s H)(O:vs.length=ps.length)(r:Vals vs us)(x:InCallC s s.heap.objs.size (bindL (envOfC m g s.heap.objs.size f o).kindOf (ps.zip us) λ_=>none) (cellsFrom (s.heap.objs.size+1) g.names []) (bindC (envOfC m g s.heap.objs.size f o).kindOf (ps.zip us) λ_=>none) F) :
  Inv (mM CX P w K mg base N m g f o A C s H E) [] (start N vs) H F:=by
 have Q:ps.length<=N.length:=by have:=congrArg length S.pre;rw[oX]at this;omega
 obtain⟨t,tk,rfl,G⟩:=x.done;have D:∀b:TD,b∉(mM CX P w K mg base N m g f o A C s H E).ex:=λb z=>IN (show b∈([]:List TD) from z) Zs
 refine⟨⟨e0.mod,S.kind,rfl,rfl,bA _,λy z c t d=>?_,λy j=>?_,λy c _ h=>?_,λ_=>hd,Around.frames_deeper e0.frames,.inr ⟨rfl,rfl⟩,λb z=>IN z (D b),e0.bs,e0.bsz,λb _ _=>D b,λb z=>IN z (D b),e0.funs,e0.frf⟩,
  rfl,e0.bare,Un.kept G,⟨_,x.toInCall.ns,λi y v t d R=>?_⟩,λy c h=>⟨_,x.cell y c h⟩,e0.hok.fresh (bA _),λy c h=>?_,λp l=>IN (show p∈([]:List (Addr × Obj)) from l) Zs,e0.hok.kept G,?_⟩
 ·exact name_of_addr x.apart (PySem.mem_of_lookup t) (PySem.mem_of_lookup d)
 ·have j:g.names.lookup y=some .cell∨g.names.lookup y=some .free:=j;rcases j with j|j
  ·exact yR j
  ·exact IN rfl (S.nofree _ (PySem.mem_of_lookup j))
 ·exact le_of_lt (x.above y c (PySem.mem_of_lookup h))
 ·have B:i<vs.length:=by
   unfold start at d;by_cases B:i<vs.length
   ·exact B
   ·rw[List.getElem?_append_right (by simpa using B)]at d;rw[List.getElem?_replicate]at d;split at d<;>cases d
  have L:vs[i]?=some v:=by
   unfold start at d;rw[List.getElem?_append_left (by simpa using B),dW]at d
   cases e:vs[i]? with
   | none=>rw[e]at d;cases d
   | some a=>rw[e]at d;cases d;rfl
  obtain⟨u,I,M⟩:=r.get L;have l:ps[i]?=some y:=by
   rw[<- S.pre,List.getElem?_take_of_lt Zo];exact t
  have J:ps.Nodup:=by rw[<- S.pre];exact S.nd.sublist (List.take_sublist _ _)
  refine⟨u,M,?_⟩;rcases S.par y (jJ l) with k|k
  ·exact .inl ⟨k,vA J l I k⟩
  ·obtain⟨c,e⟩:=yR (n:=s.heap.objs.size+1) k;refine .inr ⟨.inl k,c,e,?_⟩;have q:=x.cell y c e;rw[vB J l I (by show g.names.lookup y≠_;rw[k];decide)]at q;exact q
 ·exact e0.hok.fresh (le_of_lt (x.above y c (PySem.mem_of_lookup h)))
 ·unfold start;show _=N.length;rw[uC,aR,List.length_replicate];omega
def Vt{CX:Ki}{P:Program}{w:World}{K:W.Frag}{mg:W1}{base:Heap}{k:Nat}{f:TD}{name c:Str}{z:Arguments}{l:List Stmt}{a:Scope}{D kV B F d G U:Q3}{I X:Option TD}{R:Array (Option Q3)}{N ps:List Str}{sp:Sp}(lk:K.lookup f=some ⟨U,X,.func (W.fnOf name c z l a D kV B F I d G),R⟩)(Y:W.codeIn K d c=true)(S:aI N ps a)(len:∀vs H Q E,sp vs H Q E->vs.length=ps.length)(Z:∀(A:Around)(g:List Env)(s:PP)(H:Hp)(vs:List V)(Q:VK)(E:XK),Room k (A.deeper (envOfC c a s.heap.objs.size f d))->sp vs H Q E →
   ∃t,PSs (mM CX P w K mg base N c a f d A g s H E) l t/\t {nx:=λ_ H'=>Q .non H',rt:=Q } (start N vs) H) :
  FnOk P w K mg base CX (k+1) f (W.fnOf name c z l a D kV B F I d G) ps sp:=by
 refine⟨len,λA g s H args us vs Q E m i hb a0 L=>?_⟩;have hl:=len _ _ _ _ L;have M:K.In s.heap:=i.mod.kin.keeps λb o e=>(i.bs b o e).1
 have T:s.heap.NoLimit:=i.mod.nolimit.keeps λb o e=>(i.bs b o e).1
 have JU:∀y∈ps.zip us,a.names.lookup y.1=some .local∨(a.names.lookup y.1=some .cell/\((cellsFrom (s.heap.objs.size+1) a.names []).lookup y.1).isSome=true):=λ⟨n,v⟩ hy=>by
  rcases S.par n (of_mem_zip hy).1 with q|q
  ·exact .inl q
  ·exact .inr ⟨q,W.cellsFrom_some _ _ _ (.inl q)⟩
 refine codeAny_call_function m.depth (M _ _ lk) rfl S.co S.gen rfl (W.codeRec_of M Y) (hb _ _ _ _ ?_);refine wpAny_newFunctionEnv_cells S.kind JU λenv he O x=>?_;subst he;refine⟨T.keeps x.toInCall.keep,codeAny_func ?_⟩;obtain⟨t,ht,hq⟩:=Z A g s H vs Q E (m.deeper _) L;have a1:Inv (mM CX P w K mg base N c a f d A g s H E) [] (start N vs) H O:=Gm S m.hd i hl a0 x;refine wpAny_mono (ht [] O (start N vs) H _ a1 hq) (λfl p h=>?_) λe p h=>h;have C:∀ {j:St}{H':Hp}{v:V}{u:Q3},Inv (mM CX P w K mg base N c a f d A g s H E) [] j H' p->RelV v u->Q v H'->CE g P w H s Q u p:=
  λ{j H' v u} J r q=>⟨v,H',J.os,J.bare,J.base,J.hok,r,q⟩
 cases fl with
 | ret u=>
  revert h;refine yE3 λv j H'=>yA3 λJ r q=>?_;exact C J r q
 | next=>
  obtain⟨j,H',J,q⟩:=h;exact C (v:=V.non) (u:=Value.none) J rfl q
 | brk=>
  obtain⟨_,_,_,q⟩:=h;exact False.elim q
 | cont=>
  obtain⟨_,_,_,q⟩:=h;exact False.elim q
section
variable {X:Cx}{x:Str}{p pos:Pos}{e:Expr}{es:List Expr}{t:TA}{id T:String}{r:List V->Hp->VK->Prop}
def tCB(r:List V->Hp->VK->Prop)(t:TA):TE:=λb H Q=>t b H λvs a=>r vs a Q
def yS(c:CallR X (.builtin id) r)(d:Gl X x)(f:X.mg x=none)(g:bootBuiltins x=some (.builtin id))(i:PA X (e::es) t)(j:x≠"__name__":=by decide)(k:(x==("__debug__":Str))=false:=by decide)(l:starEach (e::es) X.env=(false,eval e X.env)::starEach es X.env:=by rfl)(m:(backTo pos (starEach es X.env)).any (·.1)=false:=by rfl):PE X (.Call (.Name x p) (e::es) [] pos) (tCB r t):=by
 intro a s b H Q I h;refine wpAny_Call_Name_kw (rV I d f g ?_ j k);exact PyProof.Rows.callWith_builtin1 (bN (i pos a s b H _ I h) λn o ⟨vs,q,u,v,w⟩=>c a o b q vs n Q u v w) l m
def Gn(c:CallR X (.type T) r)(d:Gl X x)(f:X.mg x=none)(g:bootBuiltins x=some (.type T))(i:PA X (e::es) t)(j:x≠"__name__":=by decide)(k:(x==("__debug__":Str))=false:=by decide)(l:starEach (e::es) X.env=(false,eval e X.env)::starEach es X.env:=by rfl)(m:(backTo pos (starEach es X.env)).any (·.1)=false:=by rfl):PE X (.Call (.Name x p) (e::es) [] pos) (tCB r t):=by
 intro a s b H Q I h;refine wpAny_Call_Name_kw (rV I d f g ?_ j k);exact PyProof.Rows.callWith_type1 (bN (i pos a s b H _ I h) λn o ⟨vs,q,u,v,w⟩=>c a o b q vs n Q u v w) l m
end
end L2
namespace HT
open PySem PyProof.Rows
section
variable {prog:Program}{w:World}{A:Around}{E:XV}{s:PP}
def cat_tup{t b:TD}{vs a:List Q3}{Q:XV}(o:IsTup s.heap t vs.toArray)(p:IsTup s.heap b a.toArray)(h:vs≠[])(q:a=[]->Q (.ref t) s)(r:a≠[]->Q (.ref s.heap.objs.size) {s with heap:=s.heap.push {cls:=.type "tuple",data:=.seq (vs++a).toArray } })(hsz:vs.length+a.length<=sizeLine):wpAny (model prog w) A (binaryOp .Add (.ref t) (.ref b)) Q E s:=by
 obtain⟨⟨cls,dd,data,sl⟩,c,i,n,hd⟩:=id o;obtain⟨⟨u,j,data2,k⟩,d,l,m,g⟩:=id p;simp only at i hd l g;subst i hd l g;have e:vs.toArray++a.toArray=(vs++a).toArray:=by simp
 by_cases f:a=[]
 ·exact concat_meets ⟨_,c,rfl⟩ ⟨_,d,rfl⟩ noFill_tuple_add seq_tuple_add PySem.F.slot_tuple_add PySem.F.entry_tuple_add (PySem.F.args_tuple_add_2 _ _)
   (tuple_addW1 t b vs.toArray a.toArray n m dd j sl k (by simpa using h) (by simp[f])) ⟨c,d,q f⟩
 ·refine concat_meets ⟨_,c,rfl⟩ ⟨_,d,rfl⟩ noFill_tuple_add seq_tuple_add PySem.F.slot_tuple_add PySem.F.entry_tuple_add (PySem.F.args_tuple_add_2 _ _)
   (tuple_addW2 t b vs.toArray a.toArray n m dd j sl k (by simpa using h) (by simpa using f) (by rw[dX,dX];exact hsz)) ⟨c,d,?_⟩
  rw[e];exact r f
def sIx(n d:Nat):Option Int->Nat
 | none=>d
 | some v=>if v<0 then (v+(n:Int)).toNat else min v.toNat n
def sIx_none(n d:Nat):sIx n d none=d:=rfl
def sIx_nat(n d k:Nat):sIx n d (some (k:Int))=min k n:=by
 show(if (k:Int)<0 then ((k:Int)+(n:Int)).toNat else min (k:Int).toNat n)=min k n;rw[NE Zo,Int.toNat_natCast]
def Yh(n d:Nat)(hd:d<=n)(o:Option Int):sIx n d o<=n:=by
 cases o with
 | none=>exact hd
 | some v=>
  show(if v<0 then (v+(n:Int)).toNat else min v.toNat n)<=n;by_cases a:v<0
  ·rw[O8 a];omega
  ·rw[NE a];exact Nat.min_le_right _ _
def Dm(v:Int)(n d:Nat):(if v<0 then max (v+(n:Int)) 0 else min v (n:Int))=((sIx n d (some v):Nat):Int):=by
 show(if v<0 then max (v+(n:Int)) 0 else min v (n:Int))=(((if v<0 then (v+(n:Int)).toNat else min v.toNat n):Nat):Int);by_cases a:v<0
 ·simp only [O8 a];omega
 ·simp only [NE a];omega
def Bg(lo a:Option Int)(n:Nat):Builtin.Slice.sliceAdjust lo a 1 (n:Int)=(((sIx n 0 lo:Nat):Int),((sIx n n a:Nat):Int)):=by
 have b:¬ ((1:Int)<0):=by omega
 unfold Builtin.Slice.sliceAdjust;simp only [b,if_false];refine Prod.ext ?_ ?_
 ·cases lo with
  | none=>rfl
  | some v=>exact Dm v n 0
 ·cases a with
  | none=>rfl
  | some v=>exact Dm v n n
def Bh(i j:Nat):Builtin.Slice.slicePlaces (i:Int) (j:Int) 1=j-i:=by
 unfold Builtin.Slice.slicePlaces;have a:(1:Int)>0:=by omega
 simp only [a,if_true,Int.ediv_one];split<;>omega
def rY{v:Q3}{o:Option Int}{Q:Option Int->PP->Prop}(p:IsPart v o)(h:Q o s):wpAny (model prog w) A (Builtin.Slice.slicePartIndex v) Q E s:=by
 cases p with
 | none=>exact slicePart_none h
 | int i t=>exact slicePart_int h
def sliceApplied_gen{sl:TD}{b c:Q3}{lo a:Option Int}{n:Nat}{Q:Int×Int×Nat->PP->Prop}(hs:s.heap.IsSliceOf sl b c .none)(pl:IsPart b lo)(f:IsPart c a)(h:Q (((sIx n 0 lo:Nat):Int),1,sIx n n a-sIx n 0 lo) s):wpAny (model prog w) A (Builtin.Slice.sliceApplied (.ref sl) (pure (n:Int))) Q E s:=by
 obtain⟨os,d,g,e⟩:=id hs;unfold Builtin.Slice.sliceApplied Builtin.Slice.sliceFields;refine WP (WP (wpAny_field d e (x:=b) rfl (WP (wpAny_field d e (x:=c) rfl (WP (wpAny_field d e (x:=.none) rfl (WF ?_)))))));refine WP (slicePart_none ?_);show wpAny _ _ (if ((1:Int)==0)=true then _ else _) _ _ s;rw[NE Zd];refine WP (rY pl (WP (rY f (WP (WF ?_)))));show wpAny _ _ (match Builtin.Slice.sliceAdjust lo a 1 (n:Int) with|(lo,a)=>pure (lo,(1:Int),Builtin.Slice.slicePlaces lo a 1)) _ _ s;rw[Bg lo a n];show wpAny _ _ (pure (((sIx n 0 lo:Nat):Int),(1:Int),Builtin.Slice.slicePlaces ((sIx n 0 lo:Nat):Int) ((sIx n n a:Nat):Int) 1)) _ _ s;rw[Bh];exact WF h
def Kk(xs:Array Value)(i k:Nat):((List.range k).filterMap λ(m:Nat)=>xs[((i:Int)+(m:Int)*1).toNat]?).toArray=((xs.toList.drop i).take k).toArray:=by
 have e:(λ(m:Nat)=>xs[((i:Int)+(m:Int)*1).toNat]?)=λm=>xs[i+m]?:=by
  funext m
  have:((i:Int)+(m:Int)*1).toNat=i+m:=by omega
  rw[this]
 rw[e];have:=pick_run xs i k;rw[filterMap_map]at this;have a:((λx=>xs[x]?)∘λx=>i+x)=λm=>xs[i+m]?:=rfl
 rw[a]at this;rw[this]
def getItem_tuple_cut{t sl:TD}{a:Array Value}{e f:Q3}{lo b:Option Int}{Q:XV}(c:IsTup s.heap t a)(hs:s.heap.IsSliceOf sl e f .none)(pl:IsPart e lo)(g:IsPart f b)(i:¬ (sIx a.size 0 lo=0/\sIx a.size a.size b=a.size))(h:Q (.ref s.heap.objs.size) {s with heap:=s.heap.push {cls:=.type "tuple",data:=.seq ((a.toList.drop (sIx a.size 0 lo)).take (sIx a.size a.size b-sIx a.size 0 lo)).toArray } })(hsz:a.size<=sizeLine):wpAny (model prog w) A (getItem (.ref t) (.ref sl)) Q E s:=by
 have d:sizeOk (.seq ((a.toList.drop (sIx a.size 0 lo)).take (sIx a.size a.size b-sIx a.size 0 lo)).toArray):=by
  show((a.toList.drop (sIx a.size 0 lo)).take (sIx a.size a.size b-sIx a.size 0 lo)).toArray.size<=sizeLine;rw[dX,oX,length_drop,Array.length_toList];omega
 have o:sIx a.size a.size b<=a.size:=Yh _ _ (bA _) b;obtain⟨os,j,k,p⟩:=id hs;have l:s.TypeIs (.ref sl) "slice":=⟨os,j,k⟩;unfold getItem;try with_reducible refine wpAny_holding ?_
 first|refine WP (WF ?_)|skip
 refine WP (wpAny_sequenceKey c.typeIs Zd ?_);refine WP (wpAny_callSpecial?_slot (name:=Str.ofString "__getitem__") c.typeIs PyProof.Rows.slot_tuple_getitem
  (wpAny_call_entry PyProof.Rows.slot_tuple_getitem c.typeIs entry_tuple_getitem ?_ (args_tuple_getitem _ _)))
 show wpAny _ _ (Builtin.Tuple.tupleItemsOf (.ref t)>>=_) _ _ s;refine WP (tupleItemsOf_ c ?_);refine WP (wpAny_typeOf l ?_);rw[O8 Zd];refine WP (sliceApplied_gen hs pl g ?_);have n:¬ ((((sIx a.size 0 lo:Nat):Int)==0&&(1:Int)==1&&(sIx a.size a.size b-sIx a.size 0 lo)==a.size)=true):=by
  intro q;rw[Bool.and_eq_true,Bool.and_eq_true]at q;have r:((sIx a.size 0 lo:Nat):Int)=0:=eq_of_beq q.1.1;have u:sIx a.size a.size b-sIx a.size 0 lo=a.size:=eq_of_beq q.2;exact i ⟨Zo,Zo⟩
 show wpAny _ _ (if (((sIx a.size 0 lo:Nat):Int)==0&&(1:Int)==1&&(sIx a.size a.size b-sIx a.size 0 lo)==a.size)=true then _ else _) _ _ s;rw[NE n,Kk];first
  | exact WP (m:=Builtin.Tuple.tupleExact _) (wpAny_newObj_type (WF ⟨_,rfl,WF h⟩) d)
  | exact WP (m:=Builtin.Tuple.tupleExact _) (wpAny_newObj_type (WP (WF (WF ⟨_,rfl,WF h⟩))) d)
  | exact WP (WP (m:=Builtin.Tuple.tupleExact _) (wpAny_newObj_type (WF (WF ⟨_,rfl,WF h⟩)) d))
  | exact WP (WP (m:=Builtin.Tuple.tupleExact _) (wpAny_newObj_type (WF ⟨_,rfl,WF h⟩) d))
end
end HT
namespace L2
open PySem PySem.Spec PyProof.Rows
abbrev TO:=St->Hp->(Option Int->Hp->Prop)->Prop
def PO(X:Cx)(e:Option Expr)(t:TO):Prop:=
 ∀(b:ZB)(s:PP)(a:St)(H:Hp)(Q:Option Int->Hp->Prop),Inv X b a H s->t a H Q →
  wpAny (model X.prog X.w) X.A (evalPart e X.env) (λu d=>∃o c,Inv X b a c d/\IsPart u o/\Q o c) X.xe s
def Do:TO:=λ_ H Q=>Q none H
def Kl(t:TE):TO:=λb H Q=>t b H λx a=>∃i,x=.int i/\Q (some i) a
def mN{a:List Int}:∀ {us:List Q3},Vals (a.map V.int) us->IntsAre us a:=by
 induction a with
 | nil=>intro us r;rw[map_nil]at r;cases r;exact .nil
 | cons n a b=>
  intro us r;rw[map_cons]at r;cases r with
  | cons c d=>
   obtain⟨t,e⟩:=c;subst e;exact .cons n t (b d)
section
variable {X:Cx}{e:Expr}{te:TE}{lo hi:Option Expr}{tl th:TO}{pos p2:Pos}
def Sf:PO X none Do:=by
 intro a s b H Q I h;rw[evalPart_none];exact WF ⟨none,H,I,.none,h⟩
def Sg(h:PE X e te):PO X (some e) (Kl te):=by
 intro a s j H Q I b;rw[evalPart_some];refine bN (h a s j H _ I b) ?_;rintro u k ⟨x,c,d,f,g⟩
 obtain⟨i,rfl,q⟩:=g;obtain⟨t,rfl⟩:=f;exact⟨some i,c,d,.int i t,q⟩
def SlR(X:Cx)(r:V->Option Int->Option Int->Hp->VK->Prop):Prop:=
 ∀(a:ZB)(s:PP)(d:St)(H:Hp)(x:V)(v b c:Q3)(lo hi:Option Int)(sl:TD)(Q:VK),Inv X a d H s->RelV x v->s.heap.IsSliceOf sl b c .none->IsPart b lo->IsPart c hi->r x lo hi H Q →
  ∃T id,typeLookup (.type T) "__getitem__"=pure (some (.builtin id))/\s.TypeIs v T/\wpAny (model X.prog X.w) X.A (getItem v (.ref sl)) (EP X a d Q) X.xe s
def tSl(r:V->Option Int->Option Int->Hp->VK->Prop)(te:TE)(tl th:TO):TE:=λa H Q=>te a H λx b=>tl a b λl c=>th a c λu d=>r x l u d Q
def Km{r:V->Option Int->Option Int->Hp->VK->Prop}(j:SlR X r)(k:PE X e te)(m:PO X lo tl)(n:PO X hi th):PE X (.Subscript e (.Slice lo hi none p2) pos) (tSl r te tl th):=by
 intro c s d H Q I h;refine Subscript_ (bN (k c s d H _ I h) ?_);refine λv o=>yE2 λx p=>yA3 λt w y=>?_;refine wpAny_Slice (bN (m c o d p _ t y) λf z ⟨l,A,B,C,D⟩=>bN (n c z d A _ B D) ?_);refine λg a=>yE2 λu i=>yA3 λE F G=>?_;rw[evalPart_none];refine WF ?_;have J:Inv X c d i {a with heap:=a.heap.push {cls:=.type "slice",data:=.fields #[f,g,.none] } }:=E.kept (t':=a.toks) λb N q=>iD _ q
 refine yE0 (j c {a with heap:=a.heap.push {cls:=.type "slice",data:=.fields #[f,g,.none] } } d i x v f g l u a.heap.objs.size Q J w (Heap.IsSliceOf.new ..) C F G) (yE2 λT id=>yA3 λK L M=>?_);show wpAny (model X.prog X.w) X.A (subscriptTail e (.Slice lo hi none p2) v (.ref a.heap.objs.size)) (EP X c d Q) X.xe {a with heap:=a.heap.push {cls:=.type "slice",data:=.fields #[f,g,.none] } };exact tail_any (ops:=[.ref a.heap.objs.size,v]) L K M (by with_unfolding_all rfl)
def Go(xs:List V)(lo hi:Option Int):List V:=(xs.drop (HT.sIx xs.length 0 lo)).take (HT.sIx xs.length xs.length hi-HT.sIx xs.length 0 lo)
def qN(xs:List V)(lo hi:Option Int):(Go xs lo hi).length<=xs.length:=by
 unfold Go;rw[oX,length_drop];omega
def aCr(K:W.Frag):V->Option Int->Option Int->Hp->VK->Prop:=λx lo hi H Q=>∃a b,x=.ref a/\SqT K H a b ∧
 ¬ (HT.sIx b.length 0 lo=0/\HT.sIx b.length b.length hi=b.length)/\∀p,H p=none->Q (.ref p) (aH H p (.tup (Go b lo hi)))
def Yi:SlR X (aCr X.K):=by
 intro t s z H x v u w lo hi sl Q I j k l m h;revert h;refine yE2 λa c=>yA4 λζ n p q=>?_;subst ζ;cases j;obtain⟨i,r,f,g⟩:=I.tuple n;have d:i.toArray.size=c.length:=by rw[dX];exact r.length.symm
 refine⟨"tuple",_,PyProof.Rows.slot_tuple_getitem.lookup,f.typeIs,?_⟩;refine HT.getItem_tuple_cut f k l m (by rw[d];exact p) ?_ (by rw[d];exact g);rw[d];refine⟨.ref s.heap.objs.size,_,I.laid (t':=s.toks) (o:=.tup (Go c lo hi)) (λb y q=>iD _ q) (bA _) ?_,rfl,q _ (I.hok.fresh (bA _))⟩;exact⟨fT (qN c lo hi) g,_,(r.drop (HT.sIx c.length 0 lo)).take (HT.sIx c.length c.length hi-HT.sIx c.length 0 lo),IsTup.new _ _⟩
def aBh(K:W.Frag):R2:=λx y H Q=>∃a b d c,x=.ref a/\y=.ref b/\SqT K H a d/\SqT K H b c/\d≠[]/\d.length+c.length<=sizeLine ∧
 (c=[]->Q (.ref a) H)/\(c≠[]->∀p,H p=none->Q (.ref p) (aH H p (.tup (d++c))))
def Vals.nil_iff{xs:List V}{us:List Q3}(r:Vals xs us):us=[]↔xs=[]:=by
 cases r with
 | nil=>simp
 | cons _ _=>simp
def Sh:OpR X (binaryOp .Add) (aBh X.K):=by
 intro A s E H x y v u Q I g i h;revert h;refine yE4 λa b j k=>yA8 λζ η l m n f p r=>?_;subst ζ η;cases g;cases i;obtain⟨B,d,t,_⟩:=I.tuple l;obtain⟨C,c,p2,_⟩:=I.tuple m;refine HT.cat_tup t p2 (λz=>n (d.nil_iff.mp z)) (λz=>⟨.ref a,H,I,rfl,p (c.nil_iff.mp z)⟩) (λz=>?_) (by rw[<- d.length,<- c.length];exact f);refine⟨.ref s.heap.objs.size,_,I.laid (t':=s.toks) (o:=.tup (j++k)) (λb D q=>iD _ q) (bA _) ?_,rfl,r (λw=>z (c.nil_iff.mpr w)) _ (I.hok.fresh (bA _))⟩;exact⟨by rw[uC];exact f,_,d.append c,IsTup.new _ _⟩
end
def Vu(n:Nat)(i:Int):Option Nat:=if 0<=i then (if i<n then some i.toNat else none) else if -(n:Int)<=i then some (i+n).toNat else none
def nO{a:Type}(xs:List a)(i:Int):Option a:=(Vu xs.length i).bind λj=>xs[j]?
def Dp{n:Nat}{i:Int}{j:Nat}(h:Vu n i=some j):seqIndex? i n=some j/\j<n/\-(n:Int)<=i/\i<n:=by
 unfold Vu at h;by_cases b:0<=i
 ·rw[O8 b]at h;by_cases a:i<n
  ·rw[O8 a]at h;have e:i.toNat=j:=Option.some.inj h;exact⟨by rw[seqIndex_of b a,e],Zo,Zo,a⟩
  ·rw[NE a]at h;cases h
 ·rw[NE b]at h;by_cases a:-(n:Int)<=i
  ·rw[O8 a]at h;have e:(i+n).toNat=j:=Option.some.inj h;exact⟨by rw[seqIndex_neg Zo a,e],Zo,a,Zo⟩
  ·rw[NE a]at h;cases h
def wU{a:Type}{xs:List a}{i:Int}{v:a}(h:nO xs i=some v):∃j,seqIndex? i xs.length=some j/\xs[j]?=some v/\j<xs.length/\-(xs.length:Int)<=i/\i<xs.length:=by
 unfold nO at h;cases e:Vu xs.length i with
 | none=>rw[e]at h;cases h
 | some j=>
  rw[e]at h;refine yE0 (Dp e) (yA4 λb c d f=>?_);exact⟨j,b,h,c,d,f⟩
def nQ{a:Type}{xs:List a}{j:Nat}{v:a}(h:xs[j]?=some v):nO xs (j:Int)=some v:=by
 have b:j<xs.length:=(Zgs.mp h).1;have e:Vu xs.length (j:Int)=some j:=by
  unfold Vu;rw[O8 Zo,O8 Zo];simp
 unfold nO;rw[e];exact h
def wV(b:Expr):Prop:=∀o i,subscripted b false o i=operate [o,i] (getItem o i)
def IxR(X:Cx)(r:R2):Prop:=
 ∀(c slice:Expr)(a:ZB)(s:PP)(b:St)(H:Hp)(x y:V)(v u:Q3)(Q:VK),Inv X a b H s->RelV x v->RelV y u->r x y H Q →
  subscripted slice false v u=operate [v,u] (getItem v u)->wpAny (model X.prog X.w) X.A (subscriptTail c slice v u) (EP X a b Q) X.xe s
def MtR(X:Cx)(id:String)(r:V->List V->Hp->VK->Prop):Prop:=
 ∀(a:ZB)(s:PP)(d:St)(H:Hp)(x:V)(b:List V)(v:Q3)(c:List Q3)(Q:VK),Inv X a d H s->RelV x v->Vals b c->r x b H Q →
  wpAny (model X.prog X.w) X.A (call (.builtin id) (v::c)) (EP X a d Q) X.xe s
section
variable {X:Cx}{a b:Expr}{ta tb:TE}{pos:Pos}
def aBi{r:R2}(d:IxR X r)(e:PE X a ta)(f:PE X b tb)(hs:wV b):PE X (.Subscript a b pos) (uX r ta tb):=by
 intro c s m H Q I h;exact Subscript_ (Xw e f I h λv u g x y i j k l q=>d a b c g m i x y v u Q j k l q (hs _ _))
def aCs(K:W.Frag):R2:=λx y H Q=>∃p c i v,x=.ref p/\y=.int i/\SqL K H p c/\nO c i=some v/\Q v H
def aCt(K:W.Frag):R2:=λx y H Q=>∃p c i v,x=.ref p/\y=.int i/\SqT K H p c/\nO c i=some v/\Q v H
def aCu:R2:=λx y H Q=>∃z i c,x=.str z/\y=.int i/\z.length<=sizeLine/\nO z.cps.toList i=some c/\Q (.str ⟨#[c]⟩) H
def Si:IxR X (aCs X.K):=by
 intro M slice f s n H x y v u Q I A B h k;revert h;refine yE4 λp N i z=>yA5 λζ η C D q=>?_;subst ζ η;cases A;obtain⟨t,rfl⟩:=B;obtain⟨o,r,d,O⟩:=I.list C;refine yE0 (wU D) (yE1 λj=>yA5 λc E P F G=>?_);obtain⟨w,l,J⟩:=r.get E;have K:=r.length;have R:=pA;have g:EP X f n Q w s:=⟨z,H,I,J,q⟩;by_cases m:0<=i
 ·have e:i.toNat=j:=by
   rw[seqIndex_of m G]at c;exact Option.some.inj c
  exact item_listR d.isList m Zo (by rw[e];simpa using l) g k
 ·have e:(i+(o.toArray.size:Int)).toNat=j:=by
   rw[seqIndex_neg Zo F]at c;rw[dX,<- K];exact Option.some.inj c
  exact subscriptTail_builtinR (x:=w) d.isList.typeIs slot_list_getitem.lookup
   (wpAny_getItem_list_neg (Q:=λr L=>r=w/\EP X f n Q r L) d.isList Zo (by rw[dX]<;>omega) Zo (by rw[e];simpa using l) ⟨rfl,g⟩) k
def Yj:IxR X (aCt X.K):=by
 intro F slice c s e H x y v u Q I g k h l;revert h;refine yE4 λp J i z=>yA5 λζ η m n q=>?_;subst ζ η;cases g;obtain⟨t,rfl⟩:=k;obtain⟨G,r,d,K⟩:=I.tuple m;refine yE0 (wU n) (yE1 λj=>yA5 λo A L M N=>?_);obtain⟨w,B,C⟩:=r.get A;have D:=r.length;have O:=pA;have f:EP X c e Q w s:=⟨z,H,I,C,q⟩;exact subscriptTail_builtinR (x:=w) d.typeIs slot_tuple_getitem.lookup
  (getItem_tuple (j:=j) (Q:=λr E=>r=w/\EP X c e Q r E) d Zo Zo (by rw[dX,<- D];exact o) (by simpa using B) ⟨rfl,f⟩) l
def Yk:IxR X aCu:=by
 intro w slice A s F H x y v u Q I e f h g;revert h;refine yE3 λz i c=>yA5 λζ η B k q=>?_;subst ζ η;obtain⟨t,rfl⟩:=e;obtain⟨C,rfl⟩:=f;refine yE0 (wU k) (yE1 λj=>yA5 λd l D m n=>?_);have o:z.cps.toList.length=z.length:=by simp[Str.length]
 rw[o]at d m n;have E:=pA;exact tail_any (typeIs_str s z t) slot_str_getitem.lookup (getItem_str (c:=c) (by
  have p:decide (i < -(2 ^ 63:Int))=false:=T0 Zo;have r:decide (i ≥ 2 ^ 63)=false:=T0 Zo;rw[p,r,Bool.or_false]) (by rw[d];simpa using l) ⟨.str ⟨#[c]⟩,H,I.tok _,⟨_,rfl⟩,q⟩) g
def Bi(its:List Q3)(n j:Nat)(u:Q3):Obj.mapSeq (·.setIfInBounds j u) {cls:=.type "list",data:=.seq its.toArray n }={cls:=.type "list",data:=.seq (its.set j u).toArray n }:=by
 simp[Obj.mapSeq]
def Inv.lst{c:ZB}{d:St}{H:Hp}{s:PP}{p:TD}{xs:List V}(I:Inv X c d H s)(h:H p=some (.lst xs)) :
  ∃(its:List Q3)(n:Nat),Vals xs its/\s.heap.get? p=some {cls:=.type "list",data:=.seq its.toArray n }/\xs.length<=sizeLine:=by
 obtain⟨z,its,n,r,e⟩:=I.hok p _ h;exact⟨its,n,r,e,z⟩
def Inv.lstUpd{d:ZB}{i:St}{H:Hp}{s:PP}{p:TD}{xs ys:List V}{its its':List Q3}{n c:Nat}{f:Obj->Obj}(I:Inv X d i H s)(h:H p=some (.lst xs))(j:s.heap.get? p=some {cls:=.type "list",data:=.seq its.toArray n })(g:f {cls:=.type "list",data:=.seq its.toArray n }={cls:=.type "list",data:=.seq its'.toArray c })(r:Vals ys its')(hz:ys.length<=sizeLine)(t:Nat) :
  Inv X d i (aH H p (.lst ys)) {s with heap:=s.heap.update p f,toks:=t }:=by
 have e:(s.heap.update p f).get? p=some {cls:=.type "list",data:=.seq its'.toArray c }:=by
  rw[Heap.get?_update_self f j (by rw[g]<;>rfl),g]
 refine I.write (x:=p) (e:=p) (by rw[h];trivial) (.inl rfl) (λb u k q=>(Heap.get?_update_other _ _ (Ne.symm k)).trans q) ⟨_,e⟩ ?_;exact⟨hz,its',c,r,e⟩
def Vv:V->V->V->Hp->(Hp->Prop)->Prop:=λo i v H Q=>∃p c k j,o=.ref p/\i=.int k/\H p=some (.lst c)/\Vu c.length k=some j/\Q (aH H p (.lst (c.set j v)))
def Kn:Rq X Vv:=by
 intro z s G H o i v J K u Q I A B C h;revert h;refine yE4 λp D k j=>yA5 λζ η l E q=>?_;subst ζ η;cases A;obtain⟨t,rfl⟩:=B;obtain⟨g,n,r,d,F⟩:=I.lst l;refine yE0 (Dp E) (yA4 λc L m w=>?_);have e:=r.length;have M:=pA;have x:Inv X z G (aH H p (.lst (D.set j v))) {s with heap:=s.heap.update p (Obj.mapSeq (·.setIfInBounds j u)) }:=
  I.lstUpd l d (Bi g n j u) (r.set C j) (by rw[List.length_set];exact F) s.toks
 by_cases y:0<=k
 ·have f:k.toNat=j:=by
   rw[seqIndex_of y w]at c;exact Option.some.inj c
  exact W.ki_setAt d y Zo (by rw[dX,<- e];exact w) (by rw[f];exact⟨_,x,q⟩)
 ·have f:(k+(g.toArray.size:Int)).toNat=j:=by
   rw[seqIndex_neg Zo m]at c;rw[dX,<- e];exact Option.some.inj c
  exact W.ki_setBack d Zo (by rw[dX,<- e];exact m) Zo (by rw[f];exact⟨_,x,q⟩)
def wW(lo c:Option Int)(n:Nat):(sliceBounds lo c none n).1=((HT.sIx n 0 lo:Nat):Int)/\(sliceBounds lo c none n).2.1=((HT.sIx n n c:Nat):Int)/\(sliceBounds lo c none n).2.2=1:=by
 refine⟨?_,?_,rfl⟩
 ·cases lo with
  | none=>simp[sliceBounds,HT.sIx]
  | some i=>
   simp only [sliceBounds,HT.sIx,Option.getD_none,show(1:Int)>0 by decide,if_true];by_cases h:i<0
   ·simp only [h,if_true]<;>omega
   ·simp only [h,if_false]<;>omega
 ·cases c with
  | none=>simp[sliceBounds,HT.sIx]
  | some i=>
   simp only [sliceBounds,HT.sIx,Option.getD_none,show(1:Int)>0 by decide,if_true];by_cases h:i<0
   ·simp only [h,if_true]<;>omega
   ·simp only [h,if_false]<;>omega
def uF(its:List Q3)(lo c:Option Int):slicePick its.toArray lo c none=((its.drop (HT.sIx its.length 0 lo)).take (HT.sIx its.length its.length c-HT.sIx its.length 0 lo)).toArray:=by
 obtain⟨d,e,f⟩:=wW lo c its.toArray.size;unfold slicePick;rw[d,e,f];simp only [sliceRange_one,pick_run,dX]<;>rfl
def aCv(K:W.Frag):V->Option Int->Option Int->Hp->VK->Prop:=λx lo d H Q=>∃a c,x=.ref a/\SqL K H a c/\∀p,H p=none->Q (.ref p) (aH H p (.lst (Go c lo d)))
def Sj:SlR X (aCv X.K):=by
 intro n s y H x v t u lo d sl Q I g i j k h;obtain⟨a,c,rfl,l,q⟩:=h;cases g;obtain⟨p,r,e,m⟩:=I.list l;have f:=r.length;refine⟨"list",_,slot_list_getitem.lookup,e.isList.typeIs,?_⟩;refine wpAny_getItem_list_slice e.isList i j k .none Zs ?_ (by rw[dX]<;>omega);rw[uF,<- f];refine⟨.ref s.heap.objs.size,_,I.laid (t':=s.toks) (o:=.lst (Go c lo d)) (λb w q=>iD _ q) (bA _) ?_,rfl,q _ (I.hok.fresh (bA _))⟩;exact⟨fT (qN c lo d) m,_,0,(r.drop (HT.sIx c.length 0 lo)).take (HT.sIx c.length c.length d-HT.sIx c.length 0 lo),TW _ rfl⟩
def gY:V->Bool
 | .non=>true
 | .bl _=>true
 | .int _=>true
 | .str _=>true
 | _=>false
def wX:V->V->Bool
 | .non,.non=>true
 | .bl a,.bl b=>a==b
 | .bl a,.int b=>(if a then 1 else 0)==b
 | .int a,.bl b=>a==(if b then 1 else 0)
 | .int a,.int b=>a==b
 | .str a,.str b=>a==b
 | _,_=>false
def Bj{A:Around}{s:PP}{y x:V}{u v:Q3}(e:RelV y u)(c:RelV x v)(g:gY y=true)(f:gY x=true):SeqAt.EqAt A s u v (wX y x):=by
 cases y with
 | non=>
  cases e
  cases x with
  | non=>cases c;exact SeqAt.EqAt.same _
  | bl b=>cases c;exact SeqAt.EqAt.none_bool b
  | int b=>obtain⟨t,rfl⟩:=c;exact SeqAt.EqAt.none_int b t
  | str b=>obtain⟨t,rfl⟩:=c;exact SeqAt.EqAt.none_str b t
  | _=>exact IN (show false=true from f) V4
 | bl a=>
  cases e
  cases x with
  | non=>cases c;exact SeqAt.EqAt.bool_none a
  | bl b=>cases c;exact SeqAt.EqAt.bool_bool a b
  | int b=>obtain⟨t,rfl⟩:=c;exact SeqAt.EqAt.bool_int a b t
  | str b=>obtain⟨t,rfl⟩:=c;exact SeqAt.EqAt.bool_str a b t
  | _=>exact IN (show false=true from f) V4
 | int a=>
  obtain⟨d,rfl⟩:=e
  cases x with
  | non=>cases c;exact SeqAt.EqAt.int_none a d
  | bl b=>cases c;exact SeqAt.EqAt.int_bool a d b
  | int b=>obtain⟨t,rfl⟩:=c;exact SeqAt.EqAt.int_int a d b t
  | str b=>obtain⟨t,rfl⟩:=c;exact SeqAt.EqAt.int_str a d b t
  | _=>exact IN (show false=true from f) V4
 | str a=>
  obtain⟨d,rfl⟩:=e
  cases x with
  | non=>cases c;exact SeqAt.EqAt.str_none a d
  | bl b=>cases c;exact SeqAt.EqAt.str_bool a d b
  | int b=>obtain⟨t,rfl⟩:=c;exact SeqAt.EqAt.str_int a d b t
  | str b=>obtain⟨t,rfl⟩:=c;exact SeqAt.EqAt.str_str a d b t
  | _=>exact IN (show false=true from f) V4
 | _=>exact IN (show false=true from g) V4
def Bk(x:V)(u:Q3):Bool:=match u with
 | .none=>wX .non x
 | .bool b=>wX (.bl b) x
 | .int i _=>wX (.int i) x
 | .str z _=>wX (.str z) x
 | _=>false
def Ko{x y:V}{u:Q3}(r:RelV y u)(f:gY y=true):Bk x u=wX y x:=by
 cases y with
 | non=>cases r;rfl
 | bl b=>cases r;rfl
 | int i=>obtain⟨t,rfl⟩:=r;rfl
 | str z=>obtain⟨t,rfl⟩:=r;rfl
 | _=>exact IN (show false=true from f) V4
theorem nV{x:V}:∀ {xs:List V}{us:List Q3},Vals xs us->xs.all gY=true->us.any (Bk x)=xs.any λy=>wX y x
 | _,_,.nil,_=>rfl
 | y::xs,u::us,.cons r t,f=>by
  rw[all_cons,Bool.and_eq_true]at f;rw[any_cons,any_cons,Ko r f.1,nV t f.2]
theorem kO{A:Around}{s:PP}{x:V}{v:Q3}(d:RelV x v)(e:gY x=true):∀ {xs:List V}{us:List Q3},Vals xs us->xs.all gY=true->∀u∈us,SeqAt.EqAt A s u v (Bk x u)
 | _,_,.nil,_=>λu c=>by cases c
 | y::xs,u::us,.cons r t,f=>λg c=>by
  rw[all_cons,Bool.and_eq_true]at f;rcases mem_cons.mp c with rfl|c
  ·rw[Ko r f.1];exact Bj r d f.1 e
  ·exact kO d e t f.2 g c
def Rf(x:V)(xs:List V):Bool:=xs.any λy=>wX y x
def Yl(K:W.Frag)(d:Bool):R2:=λx y H Q=>∃p c,y=.ref p/\(SqL K H p c∨SqT K H p c)/\gY x=true/\c.all gY=true/\Q (.bl (if d then !Rf x c else Rf x c)) H
def Gp:OpR X (compareOp .In) (Yl X.K false):=by
 intro l s n H x y v u Q I g j h;revert h;refine yE2 λp m=>yA5 λζ d i fs q=>?_;subst ζ;cases j;rcases d with d|d
 ·obtain⟨c,r,e,k⟩:=I.list d;refine SeqAt.in_listAt (Bk x) e.isList (λw f=>kO g i r fs w (by simpa using f)) ⟨.bl _,H,I,rfl,?_⟩;rw[show c.toArray.any (Bk x)=c.any (Bk x) by simp,nV r fs];exact q
 ·obtain⟨c,r,e,k⟩:=I.tuple d;refine SeqAt.in_tupleAt (Bk x) e (λw f=>kO g i r fs w (by simpa using f)) ⟨.bl _,H,I,rfl,?_⟩;rw[show c.toArray.any (Bk x)=c.any (Bk x) by simp,nV r fs];exact q
def wY:OpR X (compareOp .NotIn) (Yl X.K true):=by
 intro l s n H x y v u Q I g j h;revert h;refine yE2 λp m=>yA5 λζ d i fs q=>?_;subst ζ;cases j;rcases d with d|d
 ·obtain⟨c,r,e,k⟩:=I.list d;refine SeqAt.notIn_listAt (Bk x) e.isList (λw f=>kO g i r fs w (by simpa using f)) ⟨.bl _,H,I,rfl,?_⟩;rw[show c.toArray.any (Bk x)=c.any (Bk x) by simp,nV r fs];exact q
 ·obtain⟨c,r,e,k⟩:=I.tuple d;refine SeqAt.notIn_tupleAt (Bk x) e (λw f=>kO g i r fs w (by simpa using f)) ⟨.bl _,H,I,rfl,?_⟩;rw[show c.toArray.any (Bk x)=c.any (Bk x) by simp,nV r fs];exact q
def wZ:CallR X (.builtin "len") (λxs H Q=>∃p ys,xs=[.ref p]/\(SqL X.K H p ys∨SqT X.K H p ys)/\Q (.int ys.length) H):=by
 intro k s n H xs l Q I r h;obtain⟨p,ys,rfl,c,q⟩:=h;obtain⟨u,rfl,i⟩:=iE r;cases i;have m:=pA;rcases c with c|c
 ·obtain⟨g,e,f,j⟩:=I.list c;have d:=e.length;exact Calls.call_len_list f.isList (by simp only [dX]<;>omega) ⟨.int ys.length,H,I.tok _,⟨s.toks+1,by rw[dX,d]⟩,q⟩
 ·obtain⟨g,e,f,j⟩:=I.tuple c;have d:=e.length;exact len_tuple f (by simp only [dX]<;>omega) ⟨.int ys.length,H,I.tok _,⟨s.toks+1,by rw[dX,d]⟩,q⟩
def xA:CallR X (.builtin "len") (λxs H Q=>∃z,xs=[.str z]/\z.length<=sizeLine/\Q (.int z.length) H):=by
 intro c s g H xs d Q I r h;obtain⟨z,rfl,e,q⟩:=h;obtain⟨u,rfl,t,rfl⟩:=iE r;have f:=pA;exact len_str Zo ⟨.int z.length,H,I.tok _,⟨_,rfl⟩,q⟩
def xB:CallR X (.type "list") (λxs H Q=>∃p ys,xs=[.ref p]/\(SqL X.K H p ys∨SqT X.K H p ys)/\∀l,H l=none->Q (.ref l) (aH H l (.lst ys))):=by
 intro y s B H xs C Q I r h;obtain⟨p,ys,rfl,i,q⟩:=h;obtain⟨u,rfl,A⟩:=iE r;cases A;have w:∀(d:List Q3),Vals ys d->ys.length<=sizeLine->∀(c:Heap)(f:Nat),(∀b x,s.heap.get? b=some x->c.get? b=some x) →
   c.get? s.heap.objs.size=some {cls:=.type "list",dict:=none,data:=.seq d.toArray f,slots:=#[] }->EP X y B Q (.ref s.heap.objs.size) {s with heap:=c }:=λd g j c f k e=>
  ⟨.ref s.heap.objs.size,_,I.laid (t':=s.toks) k (bA _) (show ObjOk X.prog X.w _ c _ (.lst ys) from⟨j,d,f,g,e⟩),rfl,q _ (I.hok.fresh (bA _))⟩
 rcases i with i|i
 ·obtain⟨d,g,m,j⟩:=I.list i;have z:=g.length;obtain⟨o,t,v,n,hd⟩:=m.isList;exact call_list_seq p (.inl rfl) t v hd (λc f k e=>w d g j c f k e) (by simp only [dX]<;>omega)
 ·obtain⟨d,g,m,j⟩:=I.tuple i;have z:=g.length;obtain⟨o,t,v,n,hd⟩:=m;exact call_list_seq p (.inr rfl) t v hd (λc f k e=>w d g j c f k e) (by simp only [dX]<;>omega)
def uG:CallR X (.type "tuple") (λxs H Q=>∃p ys,xs=[.ref p]/\((SqL X.K H p ys/\∀l,H l=none->Q (.ref l) (aH H l (.tup ys)))∨(SqT X.K H p ys/\Q (.ref p) H))):=by
 intro j s n H xs y Q I r h;obtain⟨p,ys,rfl,h⟩:=h;obtain⟨u,rfl,t⟩:=iE r;cases t;rcases h with⟨f,q⟩|⟨f,q⟩
 ·obtain⟨d,g,i,k⟩:=I.list f;have x:=g.length;refine call_tuple_list i.isList (λc v=>?_) (by simp only [dX]<;>omega);have m:Inv X j n H {s with heap:=c }:=I.kept (t':=s.toks) v;have w:Inv X j n (aH H c.objs.size (.tup ys)) {s with heap:=c.push {cls:=.type "tuple",data:=.seq d.toArray } }:=
   m.laid (t':=s.toks) (λb o e=>iD _ e) (bA _) (show ObjOk X.prog X.w _ _ _ (.tup ys) from⟨k,d,g,IsTup.new _ _⟩)
  exact⟨.ref c.objs.size,_,w,rfl,q _ (m.hok.fresh (bA _))⟩
 ·obtain⟨d,g,i,k⟩:=I.tuple f;exact call_tuple_same i ⟨.ref p,H,I,rfl,q⟩
def tyV(K:W.Frag)(T:String)(x:V)(H:Hp):Prop:=match x with
 | .str _=>T="str"
 | .int _=>T="int"
 | .ref p=>(T="list"/\∃d,SqL K H p d)∨(T="tuple"/\∃o,K.lookup p=some o/\o.cls=.type "tuple"/\o.dict=none)∨
   (T="dict"/\((∃c,H p=some (.dK c))∨∃c,H p=some (.dT c)))∨(T="set"/\∃S n,H p=some (.set S n))
 | _=>False
def Ym{k:ZB}{u:St}{H:Hp}{s:PP}{T:String}{x:V}{v:Q3}(I:Inv X k u H s)(r:RelV x v)(ty:tyV X.K T x H) :
  s.TypeIs v T/\∀a,v=.ref a->∃h,s.heap.get? a=some h/\h.dict=none:=by
 cases x with
 | str z=>
  obtain⟨t,rfl⟩:=r;cases(show T="str" from ty);exact⟨typeIs_str s z t,λ_ e=>nomatch e⟩
 | int i=>
  obtain⟨t,rfl⟩:=r;cases(show T="int" from ty);exact⟨typeIs_int s i t,λ_ e=>nomatch e⟩
 | ref p=>
  cases r;rcases ty with⟨rfl,y,m⟩|⟨rfl,o,d,q,hd⟩|⟨rfl,d⟩|⟨rfl,S,n,d⟩
  ·obtain⟨w,_,j,_⟩:=I.list m;refine⟨j.isList.typeIs,λa e=>?_⟩;cases e;revert j;refine yE2 λo n=>yA4 λe c hd _=>?_;exact⟨o,e,hd⟩
  ·refine⟨⟨o,I.kIn p o d,q⟩,λa e=>?_⟩;cases e;exact⟨o,I.kIn _ o d,hd⟩
  ·have z:∃o,s.heap.get? p=some o/\o.ExactDict:=by
    rcases d with⟨l,d⟩|⟨l,d⟩
    ·obtain⟨_,_,_,_,o,_,_,e,f,_⟩:=I.hok p _ d;exact⟨o,e,f⟩
    ·refine yE0 (I.hok p _ d) (yA3 λ_ _=>yE1 λ_=>yA2 λ_=>yE3 λo _ _=>yA3 λe f _=>?_);exact⟨o,e,f⟩
   obtain⟨o,e,f⟩:=z;refine⟨⟨o,e,f.1⟩,λa g=>?_⟩;cases g;exact⟨o,e,f.2.1⟩
  ·refine yE0 (I.hok p _ d) (yE4 λo _ _ _=>yA3 λe f _=>?_);refine⟨⟨o,e,f.1⟩,λa g=>?_⟩;cases g;exact⟨o,e,f.2.1⟩
 | _=>exact False.elim ty
def tBM(K:W.Frag)(T:String)(r:V->List V->Hp->VK->Prop)(e:TE)(t:TA):TE:=λd H Q=>e d H λx c=>tyV K T x c/\t d c λf g=>r x f g Q
variable {o e:Expr}{es:List Expr}{to:TE}{t:TA}{name:Str}{apos cpos:Pos}{T id:String}{r:V->List V->Hp->VK->Prop}
def aBj(j:PlainAttrs T)(slot:Slot T name id)(k:typeOf (.builtin id)=pure (.type "method_descriptor"))(l:MtR X id r)(m:PE X o to)(n:PA X (e::es) t)(p:attributeBase o name X.env (eval o X.env)=eval o X.env:=by rfl)(q:((backTo cpos (starEach (e::es) X.env)).all (λx=>!x.1)&&(backToKw cpos (keywordEach [] X.env)).all (λx=>x.1.isSome)
   && decide ((e::es).length+([]:List Keyword).length+(if ([]:List Keyword).isEmpty then 0 else 1)<30))=true:=by rfl)(u:(apos.endLine == cpos.line)=true:=by rfl)(hs:starEach (e::es) X.env=(false,eval e X.env)::starEach es X.env:=by rfl)(w:(backTo cpos (starEach es X.env)).any (·.1)=false:=by rfl) :
  PE X (.Call (.Attribute o name apos) (e::es) [] cpos) (tBM X.K T r to t):=by
 intro c s d H Q I h;refine wpAny_Call_method_late p q u rfl (bN (m c s d H _ I h) ?_);refine λv y=>yE2 λx z=>yA4 λf g ty A=>?_;obtain⟨B,C⟩:=Ym f g ty;refine⟨T,id,j,slot,k,B,C,?_⟩;have i:=n cpos c y d z _ f A;rw[hs]at i ⊢;refine Calls.callWith_builtin (by show(false||(backTo cpos (starEach es X.env)).any (·.1))=false;rw[w]<;>rfl) (Calls.evalArgs_plain ?_);exact bN i λD E ⟨vs,F,G,J,K⟩=>l c E d F x vs v D Q G g J K
/- N.append(e),list.index O a P tuple .. M MtR L of 06m -/
end
def MtM(X:Cx)(id:String)(r:V->List V->Hp->VK->Prop):Prop:=
 ∀(a:ZB)(s:PP)(d:St)(H:Hp)(x:V)(b:List V)(v:Q3)(c:List Q3)(Q:VK),Inv X a d H s->RelV x v->Vals b c->r x b H Q →
  wpAny (model X.prog X.w) X.A (call (.builtin id) (v::c)) (EP X a d Q) X.xe s
def Vals.one:∀ {x:V}{us:List Q3},Vals [x] us->∃u,us=[u]/\RelV x u
 | _,_,.cons r .nil=>⟨_,rfl,r⟩
def Vals.two{x y:V}{us:List Q3}(h:Vals [x,y] us):∃u v,us=[u,v] ∧ RelV x u ∧ RelV y v:=by
 cases h with|cons r t=>cases t with|cons q t=>cases t;exact⟨_,_,rfl,r,q⟩
def Vals.eraseIdx:∀ {xs:List V}{us:List Q3} (i:Nat),Vals xs us->Vals (xs.eraseIdx i) (us.eraseIdx i)
 | _,_,_,.nil=>.nil
 | _,_,0,.cons _ t=>t
 | _,_,i+1,.cons r t=>.cons r (Vals.eraseIdx i t)
theorem vC{a:Type}:∀(l:List a)(i:Nat),(l.eraseIdx i).length<=l.length
 | [],_=>bA _
 | _::_,0=>le_succ _
 | _::r,i+1=>Nat.succ_le_succ (vC r i)
section
variable {X:Cx}{pins:ZB}{σ:St}{H:Hp}{s:PP}{l b:TD}{xs ys zs:List V}
def Inv.lset{its its':List Q3}{n:Nat}{f:Array Value->Array Value}{t':Nat}(I:Inv X pins σ H s)(a:H l=some (.lst xs))(e:s.heap.get? l=some {cls:=.type "list",data:=.seq its.toArray n })(c:f its.toArray=its'.toArray)(d:Vals ys its')(hz:ys.length<=sizeLine) :
  Inv X pins σ (aH H l (.lst ys)) {s with heap:=s.heap.update l (Obj.mapSeq f),toks:=t' }:=by
 have q:=PySem.IsL.update e f;rw[c]at q;refine I.write (x:=l) (e:=l) (by rw[a];exact trivial) (.inl rfl) (λi u g h=>(Heap.get?_update_other s.heap (Obj.mapSeq f) (Ne.symm g)).trans h) ⟨_,q⟩ ?_;exact⟨hz,its',_,d,q⟩
def Inv.lnew{its:List Q3}{t':Nat}(I:Inv X pins σ H s)(a:Vals ys its)(hz:ys.length<=sizeLine) :
  Inv X pins σ (aH H s.heap.objs.size (.lst ys)) {s with heap:=s.heap.push {cls:=.type "list",data:=.seq its.toArray },toks:=t' }:=
 I.laid (λ_ _ q=>iD _ q) (bA _) ⟨hz,its,0,a,TW _ rfl⟩
def Inv.fresh(I:Inv X pins σ H s):H s.heap.objs.size=none:=I.hok.fresh (bA _)
def Inv.lstM(I:Inv X pins σ H s)(a:H l=some (.lst xs)):xs.length<=sizeLine/\∃(its:List Q3)(n:Nat),Vals xs its/\xs.length=its.length/\s.heap.get? l=some {cls:=.type "list",data:=.seq its.toArray n }:=by
 obtain⟨z,its,n,r,e⟩:=I.hok l _ a;exact⟨z,its,n,r,r.length,e⟩
def Kq{n:Nat}(h:n<=sizeLine):Builtin.List.listTooLong n=false:=by
 unfold Builtin.List.listTooLong;exact T0 Zo
end
section
variable {X:Cx}
def Dq:V->List V->Hp->VK->Prop:=λx vs H Q=>∃l a y,x=.ref l/\vs=[y]/\H l=some (.lst a)/\a.length<sizeLine/\Q .non (aH H l (.lst (a++[y])))
def Gq:MtM X "list.append" Dq:=by
 intro g s o H x vs v i Q I c d h;revert h;refine yE3 λl j y=>yA5 λζ η b k q=>?_;subst ζ η;cases c;obtain⟨u,rfl,f⟩:=d.one;obtain⟨z,a,n,r,m,e⟩:=I.lstM b;refine call_meets F.slot_list_append ⟨_,e,rfl⟩ F.entry_list_append (F.args_list_append_2 _ _) (PySem.list_append l a.toArray n u (by rw[dX];omega)) ⟨e,?_⟩;refine⟨.non,_,I.lset (its':=a++[u]) b e Zs (r.append (.cons f .nil)) ?_,rfl,q⟩;rw[uC,length_singleton];omega
def Sk:V->List V->Hp->VK->Prop:=λx vs H Q=>∃l b a c,x=.ref l/\vs=[.ref b]/\H l=some (.lst a)/\H b=some (.lst c)/\a.length+c.length<=sizeLine/\Q .non (aH H l (.lst (a++c)))
def aAR:MtM X "list.extend" Sk:=by
 intro w s J H x vs v y Q I g i h;revert h;refine yE4 λl b A B=>yA6 λζ η d j C q=>?_;subst ζ η;cases g;obtain⟨u,rfl,k⟩:=i.one;cases k;obtain⟨z,a,n,r,D,e⟩:=I.lstM d;obtain⟨E,c,m,o,G,p⟩:=I.lstM j;have f:a.toArray.size+c.toArray.size<=sizeLine:=by rw[dX,dX];omega
 have t:¬ (!a.toArray.isEmpty&&Builtin.List.listTooLong (a.toArray.size+c.toArray.size))=true:=by
  rw[Kq f,Bool.and_false];exact V4
 refine call_meets F.slot_list_extend ⟨_,e,rfl⟩ F.entry_list_extend (F.args_list_extend_2 _ _)
  (AutoSeq1.list_extend_list_list_0 l a.toArray n b c.toArray m t (by rw[dX];omega) Zo) ⟨e,p,?_⟩
 refine⟨.non,_,I.lset (its':=a++c) d e Zs (r.append o) ?_,rfl,q⟩;rw[uC];omega
def Kr:V->List V->Hp->VK->Prop:=λx vs H Q=>∃l a i k y,x=.ref l/\vs=[.int i]/\H l=some (.lst a)/\-(2^63)<=i/\i<2^63/\seqIndex? i a.length=some k/\a[k]?=some y/\Q y (aH H l (.lst (a.eraseIdx k)))
def Kt:MtM X "list.pop" Kr:=by
 intro D s G H x vs v E Q I c d h;revert h;refine yE5 λl f i k y=>yA8 λζ η b g j m o q=>?_;subst ζ η;cases c;obtain⟨u,rfl,p⟩:=d.one;obtain⟨t,rfl⟩:=p;obtain⟨z,a,n,r,A,e⟩:=I.lstM b;obtain⟨w,B,C⟩:=r.get o;refine call_meets F.slot_list_pop ⟨_,e,rfl⟩ F.entry_list_pop (F.args_list_pop_2 _ _)
  (MeetsSeq.list_pop_at l a.toArray n i t k w (fitsIndex_both g j) (by rw[dX,<- A];exact m) (by rw[<- Array.getElem?_toList];exact B) (by rw[dX];omega)) ⟨e,?_⟩
 refine⟨y,_,I.lset (its':=a.eraseIdx k) b e ?_ (r.eraseIdx k) ?_,C,q⟩
 ·show a.toArray.eraseIdxIfInBounds k=(a.eraseIdx k).toArray;rw[List.eraseIdxIfInBounds_toArray]
 ·have:=vC f k;omega
def aCw:R2:=λx y H Q=>∃l b a c,x=.ref l/\y=.ref b/\H l=some (.lst a)/\H b=some (.lst c)/\a.length+c.length<=sizeLine/\∀p,H p=none->Q (.ref p) (aH H p (.lst (a++c)))
def Yn:OpR X (binaryOp .Add) aCw:=by
 intro o s E H x y v u Q I d f h;revert h;refine yE4 λl b p t=>yA6 λζ η g i w q=>?_;subst ζ η;cases d;cases f;obtain⟨z,a,n,r,A,e⟩:=I.lstM g;obtain⟨B,c,C,j,D,k⟩:=I.lstM i;refine PySem.P.add_list e k ?_ (by rw[dX,dX];omega);have m:a.toArray++c.toArray=(a++c).toArray:=by simp
 rw[m];exact⟨.ref _,_,I.lnew (t':=s.toks) (r.append j) (by rw[uC];omega),rfl,q _ I.fresh⟩
end
section
variable {κ:Type} [DecidableEq κ]
def aY(kvs:List (κ×V))(k:κ):Option V:=(kvs.find? λa=>decide (a.1=k)).map (·.2)
def bQ(kvs:List (κ×V))(k:κ)(v:V):List (κ×V):=
 if (kvs.any λa=>decide (a.1=k))=true then kvs.map (λa=>if a.1=k then (a.1,v) else a) else kvs++[(k,v)]
def cE(kvs:List (κ×V))(k:κ):List (κ×V):=kvs.filter λa=>decide (a.1≠k)
def bY{p:κ×V}{r:List (κ×V)}{k:κ}(e:p.1=k):aY (p::r) k=some p.2:=by simp[aY,find?_cons,e]
def bZ{p:κ×V}{r:List (κ×V)}{k:κ}(e:¬ p.1=k):aY (p::r) k=aY r k:=by simp[aY,find?_cons,e]
theorem cS(k:κ):∀kvs:List (κ×V),(kvs.any λa=>decide (a.1=k))=(aY kvs k).isSome
 | []=>rfl
 | p::r=>by
  rw[any_cons];by_cases e:p.1=k
  ·simp only [bY e,UF e,Bool.true_or,Option.isSome_some]
  ·rw[bZ e,T0 e,Bool.false_or];exact cS k r
theorem yT(k j:κ)(y:V):∀kvs:List (κ×V),aY (kvs.map λa=>if a.1=k then (a.1,y) else a) j=(aY kvs j).map λx=>if j=k then y else x
 | []=>rfl
 | p::r=>by
  have b:=yT k j y r;rw[map_cons];by_cases h:p.1=k
  ·rw[O8 h];by_cases e:p.1=j
   ·rw[bY (p:=(p.1,y)) e,bY e,Option.map_some,O8 (e.symm.trans h)]
   ·rw[bZ (p:=(p.1,y)) e,bZ e,b]
  ·rw[NE h];by_cases e:p.1=j
   ·rw[bY (p:=p) e,bY e,Option.map_some,NE (λz=>h (e.trans z))]
   ·rw[bZ (p:=p) e,bZ e,b]
theorem vD(k j:κ)(y:V):∀kvs:List (κ×V),aY kvs k=none->aY (kvs++[(k,y)]) j=if j=k then some y else aY kvs j
 | [],_=>by
  by_cases e:k=j
  ·rw[O8 e.symm];exact bY (p:=(k,y)) e
  ·rw[NE (λz=>e z.symm)];exact bZ (p:=(k,y)) e
 | p::r,a=>by
  rw[cons_append];have b:¬ p.1=k:=λz=>by rw[bY z]at a;cases a
  rw[bZ b]at a;have c:=vD k j y r a;by_cases e:p.1=j
  ·rw[bY e,bY e,NE (λz=>b (e.trans z))]
  ·rw[bZ e,bZ e,c]
def iX(kvs:List (κ×V))(k j:κ)(y:V):aY (bQ kvs k y) j=if j=k then some y else aY kvs j:=by
 unfold bQ;by_cases a:(kvs.any λb=>decide (b.1=k))=true
 ·rw[O8 a,yT];rw[cS]at a;by_cases e:j=k
  ·obtain⟨x,c⟩:=Option.isSome_iff_exists.mp a;rw[O8 e,e,c,Option.map_some,O8 rfl]
  ·rw[NE e];cases aY kvs j with
   | none=>rfl
   | some x=>rw[Option.map_some,NE e]
 ·rw[NE a];refine vD k j y kvs ?_;rw[cS]at a;cases q:aY kvs k with
  | none=>rfl
  | some x=>rw[q]at a;exact(a rfl).elim
def dY(kvs:List (κ×V))(k:κ)(v:V):(bQ kvs k v).length<=kvs.length+1:=by
 unfold bQ;split
 ·rw[aR];omega
 ·rw[uC,yK,length_nil];omega
def iY{kvs:List (κ×V)}{k:κ}(v:V)(h:aY kvs k=none):bQ kvs k v=kvs++[(k,v)]:=by
 unfold bQ;rw[cS,h];exact NE Zd
def RelO.isSome_eq{o:Option V}{u:Option Q3}(r:RelO o u):o.isSome=u.isSome:=by
 cases o with
 | none=>cases u with
  | none=>rfl
  | some _=>exact(show False from r).elim
 | some _=>cases u with
  | none=>exact(show False from r).elim
  | some _=>rfl
def RelO.getD{o:Option V}{u:Option Q3}{d:V}{d':Q3}(r:RelO o u)(rd:RelV d d'):RelV (o.getD d) (u.getD d'):=by
 cases o with
 | none=>cases u with
  | none=>exact rd
  | some _=>exact(show False from r).elim
 | some _=>cases u with
  | none=>exact(show False from r).elim
  | some _=>exact r
def KV.val{kvs:List (κ×V)}{vs:List (κ×Q3)}(r:KV kvs vs)(k:κ):RelO (aY kvs k) (valueAt vs k):=by
 unfold KV at r;induction r with
 | nil=>exact True.intro
 | @cons p q ps a h t f=>
  obtain⟨d,g⟩:=h;by_cases e:p.1=k
  ·have c:q.1=k:=d.symm.trans e;have b:valueAt (q::a) k=some q.2:=by simp[valueAt,find?_cons,c]
   rw[bY e,b];exact g
  ·have c:¬ q.1=k:=λz=>e (d.trans z)
   have b:valueAt (q::a) k=valueAt a k:=by simp[valueAt,find?_cons,c]
   rw[bZ e,b];exact f
def KV.any{kvs:List (κ×V)}{vs:List (κ×Q3)}(r:KV kvs vs)(k:κ):(kvs.any λa=>decide (a.1=k))=vs.any λa=>decide (a.1=k):=by
 unfold KV at r;induction r with
 | nil=>rfl
 | cons h t b=>rw[any_cons,any_cons,b,h.1]
def KV.repl{kvs:List (κ×V)}{vs:List (κ×Q3)}(r:KV kvs vs)(k:κ){y:V}{u:Q3}(c:RelV y u) :
  KV (kvs.map λa=>if a.1=k then (a.1,y) else a) (vs.map λa=>if a.1=k then (a.1,u) else a):=by
 unfold KV at r ⊢
 induction r with
 | nil=>exact .nil
 | @cons p q ps g h t d=>
  rw[map_cons,map_cons];refine .cons ?_ d;obtain⟨b,f⟩:=h;by_cases e:p.1=k
  ·rw[O8 e,O8 (b.symm.trans e)];exact⟨b,c⟩
  ·rw[NE e,NE (λz=>e (b.trans z))];exact⟨b,f⟩
def KV.put{kvs:List (κ×V)}{vs:List (κ×Q3)}(r:KV kvs vs)(k:κ){y:V}{u:Q3}(a:RelV y u):KV (bQ kvs k y) (stored vs k u):=by
 unfold bQ stored;rw[r.any k];by_cases e:(vs.any λb=>decide (b.1=k))=true
 ·rw[O8 e,O8 e];exact r.repl k a
 ·rw[NE e,NE e];exact Paired.snoc r ⟨rfl,a⟩
def KV.drop{kvs:List (κ×V)}{vs:List (κ×Q3)}(r:KV kvs vs)(k:κ):KV (cE kvs k) (without vs k):=by
 unfold KV at r ⊢;unfold cE without;induction r with
 | nil=>exact .nil
 | @cons p q ps i h t d=>
  obtain⟨c,f⟩:=h;rw[filter_cons,filter_cons];by_cases e:p.1=k
  ·have a:¬ decide (p.1≠k)=true:=by simp[e]
   have b:¬ decide (q.1≠k)=true:=by simp[c.symm.trans e]
   rw[NE a,NE b];exact d
  ·have g:¬ q.1=k:=λz=>e (c.trans z)
   have a:decide (p.1≠k)=true:=by simp[e]
   have b:decide (q.1≠k)=true:=by simp[g]
   rw[O8 a,O8 b];exact .cons ⟨c,f⟩ d
def KV.keys{kvs:List (κ×V)}{vs:List (κ×Q3)}(r:KV kvs vs):kvs.map (·.1)=vs.map (·.1):=by
 unfold KV at r;induction r with
 | nil=>rfl
 | cons h t a=>rw[map_cons,map_cons,a,h.1]
def KV.length{kvs:List (κ×V)}{vs:List (κ×Q3)}(r:KV kvs vs):kvs.length=vs.length:=Paired.length r
def nX(kvs:List (κ×V))(k:κ):(cE kvs k).length<=kvs.length:=length_filter_le _ _
end
def nY{P:Program}{w:World}{k:aS}{u:Q3}(r:RelV (kV k) u):(aX P w).is k u=true:=by
 cases k with
 | inl i=>obtain⟨t,e⟩:=(show ∃t,u=Value.int i t from r);subst e;exact yL P w i t
 | inr x=>obtain⟨t,e⟩:=(show ∃t,u=Value.str x t from r);subst e;exact yM P w x t
def vE{P:Program}{w:World}:∀ {ks:List aS}{us:List Q3},Vals (ks.map kV) us->ItemsAre (aX P w) ks us
 | [],_,r=>by rw[map_nil]at r;cases r;exact .nil
 | k::ks,_,r=>by
  rw[map_cons]at r;cases r with
  | cons h t=>exact .cons (nY h) (vE t)
abbrev KT(H:Hp):List (List aS×V)->List (List aS×TD×Q3)->Prop:=Paired λp q=>p.1=q.1/\H q.2.1=some (.tup (p.1.map kV))/\RelV p.2 q.2.2
def KT.val{H:Hp}{kvs:List (List aS×V)}{xs:List (List aS×TD×Q3)}(r:KT H kvs xs)(k:List aS):RelO (aY kvs k) ((atKey xs k).map (·.2)):=by
 induction r with
 | nil=>exact True.intro
 | @cons p q ps a h t f=>
  obtain⟨d,_,g⟩:=h;by_cases e:p.1=k
  ·have c:q.1=k:=d.symm.trans e;have b:atKey (q::a) k=some q.2:=by simp[atKey,find?_cons,c]
   rw[bY e,b];exact g
  ·have c:¬ q.1=k:=λz=>e (d.trans z)
   have b:atKey (q::a) k=atKey a k:=by simp[atKey,find?_cons,c]
   rw[bZ e,b];exact f
def KT.repl{H:Hp}{kvs:List (List aS×V)}{xs:List (List aS×TD×Q3)}(r:KT H kvs xs)(k:List aS){y:V}{u:Q3}(d:RelV y u) :
  KT H (kvs.map λb=>if b.1=k then (b.1,y) else b) (xs.map (putAt k u)):=by
 induction r with
 | nil=>exact .nil
 | @cons p q ps i h t f=>
  rw[map_cons,map_cons];refine .cons ?_ f;revert h;refine yA3 λa c g=>?_;unfold putAt;by_cases e:p.1=k
  ·rw[O8 e,O8 (a.symm.trans e)];exact⟨a,c,d⟩
  ·rw[NE e,NE (λz=>e (a.trans z))];exact⟨a,c,g⟩
def KT.put{H:Hp}{kvs:List (List aS×V)}{xs:List (List aS×TD×Q3)}(r:KT H kvs xs)(k:List aS){b:TD}{y:V}{u:Q3}(c:H b=some (.tup (k.map kV)))(a:RelV y u) :
  KT H (bQ kvs k y) (storedH xs k b u):=by
 have e:(kvs.any λd=>decide (d.1=k))=(atKey xs k).isSome:=by
  rw[cS,(r.val k).isSome_eq,Option.isSome_map]
 unfold bQ storedH;rw[e];by_cases q:(atKey xs k).isSome=true
 ·rw[O8 q,O8 q];exact r.repl k a
 ·rw[NE q,NE q];exact Paired.snoc r ⟨rfl,c,a⟩
def KT.keeps{H H':Hp}{kvs:List (List aS×V)}{xs:List (List aS×TD×Q3)}(r:KT H kvs xs)(a:∀b ys,H b=some (.tup ys)->H' b=some (.tup ys)):KT H' kvs xs:=
 Paired.mapP r λ_ _ z=>⟨z.1,a _ _ z.2.1,z.2.2⟩
section
variable {P:Program}{w:World}{H:Hp}{h:Heap}{a:TD}
def Vw{u:HO}(ok:HOk P w H h)(e:Rd H a u):ObjOk P w H h a u:=e.ok ok
def nZ{kvs:List (aS×V)}(ok:HOk P w H h)(e:Rd H a (.dK kvs)):kvs.length<=sizeLine/\(a==sysModules)=false/\∃vs,KV kvs vs/\h.DictOf (aX P w) a vs:=
 show ObjOk P w H h a (.dK kvs) from Vw ok e
def Dr{kvs:List (aS×V)}(ok:HOk P w H h)(e:H a=some (.dK kvs)):kvs.length<=sizeLine/\(a==sysModules)=false/\∃vs,KV kvs vs/\h.DictOf (aX P w) a vs:=nZ ok (.inl e)
def kP{ks:List aS}(ok:HOk P w H h)(e:H a=some (.tup (ks.map kV))):(tupleKind (aX P w)).is h ks a:=by
 obtain⟨_,b,r,o,c,d,n,f⟩:=(show ObjOk P w H h a (.tup (ks.map kV)) from ok a _ e);exact⟨o,b.toArray,n,c,d,f,by simpa using vE r⟩
def rZ{kvs:List (List aS×V)}(ok:HOk P w H h)(e:Rd H a (.dT kvs)):kvs.length<=sizeLine/\(a==sysModules)=false ∧
  ∃xs,KT H kvs xs/\h.DictOfH (tupleKind (aX P w)) a xs:=by
 refine yE0 (show ObjOk P w H h a (.dT kvs) from Vw ok e) (yA3 λz y=>yE1 λxs=>yA2 λr=>yE3 λo d f=>yA5 λg i j k n=>?_);refine⟨z,y,xs,r,o,d,f,g,i,j,k,λx b=>?_,n⟩;have all:∀ {l:List (List aS×V)}{m:List (List aS×TD×Q3)},KT H l m->∀x∈m,(tupleKind (aX P w)).is h x.1 x.2.1:=by
  intro l m q;induction q with
  | nil=>intro x b;exact nomatch b
  | @cons p q ps u c t s=>
   intro x b;rcases mem_cons.mp b with e|b
   ·subst e;exact kP ok (by rw[<- c.1];exact c.2.1)
   ·exact s x b
 exact all r x b
def Ku{kvs:List (List aS×V)}(ok:HOk P w H h)(e:H a=some (.dT kvs)):kvs.length<=sizeLine/\(a==sysModules)=false ∧
  ∃xs,KT H kvs xs/\h.DictOfH (tupleKind (aX P w)) a xs:=rZ ok (.inl e)
end
def DGet(H:Hp)(a:TD)(y:V)(r:Option V):Prop:=
 (∃c k,Rd H a (.dK c)/\y=kV k/\r=aY c k)∨∃c k b,Rd H a (.dT c)/\y=.ref b/\H b=some (.tup (k.map kV))/\r=aY c k
def DPut(H:Hp)(a:TD)(y v:V)(H':Hp):Prop:=
 (∃c k,H a=some (.dK c)/\y=kV k/\c.length<sizeLine/\H'=aH H a (.dK (bQ c k v)))∨
 ∃c k b,H a=some (.dT c)/\y=.ref b/\H b=some (.tup (k.map kV))/\c.length<sizeLine/\H'=aH H a (.dT (bQ c k v))
def DGet.k{H:Hp}{a:TD}{kvs:List (aS×V)}{k:aS}(e:H a=some (.dK kvs)):DGet H a (kV k) (aY kvs k):=.inl ⟨kvs,k,.inl e,rfl,rfl⟩
def DGet.t{H:Hp}{a b:TD}{kvs:List (List aS×V)}{k:List aS}(e:H a=some (.dT kvs))(c:H b=some (.tup (k.map kV))):DGet H a (.ref b) (aY kvs k):=.inr ⟨kvs,k,b,.inl e,rfl,c,rfl⟩
def DPut.k{H:Hp}{a:TD}{kvs:List (aS×V)}{k:aS}{v:V}(e:H a=some (.dK kvs))(b:kvs.length<sizeLine):DPut H a (kV k) v (aH H a (.dK (bQ kvs k v))):=.inl ⟨kvs,k,e,rfl,b,rfl⟩
def DPut.t{H:Hp}{a b:TD}{kvs:List (List aS×V)}{k:List aS}{v:V}(e:H a=some (.dT kvs))(c:H b=some (.tup (k.map kV)))(d:kvs.length<sizeLine) :
  DPut H a (.ref b) v (aH H a (.dT (bQ kvs k v))):=.inr ⟨kvs,k,b,e,rfl,c,d,rfl⟩
section
variable {X:Cx}{pins:ZB}{σ:St}{H:Hp}{s:PP}{a:TD}{y v:V}{u r:Q3}{o:Option V}{A:Around}{E:XV}
def Inv.big(I:Inv X pins σ H s):sysModules<s.heap.objs.size:=by
 have h:mainGlobals<s.heap.objs.size:=(I.mod.glob.keeps I.bk).lt;exact lt_trans Zd h
def Gr{Q:XV}(t:A.units+1<cLine)(I:Inv X pins σ H s)(g:DGet H a y (some v))(m:RelV y u)(h:∀c n,Inv X pins σ H n->RelV v c->Q c n) :
  wpAny (model X.prog X.w) A (getItem (.ref a) u) Q E s:=by
 rcases g with⟨q,k,e,f,l⟩|⟨q,k,b,e,f,w,l⟩
 ·subst f;obtain⟨z,hd,vs,d,dd⟩:=nZ I.hok e;obtain⟨c,i,j⟩:=RelO.some_of (v:=v) (o:=valueAt vs k) (by rw[l];exact d.val k);exact wpAny_getItem_of (nY m) dd.mapOf i (h c _ (I.tok _) j)
 ·subst f;cases(show u=Value.ref b from m);obtain⟨z,hd,x,d,dd⟩:=rZ I.hok e;obtain⟨c,i,j⟩:=RelO.some_of (v:=v) (o:=(atKey x k).map (·.2)) (by rw[l];exact d.val k);obtain⟨p,B,C⟩:=Option.map_eq_some_iff.mp i;refine wpAny_getItem_heap (tupleKind_room_in1 t) (kP I.hok w) dd B ?_;rw[C];exact h c _ (I.tok _) j
def aBk{Q:XV}(m:A.units+1<cLine)(I:Inv X pins σ H s)(g:DGet H a y o)(f:RelV y u)(h:∀i,Inv X pins σ H i->Q (.bool o.isSome) i) :
  wpAny (model X.prog X.w) A (compareOp .In u (.ref a)) Q E s:=by
 rcases g with⟨j,k,e,d,l⟩|⟨j,k,b,e,d,n,l⟩
 ·subst d;obtain⟨z,hd,vs,c,dd⟩:=nZ I.hok e;refine wpAny_in_of (nY f) hd dd.mapOf ?_;rw[<- (c.val k).isSome_eq,<- l];exact h _ (I.tok _)
 ·subst d;cases(show u=Value.ref b from f);obtain⟨z,hd,p,c,dd⟩:=rZ I.hok e;refine wpAny_in_heap (tupleKind_room_in1 m) (kP I.hok n) hd dd ?_;have q:=(c.val k).isSome_eq;rw[Option.isSome_map]at q;rw[<- q,<- l];exact h _ (I.tok _)
def Ds{Q:XV}(m:A.units+1<cLine)(I:Inv X pins σ H s)(g:DGet H a y o)(f:RelV y u)(h:∀i,Inv X pins σ H i->Q (.bool (!o.isSome)) i) :
  wpAny (model X.prog X.w) A (compareOp .NotIn u (.ref a)) Q E s:=by
 rcases g with⟨j,k,e,d,l⟩|⟨j,k,b,e,d,n,l⟩
 ·subst d;obtain⟨z,hd,vs,c,dd⟩:=nZ I.hok e;refine wpAny_notIn_of (nY f) hd dd.mapOf ?_;rw[<- (c.val k).isSome_eq,<- l];exact h _ (I.tok _)
 ·subst d;cases(show u=Value.ref b from f);obtain⟨z,hd,p,c,dd⟩:=rZ I.hok e;refine wpAny_notIn_heap (tupleKind_room_in1 m) (kP I.hok n) hd dd ?_;have q:=(c.val k).isSome_eq;rw[Option.isSome_map]at q;rw[<- q,<- l];exact h _ (I.tok _)
def oB{h':Heap}{t':Nat}{c:HO}(I:Inv X pins σ H s)(d:Mut (H a))(hs:Heap.SameBut a s.heap h')(f:∃q,h'.get? a=some q)(new:ObjOk X.prog X.w (aH H a c) h' a c) :
  Inv X pins σ (aH H a c) {s with heap:=h',toks:=t' }:=
 I.write (x:=a) (e:=a) d (.inl rfl) (λb q g z=>(hs.2 b g).trans z) f new
def Bl{P:Program}{w:World}{H':Hp}{h':Heap}{kvs:List (aS×V)}{vs:List (aS×Q3)}(z:kvs.length<=sizeLine)(hd:(a==sysModules)=false)(b:KV kvs vs)(dd:h'.DictOf (aX P w) a vs) :
  ObjOk P w H' h' a (.dK kvs):=⟨z,hd,vs,b,dd⟩
def Gs{H':Hp}{Q:Unit->PP->Prop}(J:A.units+1<cLine)(I:Inv X pins σ H s)(g:DPut H a y v H')(x:RelV y u)(B:RelV v r)(h:∀C,Inv X pins σ H' C->Q () C) :
  wpAny (model X.prog X.w) A (setItem (.ref a) u r) Q E s:=by
 rcases g with⟨d,k,e,m,l,n⟩|⟨d,k,b,e,m,D,l,n⟩
 ·subst m n;obtain⟨z,hd,vs,f,dd⟩:=Dr I.hok e;have p:vs.length<=sizeLine:=by rw[<- f.length];exact z
  have t:(bQ d k v).length<=sizeLine:=by have:=dY d k v;omega
  refine wpAny_setItem_pairs (hsz:=p) (nY x) dd λF i w=>h _ ?_;have K:∃q,F.get? a=some q:=let ⟨q,_,_,j,_⟩:=i;⟨q,j⟩;exact oB I (by rw[e];exact True.intro) w K (Bl t hd (f.put k B) i)
 ·subst m n;cases(show u=Value.ref b from x);obtain⟨z,hd,L,f,dd⟩:=Ku I.hok e;have p:L.length<=sizeLine:=by rw[<- Paired.length f];exact z
  have t:(bQ d k v).length<=sizeLine:=by have:=dY d k v;omega
  refine wpAny_setItem_heap (hsz:=p) (tupleKind_room_in1 J) (kP I.hok D) dd λF i w=>h _ ?_;revert i;refine yE3 λq M N=>yA6 λj O P R _ S=>?_;refine oB I (by rw[e];exact True.intro) w ⟨q,j⟩ ⟨t,hd,_,(f.put k D B).keeps λc T G=>?_,q,M,N,j,O,P,R,S⟩;rw[aB (aK G e nofun)];exact G
end
section
variable {X:Cx}{pins:ZB}{σ:St}{H:Hp}{s:PP}{a:TD}{kvs:List (aS×V)}{k:aS}{u:Q3}{A:Around}{E:XV}
def aAS{Q:Unit->PP->Prop}(I:Inv X pins σ H s)(e:H a=some (.dK kvs))(f:RelV (kV k) u)(l:(aY kvs k).isSome=true)(h:∀c,Inv X pins σ (aH H a (.dK (cE kvs k))) c->Q () c) :
  wpAny (model X.prog X.w) A (delItem (.ref a) u) Q E s:=by
 obtain⟨z,hd,vs,b,dd⟩:=Dr I.hok e;refine wpAny_delItem_slot dd.typeIs Zd PySem.F.slot_dict_delitem
  (call_meetsIn PySem.F.slot_dict_delitem dd.typeIs PySem.F.entry_dict_delitem (PySem.F.args_dict_delitem_2 _ _) (meets_dict_delitem_pairs (aX X.prog X.w) a (nY f)) ⟨vs,dd,by rw[<- b.length];exact z,by rw[<- (b.val k).isSome_eq];exact l,λg d i=>h _ ?_⟩)
 have j:∃q,g.get? a=some q:=let ⟨q,_,_,m,_⟩:=d;⟨q,m⟩;exact oB I (by rw[e];exact True.intro) i j (Bl (fT (nX kvs k) z) hd (b.drop k) d)
def aBl{v:V}{more:List Q3}{Q:XV}(I:Inv X pins σ H s)(e:H a=some (.dK kvs))(d:RelV (kV k) u)(l:aY kvs k=some v)(f:more=[]∨∃x,more=[x])(h:∀b g,Inv X pins σ (aH H a (.dK (cE kvs k))) g->RelV v b->Q b g):wpAny (model X.prog X.w) A (call (.builtin "dict.pop") (.ref a::u::more)) Q E s:=by
 obtain⟨z,hd,vs,c,dd⟩:=Dr I.hok e;obtain⟨b,m,n⟩:=RelO.some_of (v:=v) (o:=valueAt vs k) (by rw[<- l];exact c.val k);have p:(keyPart u).isSome=true:=by
  cases k with
  | inl i=>obtain⟨t,q⟩:=(show ∃t,u=Value.int i t from d);subst q;rfl
  | inr x=>obtain⟨t,q⟩:=(show ∃t,u=Value.str x t from d);subst q;rfl
 have r:argsOk "dict.pop" ⟨.ref a::u::more,[]⟩:=by
  rcases f with q|⟨x,q⟩
  ·subst q;exact PySem.F.args_dict_pop_2 _ _
  ·subst q;exact PySem.F.args_dict_pop_3 _ _ _
 refine call_meetsIn PySem.F.slot_dict_pop dd.typeIs PySem.F.entry_dict_pop r (meets_dict_pop_there (aX X.prog X.w) a (nY d) more f p)
  ⟨vs,b,dd,by rw[<- c.length];exact z,m,λw j y=>h b _ ?_ n⟩
 have B:∃q,w.get? a=some q:=let ⟨q,_,_,C,_⟩:=j;⟨q,C⟩;exact oB I (by rw[e];exact True.intro) y B (Bl (fT (nX kvs k) z) hd (c.drop k) j)
end
def Yo(i:Expr):Prop:=∀a b,subscripted i false a b=operate [a,b] (getItem a b)
def Sl{prog:Program}{w:World}{A:Around}{E:XV}{s:PP}{env:Env}{b slice:Expr}{pos:Pos}{T id:String}{Q:XV}(l:typeLookup (.type T) "__getitem__"=pure (some (.builtin id)))(hs:Yo slice)(h:wpAny (model prog w) A (eval b env) (λo e=>wpAny (model prog w) A (eval slice env) (λi a=>a.TypeIs o T/\wpAny (model prog w) A (getItem o i) Q E a) E e) E s) :
  wpAny (model prog w) A (eval (.Subscript b slice pos) env) Q E s:=by
 refine Subscript_ (wpAny_mono h (λo e j=>wpAny_mono j (λi a c=>?_) λ_ _ x=>x) λ_ _ x=>x);obtain⟨g,c⟩:=c;unfold subscriptTail;refine WP ?_;rw[getitemInPython_of_ne g.not_modules];refine WP (wpAny_specialOf g l ?_);have d:wpAny (model prog w) A (subscripted slice false o i) (λr f=>wpAny (model prog w) A (letTemporaryGo b o r>>=λ_=>pure r) Q E f) E a:=by
  rw[hs o i];exact wpAny_operating (wpAny_mono c (λr f k=>WP (wpAny_letTemporaryGo (WF k))) λ_ _ x=>x)
 first
  | exact WF (WP d)
  | exact WP (WF (WP d))
  | exact WP d
def yU{X:Cx}{c:ZB}{f:St}{H:Hp}{s:PP}{a:TD}{y:V}{o:Option V}(I:Inv X c f H s)(g:DGet H a y o):s.TypeIs (.ref a) "dict":=by
 rcases g with⟨d,k,e,_,_⟩|⟨d,k,b,e,_,_,_⟩
 ·obtain⟨_,_,vs,_,dd⟩:=nZ I.hok e;exact dd.typeIs
 ·obtain⟨_,_,h,_,dd⟩:=rZ I.hok e;exact dd.typeIs
def Vx(d ty:TE):TE:=λc H Q=>d c H λx e=>ty c e λy b=>∃a v,x=.ref a/\DGet b a y (some v)/\Q v b
section
variable {X:Cx}{o i e value:Expr}{pos pos' GF:Pos}{td ty tv:TE}
def Sm(f:X.A.units+1<cLine)(j:PE X o td)(k:PE X i ty)(hs:Yo i):PE X (.Subscript o i pos) (Vx td ty):=by
 intro b s d H Q I h;refine Sl PySem.F.slot_dict_getitem.lookup hs (bN (j b s d H _ I h) λu l ⟨x,m,n,p,q⟩=>bN (k b l d m _ n q) ?_);refine λC D=>yE2 λy r=>yA3 λc t=>yE2 λa v=>yA3 λw g z=>?_;subst w;obtain rfl:u=Value.ref a:=p;exact⟨yU c g,Gr f c g t λE F A B=>⟨v,r,A,B,z⟩⟩
end
def Kv{P:Program}{w:World}{H:Hp}(h:Heap)(a:sysModules<h.objs.size):ObjOk P w H (h.push {cls:=.type "dict",data:=.dict #[] }) h.objs.size (.dK []):=
 ⟨zero_le _,beq_eq_false_iff_ne.mpr (Ne.symm (ne_of_lt a)),[],.nil,Heap.DictOf.new h⟩
def Kw{P:Program}{w:World}{H:Hp}(h:Heap)(a:sysModules<h.objs.size):ObjOk P w H (h.push {cls:=.type "dict",data:=.dict #[] }) h.objs.size (.dT []):=
 ⟨zero_le _,beq_eq_false_iff_ne.mpr (Ne.symm (ne_of_lt a)),[],.nil,_,#[],0,TW _ rfl,⟨rfl,rfl,rfl⟩,rfl,rfl,nodup_nil⟩
def Kx:TE:=λ_ H Q=>∀p,H p=none->Q (.ref p) (aH H p (.dK []))
def Ky:TE:=λ_ H Q=>∀p,H p=none->Q (.ref p) (aH H p (.dT []))
section
variable {X:Cx}{pos:Pos}
def Kz:PE X (.Dict [] [] pos) Kx:=λb s c H Q I h=>
 wpAny_Dict_empty ⟨.ref s.heap.objs.size,_,I.laid (a:=s.heap.objs.size) (o:=.dK []) (t':=s.toks) (λ_ _ q=>iD _ q) (bA _) (Kv s.heap I.big),rfl,h _ (I.hok.fresh (bA _))⟩
def La:PE X (.Dict [] [] pos) Ky:=λb s c H Q I h=>
 wpAny_Dict_empty ⟨.ref s.heap.objs.size,_,I.laid (a:=s.heap.objs.size) (o:=.dT []) (t':=s.toks) (λ_ _ q=>iD _ q) (bA _) (Kw s.heap I.big),rfl,h _ (I.hok.fresh (bA _))⟩
end
def aL(kvs more:List (aS×V)):List (aS×V):=more.foldl (λb a=>bQ b a.1 a.2) kvs
theorem iO:∀(more kvs:List (aS×V)),(aL kvs more).length<=kvs.length+more.length
 | [],kvs=>by show kvs.length<=kvs.length+0;omega
 | p::r,kvs=>by
  have a:=iO r (bQ kvs p.1 p.2);have b:=dY kvs p.1 p.2;show(aL (bQ kvs p.1 p.2) r).length<=_;rw[yK];omega
structure M1(X:Cx)(o:Expr)(m:Str)(apos:Pos)(e:Expr)(cpos:Pos):Prop where
 base:attributeBase o m X.env (eval o X.env)=eval o X.env
 few:((backTo cpos (starEach [e] X.env)).all (λx=>!x.1)&&(backToKw cpos (keywordEach [] X.env)).all (λx=>x.1.isSome)
  && decide (([e]:List Expr).length+([]:List Keyword).length+(if ([]:List Keyword).isEmpty then 0 else 1)<30))=true
 line:(apos.endLine==cpos.line)=true
 trees:backTo cpos (starEach [e] X.env)=[(false,eval e X.env)]
structure M2(X:Cx)(o:Expr)(m:Str)(apos:Pos)(e f:Expr)(cpos:Pos):Prop where
 base:attributeBase o m X.env (eval o X.env)=eval o X.env
 few:((backTo cpos (starEach [e,f] X.env)).all (λx=>!x.1)&&(backToKw cpos (keywordEach [] X.env)).all (λx=>x.1.isSome)
  && decide (([e,f]:List Expr).length+([]:List Keyword).length+(if ([]:List Keyword).isEmpty then 0 else 1)<30))=true
 line:(apos.endLine==cpos.line)=true
 trees:backTo cpos (starEach [e,f] X.env)=[(false,eval e X.env),(false,eval f X.env)]
def IsD(H:Hp)(a:TD):Prop:=(∃b,Rd H a (.dK b))∨∃b,Rd H a (.dT b)
def sA{X:Cx}{h:ZB}{j:St}{H:Hp}{s:PP}{a:TD}(I:Inv X h j H s)(d:IsD H a) :
  s.TypeIs (.ref a) "dict"/\(∀b,Value.ref a=.ref b->∃c,s.heap.get? b=some c/\c.dict=none)/\(a==sysModules)=false:=by
 rcases d with⟨i,e⟩|⟨i,e⟩
 ·obtain⟨_,hd,vs,_,dd⟩:=nZ I.hok e;refine⟨dd.typeIs,λb q=>?_,hd⟩;cases q;revert dd;refine yE3 λc _ _=>yA3 λf g _=>?_;exact⟨c,f,g.2.1⟩
 ·obtain⟨_,hd,k,_,dd⟩:=rZ I.hok e;refine⟨dd.typeIs,λb q=>?_,hd⟩;cases q;revert dd;refine yE3 λc _ _=>yA3 λf g _=>?_;exact⟨c,f,g.2.1⟩
section
variable {X:Cx}{pins:ZB}{σ:St}{H:Hp}{s:PP}{a:TD}{y d:V}{u r:Q3}{o:Option V}{A:Around}{E:XV}
def Yp{Q:XV}(p:A.units+1<cLine)(I:Inv X pins σ H s)(g:DGet H a y o)(i:RelV y u)(rd:RelV d r)(h:∀j m,Inv X pins σ H m->RelV (o.getD d) j->Q j m) :
  wpAny (model X.prog X.w) A (call (.builtin "dict.get") [.ref a,u,r]) Q E s:=by
 rcases g with⟨n,k,e,f,l⟩|⟨n,k,b,e,f,q,l⟩
 ·subst f;obtain⟨z,hd,vs,c,dd⟩:=nZ I.hok e;refine call_meetsIn PySem.F.slot_dict_get dd.typeIs PySem.F.entry_dict_get (PySem.F.args_dict_get_3 _ _ _) (meets_dict_get_default (aX X.prog X.w) a (nY i) hd r) ⟨_,dd.mapOf,h _ _ (I.tok _) ?_⟩;rw[l];exact(c.val k).getD rd
 ·subst f;cases(show u=Value.ref b from i);obtain⟨z,hd,t,c,dd⟩:=rZ I.hok e;refine call_meetsIn PySem.F.slot_dict_get dd.typeIs PySem.F.entry_dict_get (PySem.F.args_dict_get_3 _ _ _) (meetsH_dict_get_default (tupleKind (aX X.prog X.w)) a b hd r) ⟨tupleKind_room_in1 p,k,t,kP I.hok q,dd,h _ _ (I.tok _) ?_⟩;rw[l];exact(c.val k).getD rd
end
def Lb(e ty tx:TE):TE:=λb H Q=>e b H λx c=>∃a,x=.ref a/\IsD c a/\ty b c λy f=>tx b f λz d=>∃o,DGet d a y o/\Q (o.getD z) d
def Lc(f ty:TE):TE:=λe H Q=>f e H λx c=>∃a,x=.ref a/\IsD c a/\ty e c λy d=>∃b k v,d a=some (.dK b)/\y=kV k/\aY b k=some v/\Q v (aH d a (.dK (cE b k)))
section
variable {X:Cx}{o e f:Expr}{apos cpos:Pos}{td ty tx:TE}
def Ld(j:X.A.units+1<cLine)(k:PE X o td)(l:PE X e ty)(n:PE X f tx)(m:M2 X o "get" apos e f cpos):PE X (.Call (.Attribute o "get" apos) [e,f] [] cpos) (Lb td ty tx):=by
 intro b s c H Q I h;refine wpAny_Call_method m.base m.few m.line PySem.F.plainAttrs_dict PySem.F.slot_dict_get PySem.F.type_dict_get (bN (k b s c H _ I h) ?_);refine λu p=>yE2 λx q=>yA3 λi r=>yE1 λa=>yA3 λt d v=>?_;subst t;obtain rfl:u=Value.ref a:=r;refine yE0 (sA i d) (yA3 λw A _=>?_);refine⟨w,A,?_⟩;rw[m.trees];refine Calls.callWith_builtin rfl (Calls.evalArgs_plain (Calls.spliced_cons (bN (l b p c q _ i v) λO B ⟨y,C,D,E,F⟩=>
  Calls.spliced_cons (bN (n b B c C _ D F) λP R ⟨z,G,J,K,S,g,L⟩=>Calls.spliced_nil ?_))))
 exact Yp j J g E K λT U M N=>⟨_,G,M,N,L⟩
def Le(i:PE X o td)(j:PE X e ty)(m:M1 X o "pop" apos e cpos):PE X (.Call (.Attribute o "pop" apos) [e] [] cpos) (Lc td ty):=by
 intro b s g H Q I h;refine wpAny_Call_method m.base m.few m.line PySem.F.plainAttrs_dict PySem.F.slot_dict_pop PySem.F.type_dict_pop (bN (i b s g H _ I h) ?_);refine λu n=>yE2 λx p=>yA3 λc q=>yE1 λa=>yA3 λr d t=>?_;subst r;obtain rfl:u=Value.ref a:=q;refine yE0 (sA c d) (yA3 λw z _=>?_);refine⟨w,z,?_⟩;rw[m.trees];refine Calls.callWith_builtin rfl (Calls.evalArgs_plain (Calls.spliced_cons (bN (j b n g p _ c t) λK L ⟨y,M,A,B,J,k,v,C,D,l,E⟩=>Calls.spliced_nil ?_)));subst D;exact aBl A C B l (.inl rfl) λN O F G=>⟨v,_,F,G,E⟩
end
end L2
namespace WI
open PySem PySem.W PySem.Calls PyProof.Rows
def qY{P:Params}{h:Heap}:∀(c:List Int)(vs:List Q3),WellAll P h vs (c.map WData.int)->IntsAre vs c:=by
 intro c;induction c with
 | nil=>
  intro vs w;rw[map_nil]at w;cases w;exact .nil
 | cons n c d=>
  intro vs w;rw[map_cons]at w;cases w with
  | cons a b=>
   cases a;exact .cons _ _ (d _ b)
def Gu{l:OpenLaw}{n:Nat}(m:l.most=some n){P:Params}{h:Heap}{args:List WData}{f:List Q3}(g:l.row.toRowW.claim.pre args=true)(o:WellAll P h f args) :
  ∃a vs b,f=[Value.ref a]/\args=[WData.list (b.map WData.int)]/\h.get? a=some {cls:=.type "list",data:=.seq vs.toArray }/\IntsAre vs b/\b.length<=n:=by
 have k:WShape.hasAll [] args [.list .int]=true:=(pre_splitW g).1;have i:l.pre.holds [] {args:=args }=true:=(pre_splitW g).2;obtain⟨d,r,rfl,p,s⟩:=hasAllW_cons k;obtain rfl:=hasAllW_nil s;obtain⟨z,rfl,t⟩:=hasW_list p;obtain⟨b,rfl⟩:=items_int t;have j:b.length<=n:=by
  unfold OpenLaw.pre at i;have c:(WTm.not (.lt (.lit (.int (n:Int))) (.len (.arg 0)))).holds [] {args:=[.list (b.map .int)] }=true:=by
   have c:=(holds_andW i).1;rw[m]at c;exact c
  have e:=condW_of c (w_not (w_lt w_lit (w_len_list (w_arg rfl))));rw[aR]at e;refine Nat.le_of_not_lt λq=>?_
  have u:(n:Int)<((b.length:Nat):Int):=by omega
  first
   | (rw[UF u]at e;exact IN e Zd)
   | (simp at e;omega)
 cases o with
 | cons v w=>
  cases w
  cases v with
  | list x y=>exact⟨_,_,b,rfl,rfl,x,qY b _ y,j⟩
def Gv(l:OpenLaw)(args:List WData):l.row.toRowW.claim.post args (.bool true) args=true:=
 postW_of (r:=l.row.toRowW) (X:=(true==true))
  (show WShape.has [] (.bool true) .bool=true by first|rfl|decide|simp[WShape.has,WShape.arms,WShape.armsAll])
  (show(WTm.eq .res (.lit (.bool true))).value [] {args:=args,res:=some (.bool true),after:=args }=some (.bool (true==true)) from w_eq_bool (w_res rfl) w_lit) rfl
def attach_call{l:OpenLaw}{n:Nat}{q:Program}{p:List Str}{s:(Str->Option Q3)->Heap->Prop}{t:World->Heap->Prop}{d:DefRec}(y:l.most=some n)(z:d.params.defaults=[])(call:∀(w:World)(i b:PP)(mg k:W1)(c:TD)(o:Obj)(m e j:Q3)(a:TD)(vs:List Q3)(g:List Int),
   Ground q p [] s w i mg k b.heap->t w b.heap →
   b.heap.get? c=some o->o.data=.func (docDef d.name d.params d.body d.scope m e j)->b.heap.CodeRec e d.name->mg d.name=some (.ref c) →
   b.heap.get? a=some {cls:=.type "list",data:=.seq vs.toArray }->IntsAre vs g->g.length<=n->b.gens=#[] →
   codeAny (model l.prog w) callerA (.call (.ref c) ⟨[.ref a],[]⟩) (λr h=>r=.ok (.ret (.bool true))/\OldK b.heap h.heap/\h.os=b.os/\AllBare h.gens) b) :
  WalkO q p s t l.row.toRowW d [] (λf vs=>PySem.call f vs):=by
 intro w i b mg k G Y c o m e j A kV B hd C u D E O P S F Q R H T;obtain rfl:A=.none:=Dflts.none u z;obtain rfl:kV=.none:=Dflts.noKw u;refine yE0 (Gu y F H) (yE3 λa vs g=>yA5 λζ η I v x=>?_);subst ζ η;refine enter_call (codeAny_mono (call w i b mg k c o m e j a vs g G Y B (fd_plain hd) C D I v x E) λr h J=>?_);obtain⟨rfl,K,L,M⟩:=J;exact⟨.inl ⟨.bool true,.bool true,[],rfl,λ_=>rfl,.bool true,Gv l _,λ_=>⟨List.Pairwise.nil,λ_ N=>(nomatch N)⟩⟩,K,L,M⟩
end WI
namespace L2
open PySem PySem.Spec PyProof.Rows
def vF:∀ {vs:List Q3}{a:List Int},IntsAre vs a->Vals (a.map V.int) vs
 | _,_,.nil=>.nil
 | _,_,.cons n t h=>.cons ⟨t,rfl⟩ (vF h)
def Yq(H:Hp):Prop:=∀b,H b=none∨∃o a,H b=some (.frz o (.lst a))
def Lf{P:Program}{w:World}{K:W.Frag}{mg A:W1}{CX:Ki}{k:Nat}{B a:TD}{I:FuncData}{x:Str}{sp:Sp}{c:PP}{vs:List Q3}{i:List Int}(J:K.In c.heap)(L:c.heap.Ns mainGlobals mg)(f:c.heap.Ns builtinsNs A)(Y:∀x:Str,x≠"__name__"->A x=bootBuiltins x)(Z:c.heap.NoLimit)(hg:c.gens=#[])(t:c.heap.get? a=some {cls:=.type "list",data:=.seq vs.toArray })(M:IntsAre vs i)(N:i.length<=sizeLine)(hr:Room k callerA)(F:∀base:Heap,K.In base->base.Ns mainGlobals mg->FnOk P w K mg base CX k B I [x] sp)(KD:∀(s:PP)(u:Q3),BindsTo s I ⟨[u],[]⟩ [(x,u)])(xl:∀H:Hp,Yq H->SqL K H a (i.map V.int)->sp [.ref a] H (λv _=>v=.bl true) λ_ _ _=>False)(QP:∀H e g,CX [] H c (λ_ _ _=>False) e g->False) :
  codeAny (model P w) callerA (.call (.ref B) ⟨[.ref a],[]⟩) (λr g=>r=.ok (.ret (.bool true))/\OldK c.heap g.heap/\g.os=c.os/\AllBare g.gens) c:=by
 have O:=vF M;have QQ:=M.length;have E:∀H:Hp,Yq H->SqL K H a (i.map V.int)->HOk P w H c.heap->(∀b,H b≠none->b=a)->(H a≠none->K.lookup a=none) →
   codeAny (model P w) callerA (.call (.ref B) ⟨[.ref a],[]⟩) (λr g=>r=.ok (.ret (.bool true))/\OldK c.heap g.heap/\g.os=c.os/\AllBare g.gens) c:=by
  intro H Q hS G R hK;have S:∀ {b:TD}{o:Obj},c.heap.get? b=some o->H b=none->(wM c.heap H).get? b=some o:=λe n=>Js e n
  have JS:∀ {b:TD}{o:Obj}{j:Array DictEntry}{l:Nat},c.heap.get? b=some o->o.data=.dict j l->H b=none:=λ{b o j l} e d=>by
   cases q:H b with
   | none=>rfl
   | some u=>
    have C:b=a:=R b (by rw[q];simp);subst C;rw[t]at e;cases e;have d':Data.seq vs.toArray _=Data.dict j l:=d;cases d'
  have y:∀ {b:TD}{m:W1},c.heap.Ns b m->(wM c.heap H).Ns b m:=λ{b m} ⟨o,j,l,e,d,r⟩=>⟨o,j,l,S e (JS e d),d,r⟩
  have T:K.In (wM c.heap H):=λb o e=>S (J b o e) (by
   cases q:H b with
   | none=>rfl
   | some u=>
    have C:b=a:=R b (by rw[q];simp);subst C;rw[hK (by rw[q];simp)]at e;cases e)
  have hM:Mod K mg (wM c.heap H):=⟨T,y L,⟨A,y f,Y⟩,let ⟨mc,h1,h2⟩:=Z;⟨mc,y h1,h2⟩⟩;have e0:Env0 P w K mg (wM c.heap H) callerA [] c H:=⟨rfl,hM,λb o e=>Rh e,le_of_eq (Gb _ _),trivial,λb f=>IN (show b∈([]:List TD) from f) Zs,G,.of_eq hg⟩;refine codeAny_mono ((F _ T (y L)).run callerA [] c H ⟨[.ref a],[]⟩ [.ref a] [.ref a] _ _ hr e0 (KD c (.ref a)) (.cons rfl .nil) (xl H Q hS)) λr g h=>?_
  cases r with
  | error e=>exact(QP H e g h).elim
  | ok fl=>
   cases fl with
   | next=>exact False.elim h
   | brk=>exact False.elim h
   | cont=>exact False.elim h
   | ret u=>
    revert h;refine yE2 λv H'=>yA6 λos X un QR r' q=>?_;have q':v=.bl true:=q;subst q';obtain rfl:u=Value.bool true:=r';refine⟨rfl,OldK.of_keep λb o e=>?_,os,X⟩
    cases q:H b with
    | none=>exact un.keep b o e q (by intro z;exact IN (show b∈([]:List TD) from z) Zs) Zs
    | some u=>
     rcases Q b with z|⟨ob,xs,z⟩
     ·rw[q]at z;cases z
     ·have z2:=un.frzs b ob _ z;obtain⟨U,_⟩:=G b _ z;obtain⟨e2,_⟩:=QR b _ z2;rw[e]at U;cases U;exact e2
 cases D:K.lookup a with
 | some o=>
  have e:=J a o D;rw[t]at e;cases e;refine E (λ_=>none) (λ_=>.inl rfl) (.inr ⟨_,vs.toArray,_,D,rfl,rfl,rfl,by rw[dX,QQ];exact N,by simpa using O⟩) (λb u z=>by have p:(none:Option HO)=some u:=z;cases p) (λb z=>IN rfl z) λz=>IN rfl z
 | none=>
  refine E (λb=>if b=a then some (.frz {cls:=.type "list",data:=.seq vs.toArray } (.lst (i.map V.int))) else none) (λb=>?_) (.inl (.inr ⟨{cls:=.type "list",data:=.seq vs.toArray },O8 rfl⟩)) (λb u z=>?_) (λb z=>?_) λ_=>D
  ·by_cases f:b=a
   ·exact .inr ⟨_,_,O8 f⟩
   ·exact .inl (NE f)
  ·by_cases f:b=a
   ·have p:=(O8 f).symm.trans z;cases p;subst f;exact⟨t,by rw[aR];exact N,vs,_,O,t⟩
   ·have p:=(NE f).symm.trans z;cases p
  ·by_cases f:b=a
   ·exact f
   ·exact IN (NE f) z
def Dt{l:W.OpenLaw}{n k:Nat}{q:Program}{p:List Str}{y:(Str->Option Q3)->Heap->Prop}{m:World->Heap->Prop}{d:DefRec}{K:Params->W.Frag}{CX:World->Ki}{sp:World->Sp}{x:Str}(z:l.most=some n)(A:n<=sizeLine)(B:d.params.defaults=[])(C:Room k callerA)(D:∀(w:World)(h:Heap),m w h->(K w.params).In h)(F:∀(w:World)(mg:W1)(b:TD)(h:Heap),(K w.params).In h->h.Ns mainGlobals mg->mg d.name=some (.ref b) →
   ∃g:FuncData,(∀(s:PP)(u:Q3),BindsTo s g ⟨[u],[]⟩ [(x,u)]) ∧
    ∀base:Heap,(K w.params).In base->base.Ns mainGlobals mg->FnOk l.prog w (K w.params) mg base (CX w) k b g [x] (sp w))(E:∀(w:World)(H:Hp)(a:TD)(c:List Int),c.length<=n->Yq H->SqL (K w.params) H a (c.map V.int)->sp w [.ref a] H (λv _=>v=.bl true) λ_ _ _=>False)(I:∀(w:World)(H:Hp)(s:PP)(e:Q3)(i:PP),CX w [] H s (λ_ _ _=>False) e i->False) :
  W.WalkO q p y m l.row.toRowW d [] (λf vs=>PySem.call f vs):=by
 refine WI.attach_call z B λw R t mg T b a0 U X S a vs c G Y Z hd qk J L r j M=>?_;have o:=D w _ Y;obtain⟨g,N,O⟩:=F w mg b _ o G.T.g J;exact Lf o G.T.g G.T.b G.T.builtins G.T.nolimit M L r (fT j A) C O N (λH P Q=>E w H a c j P Q) λH e i=>I w H t e i
end L2
/- THE bh' OC (shape;LID,My.* are WK):
   My.Adr: a structure of the addresses that bi' WL names (classes,IM);My.Txt K t: a structure (Prop) of the equations over K;
   My.txt_mk:{K} {implicit addresses ..} (e1:nsIn K mainGlobals "law"=some (some (.ref f))) (e2:K.lookup f=some ⟨oc,od,.func (fnOf "law" "law" params body scope dV kV doc pm an cdv ct),sl⟩) (e3:codeIn K cdv "law"=true) ..:∃t,My.Txt K t
set_option maxRecDepth 100000 in
set_option maxHeartbeats 0 in
def PySem.Challenge.cw_LID_holds : PySem.Challenge.rw_LID.Holds := by
 w_on;o_law;k_head;(case hw=>w_witness2)
 k_fill
 refine L2.Dt (l:=PySem.Challenge.rw_LID) (n:=63) (k:=40) (x:="script") (CX:=λw=>..) (sp:=λ_=>My.sp_law) rfl Zd rfl ⟨rfl,Zd,Zd⟩ (λw h Y=>W.kIn_of Y) ?F ?S ?C
 case F=>
  intro w mg fa h KX G ER;have T:∃t,My.Txt (L2.KOf KX) t:=by
   dsimp only [L2.KOf]                          -- K bj' WM as «<heap const> w.params» for k_is
   refine' My.txt_mk ?e1 ?e2 ?e3 ..
   (case e1=>W.k_is)                    -- in the order: a name->its address->its object->its parts
   (case e2=>W.k_is)
   ..
  obtain⟨t,T⟩:=T;have e0:=ER.symm.trans (W.mg_of KX G T.law);cases e0                                       -- fa is the WN own address;exact⟨_,λs u=>.of_eq rfl,λbase kb nb=>My.law_fn T kb nb⟩     -- if «.of_eq rfl» comes too early: refine' ⟨_,?b,λbase kb nb=>My.law_fn T kb nb⟩;exact λs u=>.of_eq rfl
 case S=>exact λw H a ns hl hO hS=>..
 case C=>exact ..
(the tactic k_is has no namespace: write k_is) -/
namespace L2
open PySem PySem.Spec PyProof.Rows
def aP(s:Stmt)(j:Nat):Stmt:=match s with
 | .ClassDef _ _ _ a _ _ _ _ _ _ _=>a.getD j (.Pass ⟨0,0,0,0⟩)
 | _=>.Pass ⟨0,0,0,0⟩
def bJ(s:Stmt):Arguments:=match s with
 | .FunctionDef _ a _ _ _ _ _ _ _ _=>a
 | _=>{posonlyargs:=[],args:=[],vararg:=none,kwonlyargs:=[],kw_defaults:=[],kwarg:=none,defaults:=[] }
def aT(s:Stmt):List Stmt:=match s with
 | .FunctionDef _ _ b _ _ _ _ _ _ _=>b
 | _=>[]
def aD(s:Stmt):Scope:=match s with
 | .FunctionDef _ _ _ _ _ _ sc _ _ _=>sc
 | _=>{kind:=.function,names:=[],isGenerator:=false,isCoroutine:=false }
abbrev sC:Ki:=λ_ _ _ _ _ _=>False
abbrev E0:XK:=λ_ _ _=>False
def vG{X:Cx}:pC sC X E0:=λ_ _ _ _ _ _ _ h=>h.elim
structure Fun(K:W.Frag)(x qual:Str)(st:Stmt)(f:TD)(fd:FuncData):Prop where
 ex:∃(oc:Q3)(od:Option TD)(kV doc pm:Q3)(an:Option TD)(cdv ct:Q3)(osl:Array (Option Q3)),
  fd=W.fnOf x qual (bJ st) (aT st) (aD st) .none kV doc pm an cdv ct/\K.lookup f=some ⟨oc,od,.func fd,osl⟩/\W.codeIn K cdv qual=true
 kp:W.keepIn K (.ref f)=true
section
variable {P:Program}{w:World}{K:W.Frag}{mg:W1}{base:Heap}
def Fun.ok{x c:Str}{st:Stmt}{f:TD}{d:FuncData}{N ps:List Str}{k:Nat}{sp:Sp}(F:Fun K x c st f d)(S:aI N ps (aD st))(len:∀vs H Q E,sp vs H Q E->vs.length=ps.length)(e:∀(a:Q3)(A:Around)(b:List Env)(s:PP)(H:Hp)(vs:List V)(Q:VK)(E:XK),Room k (A.deeper (envOfC c (aD st) s.heap.objs.size f a))->sp vs H Q E →
   ∃t,PSs (mM sC P w K mg base N c (aD st) f a A b s H E).nox (aT st) t/\t {nx:=λ_ H'=>Q .non H',rt:=Q } (start N vs) H):FnOk P w K mg base sC (k+1) f d ps sp:=by
 refine yE0 F.ex (yE9 λn o kV l p r a u m=>yA3 λζ lk g=>?_);subst ζ;refine Vt lk g S len λA b s H vs Q E i j=>?_;obtain⟨t,h,q⟩:=e a A b s H vs Q E i j;exact⟨t,h.nox,q⟩
def Fun.binds{x g:Str}{st:Stmt}{f:TD}{i:FuncData}{ps:List Str}(F:Fun K x g st f i)(h:∀(kV a c:Q3)(d:Option TD)(b e:Q3)(us:List Q3),us.length=ps.length->bindArgs (W.fnOf x g (bJ st) (aT st) (aD st) .none kV a c d b e) ⟨us,[]⟩=pure (ps.zip us)):Binds K i ps []:=by
 refine yE0 F.ex (yE9 λk l kV a c d b e j=>yA3 λζ lk m=>?_);subst ζ;exact .all (h kV a c d b e)
def sD{x a:Str}{st:Stmt}{f:TD}{j:Q3}{m e:Option TD}{i:Array (Option Q3)}{kV d g b h:Q3}(l:K.lookup f=some ⟨j,m,.func (W.fnOf x a (bJ st) (aT st) (aD st) .none kV d g e b h),i⟩)(c:W.codeIn K b a=true)(k:W.keepIn K (.ref f)=true):Fun K x a st f (W.fnOf x a (bJ st) (aT st) (aD st) .none kV d g e b h):=⟨⟨j,m,kV,d,g,e,b,h,i,rfl,l,c⟩,k⟩
end
def dE{A:Around}{k:Nat}(a:Room k A):A.units+1<cLine:=uD (Nat.add_le_add_left (by decide:1<=64) _) a.units
def Same(H H':Hp):Prop:=∀b o,H b=some o->H' b=some o
def Same.refl(H:Hp):Same H H:=λ_ _ h=>h
def Same.trans{H H1 H2:Hp}(a:Same H H1)(b:Same H1 H2):Same H H2:=λc o h=>b c o (a c o h)
def Same.free{H H':Hp}(e:Same H H'){l:TD}(h:H' l=Option.none):H l=Option.none:=by
 cases q:H l with
 | none=>rfl
 | some o=>
  rw[e l o q]at h;cases h
def Same.seq{K:W.Frag}{H H':Hp}{a:TD}{xs:List V}(e:Same H H')(h:SqL K H a xs):SqL K H' a xs:=by
 rcases h with(h|⟨o,h⟩)|h
 ·exact .inl (.inl (e _ _ h))
 ·exact .inl (.inr ⟨o,e _ _ h⟩)
 ·exact .inr h
section
variable {κ:Type} [DecidableEq κ]
def iZ{kvs:List (κ×V)}{k:κ}(h:aY kvs k=none):¬ k∈kvs.map (·.1):=by
 intro m;obtain⟨p,a,e⟩:=Zmm.mp m;have q:(kvs.any λb=>decide (b.1=k))=true:=any_eq_true.mpr ⟨p,a,UF e⟩;rw[cS,h]at q;exact IN q Zs
def Du{kvs:List (κ×V)}{k:κ}{v:V}(h:aY kvs k=some v):k∈kvs.map (·.1):=by
 have q:(kvs.any λa=>decide (a.1=k))=true:=by
  rw[cS,h];all_goals rfl
 obtain⟨p,b,e⟩:=any_eq_true.mp q;exact Zmm.mpr ⟨p,b,U3 e⟩
def lK:∀ {l:List κ}{k:κ},l.Nodup->¬ k∈l->(l++[k]).Nodup
 | [],k,_,_=>by simp
 | a::r,k,h,b=>by
  obtain⟨c,d⟩:=nodup_cons.mp h;show(a::(r++[k])).Nodup;refine nodup_cons.mpr ⟨λm=>?_,lK d λm=>b (mem_cons.mpr (Or.inr m))⟩;rcases Zma.mp m with q|q
  ·exact c q
  ·exact b (mem_cons.mpr (Or.inl (Zms.mp q).symm))
def Sn{kvs:List (κ×V)}{k:κ}(v:V)(a:(kvs.map (·.1)).Nodup)(h:aY kvs k=none):((bQ kvs k v).map (·.1)).Nodup:=by
 rw[iY v h,dN];exact lK a (iZ h)
def Gx{p:κ×V}{r:List (κ×V)}{k:κ}(e:p.1=k):cE (p::r) k=cE r k:=by
 unfold cE;rw[filter_cons,NE (by simp[e])]
def vH{p:κ×V}{r:List (κ×V)}{k:κ}(e:¬ p.1=k):cE (p::r) k=p::cE r k:=by
 unfold cE;rw[filter_cons,O8 (by simp[e])]
theorem sE:∀ {kvs:List (κ×V)}{k:κ},¬ k∈kvs.map (·.1)->cE kvs k=kvs
 | [],_,_=>rfl
 | p::r,k,h=>by
  have a:¬ k∈r.map (·.1):=λm=>by
   obtain⟨q,b,e⟩:=Zmm.mp m;exact h (Zmm.mpr ⟨q,mem_cons.mpr (Or.inr b),e⟩)
  rw[vH λe=>h (Zmm.mpr ⟨p,mem_cons.mpr (Or.inl rfl),e⟩),sE a]
def vI{kvs:List (κ×V)}{k:κ}{p:κ×V}(h:p∈cE kvs k):p∈kvs:=(mem_filter.mp h).1
def sF:∀ {kvs:List (κ×V)}{k:κ},(kvs.map (·.1)).Nodup->((cE kvs k).map (·.1)).Nodup
 | [],_,_=>nodup_nil
 | p::r,k,h=>by
  have h:(p.1::r.map (·.1)).Nodup:=h;obtain⟨b,a⟩:=nodup_cons.mp h;by_cases e:p.1=k
  ·rw[Gx e];exact sF a
  ·rw[vH e];show(p.1::(cE r k).map (·.1)).Nodup;refine nodup_cons.mpr ⟨λm=>b ?_,sF a⟩;obtain⟨q,c,eq⟩:=Zmm.mp m;exact Zmm.mpr ⟨q,vI c,eq⟩
end
def kQ(env:Env):List (Str×NameKind)->List (Str×TD)->List (Str×TD)
 | [],a=>a
 | (n,k)::r,a=>kQ env r (if k=.free then (match env.cells.lookup n with|some c=>(n,c)::a|none=>a) else a)
theorem mO{env:Env}:∀(names:List (Str×NameKind))(a:List (Str×TD)),(∀x∈names,x.2=.free->∃c,env.cells.lookup x.1=some c) →
  (forIn names a λ(x:Str × NameKind) (r:List (Str × Addr))=>(do
   if x.2 == .free then do
    let c←cellOf env x.1
    pure (ForInStep.yield ((x.1,c)::r))
   else pure (ForInStep.yield r):Sem _))=pure (kQ env names a)
 | [],a,_=>rfl
 | (n,k)::r,a,h=>by
  rw[List.forIn_cons];by_cases b:k=.free
  ·subst b;obtain⟨c,f⟩:=h (n,.free) fY rfl;have e:env.cells.lookup n=some c:=f;have g:cellOf env n=pure c:=by unfold cellOf;rw[e]
   simp only [beq_self_eq_true,if_true,g,pure_bind];rw[mO r ((n,c)::a) λx d=>h x (fR _ d)];simp[kQ,e]
  ·have i:(k==NameKind.free)=false:=by simpa using b
   simp only [i,Bool.false_eq_true,if_false,pure_bind];rw[mO r a λx d=>h x (fR _ d)];simp[kQ,b]
def sG{a:Scope}{env:Env}(h:∀x∈a.names,x.2=.free->∃c,env.cells.lookup x.1=some c):closureFor a env=pure (kQ env a.names []):=by
 have e:=mO a.names [] h;unfold closureFor;exact(congrArg (λz=>z>>=λ(r:List (Str×TD))=>(pure r:Sem _)) e).trans (pure_bind _ _)
theorem yV{env:Env}:∀(names:List (Str×NameKind))(b:List (Str×TD)),(∀y d,(y,d)∈b->env.cells.lookup y=some d)->∀y d,(y,d)∈kQ env names b->env.cells.lookup y=some d
 | [],_,h=>h
 | (n,k)::r,b,h=>by
  unfold kQ;refine yV r _ λy d a=>?_
  split at a
  ·split at a
   ·rename_i c f;rcases mem_cons.mp a with e|e
    ·cases e;exact f
    ·exact h y d e
   ·exact h y d a
  ·exact h y d a
def Dv{env:Env}:∀(names:List (Str×NameKind))(a:List (Str×TD))(y:Str)(d:TD),(y,d)∈kQ env names a->(y,.free)∈names∨(y,d)∈a
 | [],_,_,_,h=>.inr h
 | (n,k)::r,a,y,d,h=>by
  unfold kQ at h;rcases Dv r _ y d h with e|hm
  ·exact .inl (fR _ e)
  ·split at hm
   ·rename_i b;split at hm
    ·rcases mem_cons.mp hm with e|e
     ·cases e;subst b;exact .inl fY
     ·exact .inr e
    ·exact .inr hm
   ·exact .inr hm
theorem Lg{env:Env}:∀(names:List (Str×NameKind))(a:List (Str×TD))(y:Str),((∃d,(y,d)∈a)∨(y,.free)∈names)->(∀x∈names,x.2=.free->∃c,env.cells.lookup x.1=some c)->∃d,(y,d)∈kQ env names a
 | [],_,_,h,_=>by
  rcases h with h|h
  ·exact h
  ·cases h
 | (n,k)::r,a,y,h,b=>by
  unfold kQ;refine Lg r _ y ?_ λx f=>b x (fR _ f)
  rcases h with⟨d,hd⟩|h
  ·refine .inl ⟨d,?_⟩;split
   ·split
    ·exact fR _ hd
    ·exact hd
   ·exact hd
  ·rcases mem_cons.mp h with e|e
   ·have g:y=n:=congrArg Prod.fst e;have i:NameKind.free=k:=congrArg Prod.snd e;subst g i;obtain⟨c,j⟩:=b (y,.free) fY rfl;have l:env.cells.lookup y=some c:=j;refine .inl ⟨c,?_⟩;rw[O8 rfl,l];exact fY
   ·exact .inr e
theorem sI{a:Type}:∀ {l:List (Str×a)}{y:Str}{d:a},(y,d)∈l->∃d',l.lookup y=some d'/\(y,d')∈l
 | (n,c)::r,y,d,h=>by
  by_cases e:y=n
  ·subst e;exact⟨c,by simp[lookup_cons],fY⟩
  ·rcases mem_cons.mp h with q|q
   ·cases q;exact IN rfl e
   ·obtain⟨d',b,f⟩:=sI q;have g:(y==n)=false:=by simpa using e
    exact⟨d',by rw[lookup_cons,g];exact b,fR _ f⟩
def dZ{env:Env}{names:List (Str×NameKind)}{y:Str}{c:TD}(h:(kQ env names []).lookup y=some c):env.cells.lookup y=some c/\(y,.free)∈names:=by
 have a:=PySem.mem_of_lookup h;refine⟨yV names [] (λ_ _ z=>nomatch z) y c a,?_⟩;rcases Dv names [] y c a with e|e
 ·exact e
 ·cases e
def Dw{env:Env}{names:List (Str×NameKind)}{y:Str}(h:(y,.free)∈names)(b:∀x∈names,x.2=.free->∃c,env.cells.lookup x.1=some c):∃c,(kQ env names []).lookup y=some c/\env.cells.lookup y=some c:=by
 obtain⟨d,hd⟩:=Lg names [] y (.inr h) b;obtain⟨c,a,_⟩:=sI hd;exact⟨c,a,(dZ a).1⟩
def xC{a:Scope}{env:Env}(d:∀y∈a.names,y.2≠.cell){x:Str}(h:(relabel a env).names.lookup x=some .cell∨(relabel a env).names.lookup x=some .free):(x,.free)∈a.names:=by
 have go:∀ {k:NameKind},k=.cell∨k=.free->(relabel a env).names.lookup x=some k->(x,.free)∈a.names:=λ{k} f h=>by
  have c:=PySem.mem_of_lookup h;unfold relabel at c;obtain⟨⟨n,j⟩,b,e⟩:=Zmm.mp c;dsimp only at e;split at e
  ·rename_i g;cases e;have:j=.free:=by
    have:=(Bool.and_eq_true_iff.mp (Bool.and_eq_true_iff.mp g).1).1;simpa using this
   subst this;exact b
  ·cases e;rcases f with q|q
   ·exact IN q (d _ b)
   ·subst q;exact b
 rcases h with h|h
 ·exact go (.inl rfl) h
 ·exact go (.inr rfl) h
theorem oC{env:Env}:∀ {names:List (Str×NameKind)}{x:Str},names.lookup x=some .free →
  (names.map λ(n,k)=>if (k==NameKind.free&&env.scope.kind == .function&&env.kindOf n==some .cell) then (n,NameKind.cell) else (n,k)).lookup x=some .cell∨
  (names.map λ(n,k)=>if (k==NameKind.free&&env.scope.kind == .function&&env.kindOf n==some .cell) then (n,NameKind.cell) else (n,k)).lookup x=some .free
 | [],_,h=>by simp at h
 | (n,k)::r,x,h=>by
  have b:=@oC env r x;rw[map_cons];dsimp only;cases a:x==n with
  | true=>
   simp only [lookup_cons,a]at h;cases h;split
   ·left;simp[lookup_cons,a]
   ·right;simp[lookup_cons,a]
  | false=>
   simp only [lookup_cons,a]at h;split
   ·simp only [lookup_cons,a];exact b h
   ·simp only [lookup_cons,a];exact b h
def oY(X:Cx)(a:Scope)(C:TD)(N:List Str)(b:PP)(c:Hp)(fp:List TD):Cx where
 prog:=X.prog
 w:=X.w
 K:=X.K
 mg:=X.mg
 base:=X.base
 A:=X.A
 N:=N
 s₀:=b
 H₀:=c
 env:=compEnvC a (kQ X.env a.names []) C X.env
 outer:=X.stack
 stack:=X.stack
 ex:=fp
 fn:=λ_=>false
 calm:=X.calm
 pn:=[]
 xe:=λ_ _=>False
def Ax(js:List (Option Nat))(a:St):St:=js.map λo=>match o with|some j=>(a[j]?).getD none|none=>none
structure CompScope(X:Cx)(scope:Scope)(N:List Str)(js:List (Option Nat)):Prop where
 kind:scope.kind=.function
 nocell:∀y∈scope.names,y.2≠.cell
 loc:∀y∈scope.names,y.2=.local->scope.names.lookup y.1=some .local
 len:js.length=N.length
 cap:∀(i j:Nat),js[i]?=some (some j)->∃x,N[i]?=some x/\X.N[j]?=some x/\scope.names.lookup x=some .free
 out:∀y∈scope.names,y.2=.free->X.env.kindOf y.1=some .cell∨X.env.kindOf y.1=some .free
def Bm(js:List (Option Nat))(g:TG):Prop:=∀x a H Q,g x a H Q->g x a H λb c=>Q b c/\b.length=a.length/\∀(i j:Nat),js[i]?=some (some j)->b[i]?=a[i]?
def Dx(js:List (Option Nat))(g:Dc):Prop:=∀c a H Q,g c a H Q->g c a H λb d=>Q b d/\b.length=a.length/\∀(i j:Nat),js[i]?=some (some j)->b[i]?=a[i]?
def aV{js:List (Option Nat)}{k:Nat}(h:js[k]?=some none):Bm js (aJ k):=λx a H Q q=>by
 refine⟨q,Zs,λi j e=>?_⟩;have:k≠i:=λz=>by subst z;rw[h]at e;cases e
 rw[List.getElem?_set_ne this]
def Gy{js:List (Option Nat)}:Dx js Xn:=λa b H Q q=>⟨q.1,q.2,rfl,λ_ _ _=>rfl⟩
def sJ{js:List (Option Nat)}{k:Nat}{u:Dc}(h:js[k]?=some none)(m:Dx js u):Dx js (Jw (aJ k) u):=λs f H Q q=>by
 obtain⟨v,r,e,q⟩:=q;refine⟨v,r,e,?_⟩;obtain⟨_,n⟩:=aV h v f H (λ_ _=>True) trivial;have o:=m r _ _ _ q;have p:(λd g=>Q d g/\d.length=(f.set k (some v)).length/\∀(i j:Nat),js[i]?=some (some j)->d[i]?=(f.set k (some v))[i]?)=(λd (g:Hp)=>Q d g/\d.length=f.length/\∀(i j:Nat),js[i]?=some (some j)->d[i]?=f[i]?):=by
  funext d g
  have l:∀(i j:Nat),js[i]?=some (some j)->(f.set k (some v))[i]?=f[i]?:=n.2;apply propext;constructor
  ·refine yA3 λa b c=>?_;exact⟨a,by simpa using b,λi j e=>(c i j e).trans (l i j e)⟩
  ·refine yA3 λa b c=>?_;exact⟨a,by simpa using b,λi j e=>(c i j e).trans (l i j e).symm⟩
 show u r (f.set k (some v)) H _;rw[<- p];exact o
def Lh{K:W.Frag}{n:Nat}{js:List (Option Nat)}{t:Dc}(h:Dx js t):Bm js (Rt K n t):=λx f H Q q=>by
 revert q;refine yE2 λa b=>yA4 λe c d q=>?_;exact⟨a,b,e,c,d,h b f H Q q⟩
section
variable {X:Cx}{pins:ZB}{σ:St}{H H':Hp}{s:PP}
def Un.more{fs e:List TD}{H H':Hp}{h h':Heap}{D:TD}{o:HO}(u:Un fs e H H' h h')(f:h.get? D=none)(a:H D=none):Un fs e H (aH H' D o) h h' where
 keep:=u.keep
 slot:=u.slot
 free:=λb c q n g=>by
  have:b≠D:=λz=>by rw[z,f]at q;cases q
  rw[aB this];exact u.free b c q n g
 there:=u.there
 tups:=λb d q=>by rw[aB (aE q a)];exact u.tups b d q
 frzs:=λb c d q=>by rw[aB (aE q a)];exact u.frzs b c d q
 tbls:=λb ps q=>by rw[aB (aE q a)];exact u.tbls b ps q
def HOk.more{P:Program}{w:World}{h:Heap}{D:TD}{o:HO}(k:HOk P w H h)(a:H D=none)(new:ObjOk P w (aH H D o) h D o):HOk P w (aH H D o) h:=λb u e=>by
 by_cases d:b=D
 ·subst d;rw[aA]at e;cases e;exact new
 ·rw[aB d]at e;exact(k b u e).stay (λ_ _ _ q=>q) (λc q=>by rw[aB (aE q a)];exact q) λc f q=>by rw[aB (aE q a)];exact q
def CompScope.ok{f:Scope}{N:List Str}{js:List (Option Nat)}{C:TD}{fp:List TD}(S:CompScope X f N js)(I:Inv X pins σ H s)(i:s.heap.objs.size<=C)(d:∀b∈fp,oZ X pins H b)(j:∀b∈fp,b<s.heap.objs.size) :
  (oY X f C N s H fp).Ok where
 mod:=I.ok.mod
 kind:=S.kind
 glob:=I.ok.glob
 blt:=I.ok.blt
 above:=i
 inj:=λx y c g k=>I.ok.inj x y c (dZ g).1 (dZ k).1
 has:=λx l=>by
  have h:(x,.free)∈f.names:=xC S.nocell l;obtain⟨c,g,_⟩:=Dw (env:=X.env) h λy m n=>I.ok.has y.1 (S.out y m n)
  exact⟨c,g⟩
 cab:=λx c z=>nomatch z
 hd:=I.ok.hd
 frames:=I.ok.frames
 stk:=.inl rfl
 exf:=λb a=>⟨ne_of_lt (EK (j b a) i),λx c e=>(d b a).2.2.2.2.1 x c (dZ e).1⟩
 bs:=I.bs
 bsz:=fT I.ok.bsz I.sz
 noex:=λb o e a=>by
  rcases(d b a).2.2.2.1 with z|z
  ·exact I.ok.noex b o e z
  ·exact IN (EK (Heap.lt_size e) (fT I.ok.bsz z)) (Nat.lt_irrefl _)
 exfs:=λb a h=>by
  rcases mem_cons.mp (I.stkSub b h) with z|z
  ·exact(d b a).2.1 z
  ·exact(d b a).2.2.1 z
 funs:=I.stack
 frf:=I.stkFree
def CompScope.start{n:Scope}{N:List Str}{js:List (Option Nat)}{C D:TD}{fp:List TD}{h:Obj}{h₁:Heap}{m:W1}{tk:Nat}(S:CompScope X n N js)(I:Inv X pins σ H s)(A:s.heap.objs.size<=C)(r:s.heap.objs.size<=D)(O:D≠C)(P:∀b∈fp,oZ X pins H b)(Q:∀b∈fp,b<s.heap.objs.size)(k:∀b o,s.heap.get? b=some o->h₁.get? b=some o)(R:h₁.Ns C m)(T:h₁.get? D=some h)(U:∀v,h.data≠.cell v) :
  Inv (oY X n C N s H fp) [(D,h)] (Ax js σ) H {s with heap:=h₁,toks:=tk } where
 ok:=S.ok I A P Q
 os:=rfl
 bare:=I.bare
 base:=Un.kept k
 loc:=by
  refine⟨m,R,λi x v t a h3=>?_⟩;have t:N[i]?=some x:=t;unfold Ax at a;rw[dW]at a;cases e:js[i]? with
  | none=>rw[e]at a;cases a
  | some o=>
   rw[e]at a;cases o with
   | none=>cases a
   | some j=>
    have l:(σ[j]?).getD none=some v:=Option.some.inj a;have K:σ[j]?=some (some v):=by
     cases q:σ[j]? with
     | none=>rw[q]at l;cases l
     | some z=>rw[q]at l;exact congrArg some l
    obtain⟨y,B,V,E⟩:=S.cap i j e;rw[t]at B;cases B;have F:(x,.free)∈n.names:=PySem.mem_of_lookup E;have G:=S.out (x,.free) F rfl;obtain⟨mX,_,L⟩:=I.loc;have M:Wy X.env.scope x:=by
     rcases G with z|z
     ·exact .inr (.inl z)
     ·exact .inr (.inr z)
    obtain⟨a0,a1,a2⟩:=L j x v V K M;refine⟨a0,a1,.inr ?_⟩;rcases a2 with⟨d,_⟩|⟨d,c,W,Y⟩
    ·rcases G with z|z
     ·have f:X.env.kindOf x=some .cell:=z;rw[d]at f;cases f
     ·have f:X.env.kindOf x=some .free:=z;rw[d]at f;cases f
    ·obtain⟨c',Z,J⟩:=Dw (env:=X.env) F λy hy d=>I.ok.has y.1 (S.out y hy d)
     rw[W]at J;cases J;refine⟨oC E,c,Z,?_⟩;obtain⟨g,u,w⟩:=Y;exact⟨g,k c g u,w⟩
 cell:=λx c e=>by
  obtain⟨v,g,u,w⟩:=I.cell x c (dZ e).1;exact⟨v,g,k c g u,w⟩
 free:=I.hok.fresh A
 freeC:=λx c e=>I.freeC x c (dZ e).1
 pin:=λp hp=>by
  have e:p=(D,h):=by
   rcases Zma.mp hp with z|z
   ·exact IN (show p∈([]:List (TD×Obj)) from z) Zs
   ·simpa using z
  subst e;refine⟨T,I.hok.fresh r,O,λhm=>?_,U⟩;rcases mem_cons.mp (I.stkSub D hm) with z|z
  ·have z:D=X.env.locals:=z;have:=I.lt;rw[<- z]at this;exact IN (EK this r) (Nat.lt_irrefl _)
  ·exact I.nofs r z
 hok:=I.hok.kept k
 len:=by
  unfold Ax;rw[aR];exact S.len
end
def PTs(X:Cx)(d:List Expr)(t:TT):Prop:=
 ∀(b:ZB)(s:PP)(a:St)(H:Hp)(Q:Bool->Hp->Prop)(E:XV),Inv X b a H s->t a H Q →
  wpAny (model X.prog X.w) X.A (forIn d true λc r=>if r=true then do let ok←isTrue c X.env (eval c X.env);pure (ForInStep.yield ok) else pure (ForInStep.yield r)) (TP X b a Q) E s
def Li:TT:=λ_ H Q=>Q true H
def So{X:Cx}:PTs X [] Li:=λa s b H Q E I h=>wpAny_tests_nil ⟨H,I,h⟩
def Sq{X:Cx}{c:Expr}{t:TT}(h:PT X c t)(b:X.xe=λ_ _=>False:=by rfl):PTs X [c] t:=λa s d H Q E I q=>
 wpAny_tests_one (wpAny_mono (h a s d H Q I q) (λ_ _ z=>z) λe f z=>by rw[b]at z;exact z.elim)
def qO(js:List (Option Nat))(g:TG)(j:TT)(k:TE)(o:St)(J:It)(H1:Hp)(Q:List V->Hp->Prop):Prop:=
 ∃W:Nat->Nat->List V->Hp->Prop,(∃m,W 0 m [] H1)/\∀i m a H,W i m a H →
  (J.stop i H/\Q a H)∨
  (J.go i H/\a.length<sizeLine/\∃N:List V->Hp->Prop,(∀e c,N e c->∃f,f<m/\W (i+1) f e c) ∧
   ∀x c,J.yld i H x c->g x (Ax js o) c λd l=>j d l λb h=>if b=true then k d h λy n=>N (a++[y]) n else N a h)
def Vy(c:TI)(js:List (Option Nat))(g:TG)(d:TT)(e:TE):TE:=λb H Q=>c b H λJ f=>
 qO js g d e b J f λh a=>∀p,a p=none->Q (.ref p) (aH a p (.lst h))
def Vz(i:Nat)(c:TI)(js:List (Option Nat))(g:TG)(d:TT)(e:TE):TS:=λD a H=>c a H λJ f=>
 qO js g d e a J f λh b=>∀p,b p=none->D.nx (a.set i (some (.ref p))) (aH b p (.lst h))
section
variable {X:Cx}{tg iter elt:Expr}{ifs:List Expr}{scope:Scope}{N:List Str}{js:List (Option Nat)}{wi:TI}{g:TG}{tt:TT}{te:TE}{pos:Pos}
def sK{P:ZB}{h:St}{H2:Hp}{a:PP}{it:TD}{fp:List TD}{Q:Nat->Heap->Prop}{a1:It}{Qf:List V->Hp->Prop}{RR:Q3->TD->Result->PP->Prop}{E:XV}(hc:X.calm=true)(S:CompScope X scope N js)(go:Bm js g)(c:∀(C:TD)(s₂:PP)(H₂:Hp)(fp:List TD),PG (oY X scope C N s₂ H₂ fp) tg g/\PTs (oY X scope C N s₂ H₂ fp) ifs tt/\PE (oY X scope C N s₂ H₂ fp) elt te)(L:Inv X P h H2 a)(T:rW X.prog X.w X.K tg a1 fp it Q)(CW:Q 0 a.heap)(f2:∀b∈fp,oZ X P H2 b)(hw:qO js g tt te h a1 H2 Qf)(hRR:∀(C D:TD)(ys:List V)(r:Hp)(w:PP)(m:W1),a.heap.objs.size<=C->a.heap.objs.size<=D->D≠C->Inv X P h (aH r D (.lst ys)) w->r C=none->r D=none->w.heap.Ns C m->Qf ys r->RR (.ref D) C (.ok .next) w) :
  wpAny (model X.prog X.w) X.A (newList []) (λacc K=>wpAny (model X.prog X.w) X.A (newFunctionEnv scope X.env.globals (kQ X.env scope.names []) [] X.env.qual none .none (some X.env)) (λKH s₄=>
   codeAny (model X.prog X.w) X.A (.compStart (.ListComp elt [⟨tg,iter,ifs,0⟩] scope pos) 0 (.ref it) acc {KH with scope:=relabel scope X.env }) (RR acc KH.locals) s₄) E K) E a:=by
 obtain⟨W,⟨m0,w0⟩,turn⟩:=hw;refine wpAny_newObj_type (wpAny_newFunctionEnv S.nocell (by intro y hy;simp at hy) (λh₁ R U=>?_) S.kind);dsimp only at R U ⊢;generalize QS:a.heap.push {cls:=.type "list",dict:=none,data:=.seq ([]:List Q3).toArray }=Y at R U ⊢;have hC:Y.objs.size=a.heap.objs.size+1:=by rw[<- QS,Heap.size_push]
 have M:a.heap.objs.size≠Y.objs.size:=by rw[hC];exact ne_of_lt (lt_succ_self _)
 have GH:a.heap.objs.size<=Y.objs.size:=by rw[hC];exact le_succ _
 have old:∀b o,a.heap.get? b=some o->h₁.get? b=some o:=λb o e=>U.extBut b o (by rw[hC];exact ne_of_lt (lt_succ_of_lt (Heap.lt_size e))) (iD _ (QS▸iD _ e))
 have V8:h₁.get? a.heap.objs.size=some {cls:=.type "list",data:=.seq ([]:List Q3).toArray 0 }:=U.extBut _ _ M (iD _ (QS▸TW _ rfl));have Z:∀b∈fp,b<a.heap.objs.size:=λb c=>by
  obtain⟨o,e,_⟩:=T.obj _ _ CW b c;exact Heap.lt_size e
 generalize WO:a.heap.objs.size=D at M GH V8 ⊢;generalize hCn:Y.objs.size=C at M GH R ⊢;have OD:a.heap.objs.size<=C:=by rw[WO];exact GH
 have A:a.heap.objs.size<=D:=le_of_eq WO;refine yE0 (c C a H2 fp) (yA3 λpg pt pe=>?_);have I0:=S.start (D:=D) (fp:=fp) (tk:=a.toks+([]:List (Str×Q3)).length) L OD A M f2 Z old R V8 (λv z=>nomatch z);have QU:∀ {J:Hp}{s:ZB},(∀b∈fp,J b=none)->(∀p∈s,p.1∉fp)->∀b∈fp,oZ (oY X scope C N a H2 fp) s J b:=λhn t b c=>
  ⟨hn b c,ne_of_lt (EK (Z b c) OD),(S.ok L OD f2 Z).exfs b c,.inl c,λx a0 e=>(f2 b c).2.2.2.2.1 x a0 (dZ e).1,λp O z=>by
   rcases Zma.mp O with q|q
   ·exact IN (show p∈([]:List (TD×Obj)) from q) Zs
   ·exact t p q (z ▸ c)⟩
 have WQ:D∉fp:=λz=>IN (EK (Z D z) A) (Nat.lt_irrefl _)
 have one:∀ {ob:Obj},∀p∈[(D,ob)],p.1∉fp:=λp t=>by
  have e:=Zms.mp t;subst e;exact WQ
 have loop:∀K:PP,K={a with heap:=h₁,toks:=a.toks+([]:List (Str×Q3)).length } →
   codeAny (model X.prog X.w) X.A (.compLoop (.ListComp elt [⟨tg,iter,ifs,0⟩] scope pos) 0 (.ref it) (.ref D) (compEnvC scope (kQ X.env scope.names []) C X.env)) (RR (.ref D) C) K:=by
  rintro K rfl;refine codeAny_loop rfl (λn s'=>∃(i:Nat)(ys:List V)(J:Hp)(d:List Q3)(k:Nat),Inv (oY X scope C N a H2 fp) [(D,{cls:=.type "list",data:=.seq d.toArray k })] (Ax js h) J s'/\Vals ys d/\ys.length<=sizeLine/\Q i s'.heap/\(∀b∈fp,J b=none)/\W i n ys J) ?_ m0 ?_
  ·refine λn w=>yE5 λi ys r d k=>yA6 λI3 rv hz JR EN w3=>?_;show wpAny _ X.A ((compTurn (.ListComp elt [⟨tg,iter,ifs,0⟩] scope pos) 0 (.ref it) (.ref D) (compEnvC scope (kQ X.env scope.names []) C X.env)).onRaise (λx=>do noteFrame x _;theTreesLotGoes x)) _ _ w;refine wpAny_noted (wpAny_noRaise ?_);rw[compTurn_list];rcases turn i n ys r w3 with⟨stop,qn⟩|⟨QV,C7,Nx,hN,step⟩
   ·refine WP (wpAny_standAt (WP (bN (T.done (oY X scope C N a H2 fp) rfl rfl rfl hc i _ w (Ax js h) r (λ_ _=>False) I3 (QU EN one) JR stop) ?_)));rintro a2 s4 ⟨hr,B⟩;subst hr;refine WF ?_;have f:=B.pin (D,{cls:=.type "list",data:=.seq d.toArray k }) (by simp[oY]);obtain⟨mC,hnC,_⟩:=id B.loc;have IX:Inv X P h (aH r D (.lst ys)) s4:=by
     refine L.call' (ch:=fp) B.os (Un.more B.base (Heap.get?_none_of_le A) (L.hok.fresh A)) (HOk.more B.hok f.2.1 ⟨hz,d,k,rv,f.1⟩) B.bare λb c=>?_;refine yE0 (f2 b c) (yA6 λ_ f1 _ f3 f4 f5=>?_);exact⟨f3,f1,f4,f5⟩
    exact hRR C D ys r s4 mC OD A M IX B.free f.2.1 hnC qn
   ·refine WP (wpAny_standAt (WP (bN (T.item (oY X scope C N a H2 fp) rfl rfl rfl hc i _ w (Ax js h) r (λ_ _=>False) I3 (QU EN one) JR QV) ?_)));rintro a2 s4 ⟨a3,hr,h4⟩;subst hr;refine WP (bN h4 ?_);refine λ_ s5=>yE2 λx H5=>yA5 λI5 r5 y5 GA QJ=>?_;have QK:=I5.pinned (QU QJ one) (T.obj _ _ GA);refine WP (bN (pg _ s5 (Ax js h) H5 x a3 _ QK r5 (go _ _ _ _ (step x H5 y5))) ?_);refine λ_ s6=>yE2 λσ6 H6=>yA2 λI6 ζ=>?_;obtain⟨q6,l6,e6⟩:=ζ;have weak:∀ {s:ZB}{l:Hp}{u:PP},Inv (oY X scope C N a H2 fp) s σ6 l u->Inv (oY X scope C N a H2 fp) s (Ax js h) l u:=λ{s l u} G=>by
     refine G.weak l6.symm λj v H=>?_
     cases e:js[j]? with
     | none=>unfold Ax at H;rw[dW,e]at H;cases H
     | some o=>
      cases o with
      | none=>unfold Ax at H;rw[dW,e]at H;cases H
      | some j'=>rw[e6 j j' e];exact H
    have ET:∀ {l:Hp}{u:PP}{s:ZB},Inv (oY X scope C N a H2 fp) (s++rX fp s5.heap) (Ax js h) l u->Q (i+1) u.heap/\∀b∈fp,l b=none:=λ{l u s} G=>by
     refine⟨T.keep _ _ _ GA λb c o e=>(G.pin (b,o) (EQ _ (EQ _ (jL c e)))).1,λb c=>?_⟩;obtain⟨o,e,a4⟩:=T.obj _ _ GA b c;exact(G.pin (b,o) (EQ _ (EQ _ (jL c e)))).2.1
    refine WP (bN (pt _ s6 σ6 H6 _ _ I6 q6) ?_);rintro ok u ⟨l,G,q7⟩
    cases ok with
    | false=>
     rw[NE V4]at q7;refine WF ⟨rfl,?_⟩;obtain⟨m',O,w7⟩:=hN ys l q7;have WR:=weak G;obtain⟨k1,k2⟩:=ET WR;exact⟨m',O,i+1,ys,l,d,k,WR.unpinned,rv,hz,k1,k2,w7⟩
    | true=>
     rw[O8 rfl]at q7;show wpAny _ _ ((eval elt _>>=λx=>call (.builtin "list.append") [.ref D,x]>>=λ_=>pure ())>>=λ_=>again _) _ _ _;refine WP (WP (bN (pe _ u σ6 l _ G q7) ?_));refine λy I=>yE2 λyv H8=>yA3 λI8 r8 q8=>?_;obtain⟨m',O,w8⟩:=hN (ys++[yv]) H8 q8;have QW:=weak I8;obtain⟨k1,k2⟩:=ET QW;have f:=QW.pin (D,{cls:=.type "list",data:=.seq d.toArray k }) (by simp[oY]);have hln:=rv.length;refine WP (call_meets F.slot_list_append ⟨_,f.1,rfl⟩ F.entry_list_append (F.args_list_append_2 _ _) (PySem.list_append D d.toArray k y (by rw[dX];omega)) ⟨f.1,?_⟩);refine WF (WF ⟨rfl,m',O,i+1,ys++[yv],H8,d++[y],?_⟩);have q:=PySem.IsL.update f.1 (λz=>z.push y);have eA:d.toArray.push y=(d++[y]).toArray:=by simp
     rw[eA]at q;have I9:Inv (oY X scope C N a H2 fp) [] (Ax js h) H8 I:=QW.pins_of λp t=>IN t Zs
     have EU:∀b o,b≠D->I.heap.get? b=some o->(I.heap.update D (Obj.mapSeq λz=>z.push y)).get? b=some o:=λb o c hu=>(Heap.get?_update_other I.heap _ (Ne.symm c)).trans hu
     have I10:Inv (oY X scope C N a H2 fp) [] (Ax js h) H8 {I with heap:=I.heap.update D (Obj.mapSeq λz=>z.push y),toks:=I.toks }:=I9.turned EU f.2.1 f.2.2.1 (.inr A)
      (λx a0 e z=>by
       obtain⟨v,oc,q1,q2⟩:=L.cell x a0 (dZ e).1;rw[z]at q1;exact IN (EK (Heap.lt_size q1) A) (Nat.lt_irrefl _))
      (λp t=>by
       rcases Zma.mp t with q|q
       ·exact IN (show p∈([]:List (TD×Obj)) from q) Zs
       ·exact IN q Zs)
     refine⟨(if ((d++[y]).toArray).size==d.toArray.size then k else k+1),I10.pins_of λp t=>?_,rv.append (.cons r8 .nil),?_,?_,k2,w8⟩
     ·have e:=Zms.mp t;subst e;exact⟨q,f.2.1,f.2.2.1,f.2.2.2.1,λv z=>nomatch z⟩
     ·rw[uC,length_singleton];omega
     ·exact T.keep _ _ _ k1 λb c o e=>EU b o (λz=>WQ (z▸c)) e
  ·exact⟨0,[],H2,[],0,I0,.nil,zero_le _,T.keep _ _ _ CW λb _ o e=>old b o e,λb c=>(f2 b c).1,w0⟩
 exact codeAny_compStart_list (loop _ rfl) (T.self _ 0 _ _ _ (T.keep _ _ _ CW λb _ o e=>old b o e) (loop _ rfl))
def Sr(r:X.calm=true)(S:CompScope X scope N js)(go:Bm js g)(t:PI X tg iter wi)(j:∀(C:TD)(f:PP)(i:Hp)(fp:List TD),PG (oY X scope C N f i fp) tg g/\PTs (oY X scope C N f i fp) ifs tt/\PE (oY X scope C N f i fp) elt te)(hs:∀x,foldedSetIterable iter X.env x=pure x:=by intro _;rfl):PE X (.ListComp elt [⟨tg,iter,ifs,0⟩] scope pos) (Vy wi js g tt te):=by
 intro k s n H Q I h;rw[eval_ListComp];refine wpAny_comprehension_free (use:=none) rfl hs (sG λy u w=>I.ok.has y.1 (S.out y u w)) S.kind S.loc (bN (t k s n H _ I h) λv W A=>bN A λY Z B=>?_);revert B;refine yE5 λit fp tn a0 H2=>yA6 λe a T E f2 F=>?_;subst e;refine sK (RR:=λo C=>compPost (model X.prog X.w) X.A X.xe none (EP X k n Q) o C) r S go j a T E f2 F ?_;intro C D G J K m d hD L M O P R q;refine⟨m,R,λh' U=>?_⟩;refine⟨.ref D,aH J D (.lst G),M.turned (it:=C) (t':=K.toks) (λb a1 j e=>(U.2 b j).trans e) (by rw[aB (Ne.symm L)];exact O) ?_ (.inr (fT a.sz d)) ?_ ?_,rfl,q D P⟩
 ·exact ne_of_gt (EK a.lt d)
 ·intro x c e z;obtain⟨v,oc,l,q2⟩:=a.cell x c e;rw[z]at l;exact IN (EK (Heap.lt_size l) d) (Nat.lt_irrefl _)
 ·intro p V z;have:=Heap.lt_size (a.pin p V).1;rw[z]at this;exact IN (EK this d) (Nat.lt_irrefl _)
def Ss{i:Nat}{y:Str}{b o:Pos}(w:X.N.Nodup)(m:X.N[i]?=some y)(A:Vn X.env.scope y)(B:X.calm=true)(S:CompScope X scope N js)(go:Bm js g)(E:PI X tg iter wi)(n:∀(C:TD)(j:PP)(k:Hp)(fp:List TD),PG (oY X scope C N j k fp) tg g/\PTs (oY X scope C N j k fp) ifs tt/\PE (oY X scope C N j k fp) elt te)(F:swapsWith (.ListComp elt [⟨tg,iter,ifs,0⟩] scope pos) (some (.Name y b)) o.line X.env=pure true)(hs:∀x,foldedSetIterable iter X.env x=pure x:=by intro _;rfl)(G:X.fn y=true∨X.env.scope.names.lookup y=some .local:=by first|exact .inl rfl|exact .inr rfl|assumption) :
  PS X (.Assign [.Name y b] (.ListComp elt [⟨tg,iter,ifs,0⟩] scope pos) o) (Vz i wi js g tt te):=by
 intro l s σ a0 D I a1;rw[exec_Assign_Name_used _ _ _ _ F];refine WP (wpAny_standAt (WP ?_));show wpAny _ X.A (do let _ ← comprehension (.ListComp elt [⟨tg,iter,ifs,0⟩] scope pos) scope X.env _ (newList []) false (eval iter X.env) (some (assign (.Name y b) X.env))) _ _ s;refine WP (bN (wpAny_comprehension_free (use:=some (assign (.Name y b) X.env)) (Q:=λ_ f=>SP X l D .next f) rfl hs (sG λy m H=>I.ok.has y.1 (S.out y m H)) S.kind S.loc
  (bN (E l s σ a0 _ I a1) λv s1 J=>bN J λNZ s2 K=>?_)) λ_ f L=>WF (WF L))
 revert K;refine yE5 λit fp tn a7 H2=>yA6 λe d a2 M f2 O=>?_;subst e;refine sK (RR:=λr C=>compPost (model X.prog X.w) X.A X.xe (some (assign (.Name y b) X.env)) (λ_ f=>SP X l D .next f) r C) B S go n d a2 M f2 O ?_;intro C Da ys H3 s3 a3 h hD P R T U V a4;have cne:∀x c,X.env.cells.lookup x=some c->c≠C:=λx c e z=>by
  obtain⟨v,oc,p,q2⟩:=d.cell x c e;rw[z]at p;exact IN (EK (Heap.lt_size p) h) (Nat.lt_irrefl _)
 have q:C≠X.env.locals:=ne_of_gt (EK d.lt h);show wpAny _ X.A (assign (.Name y b) X.env (.ref Da)) _ _ _;refine wpAny_assign_Name (uW (v:=.ref Da) R w m A rfl (λW Y t=>?_) G);obtain⟨a,u,Z⟩:=t;have aC:C≠a:=by
  rcases Z with z|z
  ·rw[z];exact q
  ·exact Ne.symm (cne y a z)
 refine⟨a3,V.sameBut u aC,λh' EV=>?_⟩;refine⟨_,_,Y.turned (it:=C) (t':=W.toks) (λa5 a8 n e=>(EV.2 a5 n).trans e) (by rw[aB (Ne.symm P)];exact T) q (.inr (fT d.sz h)) cne ?_,a4 Da U⟩;intro a6 hp z;have:=Heap.lt_size (d.pin a6 hp).1;rw[z]at this;exact IN (EK this h) (Nat.lt_irrefl _)
end
def Its(x:Str):It:=⟨λi _=>i<x.cps.size,λi H v a=>a=H/\∃c,x.cps[i]?=some c/\v=.str ⟨#[c]⟩,λi _=>x.cps.size<=i⟩
def Bn{P:Program}{w:World}{K:W.Frag}{G:Expr}(it:TD)(x:Str)(t:Tok):rW P w K G (Its x) [it] it (λi h=>h.IsStrIter it "str_ascii_iterator" x t i) where
 mem:=by simp
 obj:=λi h st b a=>by
  have e:b=it:=by simpa using a
  subst e;obtain⟨o,e,c,d⟩:=st;exact⟨o,e,λv z=>by rw[d]at z;cases z⟩
 keep:=λi h f st k=>let ⟨o,J,r⟩:=st;⟨o,k it Zs o J,r⟩
 item:=by
  intro X l m n C i B s F H E I g st p;subst l m n;refine yE0 (g it Zs) (yA6 λq f1 f2 u y A=>?_);have j:i<x.cps.size:=p;refine wpAny_pyNext_ascii_item st (c:=x.cps[i]) (by simp[j]) λf D L=>?_;have M:Inv X B F H {s with heap:=f,toks:=s.toks+1 }:=I.turned (λb o a e=>(L.2 b a).trans e) q f1 u y A;refine yE0 (id D) (yE1 λo=>yA3 λe c d=>?_);exact⟨_,rfl,qJ (s:={s with heap:=f,toks:=s.toks+1 }) e c d Zd ⟨.str ⟨#[x.cps[i]]⟩,H,M,⟨_,rfl⟩,⟨rfl,_,by simp[j],rfl⟩,D,λb a=>(g b a).1⟩⟩
 done:=by
  intro X l m n C i B s F H E I g st p;subst l m n;refine yE0 (g it Zs) (yA6 λq f1 f2 u y A=>?_);have j:x.cps.size<=i:=p;exact wpAny_pyNext_ascii_end (I.ok.hd C) st (by simp[j]) λf N=>⟨rfl,I.turned (t':=s.toks) (λb o a e=>N b o a e) q f1 u y A⟩
 self:=λ_ _ _ _ _ st h=>wpAny_pyIter_striter_ascii st h
def Gz{P:Program}{w:World}{K:W.Frag}{G:Expr}(it:TD)(x:Str)(t:Tok):rW P w K G (Its x) [it] it (λi h=>h.IsStrIter it "str_iterator" x t i) where
 mem:=by simp
 obj:=λi h st b a=>by
  have e:b=it:=by simpa using a
  subst e;obtain⟨o,e,c,d⟩:=st;exact⟨o,e,λv z=>by rw[d]at z;cases z⟩
 keep:=λi h f st k=>let ⟨o,J,r⟩:=st;⟨o,k it Zs o J,r⟩
 item:=by
  intro X l m n C i B s F H E I g st p;subst l m n;refine yE0 (g it Zs) (yA6 λq f1 f2 u y A=>?_);have j:i<x.cps.size:=p;refine wpAny_pyNext_wide_item st (c:=x.cps[i]) (by simp[j]) λf D L=>?_;have M:Inv X B F H {s with heap:=f,toks:=s.toks+1 }:=I.turned (λb o a e=>(L.2 b a).trans e) q f1 u y A;refine yE0 (id D) (yE1 λo=>yA3 λe c d=>?_);exact⟨_,rfl,qJ (s:={s with heap:=f,toks:=s.toks+1 }) e c d Zd ⟨.str ⟨#[x.cps[i]]⟩,H,M,⟨_,rfl⟩,⟨rfl,_,by simp[j],rfl⟩,D,λb a=>(g b a).1⟩⟩
 done:=by
  intro X l m n C i B s F H E I g st p;subst l m n;refine yE0 (g it Zs) (yA6 λq f1 f2 u y A=>?_);have j:x.cps.size<=i:=p;exact wpAny_pyNext_wide_end (I.ok.hd C) st (by simp[j]) λf N=>⟨rfl,I.turned (t':=s.toks) (λb o a e=>N b o a e) q f1 u y A⟩
 self:=λ_ _ _ _ _ st h=>wpAny_pyIter_striter_wide st h
section
variable {X:Cx}{tg:Expr}
def aBn(a:TE):TI:=λc H R=>a c H λx b=>∃z,x=.str z/\R (Its z) b
def Yr{l:Expr}{g:TE}(k:PE X l g):PI X tg l (aBn g):=by
 intro f s r H R I h;refine bN (k f s r H _ I h) ?_;rintro v a ⟨x,d,c,m,n⟩
 obtain⟨z,rfl,q⟩:=n;obtain⟨t,rfl⟩:=m;have i:∀b∈[a.heap.objs.size],oZ X f d b:=λb p=>by
  have e:b=a.heap.objs.size:=by simpa using p
  subst e;exact c.fpOk (bA _) (c.hok.fresh (bA _))
 cases j:z.cps.all (·<128)
 ·refine wpAny_pyIter_wide j ?_;exact⟨a.heap.objs.size,[a.heap.objs.size],_,_,d,rfl,c.kept (t':=a.toks) λb o e=>iD _ e,Gz _ z t,⟨_,TW _ rfl,rfl,rfl⟩,i,q⟩
 ·refine wpAny_pyIter_ascii j ?_;exact⟨a.heap.objs.size,[a.heap.objs.size],_,_,d,rfl,c.kept (t':=a.toks) λb o e=>iD _ e,Bn _ z t,⟨_,TW _ rfl,rfl,rfl⟩,i,q⟩
end
abbrev tx(l:List Nat):Str:=⟨l.toArray⟩
def Bo(x:Str):tx x.cps.toList=x:=by cases x;simp
def fU(l:List Nat):(tx l).length=l.length:=by simp[Str.length]
def xD(a b:List Nat):tx a++tx b=tx (a++b):=by
 show Str.append (tx a) (tx b)=_;unfold Str.append;simp
def Su(x y:Str):(x++y).cps.toList=x.cps.toList++y.cps.toList:=by
 show(Str.append x y).cps.toList=_;unfold Str.append;simp
def iB{a:Type}(xs:List a)(lo b:Option Int):List a:=(xs.drop (HT.sIx xs.length 0 lo)).take (HT.sIx xs.length xs.length b-HT.sIx xs.length 0 lo)
def Dy(n d:Nat)(v:Option Int):(match v with|none=>(d:Int)|some i=>max 0 (min (if i<0 then i+(n:Int) else i) (n:Int)))=((HT.sIx n d v:Nat):Int):=by
 cases v with
 | none=>rfl
 | some i=>
  show max 0 (min (if i<0 then i+(n:Int) else i) (n:Int))=(((if i<0 then (i+(n:Int)).toNat else min i.toNat n):Nat):Int);by_cases h:i<0
  ·rw[O8 h,O8 h];omega
  ·rw[NE h,NE h];omega
def Lj(lo a:Option Int)(n:Nat):Builtin.Str.strSliceIndices lo a 1 n=(List.range (HT.sIx n n a-HT.sIx n 0 lo)).map (HT.sIx n 0 lo+·):=by
 rw[<- sliceRange_one,<- Dy n 0 lo,<- Dy n n a];unfold Builtin.Str.strSliceIndices;simp only [show(1:Int)>0 by decide,if_true];cases lo<;>cases a<;>rfl
def Sv(n d:Nat)(hd:d<=n)(v:Option Int):HT.sIx n d v<=n:=by
 cases v with
 | none=>exact hd
 | some i=>
  show(if i<0 then (i+(n:Int)).toNat else min i.toNat n)<=n;split<;>omega
def Hg(x:Str)(lo a:Option Int):(Txt.slice x lo a).cps.toList=iB x.cps.toList lo a:=by
 have c:x.cps.toList.length=x.length:=by simp[Str.length]
 unfold Txt.slice iB;rw[c,Lj];have d:=pick_run x.cps (HT.sIx x.length 0 lo) (HT.sIx x.length x.length a-HT.sIx x.length 0 lo);split
 ·rename_i h;have f:(HT.sIx x.length x.length a-HT.sIx x.length 0 lo)=x.length:=by simpa using h
  have g:=Sv x.length x.length (bA _) a;have b:HT.sIx x.length 0 lo=0∨x.length=0:=by omega
  rw[f];rcases b with b|b
  ·rw[b,drop_zero,lJ (by rw[c];exact bA _)]
  ·have e:x.cps.toList=[]:=List.eq_nil_of_length_eq_zero (by rw[c];exact b);rw[e];simp
 ·simpa using d
def Lk(x:Str)(lo a:Option Int):Txt.slice x lo a=tx (iB x.cps.toList lo a):=by
 rw[<- Hg,Bo]
section
variable {X:Cx}
def aCx:V->Option Int->Option Int->Hp->VK->Prop:=λx lo a H Q=>∃z,x=.str z/\z.length<=sizeLine/\Q (.str (tx (iB z.cps.toList lo a))) H
def Bp{h:Heap}{sl:TD}{a b:Q3}{lo c:Option Int}(hs:h.IsSliceOf sl a b .none)(pl:IsPart a lo)(d:IsPart b c):∃l u:Option (Int×Tok),h.IsSlice sl l u none/\l.map (·.1)=lo/\u.map (·.1)=c:=by
 cases pl with
 | none=>
  cases d with
  | none=>exact⟨none,none,hs,rfl,rfl⟩
  | int j t=>exact⟨none,some (j,t),hs,rfl,rfl⟩
 | int i t=>
  cases d with
  | none=>exact⟨some (i,t),none,hs,rfl,rfl⟩
  | int j u=>exact⟨some (i,t),some (j,u),hs,rfl,rfl⟩
def Ys:SlR X aCx:=by
 intro c s p H x v r w lo b sl Q I e f g i h;obtain⟨z,rfl,j,q⟩:=h;obtain⟨t,rfl⟩:=e;refine yE0 (Bp f g i) (yE2 λl u=>yA3 λm n o=>?_);refine⟨"str",_,F.slot_str_getitem.lookup,typeIs_str _ _ _,wpAny_getItem_str_slice m rfl ?_⟩;have d:∀a k,EP X c p Q (.str (Txt.slice z lo b) a) {s with toks:=k }:=λa k=>⟨.str (tx (iB z.cps.toList lo b)),H,I.tok _,⟨a,by rw[Lk]⟩,q⟩
 subst n o;exact post_val_or_str ⟨fT (Txt.slice_le z _ _) j,λa k=>d a k⟩
def Bq{a:List Str}:∀ {us:List Q3},Vals (a.map V.str) us->StrsAre us a:=by
 induction a with
 | nil=>intro us r;rw[map_nil]at r;cases r;exact .nil
 | cons n a b=>
  intro us r;rw[map_cons]at r;cases r with
  | cons c d=>
   obtain⟨t,e⟩:=c;subst e;exact .cons n t (b d)
def Ll(K:W.Frag):V->List V->Hp->VK->Prop:=λx vs H Q=>∃b p a,x=.str b/\vs=[.ref p]/\SqL K H p (a.map V.str)/\(a.map (·.length)).sum+a.length*b.length<=16777216/\Q (.str (Txt.join b a)) H
def Sw:MtR X "str.join" (Ll X.K):=by
 intro g s o H x vs v l Q I a b h;revert h;refine yE3 λi p m=>yA5 λζ η c d q=>?_;subst ζ η;obtain⟨t,rfl⟩:=a;obtain⟨u,rfl,e⟩:=b.one;cases e;obtain⟨j,r,f,_⟩:=I.list c;exact join_list f.isList (by simpa using Bq r) d λn k=>⟨.str _,H,I.tok _,⟨_,rfl⟩,q⟩
def aCy(K:W.Frag):List V->Hp->VK->Prop:=λvs H Q=>∃x T t b,vs=[x,.ty T]/\nG K H x t/\W.kitOne K t (.type T)=some b/\Q (.bl b) H
def Lm:CallR X (.builtin "isinstance") (aCy X.K):=by
 intro i s k H j a Q I r h;revert h;refine yE4 λx T t b=>yA4 λζ ty e q=>?_;subst ζ;obtain⟨u,c,rfl,d,rc⟩:∃u c,a=[u,c]/\RelV x u/\RelV (.ty T) c:=by
  cases r with
  | cons p q=>
   cases q with
   | cons f g=>
    cases g;exact⟨_,_,rfl,p,f⟩
 cases(show c=Value.type T from rc);exact Gk I d ty e λtk=>⟨.bl b,H,I.tok _,rfl,q⟩
def yW{a:List Bool}:∀ {us:List Q3},Vals (a.map V.bl) us->PyProof.Rows.LSm.BoolsAre us a:=by
 induction a with
 | nil=>intro us r;rw[map_nil]at r;cases r;exact .nil
 | cons n a b=>
  intro us r;rw[map_cons]at r;cases r with
  | cons c d=>
   have e:=c;cases(show _=Value.bool n from e);exact .cons n (b d)
def Yt(K:W.Frag):List V->Hp->VK->Prop:=λvs H Q=>∃(p:TD)(bs:List Bool),vs=[.ref p]/\SqL K H p (bs.map V.bl)/\Q (.bl (bs.all id)) H
def Yu(K:W.Frag):List V->Hp->VK->Prop:=λvs H Q=>∃(p:TD)(a:List Int),vs=[.ref p]/\SqL K H p (a.map V.int)/\Q (.int (List.sum a)) H
def Ln(g:X.calm=true):CallR X (.builtin "all") (Yt X.K):=by
 intro w s F H x y Q I r h;obtain⟨p,bs,rfl,j,q⟩:=h;obtain⟨u,rfl,k⟩:=iE r;cases k;obtain⟨a,l,m,z⟩:=I.list j;have c:=m.isList;have d:=yW l;have n:p<s.heap.objs.size:=by obtain⟨_,e,_⟩:=c;exact Heap.lt_size e
 refine call_all_walk (wpAny_pyIter_list c ?_);refine⟨s.heap.objs.size,[s.heap.objs.size,p],[s.heap.objs.size],a.toArray.size,_,_,λi=>(bs[i]?).getD true,rfl,Walks.list (A:=X.A.in1) (I.ok.hd g) _ p (ne_of_lt n) a.toArray,
  ⟨⟨_,TW _ rfl,rfl,rfl⟩,c.push _⟩,λi v B C D o f=>?_,λE tk t=>?_⟩
 ·obtain⟨b,e,rfl⟩:=d.get i v (by simpa using o);simp only [e,Option.getD_some]at f;exact wpAny_truthy_bool f
 ·have e:((List.range a.toArray.size).all λi=>(bs[i]?).getD true)=bs.all id:=by
   rw[dX,d.length];exact PyProof.Rows.LSm.range_all bs
  rw[e];exact⟨.bl _,H,I.kept (PyProof.Rows.LSm.kept_iter t),rfl,q⟩
def Lo(f:X.calm=true):CallR X (.builtin "sum") (Yu X.K):=by
 intro t s z H a v Q I r h;obtain⟨p,b,rfl,g,q⟩:=h;obtain⟨u,rfl,i⟩:=iE r;cases i;obtain⟨e,j,k,w⟩:=I.list g;have c:=mN j;obtain⟨a,d⟩:=c.allInts.items;have l:s.heap.IsList p (intItems a):=d▸k.isList;refine sum_intListG (I.ok.hd f) l λx tk y m=>?_;have n:b=a.toList.map (·.1):=by
  rw[<- nums_intItems,<- d];exact(show numsOf e.toArray.toList=b from c.numsOf).symm
 have o:preSum (numAt a) a.size=b.sum:=by
  rw[preSum_eq,lJ Zs,n]
 rw[o];exact⟨.int _,H,I.kept m,⟨_,rfl⟩,q⟩
end
section
variable {X:Cx}
def pE(K:W.Frag)(d:Bool):R2:=λx y H Q=>∃(a b:TD)(c:List V),x=.ref a/\y=.ref b/\SqL K H a c/\SqL K H b []/\Q (.bl (if d then !c.isEmpty else c.isEmpty)) H
def lM{us:List Q3}(r:Vals [] us):us=[]:=by cases r;rfl
def Lp(c:X.A.units<cLine):OpR X (compareOp .Eq) (pE X.K false):=by
 intro w s D H x y v u Q I i k h;revert h;refine yE3 λa b l=>yA5 λζ η m n q=>?_;subst ζ η;cases i;cases k;obtain⟨A,d,f,_⟩:=I.list m;obtain⟨B,o,g,_⟩:=I.list n;have p:=lM o;subst p;have r:=d.length
 cases l with
 | nil=>
  have t:=lM d;subst t;exact SeqAt.eq_listAt (e:=λ_=>true) f.isList g.isList rfl c (λj h=>IN h Zs) ⟨.bl true,H,I,rfl,q⟩
 | cons z C=>
  exact SeqAt.eq_list_lengthsAt f.isList g.isList (by simp only [dX,<- r];simp) c ⟨.bl false,H,I,rfl,q⟩
def Lq(c:X.A.units<cLine):OpR X (compareOp .NotEq) (pE X.K true):=by
 intro w s D H x y v u Q I i k h;revert h;refine yE3 λa b l=>yA5 λζ η m n q=>?_;subst ζ η;cases i;cases k;obtain⟨A,d,f,_⟩:=I.list m;obtain⟨B,o,g,_⟩:=I.list n;have p:=lM o;subst p;have r:=d.length
 cases l with
 | nil=>
  have t:=lM d;subst t;exact SeqAt.RcNeAt.lists (e:=λ_=>true) f.isList g.isList rfl c (λj h=>IN h Zs) _ _ _ _ ⟨.bl false,H,I,rfl,q⟩
 | cons z C=>
  exact SeqAt.RcNeAt.lists_lengths f.isList g.isList (by simp only [dX,<- r];simp) c _ _ _ _ ⟨.bl true,H,I,rfl,q⟩
end
def mB(x:V)(k:Bool->Prop):Prop:=match x with|.bl b=>k b|_=>False
def mI(x:V)(k:Int->Prop):Prop:=match x with|.int b=>k b|_=>False
def mS(x:V)(k:Str->Prop):Prop:=match x with|.str b=>k b|_=>False
def mR(x:V)(k:TD->Prop):Prop:=match x with|.ref b=>k b|_=>False
def yX(x:V)(k:Bool->Prop):mB x k=∃b,x=.bl b/\k b:=by
 cases x<;>simp[mB]
def oE(x:V)(k:Int->Prop):mI x k=∃b,x=.int b/\k b:=by
 cases x<;>simp[mI]
def oF(x:V)(k:Str->Prop):mS x k=∃b,x=.str b/\k b:=by
 cases x<;>simp[mS]
def cN(x:V)(k:TD->Prop):mR x k=∃b,x=.ref b/\k b:=by
 cases x<;>simp[mR]
def sM{n:Nat}(h:Nat.ble n 1000=true):n<=sizeLine:=fT (FS h) Zd
def fJ{n:Nat}(h:n<=1000):n<=sizeLine:=fT h Zd
section
variable {X:Cx}{a b c e:Expr}{ta tb tc te:TE}{pos:Pos}
def vr(i:Nat):TE:=λd H Q=>match d[i]? with|some (some v)=>Q v H|_=>False
def aBo(i:Nat):vr i=Wz i:=by
 funext d H Q
 unfold vr Wz;apply propext
 cases d[i]? with
 | none=>simp
 | some o=>cases o<;>simp
def xv(i:Nat){x:Str}{pos:Pos}(d:X.N[i]?=some x:=by rfl)(f:Wy X.env.scope x:=by first|exact Or.inl rfl|exact Or.inr (Or.inl rfl)|exact Or.inr (Or.inr rfl))(hd:(x==("__debug__":Str))=false:=by decide)(g:(x==("__classdict__":Str))=false:=by decide):PE X (.Name x pos) (vr i):=by
 rw[aBo];exact Xa d f hd g
def OpR.imp{f:Q3->Q3->Sem Value}{r r':R2}(h:OpR X f r)(g:∀x y H Q,r' x y H Q->r x y H Q):OpR X f r':=λd s k H x y v u Q I i j q=>h d s k H x y v u Q I i j (g x y H Q q)
def UnR.imp{f:Q3->Sem Value}{r r':V->Hp->VK->Prop}(h:UnR X f r)(g:∀x H Q,r' x H Q->r x H Q):UnR X f r':=λd s j H x v Q I i q=>h d s j H x v Q I i (g x H Q q)
def CallR.imp{f:Q3}{r r':List V->Hp->VK->Prop}(h:CallR X f r)(g:∀xs H Q,r' xs H Q->r xs H Q):CallR X f r':=λd s k H xs i Q I j q=>h d s k H xs i Q I j (g xs H Q q)
def IxR.imp{r r':R2}(h:IxR X r)(g:∀x y H Q,r' x y H Q->r x y H Q):IxR X r':=λd slice f s k H x y v u Q I i j q=>h d slice f s k H x y v u Q I i j (g x y H Q q)
def SlR.imp{r r':V->Option Int->Option Int->Hp->VK->Prop}(h:SlR X r)(g:∀x l u H Q,r' x l u H Q->r x l u H Q):SlR X r':=λf s p H x v i j lo d sl Q I k m n o q=>h f s p H x v i j lo d sl Q I k m n o (g x lo d H Q q)
def m2(C:Int->Int->Prop)(g:Int->Int->V):R2:=λx y H Q=>mI x λi=>mI y λj=>C i j/\Q (g i j) H
def Br(g:Int->Int->V):R2:=λx y H Q=>mI x λi=>mI y λj=>Q (g i j) H
def lN{g:Int->Int->V}(x y:V)(H:Hp)(Q:VK)(h:Br g x y H Q):Rv g x y H Q:=by
 unfold Br at h;rw[oE]at h;obtain⟨i,rfl,h⟩:=h;rw[oE]at h;obtain⟨j,rfl,h⟩:=h;exact⟨i,j,rfl,rfl,h⟩
def xE{C:Int->Int->Prop}{g:Int->Int->V}(x y:V)(H:Hp)(Q:VK)(h:m2 C g x y H Q):rI C g x y H Q:=by
 unfold m2 at h;rw[oE]at h;obtain⟨i,rfl,h⟩:=h;rw[oE]at h;obtain⟨j,rfl,d,h⟩:=h;exact⟨i,j,rfl,rfl,d,h⟩
def aBp:OpR X (binaryOp .Add) (Br λi j=>.int (i+j)):=Xy.imp lN
def aBq:OpR X (binaryOp .Sub) (Br λi j=>.int (i-j)):=Xz.imp lN
def aBr:OpR X (binaryOp .Mult) (m2 CMul λi j=>.int (i*j)):=Ya.imp xE
def aBs:OpR X (binaryOp .Mod) (m2 (λ_ j=>0<j) λi j=>.int (i%j)):=Yb.imp xE
def aBt:OpR X (binaryOp .Pow) (m2 Xx λi j=>.int (i^j.toNat)):=Yc.imp xE
def aCz:OpR X (compareOp .Lt) (Br λi j=>.bl (decide (i<j))):=aA9.imp lN
def aCA:OpR X (compareOp .LtE) (Br λi j=>.bl (decide (i<=j))):=aBa.imp lN
def aCB:OpR X (compareOp .Gt) (Br λi j=>.bl (decide (j<i))):=aBb.imp lN
def aCC:OpR X (compareOp .GtE) (Br λi j=>.bl (decide (j<=i))):=aBc.imp lN
def Lr:R2:=λx y H Q=>mS x λi=>mS y λj=>i.length+j.length<=sizeLine/\Q (.str (i++j)) H
def Yv:OpR X (binaryOp .Add) Lr:=Ba.imp λx y H Q h=>by
 unfold Lr at h;rw[oF]at h;obtain⟨i,rfl,h⟩:=h;rw[oF]at h;obtain⟨j,rfl,d,h⟩:=h;exact⟨i,j,rfl,rfl,d,h⟩
def mEq:R2:=λx y H Q=>match x,y with
 | .int i,.int j=>Q (.bl (decide (i=j))) H
 | .str i,.str j=>Q (.bl (decide (i=j))) H
 | .bl i,.bl j=>Q (.bl (decide (i=j))) H
 | .non,.non=>Q (.bl true) H
 | .int _,.non=>Q (.bl false) H|.non,.int _=>Q (.bl false) H
 | .str _,.non=>Q (.bl false) H|.non,.str _=>Q (.bl false) H
 | .bl _,.non=>Q (.bl false) H|.non,.bl _=>Q (.bl false) H
 | .int _,.str _=>Q (.bl false) H|.str _,.int _=>Q (.bl false) H
 | .bl _,.str _=>Q (.bl false) H|.str _,.bl _=>Q (.bl false) H
 | _,_=>False
def mNe:R2:=λx y H Q=>match x,y with
 | .int i,.int j=>Q (.bl (!decide (i=j))) H
 | .str i,.str j=>Q (.bl (!decide (i=j))) H
 | .bl i,.bl j=>Q (.bl (!decide (i=j))) H
 | .non,.non=>Q (.bl false) H
 | .int _,.non=>Q (.bl true) H|.non,.int _=>Q (.bl true) H
 | .str _,.non=>Q (.bl true) H|.non,.str _=>Q (.bl true) H
 | .bl _,.non=>Q (.bl true) H|.non,.bl _=>Q (.bl true) H
 | .int _,.str _=>Q (.bl true) H|.str _,.int _=>Q (.bl true) H
 | .bl _,.str _=>Q (.bl true) H|.str _,.bl _=>Q (.bl true) H
 | _,_=>False
def aCE:OpR X (compareOp .Eq) mEq:=Vr.imp λx y H Q h=>by
 unfold rEq;cases x<;>cases y<;>first|exact h.elim|exact⟨rfl,h⟩|(refine⟨rfl,?_⟩;have h:Q (.bl _) H:=h;simpa using h)
def aCF:OpR X (compareOp .NotEq) mNe:=Vs.imp λx y H Q h=>by
 unfold rNe;cases x<;>cases y<;>first|exact h.elim|exact⟨rfl,h⟩|(refine⟨rfl,?_⟩;have h:Q (.bl _) H:=h;simpa using h)
def Yw(d:Bool):R2:=λx y H Q=>mS x λi=>mS y λj=>∃c,i=tx [c]/\Q (.bl (if d then !decide (c∈j.cps.toList) else decide (c∈j.cps.toList))) H
def aBu:OpR X (compareOp .In) (Yw false):=Gg.imp λx y H Q h=>by
 unfold Yw at h;rw[oF]at h;obtain⟨i,rfl,h⟩:=h;rw[oF]at h;obtain⟨j,rfl,c,rfl,h⟩:=h;refine⟨_,j,rfl,rfl,?_⟩;have e:=StrLaws.found_one j c;have d:(!(Builtin.Str.occurrences j (tx [c]) 0 j.length 1).isEmpty)=decide (c∈j.cps.toList):=e;rw[d];exact h
def aBv:OpR X (compareOp .Is) (λx y H Q=>match y with|.non=>Q (.bl (decide (x=.non))) H|_=>False):=Ye.imp λx y H Q h=>by
 cases y<;>first|exact⟨rfl,h⟩|exact h.elim
def Yx:OpR X (compareOp .IsNot) (λx y H Q=>match y with|.non=>Q (.bl (!decide (x=.non))) H|_=>False):=Rx.imp λx y H Q h=>by
 cases y<;>first|exact⟨rfl,h⟩|exact h.elim
def mT(t:TE):TT:=λf H Q=>t f H λx d=>mB x λk=>Q k d
def Wa(t:TE):mT t=Dh t:=by
 funext f H Q
 unfold mT Dh;congr 1
 funext x d
 exact yX x _
def Yy(t:TE):mT t=tB t:=by
 funext f H Q
 unfold mT tB;congr 1
 funext x d
 exact yX x _
def aBw{op:CmpOp}{r:R2}(d:OpR X (compareOp op) r)(f:PE X a ta)(g:PE X b tb)(h:behindInMarks op b=false:=by first|exact wO _|rfl):PT X (.Compare a [op] [b] pos) (mT (uX r ta tb)):=by
 rw[Wa];exact Rz d f g h
def aBx{op:CmpOp}{r:R2}(d:OpR X (compareOp op) r)(f:PE X a ta)(g:PE X b tb)(h:behindInMarks op b=false:=by first|exact wO _|rfl):PE X (.Compare a [op] [b] pos) (uX r ta tb):=Ry d f g h
def pF(r r':R2)(ta tb tc:TE):TE:=λd H Q=>ta d H λx g=>tb d g λy h=>r x y h λz f=>mB z λk=>(if k=true then tc d f λi j=>r' y i j Q else Q (.bl false) f)
def vJ(r r':R2)(ta tb tc:TE):pF r r' ta tb tc=wP r r' ta tb tc:=by
 funext h H Q
 unfold pF wP;congr 1
 funext x d
 congr 1
 funext y f
 congr 1
 funext z g
 exact yX z _
def Sx{op d:CmpOp}{r r':R2}(f:OpR X (compareOp op) r)(g:OpR X (compareOp d) r')(h:PE X a ta)(i:PE X b tb)(j:PE X c tc)(k:lastMarks [op,d] [b,c]=false:=by with_unfolding_all rfl):PE X (.Compare a [op,d] [b,c] pos) (pF r r' ta tb tc):=by
 rw[vJ];exact Kc f g h i j k
def Sy{op d:CmpOp}{r r':R2}(f:OpR X (compareOp op) r)(g:OpR X (compareOp d) r')(h:PE X a ta)(i:PE X b tb)(j:PE X c tc)(k:lastMarks [op,d] [b,c]=false:=by with_unfolding_all rfl):PT X (.Compare a [op,d] [b,c] pos) (mT (pF r r' ta tb tc)):=by
 rw[Wa,vJ];exact Ke f g h i j k
def aBy{t:TE}(h:PE X e t)(d:∀whole,isTrue e X.env whole=(do let v←whole;standAt e.pos;holding [v] (truthy v)):=by intro _;rfl):PT X e (mT t):=by
 rw[Yy];exact Xe h d
def Dz(ta tb:TE):TE:=λf H Q=>ta f H λx d=>mB x λc=>if c=true then tb f d Q else Q (.bl false) d
def Sz(ta tb:TE):TE:=λf H Q=>ta f H λx d=>mB x λc=>if c=true then Q (.bl true) d else tb f d Q
def aBz{rest:List Expr}(d:PE X a ta)(f:PE X (.BoolOp .And (b::rest) pos) tb):PE X (.BoolOp .And (a::b::rest) pos) (Dz ta tb):=by
 have:Dz ta tb=Ju ta tb:=by
  funext h H Q;unfold Dz Ju;congr 1;funext x g;exact yX x _
 rw[this];exact Xk d f
def aCG{rest:List Expr}(d:PE X a ta)(f:PE X (.BoolOp .Or (b::rest) pos) tb):PE X (.BoolOp .Or (a::b::rest) pos) (Sz ta tb):=by
 have:Sz ta tb=Xi ta tb:=by
  funext h H Q;unfold Sz Xi;congr 1;funext x g;exact yX x _
 rw[this];exact aA1 d f
def aBA(d:PE X a ta):PE X (.UnaryOp .USub a pos) (tUn (λx H Q=>mI x λi=>Q (.int (-i)) H) ta):=aA7 (Yd.imp λx H Q h=>by
 rw[oE]at h;obtain⟨i,rfl,h⟩:=h;exact⟨i,rfl,h⟩) d
def Ls(K:W.Frag):R2:=λx y H Q=>mR x λp=>mI y λi=>∃d,SqL K H p d/\∃v,nO d i=some v/\Q v H
def xF(K:W.Frag):R2:=λx y H Q=>mR x λp=>mI y λi=>∃d,SqT K H p d/\∃v,nO d i=some v/\Q v H
def Yz:R2:=λx y H Q=>mS x λz=>mI y λi=>z.length<=sizeLine/\∃c,nO z.cps.toList i=some c/\Q (.str (tx [c])) H
def Za:IxR X (Ls X.K):=Si.imp λx y H Q h=>by
 unfold Ls at h;rw[cN]at h;obtain⟨p,rfl,h⟩:=h;rw[oE]at h;obtain⟨i,rfl,d,f,v,g,h⟩:=h;exact⟨p,d,i,v,rfl,rfl,f,g,h⟩
def aBB:IxR X (xF X.K):=Yj.imp λx y H Q h=>by
 unfold xF at h;rw[cN]at h;obtain⟨p,rfl,h⟩:=h;rw[oE]at h;obtain⟨i,rfl,d,f,v,g,h⟩:=h;exact⟨p,d,i,v,rfl,rfl,f,g,h⟩
def aBC:IxR X Yz:=Yk.imp λx y H Q h=>by
 unfold Yz at h;rw[oF]at h;obtain⟨z,rfl,h⟩:=h;rw[oE]at h;obtain⟨i,rfl,d,c,f,h⟩:=h;exact⟨z,i,c,rfl,rfl,d,f,h⟩
def aCH{r:R2}(d:IxR X r)(f:PE X a ta)(g:PE X b tb)(hs:wV b:=by exact λ_ _=>rfl):PE X (.Subscript a b pos) (uX r ta tb):=aBi d f g hs
def Ea(t:TE):TO:=λf H Q=>t f H λx d=>mI x λi=>Q (some i) d
def Zb(h:PE X e te):PO X (some e) (Ea te):=by
 have:Ea te=Kl te:=by
  funext f H Q;unfold Ea Kl;congr 1;funext x d;exact oE x _
 rw[this];exact Sg h
def Zc:V->Option Int->Option Int->Hp->VK->Prop:=λx lo d H Q=>mS x λz=>z.length<=sizeLine/\Q (.str (tx (iB z.cps.toList lo d))) H
def aBD:SlR X Zc:=Ys.imp λx l u H Q h=>by
 unfold Zc at h;rw[oF]at h;obtain⟨z,rfl,d,h⟩:=h;exact⟨z,rfl,d,h⟩
def Ta(K:W.Frag):V->Option Int->Option Int->Hp->VK->Prop:=λx lo f H Q=>mR x λa=>∃d,SqL K H a d/\∀p,H p=none->Q (.ref p) (aH H p (.lst (iB d lo f)))
def Ze:SlR X (Ta X.K):=Sj.imp λx l u H Q h=>by
 unfold Ta at h;rw[cN]at h;obtain⟨a,rfl,d,f,h⟩:=h;exact⟨a,d,rfl,f,h⟩
def Zf:CallR X (.builtin "len") (λvs H Q=>match vs with|[.str z]=>z.length<=sizeLine/\Q (.int z.length) H|_=>False):=xA.imp λvs H Q h=>by
 split at h
 ·rename_i z;exact⟨z,rfl,h.1,h.2⟩
 ·exact h.elim
def Zh:CallR X (.builtin "len") (λvs H Q=>match vs with|[.ref p]=>∃ys,(SqL X.K H p ys∨SqT X.K H p ys)/\Q (.int ys.length) H|_=>False):=wZ.imp λvs H Q h=>by
 split at h
 ·rename_i p;obtain⟨ys,d,h⟩:=h;exact⟨p,ys,rfl,d,h⟩
 ·exact h.elim
end
inductive Kd where|non|bl|int|str|lst|tup|dct
def Tb:Kd->String|.non=>"NoneType"|.bl=>"bool"|.int=>"int"|.str=>"str"|.lst=>"list"|.tup=>"tuple"|.dct=>"dict"
def Kof(H:Hp):V->Kd->Prop
 | .non,.non=>True|.bl _,.bl=>True|.int _,.int=>True|.str _,.str=>True
 | .ref a,.lst=>(∃b,H a=some (.lst b))∨∃o b,H a=some (.frz o (.lst b))
 | .ref a,.tup=>∃b,H a=some (.tup b)
 | .ref a,.dct=>∃c,H a=some (.dK c)
 | _,_=>False
def isK:Kd->Kd->Bool|.non,.non=>true|.bl,.bl=>true|.int,.int=>true|.int,.bl=>true|.str,.str=>true|.lst,.lst=>true|.tup,.tup=>true|.dct,.dct=>true|_,_=>false
def aBF(K:W.Frag)(a k:Kd):W.kitOne K (.type (Tb k)) (.type (Tb a))=some (isK a k):=by
 cases a<;>cases k<;>first|rfl|kernel_rfl
def aCI{K:W.Frag}{H:Hp}{x:V}{k:Kd}(h:Kof H x k):nG K H x (.type (Tb k)):=by
  cases x<;>cases k<;>first
    | exact h.elim
    | exact .non
    | exact .bl _
    | exact .int _
    | exact .str _
    | (obtain⟨a,e⟩:=h;exact .tup e)
    | (obtain⟨a,e⟩:=h;exact .dK e)
    | (rcases h with⟨a,e⟩ | ⟨o,a,e⟩
       . exact .lst e
       . exact .frz e)
def Zi(a:Kd):List V->Hp->VK->Prop:=λvs H Q=>match vs with
 | [x,y]=>y=.ty (Tb a)/\∃k,Kof H x k/\Q (.bl (isK a k)) H
 | _=>False
section
variable {X:Cx}
def aBG(a:Kd):CallR X (.builtin "isinstance") (Zi a):=Lm.imp λvs H Q h=>by
 unfold Zi at h;split at h
 ·rename_i x y;obtain⟨rfl,k,b,h⟩:=h;exact⟨x,_,_,_,rfl,aCI b,aBF X.K a k,h⟩
 ·exact h.elim
variable {e:Expr}{te:TE}{p p2 pos:Pos}{T:Str}
def Zj(b:Kd)(te:TE):TE:=λc H Q=>te c H λx a=>∃k,Kof a x k/\Q (.bl (isK b k)) a
def aBH(a:Kd)(f:PE X e te)(g:Gl X "isinstance")(i:X.mg "isinstance"=none)(j:Gl X T)(l:X.mg T=none)(m:bootBuiltins T=some (.type (Tb a)))(hs:starEach [e,.Name T p2] X.env=(false,eval e X.env)::starEach [.Name T p2] X.env:=by rfl)(n:starEach [.Name T p2] X.env=(false,eval (.Name T p2) X.env)::starEach [] X.env:=by rfl)(o:T≠"__name__":=by decide)(hd:(T==("__debug__":Str))=false:=by decide)(r:(backTo pos (starEach [.Name T p2] X.env)).any (·.1)=false:=by rfl) :
  PE X (.Call (.Name "isinstance" p) [e,.Name T p2] [] pos) (Zj a te):=by
 have h:=yS (X:=X) (x:="isinstance") (p:=p) (pos:=pos) (aBG a) g i PyProof.Rows.boot_isinstance (wQ f (wQ (Ri (v:=.ty (Tb a)) (pos:=p2) j l m rfl o hd) Bf n) hs) Zd Zd hs r;intro d s c H Q I q;exact h d s c H Q I (by
  show te c H _;have:(λ(x:V) (b:Hp)=>Zi a [x,.ty (Tb a)] b Q)=(λx b=>∃k,Kof b x k/\Q (.bl (isK a k)) b):=by
   funext x b
   apply propext;constructor
   ·rintro⟨_,z⟩;exact z
   ·intro z;exact⟨rfl,z⟩
  exact this ▸ q)
end
structure Callee(P:Program)(w:World)(K:W.Frag)(mg:W1)(base:Heap)(n:Nat)(x:Str)(ps:List Str)(sp:Sp):Prop where
 ex:∃(f:TD)(fd:FuncData),FnOk P w K mg base sC n f fd ps sp/\mg x=some (.ref f)/\W.keepIn K (.ref f)=true/\Binds K fd ps []
section
variable {X:Cx}{n:Nat}{x:Str}{ps:List Str}{sp:Sp}{p pos:Pos}{e:Expr}{es:List Expr}{t:TA}
def tFn(sp:Sp)(t:TA):TE:=λb H Q=>t b H λvs a=>sp vs a Q E0
def aCK(c:Callee X.prog X.w X.K X.mg X.base n x ps sp)(g:Room n X.A)(i:Gl X x)(j:PA X (e::es) t)(k:(x==("__debug__":Str))=false:=by decide)(l:starEach (e::es) X.env=(false,eval e X.env)::starEach es X.env:=by rfl)(m:(backTo pos (starEach es X.env)).any (·.1)=false:=by rfl):PE X (.Call (.Name x p) (e::es) [] pos) (tFn sp t):=by
 refine yE0 c.ex (yE2 λf v=>yA4 λF o r u=>?_);have h:=Sd (X:=X) (p:=p) (pos:=pos) (E:=E0) F g i o r u (dvs:=[]) .nil vG j k l m;intro d s b H Q I q;exact h d s b H Q I (by
  show t b H _;have:(λ(vs:List V) (a:Hp)=>sp (vs++[]) a Q E0)=(λvs a=>sp vs a Q E0):=by
   funext vs a;rw[append_nil]
  rw[this];exact q)
end
structure DefAt(K:W.Frag)(mg:W1)(x:Str)(st:Stmt)(ps:List Str):Prop where
 ex:∃(f:TD)(fd:FuncData),Fun K x x st f fd/\mg x=some (.ref f)/\Binds K fd ps []
def DefAt.ok{P:Program}{w:World}{K:W.Frag}{mg:W1}{base:Heap}{x:Str}{st:Stmt}{N ps:List Str}{k:Nat}{sp:Sp}(D:DefAt K mg x st ps)(S:aI N ps (aD st))(len:∀vs H Q E,sp vs H Q E->vs.length=ps.length)(c:∀(f:TD)(a:Q3)(A:Around)(b:List Env)(s:PP)(H:Hp)(vs:List V)(Q:VK)(E:XK),Room k (A.deeper (envOfC x (aD st) s.heap.objs.size f a))->sp vs H Q E →
   ∃t,PSs (mM sC P w K mg base N x (aD st) f a A b s H E).nox (aT st) t/\t {nx:=λ_ H'=>Q .non H',rt:=Q } (start N vs) H):Callee P w K mg base (k+1) x ps sp:=by
 obtain⟨f,d,F,e,g⟩:=D.ex;exact⟨f,d,F.ok S len (c f),e,F.kp,g⟩
def Lu(a:Scope)(b:List Str)(scope:Scope)(N:List Str)(js:List (Option Nat)):Bool:=
 (scope.kind == .function)&&scope.names.all (λy=>y.2 != .cell)&&scope.names.all (λy=>y.2 != .local||scope.names.lookup y.1==some .local)&&(js.length==N.length)&&
 (List.range js.length).all (λi=>match js[i]? with|some (some j)=>(match N[i]? with|some x=>b[j]? == some x&&scope.names.lookup x==some .free|none=>false)|_=>true)&&
 scope.names.all (λy=>y.2 != .free||a.names.lookup y.1==some .cell||a.names.lookup y.1==some .free)
def CompScope.by{X:Cx}{d:Scope}{N:List Str}{js:List (Option Nat)}(a:Scope)(f:List Str)(g:X.env.scope=a)(h:X.N=f)(ok:Lu a f d N js=true):CompScope X d N js:=by
 unfold Lu at ok;simp only [Bool.and_eq_true]at ok;obtain⟨⟨⟨⟨⟨k,l⟩,m⟩,n⟩,o⟩,p⟩:=ok;refine⟨by simpa using k,λy b=>?_,λy b c=>?_,by simpa using n,λi j e=>?_,λy b c=>?_⟩
 ·have:=all_eq_true.mp l y b;simpa using this
 ·have:=all_eq_true.mp m y b;rw[c]at this;simpa using this
 ·have r:i<js.length:=(Zgs.mp e).1;have:=all_eq_true.mp o i (mem_range.mpr r);rw[e]at this;cases q:N[i]? with
  | none=>simp[q]at this
  | some x=>
   simp only [q,Bool.and_eq_true,beq_iff_eq]at this;exact⟨x,rfl,by rw[h];exact this.1,this.2⟩
 ·have:=all_eq_true.mp p y b;rw[c]at this;have z:(a.names.lookup y.1==some .cell)=true∨(a.names.lookup y.1==some .free)=true:=by simpa using this
  have s:X.env.kindOf y.1=a.names.lookup y.1:=by rw[<- g];rfl
  rw[s];rcases z with z|z
  ·exact .inl (by simpa using z)
  ·exact .inr (by simpa using z)
def aQ:Expr->Bool|.Starred _ _=>false|_=>true
def bO{e:Expr}{es:List Expr}{env:Env}(h:aQ e=true):starEach (e::es) env=(false,eval e env)::starEach es env:=by
 cases e<;>first|rfl|cases h
def fK{es:List Expr}{env:Env}{pos:Pos}(h:es.all aQ=true):(backTo pos (starEach es env)).any (·.1)=false:=by
 induction es with
 | nil=>rfl
 | cons e es a=>
  rw[all_cons,Bool.and_eq_true]at h;rw[bO h.1];have:=a h.2;show(false||(backTo pos (starEach es env)).any (·.1))=false;rw[this];rfl
section
variable {X:Cx}{e o:Expr}{es:List Expr}{te to:TE}{t:TA}{x:Str}{p pos apos cpos:Pos}{id T:String}{r:List V->Hp->VK->Prop}
def Lv(a:PE X e te)(b:PA X es t)(h:aQ e=true:=by rfl):PA X (e::es) (qM te t):=wQ a b (bO h)
def Tc(a:CallR X (.builtin id) r)(b:Gl X x)(c:X.mg x=none)(d:bootBuiltins x=some (.builtin id))(f:PA X (e::es) t)(g:x≠"__name__":=by decide)(h:(x==("__debug__":Str))=false:=by decide)(i:aQ e=true:=by rfl)(j:es.all aQ=true:=by rfl):PE X (.Call (.Name x p) (e::es) [] pos) (tCB r t):=yS a b c d f g h (bO i) (fK j)
def Lw(a:CallR X (.type T) r)(b:Gl X x)(c:X.mg x=none)(d:bootBuiltins x=some (.type T))(f:PA X (e::es) t)(g:x≠"__name__":=by decide)(h:(x==("__debug__":Str))=false:=by decide)(i:aQ e=true:=by rfl)(j:es.all aQ=true:=by rfl):PE X (.Call (.Name x p) (e::es) [] pos) (tCB r t):=Gn a b c d f g h (bO i) (fK j)
def aBI{n:Nat}{ps:List Str}{sp:Sp}(c:Callee X.prog X.w X.K X.mg X.base n x ps sp)(a:Room n X.A)(b:Gl X x)(d:PA X (e::es) t)(f:(x==("__debug__":Str))=false:=by decide)(g:aQ e=true:=by rfl)(h:es.all aQ=true:=by rfl):PE X (.Call (.Name x p) (e::es) [] pos) (tFn sp t):=aCK c a b d f (bO g) (fK h)
def Lx{es:List Expr}{env:Env}{cpos:Pos}(h:es.all aQ=true):(backTo cpos (starEach es env)).all (λx=>!x.1)=true:=by
 induction es with
 | nil=>rfl
 | cons e es a=>
  rw[all_cons,Bool.and_eq_true]at h;rw[bO h.1];show(!false&&(backTo cpos (starEach es env)).all (λx=>!x.1))=true;rw[a h.2];rfl
def aCL{name:Str}{r:V->List V->Hp->VK->Prop}(c:PlainAttrs T)(slot:Slot T name id)(d:typeOf (.builtin id)=pure (.type "method_descriptor"))(f:MtR X id r)(g:PE X o to)(h:PA X (e::es) t)(i:attributeBase o name X.env (eval o X.env)=eval o X.env:=by rfl)(j:(apos.endLine==cpos.line)=true:=by rfl)(a:aQ e=true:=by rfl)(b:es.all aQ=true:=by rfl)(k:es.length+1<30:=by decide) :
  PE X (.Call (.Attribute o name apos) (e::es) [] cpos) (tBM X.K T r to t):=by
 refine aBj c slot d f g h i ?_ j (bO a) (fK b);rw[Lx (by rw[all_cons,a,b];rfl)];show(true&&true&&decide (es.length+1+0+0<30))=true;simp;omega
def Zl{b:Pos}{T:Str}(a:Kd)(c:PE X e te)(d:Gl X "isinstance")(f:X.mg "isinstance"=none)(g:Gl X T)(h:X.mg T=none)(i:bootBuiltins T=some (.type (Tb a)))(j:T≠"__name__":=by decide)(hd:(T==("__debug__":Str))=false:=by decide)(k:aQ e=true:=by rfl):PE X (.Call (.Name "isinstance" p) [e,.Name T b] [] pos) (Zj a te):=
 aBH a c d f g h i (bO k) (bO rfl) j hd (fK rfl)
end
def dQ:bootBuiltins "len"=some (.builtin "len"):=by decide +kernel
def Ly:bootBuiltins "all"=some (.builtin "all"):=by decide +kernel
def Zm:bootBuiltins "sum"=some (.builtin "sum"):=by decide +kernel
def eB:bootBuiltins "sorted"=some (.builtin "sorted"):=by decide +kernel
def sN:bootBuiltins "max"=some (.builtin "max"):=by decide +kernel
def xG:bootBuiltins "list"=some (.type "list"):=by decide +kernel
def Lz:bootBuiltins "str"=some (.type "str"):=by decide +kernel
def Zp:bootBuiltins "int"=some (.type "int"):=by decide +kernel
def Td:bootBuiltins "bool"=some (.type "bool"):=by decide +kernel
def yY:bootBuiltins "tuple"=some (.type "tuple"):=by decide +kernel
def Eb:bootBuiltins "dict"=some (.type "dict"):=by decide +kernel
structure Dk(H:Hp)(d b:TD):Prop where
 ex:∃(ns:List Int)(s k:Int),H d=some (.lst [.ref b,.int s,.int k])/\H b=some (.lst (ns.map V.int))/\ns.length<=63
def Kp(d b:TD)(H H':Hp):Prop:=∀c o,H c=some o->c≠d->c≠b->H' c=some o
def Kp.refl{d b:TD}{H:Hp}:Kp d b H H:=λ_ _ e _ _=>e
def Kp.trans{d b:TD}{H H1 H2:Hp}(x:Kp d b H H1)(y:Kp d b H1 H2):Kp d b H H2:=λc o e a f=>y c o (x c o e a f) a f
def Kp.new{d b p:TD}{H:Hp}{o:HO}(h:H p=none):Kp d b H (aH H p o):=λc u e _ _=>by rw[aB (aE e h)];exact e
def Dk.new{d b p:TD}{H:Hp}{o:HO}(x:Dk H d b)(h:H p=none):Dk (aH H p o) d b:=by
 refine yE0 x.ex (yE3 λe s k=>yA3 λa c f=>?_);exact⟨e,s,k,by rw[aB (aE a h)];exact a,by rw[aB (aE c h)];exact c,f⟩
def Ma(K:W.Frag):Sp:=λvs H Q _=>∃(a:TD)(e:List Int),vs=[.ref a]/\SqL K H a (e.map V.int)/\∀d b c,H d=none->H b=none->Dk c d b->Same H c->Q (.ref d) c
end L2
namespace L2
def Zq{c:Bool}{A B:Prop}(h:c=true)(k:A):if c=true then A else B:=by rw[O8 h];exact k
def yZ{c:Bool}{A B:Prop}(h:c=false)(k:B):if c=true then A else B:=by rw[NE (by rw[h];exact V4)];exact k
def dF{c:Bool}{A B:Prop}(a:c=true->A)(b:c=false->B):if c=true then A else B:=by
 cases h:c with
 | true=>rw[O8 rfl];exact a h
 | false=>rw[NE V4];exact b h
open PySem PySem.Spec PyProof.Rows
structure uH(J:It)(xs:List V)(A:Hp->Prop):Prop where
 go:∀i H,i<xs.length->A H->J.go i H
 yld:∀i H x H',i<xs.length->A H->J.yld i H x H'->H'=H/\xs[i]?=some x
 stop:∀H,A H->J.stop xs.length H
def vK(x:Str):List V:=x.cps.toList.map λc=>V.str (tx [c])
def Te(x:Str):uH (Its x) (vK x) (λ_=>True):=by
 have a:(vK x).length=x.cps.size:=by simp[vK]
 refine⟨λi H b _=>by rw[a]at b;exact b,λi H v g _ _ ⟨e,c,d,f⟩=>⟨e,?_⟩,λH _=>by rw[a];exact bA _⟩;subst f;unfold vK;rw[dW,Array.getElem?_toList,d];rfl
def jM(lo:Int)(n:Nat):List V:=(List.range n).map λ(i:Nat)=>V.int (lo+(i:Int))
def jA(lo:Int)(n:Nat):uH (Itr lo n) (jM lo n) (λ_=>True):=by
 have b:(jM lo n).length=n:=by simp[jM]
 refine⟨λi H a _=>by rw[b]at a;exact a,λi H v d a _ ⟨e,c⟩=>⟨e,?_⟩,λH _=>by rw[b];exact bA _⟩;subst c;rw[b]at a;unfold jM;rw[dW,List.getElem?_range a];rfl
def bE(K:W.Frag)(a:TD)(xs:List V):uH (Vp K a) xs (λH=>SqL K H a xs):=
 ⟨λi H b h=>⟨xs,xs[i],h,by simp[b]⟩,λi H x c _ h ⟨e,y⟩=>⟨e,y xs h⟩,λH h=>⟨xs,h,bA _⟩⟩
def lO(K:W.Frag)(a:TD)(xs:List V):uH (Itt K a) xs (λH=>SqT K H a xs):=
 ⟨λi H b h=>⟨xs,xs[i],h,by simp[b]⟩,λi H x c _ h ⟨e,y⟩=>⟨e,y xs h⟩,λH h=>⟨xs,h,bA _⟩⟩
def bF{J:It}{xs:List V}{A:Hp->Prop}{js:List (Option Nat)}{g:TG}{h:TT}{j:TE}{l:St}{H:Hp}{Q:List V->Hp->Prop}(S:uH J xs A)(hz:xs.length<=100000)(Pv:Nat->List V->Hp->Prop)(n:∀i ys H,Pv i ys H->A H/\ys.length<=i)(o:Pv 0 [] H)(hs:∀i x ys H,xs[i]?=some x->Pv i ys H->g x (Ax js l) H λf H2=>h f H2 λb k=>if b=true then j f k λy q=>Pv (i+1) (ys++[y]) q else Pv (i+1) ys k)(hd:∀ys H,Pv xs.length ys H->Q ys H):qO js g h j l J H Q:=by
 refine⟨λi m ys H=>m=xs.length-i/\i<=xs.length/\Pv i ys H,⟨xs.length,Zs,zero_le _,o⟩,?_⟩;refine λi m ys H=>yA3 λζ t p=>?_;subst ζ;obtain⟨a,u⟩:=n i ys H p;by_cases c:i<xs.length
 ·refine .inr ⟨S.go i H c a,uD (m:=100000) Zo Zd,Pv (i+1),λv d r=>⟨xs.length-(i+1),Zo,rfl,c,r⟩,λx d y=>?_⟩;obtain⟨rfl,s⟩:=S.yld i H x d c a y;exact hs i x ys d s p
 ·have e:i=xs.length:=by omega
  subst e;exact .inl ⟨S.stop H a,hd ys H p⟩
def Hh{J:It}{xs:List V}{A:Hp->Prop}{js:List (Option Nat)}{g:TG}{l:TT}{m:TE}{o:St}{H:Hp}{Q:List V->Hp->Prop}(S:uH J xs A)(hz:xs.length<=100000)(p:V->Bool)(f:V->V)(q:A H)(hs:∀(x:V)(ys:List V)(N:List V->Hp->Prop),x∈xs->(p x=true->N (ys++[f x]) H)->(p x=false->N ys H)->g x (Ax js o) H λj H2=>l j H2 λb d=>if b=true then m j d λy r=>N (ys++[y]) r else N ys d)(hd:Q ((xs.filter p).map f) H):qO js g l m o J H Q:=by
 refine bF S hz (λi ys a=>ys=((xs.take i).filter p).map f/\a=H) (λi ys a ⟨e,c⟩=>⟨by rw[c];exact q,?_⟩) ⟨Zs,rfl⟩ (?_) (?_)
 ·rw[e,aR];exact fT (length_filter_le _ _) (by rw[oX];exact min_le_left _ _)
 ·rintro i x ys a n ⟨e,c⟩;subst c;have k:(xs.take (i+1)).filter p=(xs.take i).filter p++(if p x=true then [x] else []):=take_succ_filter p xs i x n;refine hs x ys (λs d=>s=((xs.take (i+1)).filter p).map f/\d=a) (jJ n) (λh=>⟨?_,rfl⟩) (λh=>⟨?_,rfl⟩)
  ·rw[k,O8 h,dN,e];rfl
  ·rw[k,NE (by rw[h];exact V4),append_nil,e]
 ·rintro ys a ⟨e,c⟩;subst c;rw[e,lJ (bA _)];exact hd
def bU{J:It}{xs:List V}{A:Hp->Prop}{g:TG}{tb:TS}{D:kN}{a:St}{H:Hp}(S:uH J xs A)(Pv:Nat->St->Hp->Prop)(h:∀i a H,Pv i a H->A H)(j:Pv 0 a H)(hs:∀(i:Nat)(x:V) a H,xs[i]?=some x->Pv i a H->g x a H λb H2=>tb {D with nx:=Pv (i+1),ct:=Pv (i+1),bk:=D.nx } b H2)(hd:∀ a H,Pv xs.length a H->D.nx a H) :
  ∃W:Nat->Nat->St->Hp->Prop,(∃m,W 0 m a H)/\∀i m a H,W i m a H →
   (J.stop i H/\D.nx a H)∨(J.go i H/\∃N:St->Hp->Prop,(∀ c H',N c H'->∃m',m'<m/\W (i+1) m' c H')/\∀x H',J.yld i H x H'->g x a H' λb H2=>tb {D with nx:=N,ct:=N,bk:=D.nx } b H2):=by
 refine⟨λi m a H=>m=xs.length-i/\i<=xs.length/\Pv i a H,⟨xs.length,Zs,zero_le _,j⟩,?_⟩;rintro i m a H ⟨rfl,n,p⟩;have d:=h i a H p;by_cases f:i<xs.length
 ·refine .inr ⟨S.go i H f d,Pv (i+1),λc H' k=>⟨xs.length-(i+1),Zo,rfl,f,k⟩,λx H' y=>?_⟩;obtain⟨rfl,l⟩:=S.yld i H x H' f d y;exact hs i x a H' l p
 ·have e:i=xs.length:=by omega
  subst e;exact .inl ⟨S.stop H d,hd a H p⟩
end L2
namespace L2
open PySem
def aG{H:Hp}{p:TD}{o:HO}(h:H p=none):Same H (aH H p o):=λb u q=>by rw[aB (aE q h)];exact q
def sO{a:Type}(xs:List a)(k:Nat):iB xs none (some (k:Int))=xs.take k:=by
 unfold iB;rw[HT.sIx_none,HT.sIx_nat,drop_zero,Nat.sub_zero,<- List.take_take,lJ (bA _)]
def zA{a:Type}(xs:List a)(k:Nat):iB xs (some (k:Int)) none=xs.drop k:=by
 unfold iB;rw[HT.sIx_none,HT.sIx_nat];by_cases h:k<=xs.length
 ·rw[Nat.min_eq_left h,lJ (by rw[length_drop];exact bA _)]
 ·rw[Nat.min_eq_right Zo,List.drop_of_length_le (bA _),List.drop_of_length_le Zo,List.take_nil]
def Tf{b c:Type}(f:b->c)(xs:List b)(lo a:Option Int):iB (xs.map f) lo a=(iB xs lo a).map f:=by
 unfold iB;rw[aR,<- List.map_drop,<- List.map_take]
open PySem PySem.Spec PyProof.Rows
def cF{H:Hp}{p q:TD}{o u:HO}(h:H p=some o)(a:H q=none):aH H q u p=some o:=by rw[aB (aE h a)];exact h
def kS{c:Type}{xs:List c}{i:Int}(b:0<=i)(d:i<xs.length):∃v,nO xs i=some v/\v∈xs:=by
 obtain⟨j,rfl⟩:=Int.eq_ofNat_of_zero_le b;have a:j<xs.length:=by omega
 exact⟨xs[j],nQ (by simp[a]),getElem_mem a⟩
theorem Ec(g:Array Nat):∀(ps:List Str)(a:Array Nat),(ps.foldl (λa p=>a++g++p.cps) a).toList=a.toList++(ps.map λp=>g.toList++p.cps.toList).flatten
 | [],a=>by simp
 | p::ps,a=>by
  rw[foldl_cons,Ec g ps];simp
def Mb(ps:List Str):(Txt.join (tx []) ps).cps.toList=(ps.map λp=>p.cps.toList).flatten:=by
 unfold Txt.join Builtin.Str.glued;rw[Ec];cases ps with
 | nil=>simp[Str.empty]
 | cons p ps=>simp
def Tg(ps:List Str):Txt.join (tx []) ps=tx (ps.map λp=>p.cps.toList).flatten:=by rw[<- Mb,Bo]
def Bs(a:List Nat):Txt.join (tx []) (a.map λc=>tx [c])=tx a:=by
 rw[Tg,map_map];congr 1
 congr 1
 induction a with
 | nil=>rfl
 | cons c r b=>rw[map_cons,List.flatten_cons,b];rfl
def Mc:("":Str)=tx []:=by decide +kernel
end L2
namespace L2
open PySem
def Dk.ne{H:Hp}{d b p:TD}(x:Dk H d b)(h:H p=none):p≠d/\p≠b:=by
 refine yE0 x.ex (yE3 λe s k=>yA3 λa c f=>?_);exact⟨(aE a h).symm,(aE c h).symm⟩
def sP(x:Str):x=tx x.cps.toList:=(Bo x).symm
end L2
namespace L2
open PySem
theorem zB:∀a:List Nat,((a.map λc=>tx [c]).map (·.length)).sum=a.length
 | []=>rfl
 | c::a=>by
  rw[map_cons,map_cons,List.sum_cons,zB a,yK];show 1+a.length=_;omega
end L2
namespace L2
open PySem
def aBJ{t:TT}{a:St}{H:Hp}{Q:Bool->Hp->Prop}(R:Bool->Hp->Prop)(h:∀k:Bool->Hp->Prop,(∀v H',R v H'->k v H')->t a H k)(b:∀v H',R v H'->Q v H'):t a H Q:=h Q b
def aBK{t:TS}{D:kN}{b:St}{H:Hp}(R:St->Hp->Prop)(h:∀nx:St->Hp->Prop,(∀ a H',R a H'->nx a H')->t {D with nx:=nx } b H)(c:∀ a H',R a H'->D.nx a H'):t D b H:=h D.nx c
def Kof.same{H H':Hp}{x:V}{k:Kd}(s:Same H H')(h:Kof H x k):Kof H' x k:=by
  cases x<;>cases k<;>first
    | exact h
    | (obtain⟨a,e⟩:=h;exact⟨a,s _ _ e⟩)
    | (rcases h with⟨a,e⟩ | ⟨o,a,e⟩
       . exact .inl ⟨a,s _ _ e⟩
       . exact .inr ⟨o,a,s _ _ e⟩)
def Dk.same{H H':Hp}{d b:TD}(s:Same H H')(h:Dk H d b):Dk H' d b:=by
 refine yE0 h.ex (yE3 λa c k=>yA3 λe f g=>?_);exact⟨a,c,k,s _ _ e,s _ _ f,g⟩
open PySem PySem.Spec PyProof.Rows
structure XE(X:Cx)(e:Expr)(t:TE):Prop where
 h:PE X e t
structure XT(X:Cx)(e:Expr)(t:TT):Prop where
 h:PT X e t
structure XW(X:Cx)(e:Expr)(t:TT):Prop where
 h:PW X e t
structure XA(X:Cx)(es:List Expr)(t:TA):Prop where
 h:PA X es t
structure XS(X:Cx)(st:Stmt)(t:TS):Prop where
 h:PS X st t
structure XB(X:Cx)(st:List Stmt)(t:TS):Prop where
 h:PSs X st t
structure XI(X:Cx)(tg iter:Expr)(t:TI):Prop where
 h:PI X tg iter t
structure XG(X:Cx)(e:Expr)(t:TG):Prop where
 h:PG X e t
structure XGs(X:Cx)(es:List Expr)(t:Dc):Prop where
 h:PGs X es t
structure XO(X:Cx)(e:Option Expr)(t:TO):Prop where
 h:PO X e t
structure XTs(X:Cx)(cs:List Expr)(t:TT):Prop where
 h:PTs X cs t
structure Zr(X:Cx)(t:Gc):Prop where
 h:Rq X t
structure iV(X:Cx)(f:Q3->Q3->Sem Value)(r:R2):Prop where
 h:OpR X f r
structure Zt(X:Cx)(r:R2):Prop where
 h:IxR X r
structure XSl(X:Cx)(r:V->Option Int->Option Int->Hp->VK->Prop):Prop where
 h:SlR X r
structure XC(X:Cx)(f:Q3)(r:List V->Hp->VK->Prop):Prop where
 h:CallR X f r
structure XM(X:Cx)(id:String)(r:V->List V->Hp->VK->Prop):Prop where
 h:MtR X id r
namespace R
section
variable {X:Cx}{a b c e o i:Expr}{es rest:List Expr}{ta tb tc te to ti:TE}{tA CV:TT}{t u:TA}{pos p p2 apos cpos pos':Pos}{x:Str}{n:Nat}{r r':R2}
def v(i:Nat){x:Str}{pos:Pos}(d:X.N[i]?=some x:=by rfl)(f:Wy X.env.scope x:=by first|exact Or.inl rfl|exact Or.inr (Or.inl rfl)|exact Or.inr (Or.inr rfl))(hd:(x==("__debug__":Str))=false:=by decide)(g:(x==("__classdict__":Str))=false:=by decide):XE X (.Name x pos) (vr i):=⟨xv i d f hd g⟩
def int{i j pos}:XE X (.Constant (.int i) j pos) (tC (.int i)):=⟨Xb⟩
def bl{b j pos}:XE X (.Constant (.bool b) j pos) (tC (.bl b)):=⟨aAY⟩
def bp{j pos}:XE X (.Constant .none j pos) (tC .non):=⟨Xc⟩
def ai{x j pos}:XE X (.Constant (.str x) j pos) (tC (.str x)):=⟨Xd⟩
def gS{z:Str}(f:Gl X x)(d:∃t,X.mg x=some (.str z t))(hd:(x==("__debug__":Str))=false:=by decide):XE X (.Name x pos) (tC (.str z)):=by
 obtain⟨t,d⟩:=d;exact⟨wN f d ⟨t,rfl⟩ hd⟩
def gI{z:Int}(f:Gl X x)(d:∃t,X.mg x=some (.int z t))(hd:(x==("__debug__":Str))=false:=by decide):XE X (.Name x pos) (tC (.int z)):=by
 obtain⟨t,d⟩:=d;exact⟨wN f d ⟨t,rfl⟩ hd⟩
def gR{a:TD}(d:Gl X x)(f:X.mg x=some (.ref a))(hd:(x==("__debug__":Str))=false:=by decide):XE X (.Name x pos) (tC (.ref a)):=⟨wN d f rfl hd⟩
def op{op:Operator}(d:iV X (binaryOp op) r)(f:XE X a ta)(g:XE X b tb):XE X (.BinOp a op b pos) (uX r ta tb):=⟨aA6 d.h f.h g.h⟩
def au:iV X (binaryOp .Add) (Br λi j=>.int (i+j)):=⟨aBp⟩
def gq:iV X (binaryOp .Sub) (Br λi j=>.int (i-j)):=⟨aBq⟩
def dj:iV X (binaryOp .Mult) (m2 CMul λi j=>.int (i*j)):=⟨aBr⟩
def cn:iV X (binaryOp .Mod) (m2 (λ_ j=>0<j) λi j=>.int (i%j)):=⟨aBs⟩
def eh:iV X (binaryOp .Pow) (m2 Xx λi j=>.int (i^j.toNat)):=⟨aBt⟩
def dy:iV X (binaryOp .Add) Lr:=⟨Yv⟩
def lt:iV X (compareOp .Lt) (Br λi j=>.bl (decide (i<j))):=⟨aCz⟩
def le:iV X (compareOp .LtE) (Br λi j=>.bl (decide (i<=j))):=⟨aCA⟩
def gt:iV X (compareOp .Gt) (Br λi j=>.bl (decide (j<i))):=⟨aCB⟩
def ge:iV X (compareOp .GtE) (Br λi j=>.bl (decide (j<=i))):=⟨aCC⟩
def eq:iV X (compareOp .Eq) mEq:=⟨aCE⟩
def ne:iV X (compareOp .NotEq) mNe:=⟨aCF⟩
def jj:iV X (compareOp .In) (Yw false):=⟨aBu⟩
def inQ:iV X (compareOp .In) (Yl X.K false):=⟨Gp⟩
def notInQ:iV X (compareOp .NotIn) (Yl X.K true):=⟨wY⟩
def ji:iV X (compareOp .Is) (λx y H Q=>match y with|.non=>Q (.bl (decide (x=.non))) H|_=>False):=⟨aBv⟩
def gm:iV X (compareOp .IsNot) (λx y H Q=>match y with|.non=>Q (.bl (!decide (x=.non))) H|_=>False):=⟨Yx⟩
def eqNil(d:X.A.units<cLine):iV X (compareOp .Eq) (pE X.K false):=⟨Lp d⟩
def neNil(d:X.A.units<cLine):iV X (compareOp .NotEq) (pE X.K true):=⟨Lq d⟩
def cp{op:CmpOp}(d:iV X (compareOp op) r)(f:XE X a ta)(g:XE X b tb)(h:behindInMarks op b=false:=by first|exact wO _|rfl):XE X (.Compare a [op] [b] pos) (uX r ta tb):=⟨aBx d.h f.h g.h h⟩
def ao{op:CmpOp}(d:iV X (compareOp op) r)(f:XE X a ta)(g:XE X b tb)(h:behindInMarks op b=false:=by first|exact wO _|rfl):XT X (.Compare a [op] [b] pos) (mT (uX r ta tb)):=⟨aBw d.h f.h g.h h⟩
def jk{op d:CmpOp}(f:iV X (compareOp op) r)(g:iV X (compareOp d) r')(h:XE X a ta)(j:XE X b tb)(k:XE X c tc)(l:lastMarks [op,d] [b,c]=false:=by with_unfolding_all rfl):XE X (.Compare a [op,d] [b,c] pos) (pF r r' ta tb tc):=⟨Sx f.h g.h h.h j.h k.h l⟩
def iy{op d:CmpOp}(f:iV X (compareOp op) r)(g:iV X (compareOp d) r')(h:XE X a ta)(j:XE X b tb)(k:XE X c tc)(l:lastMarks [op,d] [b,c]=false:=by with_unfolding_all rfl):XT X (.Compare a [op,d] [b,c] pos) (mT (pF r r' ta tb tc)):=⟨Sy f.h g.h h.h j.h k.h l⟩
def bb(d:XE X a ta):XE X (.UnaryOp .USub a pos) (tUn (λx H Q=>mI x λi=>Q (.int (-i)) H) ta):=⟨aBA d.h⟩
def bh{t:TE}(h:XE X e t)(d:∀whole,isTrue e X.env whole=(do let v←whole;standAt e.pos;holding [v] (truthy v)):=by intro _;rfl):XT X e (mT t):=⟨aBy h.h d⟩
def bn(d:XT X a tA):XT X (.UnaryOp .Not a pos) (aAZ tA):=⟨Xh d.h⟩
def eg(d:XT X a tA):XW X (.BoolOp .And [a] pos) tA:=⟨Rk d.h⟩
def ce(d:XT X a tA):XW X (.BoolOp .Or [a] pos) tA:=⟨Xf d.h⟩
def dz(d:XT X a tA)(f:XW X (.BoolOp .And (b::rest) pos) CV):XW X (.BoolOp .And (a::b::rest) pos) (Rj tA CV):=⟨Xg d.h f.h⟩
def bw(d:XT X a tA)(f:XW X (.BoolOp .Or (b::rest) pos) CV):XW X (.BoolOp .Or (a::b::rest) pos) (tOr tA CV):=⟨aA0 d.h f.h⟩
def tw(h:XW X e tA):XT X e tA:=⟨h.h.pt⟩
def fq{op}(h:XE X a ta):XE X (.BoolOp op [a] pos) ta:=⟨Xj h.h⟩
def jb(d:XE X a ta)(f:XE X (.BoolOp .And (b::rest) pos) tb):XE X (.BoolOp .And (a::b::rest) pos) (Dz ta tb):=⟨aBz d.h f.h⟩
def or(d:XE X a ta)(f:XE X (.BoolOp .Or (b::rest) pos) tb):XE X (.BoolOp .Or (a::b::rest) pos) (Sz ta tb):=⟨aCG d.h f.h⟩
def ix(d:Zt X r)(f:XE X a ta)(g:XE X b tb)(hs:wV b:=by exact λ_ _=>rfl):XE X (.Subscript a b pos) (uX r ta tb):=⟨aCH d.h f.h g.h hs⟩
def iL:Zt X (Ls X.K):=⟨Za⟩
def iT:Zt X (xF X.K):=⟨aBB⟩
def iS:Zt X Yz:=⟨aBC⟩
def pn:XO X none Do:=⟨Sf⟩
def ps(h:XE X e te):XO X (some e) (Ea te):=⟨Zb h.h⟩
def sl{r:V->Option Int->Option Int->Hp->VK->Prop}{lo d:Option Expr}{f g:TO}(h:XSl X r)(j:XE X e te)(k:XO X lo f)(l:XO X d g):XE X (.Subscript e (.Slice lo d none p2) pos) (tSl r te f g):=⟨Km h.h j.h k.h l.h⟩
def sS:XSl X Zc:=⟨aBD⟩
def sL:XSl X (Ta X.K):=⟨Ze⟩
def ac:XA X [] yP:=⟨Bf⟩
def ab(d:XE X e te)(f:XA X es t)(h:aQ e=true:=by rfl):XA X (e::es) (qM te t):=⟨Lv d.h f.h h⟩
def je{d}(h:XA X es t):XE X (.Tuple es d pos) (aBe t):=⟨Yf h.h⟩
def be(h:XA X es t):XE X (.List es pos) (aBf t):=⟨Yg h.h⟩
def ay{id:String}{r:List V->Hp->VK->Prop}(d:XC X (.builtin id) r)(f:Gl X x)(g:X.mg x=none)(h:bootBuiltins x=some (.builtin id))(j:XA X (e::es) t)(k:x≠"__name__":=by decide)(l:(x==("__debug__":Str))=false:=by decide)(m:aQ e=true:=by rfl)(q:es.all aQ=true:=by rfl):XE X (.Call (.Name x p) (e::es) [] pos) (tCB r t):=⟨Tc d.h f g h j.h k l m q⟩
def da{T:String}{r:List V->Hp->VK->Prop}(d:XC X (.type T) r)(f:Gl X x)(g:X.mg x=none)(h:bootBuiltins x=some (.type T))(j:XA X (e::es) t)(k:x≠"__name__":=by decide)(l:(x==("__debug__":Str))=false:=by decide)(m:aQ e=true:=by rfl)(q:es.all aQ=true:=by rfl):XE X (.Call (.Name x p) (e::es) [] pos) (tCB r t):=⟨Lw d.h f g h j.h k l m q⟩
def di:XC X (.builtin "len") (λvs H Q=>match vs with|[.str z]=>z.length<=sizeLine/\Q (.int z.length) H|_=>False):=⟨Zf⟩
def lenL:XC X (.builtin "len") (λvs H Q=>match vs with|[.ref p]=>∃ys,(SqL X.K H p ys∨SqT X.K H p ys)/\Q (.int ys.length) H|_=>False):=⟨Zh⟩
def all(d:X.calm=true):XC X (.builtin "all") (Yt X.K):=⟨Ln d⟩
def sum(d:X.calm=true):XC X (.builtin "sum") (Yu X.K):=⟨Lo d⟩
def fn{n d:Nat}{ps:List Str}{sp:Sp}(c:Callee X.prog X.w X.K X.mg X.base n x ps sp)(f:Room d X.A)(g:Gl X x)(h:XA X (e::es) t)(j:(x==("__debug__":Str))=false:=by decide)(k:aQ e=true:=by rfl)(l:es.all aQ=true:=by rfl)(m:n<=d:=by decide):XE X (.Call (.Name x p) (e::es) [] pos) (tFn sp t):=⟨aBI c (f.mono m) g h.h j k l⟩
def bm{T id:String}{name:Str}{r:V->List V->Hp->VK->Prop}(d:PlainAttrs T)(slot:Slot T name id)(f:typeOf (.builtin id)=pure (.type "method_descriptor"))(g:XM X id r)(h:XE X o to)(j:XA X (e::es) t)(k:attributeBase o name X.env (eval o X.env)=eval o X.env:=by rfl)(l:(apos.endLine==cpos.line)=true:=by rfl)(m:aQ e=true:=by rfl)(q:es.all aQ=true:=by rfl)(s:es.length+1<30:=by decide) :
  XE X (.Call (.Attribute o name apos) (e::es) [] cpos) (tBM X.K T r to t):=⟨aCL d slot f g.h h.h j.h k l m q s⟩
def cz:XM X "list.append" Dq:=⟨Gq⟩
def jr:XM X "list.pop" Kr:=⟨Kt⟩
def join:XM X "str.join" (Ll X.K):=⟨Sw⟩
def dh{T:Str}(d:Kd)(f:XE X e te)(g:Gl X "isinstance")(h:X.mg "isinstance"=none)(j:Gl X T)(k:X.mg T=none)(l:bootBuiltins T=some (.type (Tb d)))(m:T≠"__name__":=by decide)(hd:(T==("__debug__":Str))=false:=by decide)(q:aQ e=true:=by rfl):XE X (.Call (.Name "isinstance" p) [e,.Name T p2] [] pos) (Zj d te):=⟨Zl d f.h g h j k l m hd q⟩
def fw:XE X (.Dict [] [] pos) (Kx):=⟨Kz⟩
variable {tg:Expr}
def wL(d:XE X e te):XI X tg e (Jz X.K te):=⟨Ru d.h⟩
def wT(d:XE X e te):XI X tg e (Xt X.K te):=⟨Xu d.h⟩
def wS(d:XE X e te):XI X tg e (aBn te):=⟨Yr d.h⟩
def dl(d:Gl X "range")(f:X.mg "range"=none)(g:XA X [a] t)(h:aQ a=true:=by rfl):XI X tg (.Call (.Name "range" p) [a] [] pos) (Vq t):=⟨Ge d f g.h (bO h)⟩
def gn{i:Nat}(d:X.N.Nodup)(f:X.N[i]?=some x:=by rfl)(g:Vn X.env.scope x:=by first|exact Or.inl rfl|exact Or.inr rfl)(h:X.fn x=true∨X.env.scope.names.lookup x=some .local:=by first|exact .inl rfl|exact .inr rfl|assumption):XG X (.Name x pos) (aJ i):=⟨Rr d f g h⟩
def br:XGs X [] Xn:=⟨Rs⟩
def av{d:TG}{f:Dc}(g:XG X e d)(h:XGs X es f)(hs:(assignEach (e::es) X.env).map (·.2)=assign e X.env::(assignEach es X.env).map (·.2):=by rfl):XGs X (e::es) (Jw d f):=⟨Jx g.h h.h hs⟩
def gt'{k:Nat}{d:Dc}(f:X.calm=true)(h:XGs X es d)(g:(assignEach es X.env).length=n:=by rfl)(j:(assignEach es X.env).findIdx? (·.1)=none:=by rfl):XG X (.Tuple es k pos) (Rt X.K n d):=⟨Xo f h.h g j⟩
def jp:Zr X Vv:=⟨Kn⟩
def cm{g:Gc}(h:XE X o to)(j:XE X i ti)(hs:Zr X g)(k:∀v,assign (.Subscript o i pos) X.env v=(do
   let d←holding [v] (eval o X.env)
   let f←holding [v,d] (eval i X.env)
   standAt pos
   holding [v,d,f] (setItem d f v)
   release [v,d,f] []):=by intro _;rfl):XG X (.Subscript o i pos) (Xp to ti g):=⟨Xq h.h j.h hs.h k⟩
end
section
variable {X:Cx}{c e tg iter elt:Expr}{ifs:List Expr}{te:TE}{tc tt:TT}{g:TG}{wi:TI}{st:Stmt}{ss sa sb:List Stmt}{t u:TS}{pos pos' AM py:Pos}{x y:Str}{scope:Scope}{N:List Str}{js:List (Option Nat)}
def cf:XTs X [] Li:=⟨So⟩
def bv(h:XT X c tt)(a:X.xe=λ_ _=>False:=by rfl):XTs X [c] tt:=⟨Sq h.h a⟩
def bi(h:X.calm=true)(S:CompScope X scope N js)(go:Bm js g)(i:XI X tg iter wi)(j:∀(C:TD)(d:PP)(f:Hp)(fp:List TD),XG (oY X scope C N d f fp) tg g/\XTs (oY X scope C N d f fp) ifs tt/\XE (oY X scope C N d f fp) elt te)(hs:∀x,foldedSetIterable iter X.env x=pure x:=by intro _;rfl):XE X (.ListComp elt [⟨tg,iter,ifs,0⟩] scope pos) (Vy wi js g tt te):=
 ⟨Sr h S go i.h (λC d f fp=>let ⟨a,b,c⟩:=j C d f fp;⟨a.h,b.h,c.h⟩) hs⟩
def dm{i:Nat}(h:X.N.Nodup)(j:X.N[i]?=some y)(k:Vn X.env.scope y)(l:X.calm=true)(S:CompScope X scope N js)(go:Bm js g)(m:XI X tg iter wi)(n:∀(C:TD)(d:PP)(f:Hp)(fp:List TD),XG (oY X scope C N d f fp) tg g/\XTs (oY X scope C N d f fp) ifs tt/\XE (oY X scope C N d f fp) elt te)(o:swapsWith (.ListComp elt [⟨tg,iter,ifs,0⟩] scope pos) (some (.Name y py)) AM.line X.env=pure true)(hs:∀x,foldedSetIterable iter X.env x=pure x:=by intro _;rfl)(p:X.fn y=true∨X.env.scope.names.lookup y=some .local:=by first|exact .inl rfl|exact .inr rfl|assumption) :
  XS X (.Assign [.Name y py] (.ListComp elt [⟨tg,iter,ifs,0⟩] scope pos) AM) (Vz i wi js g tt te):=
 ⟨Ss h j k l S go m.h (λC d f fp=>let ⟨a,b,c⟩:=n C d f fp;⟨a.h,b.h,c.h⟩) o hs p⟩
def ar:XB X [] iW:=⟨Rm⟩
def ae(a:XS X st t):XB X [st] t:=⟨Ro a.h⟩
def ad(a:XS X st t)(b:XB X ss u):XB X (st::ss) (Rl t u):=⟨Jv a.h b.h⟩
def af(a:XE X e te):XS X (.Return (some e) pos) (aA2 te):=⟨Xl a.h⟩
def az(a:XE X e te)(hs:swapsWith e none pos.line X.env=pure false:=by rfl):XS X (.Expr e pos) (Vo te):=⟨Rp a.h hs⟩
def aq(a:XT X c tc)(b:XB X sa t)(d:XB X sb u):XS X (.If c sa sb pos) (Xm tc t u):=⟨aA3 a.h b.h d.h⟩
def ap{i:Nat}(a:X.N.Nodup)(b:XE X e te)(d:X.N[i]?=some x:=by rfl)(f:Vn X.env.scope x:=by first|exact Or.inl rfl|exact Or.inr rfl)(hs:swapsWith e (some (.Name x pos')) pos.line X.env=pure false:=by rfl)(h:X.fn x=true∨X.env.scope.names.lookup x=some .local:=by first|exact .inl rfl|exact .inr rfl|assumption):XS X (.Assign [.Name x pos'] e pos) (Jy te (aJ i)):=⟨Xs a d f b.h hs h⟩
def bo(a:XE X e te)(b:XG X tg g)(hs:swapsWithSole [tg] e pos.line X.env=pure false:=by rfl)(d:swappedStores [tg] e X.env=pure none:=by rfl)(f:(assignEach [tg] X.env).map (·.2)=[assign tg X.env]:=by rfl) :
  XS X (.Assign [tg] e pos) (Jy te g):=⟨Xr a.h b.h hs d f⟩
def bg(a:PassesOwn (model X.prog X.w) X.A X.env X.xe)(b:X.calm=true)(d:XI X tg iter wi)(f:XG X tg g)(h:XB X ss t)(hs:∀x,foldedSetIterable iter X.env x=pure x:=by intro _;rfl):XS X (.For tg iter ss [] pos) (aA5 wi g t):=⟨Xv a b d.h f.h h.h hs⟩
end
end R
def DefAt.go{P:Program}{w:World}{K:W.Frag}{mg:W1}{base:Heap}{x:Str}{st:Stmt}{N ps:List Str}{k:Nat}{sp:Sp}(D:DefAt K mg x st ps)(S:aI N ps (aD st))(len:∀vs H Q E,sp vs H Q E->vs.length=ps.length)(c:∀(f:TD)(a:Q3)(A:Around)(b:List Env)(s:PP)(H:Hp)(vs:List V)(Q:VK)(E:XK),Room k (A.deeper (envOfC x (aD st) s.heap.objs.size f a))->sp vs H Q E →
   ∃t,XB (mM sC P w K mg base N x (aD st) f a A b s H E).nox (aT st) t/\t {nx:=λ_ H'=>Q .non H',rt:=Q } (start N vs) H):Callee P w K mg base (k+1) x ps sp:=
 D.ok S len λf a A b s H vs Q E d h=>let ⟨t,e,g⟩:=c f a A b s H vs Q E d h;⟨t,e.h,g⟩
def DefAt.gg{P:Program}{w:World}{K:W.Frag}{mg:W1}{base:Heap}{x:Str}{st:Stmt}{N ps:List Str}{k:Nat}{sp:Sp}(D:DefAt K mg x st ps)(S:aI N ps (aD st))(c:∀(f:TD)(a:Q3)(A:Around)(b:List Env)(s:PP)(H:Hp)(vs:List V)(Q:VK)(E:XK),Room k (A.deeper (envOfC x (aD st) s.heap.objs.size f a))->sp vs H Q E →
   ∃t,XB (mM sC P w K mg base N x (aD st) f a A b s H E).nox (aT st) t/\t {nx:=λ_ H'=>Q .non H',rt:=Q } (start N vs) H)(len:∀vs H Q E,sp vs H Q E->vs.length=ps.length:=by intro vs H Q E h;repeat (first | (obtain⟨rfl,_⟩:=h;rfl) | obtain⟨_,h⟩:=h)):Callee P w K mg base (k+1) x ps sp:=
 D.ok S len λf a A b s H vs Q E d h=>let ⟨t,e,g⟩:=c f a A b s H vs Q E d h;⟨t,e.h,g⟩
def Fun.go{P:Program}{w:World}{K:W.Frag}{mg:W1}{base:Heap}{x c:Str}{st:Stmt}{f:TD}{d:FuncData}{N ps:List Str}{k:Nat}{sp:Sp}(F:Fun K x c st f d)(S:aI N ps (aD st))(len:∀vs H Q E,sp vs H Q E->vs.length=ps.length)(e:∀(a:Q3)(A:Around)(b:List Env)(s:PP)(H:Hp)(vs:List V)(Q:VK)(E:XK),Room k (A.deeper (envOfC c (aD st) s.heap.objs.size f a))->sp vs H Q E →
   ∃t,XB (mM sC P w K mg base N c (aD st) f a A b s H E).nox (aT st) t/\t {nx:=λ_ H'=>Q .non H',rt:=Q } (start N vs) H):FnOk P w K mg base sC (k+1) f d ps sp:=
 F.ok S len λa A b s H vs Q E g h=>let ⟨t,i,j⟩:=e a A b s H vs Q E g h;⟨t,i.h,j⟩
def Fun.gg{P:Program}{w:World}{K:W.Frag}{mg:W1}{base:Heap}{x c:Str}{st:Stmt}{f:TD}{d:FuncData}{N ps:List Str}{k:Nat}{sp:Sp}(F:Fun K x c st f d)(S:aI N ps (aD st))(e:∀(a:Q3)(A:Around)(b:List Env)(s:PP)(H:Hp)(vs:List V)(Q:VK)(E:XK),Room k (A.deeper (envOfC c (aD st) s.heap.objs.size f a))->sp vs H Q E →
   ∃t,XB (mM sC P w K mg base N c (aD st) f a A b s H E).nox (aT st) t/\t {nx:=λ_ H'=>Q .non H',rt:=Q } (start N vs) H)(len:∀vs H Q E,sp vs H Q E->vs.length=ps.length:=by intro vs H Q E h;repeat (first | (obtain⟨rfl,_⟩:=h;rfl) | obtain⟨_,h⟩:=h)):FnOk P w K mg base sC (k+1) f d ps sp:=
 F.ok S len λa A b s H vs Q E g h=>let ⟨t,i,j⟩:=e a A b s H vs Q E g h;⟨t,i.h,j⟩
def Zu{K:W.Frag}{h:Heap}{mg:W1}{x:Str}{st:Stmt}{ps:List Str}{f:TD}{m b:Option TD}{sl:Array (Option Q3)}{n kV o d g e:Q3}(X:K.In h)(G:h.Ns mainGlobals mg)(a:W.nsIn K mainGlobals x=some (some (.ref f)))(l:K.lookup f=some ⟨n,m,.func (W.fnOf x x (bJ st) (aT st) (aD st) .none kV o d b g e),sl⟩)(c:W.codeIn K g x=true)(k:W.keepIn K (.ref f)=true)(p:∀(kV i d:Q3)(b:Option TD)(j e:Q3)(us:List Q3),us.length=ps.length->bindArgs (W.fnOf x x (bJ st) (aT st) (aD st) .none kV i d b j e) ⟨us,[]⟩=pure (ps.zip us)):DefAt K mg x st ps:=
 ⟨f,_,sD l c k,W.mg_of X G a,(sD (st:=st) l c k).binds p⟩
namespace R
section
variable {X:Cx}{K:W.Frag}{a b c e o i tg:Expr}{es rest:List Expr}{te to:TE}{t:TA}{pos p p2 apos cpos:Pos}{x:Str}{n:Nat}
def kiL(d:X.K=K:=by rfl):Zt X (Ls K):=d▸iL
def kiT(d:X.K=K:=by rfl):Zt X (xF K):=d▸iT
def it(K:W.Frag)(i:Nat){x:Str}{p p2 pos:Pos}{c:Int}{j}(d:X.K=K:=by rfl)(f:X.N[i]?=some x:=by rfl)(g:Wy X.env.scope x:=by first|exact Or.inl rfl|exact Or.inr (Or.inl rfl)|exact Or.inr (Or.inr rfl))(hd:(x==("__debug__":Str))=false:=by decide)(h:(x==("__classdict__":Str))=false:=by decide):XE X (.Subscript (.Name x p) (.Constant (.int c) j p2) pos) (uX (xF K) (vr i) (tC (.int c))):=ix (kiT d) (v i f g hd h) int
def il(K:W.Frag)(i:Nat){x:Str}{p p2 pos:Pos}{c:Int}{j}(d:X.K=K:=by rfl)(f:X.N[i]?=some x:=by rfl)(g:Wy X.env.scope x:=by first|exact Or.inl rfl|exact Or.inr (Or.inl rfl)|exact Or.inr (Or.inr rfl))(hd:(x==("__debug__":Str))=false:=by decide)(h:(x==("__classdict__":Str))=false:=by decide):XE X (.Subscript (.Name x p) (.Constant (.int c) j p2) pos) (uX (Ls K) (vr i) (tC (.int c))):=ix (kiL d) (v i f g hd h) int
def cr(d:X.K=K:=by rfl):XSl X (Ta K):=d▸sL
def fu(d:X.K=K:=by rfl):iV X (compareOp .In) (Yl K false):=d▸inQ
def ja(d:X.K=K:=by rfl):iV X (compareOp .NotIn) (Yl K true):=d▸notInQ
def jz(d:X.A.units<cLine)(f:X.K=K:=by rfl):iV X (compareOp .Eq) (pE K false):=f▸eqNil d
def jq(d:X.A.units<cLine)(f:X.K=K:=by rfl):iV X (compareOp .NotEq) (pE K true):=f▸neNil d
def cj(d:X.K=K:=by rfl):XC X (.builtin "len") (λvs H Q=>match vs with|[.ref p]=>∃ys,(SqL K H p ys∨SqT K H p ys)/\Q (.int ys.length) H|_=>False):=d▸lenL
def iz(d:X.calm=true)(f:X.K=K:=by rfl):XC X (.builtin "all") (Yt K):=f▸all d
def jo(d:X.calm=true)(f:X.K=K:=by rfl):XC X (.builtin "sum") (Yu K):=f▸sum d
def jt(d:X.K=K:=by rfl):XM X "str.join" (Ll K):=d▸join
def cg{T id:String}{name:Str}{r:V->List V->Hp->VK->Prop}(d:PlainAttrs T)(slot:Slot T name id)(f:typeOf (.builtin id)=pure (.type "method_descriptor"))(g:XM X id r)(h:XE X o to)(j:XA X (e::es) t)(k:X.K=K:=by rfl)(l:attributeBase o name X.env (eval o X.env)=eval o X.env:=by rfl)(m:(apos.endLine==cpos.line)=true:=by rfl)(q:aQ e=true:=by rfl)(s:es.all aQ=true:=by rfl)(u:es.length+1<30:=by decide) :
  XE X (.Call (.Attribute o name apos) (e::es) [] cpos) (tBM K T r to t):=k▸bm d slot f g h j l m q s u
def bc(d:XE X e te)(f:X.K=K:=by rfl):XI X tg e (Jz K te):=f▸wL d
def cw(d:XE X e te)(f:X.K=K:=by rfl):XI X tg e (Xt K te):=f▸wT d
def bq{k:Nat}{d:Dc}(f:X.calm=true)(h:XGs X es d)(g:X.K=K:=by rfl)(j:(assignEach es X.env).length=n:=by rfl)(l:(assignEach es X.env).findIdx? (·.1)=none:=by rfl):XG X (.Tuple es k pos) (Rt K n d):=g▸gt' f h j l
end
end R
section
variable {X:Cx}
def aCM:List V->Hp->VK->Prop:=λvs H Q=>match vs with
 | [.int i]=>(0<=i/\i<10^40)/\Q (.str (Str.ofString (toString i))) H
 | [.str z]=>Q (.str z) H
 | _=>False
def aC5:List V->Hp->VK->Prop:=λvs H Q=>match vs with
 | [.str z]=>NumText.AllDigits z.cps.toList/\z.cps.toList≠[]/\z.length<=640/\Q (.int (NumText.digitsVal z.cps.toList:Nat)) H
 | _=>False
end
def LET:List Nat:=[97,98,99,100,101,102,103,104,105,106,107,108,109,110,111,112,113,114,115,116,117,118,119,120,121,122]
def FIG:List Nat:=[48,49,50,51,52,53,54,55,56,57]
def xH:(("abcdefghijklmnopqrstuvwxyz":Str)).cps.toList=LET:=by decide +kernel
def Md:(("0123456789":Str)).cps.toList=FIG:=by decide +kernel
def eU(x:V)(a:List Nat)(n:Int):Bool:=match x with|.str z=>decide (1<=(z.length:Int))&&decide ((z.length:Int)<=n)&&z.cps.toList.all (λc=>decide (c∈a))|_=>false
def gZ(z:Str)(a:List Nat)(n:Int):eU (.str z) a n=(decide (1<=(z.length:Int))&&decide ((z.length:Int)<=n)&&z.cps.toList.all (λc=>decide (c∈a))):=rfl
def Bt:Sp:=λvs H Q _=>∃x a n k,vs=[x,.str a,.int n]/\Kof H x k/\(∀z,x=.str z->z.length<=1000)/\∀b,Same H b->Q (.bl (eU x a.cps.toList n)) b
def pG(b:List Nat)(n:Int):Sp:=λvs H Q _=>∃x k,vs=[x]/\Kof H x k/\(∀z,x=.str z->z.length<=1000)/\∀a,Same H a->Q (.bl (eU x b n)) a
def isNm(z:Str):Prop:=1<=z.length/\z.length<=8/\∀c∈z.cps.toList,c∈LET
namespace R
variable {X:Cx}
def gv(a:X.calm=true):XC X (.builtin "max") (λvs H Q=>match vs with | [.int i,.int j]=>Q (.int (if j > i then j else i)) H | _=>False):=⟨(Gh a).imp λvs H Q h=>by
 split at h
 ·rename_i i j;exact⟨i,j,rfl,h⟩
 ·exact h.elim⟩
end R
section
variable {prog:Program}{w:World}{A:Around}{E:XV}{s:PP}
def Hi{t:TD}{a:Array Value}{Q:Bool->PP->Prop}(b:IsTup s.heap t a)(h:Q true s):wpAny (model prog w) A (Builtin.Tuple.tupleIsExact (.ref t)) Q E s:=by
 unfold Builtin.Tuple.tupleIsExact;refine WP (wpAny_typeOf b.typeIs ?_);exact WF h
def lY{t sl:TD}{a:Array Value}{d e:Q3}{lo c:Option Int}{Q:XV}(b:IsTup s.heap t a)(hs:s.heap.IsSliceOf sl d e .none)(pl:IsPart d lo)(g:IsPart e c)(f:HT.sIx a.size 0 lo=0/\HT.sIx a.size a.size c=a.size)(h:Q (.ref t) s):wpAny (model prog w) A (getItem (.ref t) (.ref sl)) Q E s:=by
 obtain⟨os,i,j,m⟩:=id hs;have k:s.TypeIs (.ref sl) "slice":=⟨os,i,j⟩;unfold getItem;try with_reducible refine wpAny_holding ?_
 first|refine WP (WF ?_)|skip
 refine WP (wpAny_sequenceKey b.typeIs Zd ?_);refine WP (wpAny_callSpecial?_slot (name:=Str.ofString "__getitem__") b.typeIs PyProof.Rows.slot_tuple_getitem
  (wpAny_call_entry PyProof.Rows.slot_tuple_getitem b.typeIs entry_tuple_getitem ?_ (args_tuple_getitem _ _)))
 show wpAny _ _ (Builtin.Tuple.tupleItemsOf (.ref t)>>=_) _ _ s;refine WP (tupleItemsOf_ b ?_);refine WP (wpAny_typeOf k ?_);rw[O8 Zd];refine WP (HT.sliceApplied_gen hs pl g ?_);have l:(((HT.sIx a.size 0 lo:Nat):Int)==0&&(1:Int)==1&&(HT.sIx a.size a.size c-HT.sIx a.size 0 lo)==a.size)=true:=by
  rw[f.1,f.2];simp
 show wpAny _ _ (if (((HT.sIx a.size 0 lo:Nat):Int)==0&&(1:Int)==1&&(HT.sIx a.size a.size c-HT.sIx a.size 0 lo)==a.size)=true then _ else _) _ _ s;rw[O8 l];refine WP (Hi b ?_);rw[O8 rfl];exact WP (wpAny_rule (WF ⟨_,rfl,WF h⟩))
def Me{t b:TD}{c:List Q3}{Q:XV}(h:IsTup s.heap t ([]:List Q3).toArray)(i:IsTup s.heap b c.toArray)(j:Q (.ref b) s):wpAny (model prog w) A (binaryOp .Add (.ref t) (.ref b)) Q E s:=by
 obtain⟨⟨p,dd,o,sl⟩,d,e,n,hd⟩:=id h;obtain⟨⟨q,k,data2,l⟩,f,g,m,a⟩:=id i;simp only at e hd g a;subst e hd g a;exact concat_meets ⟨_,d,rfl⟩ ⟨_,f,rfl⟩ noFill_tuple_add seq_tuple_add PySem.F.slot_tuple_add PySem.F.entry_tuple_add (PySem.F.args_tuple_add_2 _ _)
   (tuple_addW0 t b _ c.toArray n m dd k sl l Zs) ⟨d,f,j⟩
end
section
variable {X:Cx}{e o e1 e2:Expr}{te:TE}{pos p2 p3:Pos}
def Zv:V->Option Int->Option Int->Hp->VK->Prop:=λx lo d H Q=>mR x λa=>∃c,H a=some (.tup c)/\∀p b,Same H b->b p=some (.tup (iB c lo d))->Q (.ref p) b
def aBN:SlR X Zv:=by
 intro m s z H x v u w lo f sl Q I g i j k h;unfold Zv at h;rw[cN]at h;obtain⟨a,rfl,b,d,q⟩:=h;by_cases c:HT.sIx b.length 0 lo=0/\HT.sIx b.length b.length f=b.length
 ·cases g;obtain⟨t,r,l,A⟩:=I.tuple (QYZ d);have n:t.toArray.size=b.length:=by rw[dX];exact r.length.symm
  refine⟨"tuple",_,PyProof.Rows.slot_tuple_getitem.lookup,l.typeIs,?_⟩;refine lY l i j k (by rw[n];exact c) ⟨.ref a,H,I,rfl,q a H (Same.refl H) ?_⟩;rw[d];unfold iB;rw[c.1,c.2,drop_zero,Nat.sub_zero,lJ (bA _)]
 ·exact Yi m s z H (.ref a) v u w lo f sl Q I g i j k ⟨a,b,rfl,QYZ d,c,λp y=>q p _ (aG y) aA⟩
def Mf:R2:=λx y H Q=>mR x λa=>mR y λb=>∃c d,H a=some (.tup c)/\H b=some (.tup d)/\c.length+d.length<=1000/\∀p f,Same H f->f p=some (.tup (c++d))->Q (.ref p) f
def Zw:OpR X (binaryOp .Add) Mf:=by
 intro k s z H x y v u Q I f g h;unfold Mf at h;rw[cN]at h;obtain⟨a,rfl,h⟩:=h;rw[cN]at h;obtain⟨b,rfl,i,l,c,d,m,q⟩:=h;by_cases j:i=[]
 ·subst j;cases f;cases g;obtain⟨A,n,r,_⟩:=I.tuple (QYZ c);obtain⟨B,C,p2,_⟩:=I.tuple (QYZ d);cases n;exact Me r p2 ⟨.ref b,H,I,rfl,q b H (Same.refl H) (by rw[d];rfl)⟩
 ·exact Sh k s z H _ _ v u Q I f g ⟨a,b,i,l,rfl,rfl,QYZ c,QYZ d,j,fT m Zd,(λt=>q a H (Same.refl H) (by rw[c,t,append_nil])),λ_ p w=>q p _ (aG w) aA⟩
end
def Tab(P:Params):List DictEntry->List (Str×Int)->Prop
 | [],[]=>True
 | e::r,(x,i)::q=>(∃t,e.key=.str x t)/\e.hash=PyData.keyHash P x/\(∃t,e.val=.int i t)/\Tab P r q
 | _,_=>False
def Tab.keys{P:Params}:∀ {es:List DictEntry}{a:List (Str×Int)},Tab P es a->W.KeysLit P es
 | [],[],_=>trivial
 | e::r,(x,i)::q,h=>⟨let ⟨t,b⟩:=h.1;⟨x,t,b,h.2.1⟩,Tab.keys h.2.2.2⟩
 | [],_::_,h=>h.elim
 | _::_,[],h=>h.elim
theorem Tab.find{P:Params}(z:Str):∀ {es:List DictEntry}{a:List (Str×Int)},Tab P es a->(match a.lookup z with|some i=>∃t,(es.find? λe=>Value.isStrOf z e.key).map (·.val)=some (.int i t)|none=>(es.find? λe=>Value.isStrOf z e.key).map (·.val)=none)
 | [],[],_=>rfl
 | [],_::_,h=>h.elim
 | _::_,[],h=>h.elim
 | e::r,(x,i)::q,h=>by
  obtain⟨⟨t,b⟩,k,⟨c,d⟩,f⟩:=h;have g:=Tab.find z f;rw[lookup_cons,find?_cons];have j:Value.isStrOf z e.key=(z==x):=by
   rw[b];show(x==z)=(z==x);exact Bool.beq_comm
  rw[j];cases l:z==x with
  | true=>exact⟨c,by rw[<- d];rfl⟩
  | false=>exact g
structure KTab(K:W.Frag)(P:Params)(a:TD)(ws:List (Str×Int)):Prop where
 ex:∃es n,K.lookup a=some ⟨.type "dict",none,.dict (toArray es) n,#[]⟩/\Tab P es ws/\(a==sysModules)=false
def KTab.map{K:W.Frag}{prog:Program}{w:World}{a:TD}{b:List (Str×Int)}{h:Heap}(T:KTab K w.params a b)(X:K.In h) :
  ∃f:Str->Option Q3,h.MapOf (strKind prog w) a f/\(a==sysModules)=false/\∀z,(match b.lookup z with|some i=>∃t,f z=some (.int i t)|none=>f z=none):=by
 refine yE0 T.ex (yE2 λe n=>yA3 λd c lo=>?_);refine⟨_,W.mapOf_K (prog:=prog) X d c.keys,lo,λz=>?_⟩;have:=c.find z;unfold findBy;rw[List.find?_toArray];exact this
section
variable {X:Cx}
def Zx(K:W.Frag)(P:Params)(c:Bool):R2:=λx y H Q=>mS x λz=>mR y λa=>∃b,KTab K P a b/\Q (.bl (if c then !(b.lookup z).isSome else (b.lookup z).isSome)) H
def Hj{f:Option Q3}{o:Option Int}(h:match o with|some i=>∃t,f=some (.int i t)|none=>f=none):f.isSome=o.isSome:=by
 cases o with
 | none=>rw[h];rfl
 | some i=>obtain⟨t,h⟩:=h;rw[h];rfl
def Mg:OpR X (compareOp .NotIn) (Zx X.K X.w.params true):=by
 intro i s j H x y v u Q I b c h;unfold Zx at h;rw[oF]at h;obtain⟨z,rfl,h⟩:=h;rw[cN]at h;obtain⟨a,rfl,d,T,h⟩:=h;obtain⟨t,rfl⟩:=b;cases c;obtain⟨f,e,lo,g⟩:=T.map (prog:=X.prog) I.kIn;exact wpAny_notIn_of (strKind_is X.prog X.w z t) lo e ⟨.bl (!(d.lookup z).isSome),H,I.tok _,by rw[Hj (g z)];rfl,h⟩
def Zy(K:W.Frag)(P:Params):R2:=λx y H Q=>mR x λa=>mS y λz=>∃b i,KTab K P a b/\b.lookup z=some i/\Q (.int i) H
def i_K:IxR X (Zy X.K X.w.params):=by
 intro m slice n s p H x y v u Q I d e h g;unfold Zy at h;rw[cN]at h;obtain⟨a,rfl,h⟩:=h;rw[oF]at h;obtain⟨z,rfl,o,i,T,j,h⟩:=h;obtain⟨t,rfl⟩:=e;cases d;obtain⟨f,c,lo,k⟩:=T.map (prog:=X.prog) I.kIn;have b:=k z;rw[j]at b;obtain⟨l,b⟩:=b;exact tail_any c.typeIs slot_dict_getitem.lookup (wpAny_getItem_of (strKind_is X.prog X.w z t) c b ⟨.int i,H,I.tok _,⟨l,rfl⟩,h⟩) g
end
namespace R
section
variable {X:Cx}{K:W.Frag}{P:Params}{e e1 k v o f:Expr}{te t1 tk tv td ty WV:TE}{pos p2 apos cpos:Pos}{ks:List (Option Expr)}{vs:List Expr}{trs:List (TE×TE)}
def sT:XSl X Zv:=⟨aBN⟩
def ck:iV X (binaryOp .Add) Mf:=⟨Zw⟩
def jm(a:X.K=K:=by rfl)(b:X.w.params=P:=by rfl):iV X (compareOp .NotIn) (Zx K P true):=a▸b▸⟨Mg⟩
def jn(a:X.K=K:=by rfl)(b:X.w.params=P:=by rfl):Zt X (Zy K P):=a▸b▸⟨i_K⟩
def jd(a:X.K=K:=by rfl):XC X (.type "list") (λvs H Q=>match vs with | [.ref p]=>∃ys,(SqL K H p ys∨SqT K H p ys)/\∀l,H l=none->Q (.ref l) (aH H l (.lst ys)) | _=>False):=a ▸ ⟨xB.imp λvs H Q h=>by
 split at h
 ·rename_i p;obtain⟨ys,b,h⟩:=h;exact⟨p,ys,rfl,b,h⟩
 ·exact h.elim⟩
def jv(a:X.K=K:=by rfl):XC X (.type "tuple") (λvs H Q=>match vs with | [.ref p]=>∃ys,SqL K H p ys/\∀l,H l=none->Q (.ref l) (aH H l (.tup ys)) | _=>False):=a ▸ ⟨uG.imp λvs H Q h=>by
 split at h
 ·rename_i p;obtain⟨ys,b,h⟩:=h;exact⟨p,ys,rfl,.inl ⟨b,h⟩⟩
 ·exact h.elim⟩
def ju(a:X.A.units+1<cLine)(b:XE X o td)(c:XE X e ty)(d:XE X f WV)(g:attributeBase o "get" X.env (eval o X.env)=eval o X.env:=by rfl)(h:(apos.endLine == cpos.line)=true:=by rfl)(i:((backTo cpos (starEach [e,f] X.env)).all (λx=>!x.1)&&(backToKw cpos (keywordEach [] X.env)).all (λx=>x.1.isSome)
  && decide (([e,f]:List Expr).length+([]:List Keyword).length+(if ([]:List Keyword).isEmpty then 0 else 1)<30))=true:=by rfl)(j:backTo cpos (starEach [e,f] X.env)=[(false,eval e X.env),(false,eval f X.env)]:=by rfl):XE X (.Call (.Attribute o "get" apos) [e,f] [] cpos) (Lb td ty WV):=⟨Ld a b.h c.h d.h ⟨g,i,h,j⟩⟩
end
end R
def WS:List (Str×Int):=[("add",1),("take",1),("move",2),("send",2),("fetch",2),("pass",3)]
def UW:List V:=[.str "move",.str "pass"]
def vL(x:V):Bool:=eU x LET 8
def zC(lo a:Int)(x:V):Bool:=match x with|.int n=>decide (lo<=n)&&decide (n<=a)|_=>false
def fL(x:V)(a:List V):Bool:=match x with
 | .str z=>(match WS.lookup z with
  | some i=>decide ((a.length:Int)=i)&&a.all vL&&(!Rf (.str z) UW||!decide (nO a 0=nO a 1))
  | none=>false)
 | _=>false
def xI(xs:List V):List V:=iB xs (some 1) (some (-1))
def mD(xs:List V):Bool:=decide (3<=xs.length)&&fL ((nO xs 0).getD .non) (xI xs)&&zC 1 1000000000000 ((nO xs (-1)).getD .non)
def Pt(H:Hp)(x:V):Prop:=∃k,Kof H x k/\∀z,x=.str z->z.length<=1000
def Pt.same{H H':Hp}{x:V}(s:Same H H')(h:Pt H x):Pt H' x:=let ⟨k,a,b⟩:=h;⟨k,a.same s,b⟩
def sQ(H:Hp)(x:V):Bool:=match x with|.ref a=>(match H a with|some (.tup b)=>mD b|_=>false)|_=>false
def Th(H:Hp)(x:V):Prop:=Pt H x/\∀a b,x=.ref a->H a=some (.tup b)->∀y∈b,Pt H y
def Ed:Sp:=λvs H Q _=>∃x lo a,vs=[x,.int lo,.int a]/\Pt H x/\∀b,Same H b->Q (.bl (zC lo a x)) b
def Mh:Sp:=λvs H Q _=>∃x a b,vs=[x,.ref a]/\Pt H x/\H a=some (.tup b)/\b.length<=1000/\(∀y∈b,Pt H y)/\∀c,Same H c->Q (.bl (fL x b)) c
def zD:Sp:=λvs H Q _=>∃x,vs=[x]/\Th H x/\(∀a b,x=.ref a->H a=some (.tup b)->b.length<=1000)/\∀c,Same H c->Q (.bl (sQ H x)) c
def aBO{z:Str}{i:Int}(h:WS.lookup z=some i)(u:Rf (.str z) UW=true):2<=i:=by
 have e:z="move"∨z="pass":=by
  unfold Rf UW at u;simp only [any_cons,List.any_nil,Bool.or_false,Bool.or_eq_true,wX,beq_iff_eq,decide_eq_true_iff]at u;rcases u with u|u
  ·exact .inl u.symm
  ·exact .inr u.symm
 rcases e with rfl|rfl
 ·have:WS.lookup ("move":Str)=some 2:=by decide +kernel
  rw[this]at h;injection h with h;omega
 ·have:WS.lookup ("pass":Str)=some 3:=by decide +kernel
  rw[this]at h;injection h with h;omega
def Ee{xs:List V}(h:3<=xs.length):xI xs=(xs.drop 1).take (xs.length-2):=by
 unfold xI iB HT.sIx;simp only [Int.reduceNeg,Int.reduceLT,if_true,if_false];have a:min (Int.toNat 1) xs.length=1:=by
  show min 1 xs.length=1;omega
 have b:((-1:Int)+(xs.length:Int)).toNat=xs.length-1:=by omega
 rw[b];show((xs.drop (min (Int.toNat 1) xs.length)).take (xs.length-1-min (Int.toNat 1) xs.length))=_;rw[a];congr 1
def Ti{xs:List V}(h:3<=xs.length):(xI xs).length=xs.length-2:=by
 rw[Ee h,oX,length_drop];omega
def Tj{xs:List V}{y:V}(h:3<=xs.length)(m:y∈xI xs):y∈xs:=by
 rw[Ee h]at m;exact List.mem_of_mem_drop (mem_of_mem_take m)
def aBP:R2:=λx y H Q=>mR x λl=>mR y λb=>∃a c,H l=some (.lst a)/\H b=some (.lst c)/\a.length+c.length<=sizeLine/\∀p,H p=none->Q (.ref p) (aH H p (.lst (a++c)))
def R.bu{X:Cx}:iV X (binaryOp .Add) aBP:=⟨Yn.imp λx y H Q h=>by
 unfold aBP at h;rw[cN]at h;obtain⟨a,rfl,h⟩:=h;rw[cN]at h;obtain⟨b,rfl,c,d,h⟩:=h;exact⟨a,b,c,d,rfl,rfl,h⟩⟩
inductive DeedIs:List V->Prop
 | one (z a:Str) (n:Int):(z="add"∨z="take")->isNm a->1<=n->n<=1000000000000->DeedIs [.str z,.str a,.int n]
 | two (z a b:Str) (n:Int):(z="move"∨z="send"∨z="fetch")->isNm a->isNm b->a≠b->1<=n->n<=1000000000000->DeedIs [.str z,.str a,.str b,.int n]
 | three (a b c:Str) (n:Int):isNm a->isNm b->isNm c->a≠b->1<=n->n<=1000000000000->DeedIs [.str "pass",.str a,.str b,.str c,.int n]
def hJ{z:Str}(h:isNm z):vL (.str z)=true:=by
 unfold vL;rw[gZ,UF (by have:=h.1;omega),UF (by have:=h.2.1;omega),all_eq_true.mpr λc a=>UF (h.2.2 c a)];rfl
def DeedIs.ok{xs:List V}(h:DeedIs xs):mD xs=true:=by
 cases h with
 | one z a n i d f g=>
  show(fL (.str z) [.str a]&&zC 1 1000000000000 (.int n))=true;have e:fL (.str z) [.str a]=true:=by
   rcases i with rfl|rfl
   ·show(true&&(vL (.str a)&&true)&&_)=true;rw[hJ d];rfl
   ·show(true&&(vL (.str a)&&true)&&_)=true;rw[hJ d];rfl
  rw[e];show(decide (1<=n)&&decide (n<=1000000000000))=true;rw[UF f,UF g];rfl
 | two z a b n i d j k f g=>
  show(fL (.str z) [.str a,.str b]&&zC 1 1000000000000 (.int n))=true;have ne:decide (some (V.str a)=some (V.str b))=false:=T0 λe=>k (by injection e with e;injection e)
  have e:fL (.str z) [.str a,.str b]=true:=by
   rcases i with rfl|rfl|rfl
   all_goals
    show(true&&(vL (.str a)&&(vL (.str b)&&true))&&(_||!decide (some (V.str a)=some (V.str b))))=true;rw[hJ d,hJ j,ne,Bool.not_false,Bool.or_true];rfl
  rw[e];show(decide (1<=n)&&decide (n<=1000000000000))=true;rw[UF f,UF g];rfl
 | three a b c n d j l k f g=>
  show(fL (.str "pass") [.str a,.str b,.str c]&&zC 1 1000000000000 (.int n))=true;have ne:decide (some (V.str a)=some (V.str b))=false:=T0 λe=>k (by injection e with e;injection e)
  have e:fL (.str "pass") [.str a,.str b,.str c]=true:=by
   show(true&&(vL (.str a)&&(vL (.str b)&&(vL (.str c)&&true)))&&(_||!decide (some (V.str a)=some (V.str b))))=true;rw[hJ d,hJ j,hJ l,ne,Bool.not_false,Bool.or_true];rfl
  rw[e];show(decide (1<=n)&&decide (n<=1000000000000))=true;rw[UF f,UF g];rfl
def isNm.len{z:Str}(h:isNm z):z.length<=1000:=fT h.2.1 Zd
def Mi:("add":Str).length<=1000/\("take":Str).length<=1000/\("move":Str).length<=1000/\("send":Str).length<=1000/\("fetch":Str).length<=1000/\("pass":Str).length<=1000:=by decide +kernel
def Dk.tup_ne{H:Hp}{d b p:TD}{xs:List V}(D:Dk H d b)(h:H p=some (.tup xs)):p≠d/\p≠b:=by
 refine yE0 D.ex (yE3 λf s k=>yA3 λa c g=>?_);exact⟨λe=>(by rw[e,a]at h;cases h),λe=>(by rw[e,c]at h;cases h)⟩
inductive TV where
 | sc (v:V)
 | tp (xs:List TV)
 | ls (xs:List TV)
def mP:V->Bool|.non=>true|.bl _=>true|.int _=>true|.str _=>true|_=>false
def Hk(H:Hp):Nat->TV->V->Prop
 | 0,.sc v,x=>x=v/\mP v=true
 | _+1,.sc v,x=>x=v/\mP v=true
 | n+1,.tp c,x=>∃a b,x=.ref a/\H a=some (.tup b)/\Paired (Hk H n) c b
 | n+1,.ls c,x=>∃a b,x=.ref a/\H a=some (.lst b)/\Paired (Hk H n) c b
 | 0,_,_=>False
def Paired.map'{c d:Type}{R S:c->d->Prop}(f:∀a b,R a b->S a b){xs:List c}{ys:List d}(h:Paired R xs ys):Paired S xs ys:=by
 induction h with
 | nil=>exact .nil
 | cons h t e=>exact .cons (f _ _ h) e
def Paired.get'{a b:Type}{R:a->b->Prop}:∀ {xs:List a}{ys:List b}{j:Nat},Paired R xs ys->∀(h:j<ys.length),∃h':j<xs.length,R xs[j] ys[j]
 | _,_,0,.cons h t,_=>⟨Nat.succ_pos _,h⟩
 | _,_,j+1,.cons h t,c=>let ⟨h',r⟩:=Paired.get' (j:=j) t (by simpa using c);⟨by simpa using h',by simpa using r⟩
section
variable {X:Cx}{pins:ZB}{s:PP}{σ:St}{H:Hp}
def Tk(B:Around):B.in1.units=B.units+1:=rfl
def kW(n:Nat):(List.range n).all (λ_=>true)=true:=all_eq_true.mpr λ_ _=>rfl
def Mj(I:Inv X pins σ H s):∀(n:Nat){t:TV}{x y:V}{v u:Q3}{A:Around},Hk H n t x->Hk H n t y->RelV x v->RelV y u->A.units+n<cLine->SeqAt.EqAt A s v u true:=by
 have sc:∀ {v:V}{x y:V}{B C:Q3}{A:Around},(x=v/\mP v=true)->(y=v/\mP v=true)->RelV x B->RelV y C->SeqAt.EqAt A s B C true:=by
  rintro v x y B C A ⟨rfl,S⟩ ⟨rfl,_⟩ f g
  cases y with
  | non=>cases f;cases g;exact SeqAt.EqAt.same _
  | bl i=>cases f;cases g;exact SeqAt.EqAt.same _
  | int i=>
   obtain⟨D,rfl⟩:=f;obtain⟨E,rfl⟩:=g;have:=SeqAt.EqAt.int_int (A:=A) (s:=s) i D i E
   rwa [beq_self_eq_true]at this
  | str i=>
   obtain⟨D,rfl⟩:=f;obtain⟨E,rfl⟩:=g;have:=SeqAt.EqAt.str_str (A:=A) (s:=s) i D i E
   rwa [beq_self_eq_true]at this
  | _=>cases S
 intro n;induction n with
 | zero=>
  intro t x y v u A c d f g T;cases t with
  | sc z=>exact sc c d f g
  | _=>exact c.elim
 | succ n R=>
  intro t x y v u A c d f g T;cases t with
  | sc z=>exact sc c d f g
  | tp l=>
   obtain⟨a,U,rfl,g1,m⟩:=c;obtain⟨b,W,rfl,g2,o⟩:=d;cases f;cases g;by_cases p:a=b
   ·subst p;exact SeqAt.EqAt.same _
   ·obtain⟨h,q,F,_⟩:=I.tuple (QYZ g1);obtain⟨r,w,G,_⟩:=I.tuple (QYZ g2);have J:h.length=l.length:=by rw[<- q.length,m.length]
    have K:r.length=l.length:=by rw[<- w.length,o.length]
    have k:=SeqAt.RcAt.tuples (A:=A) (s:=s) (e:=λ_=>true) F G Zo (λj c d=>by
     rw[dX]at c d;obtain⟨L,M⟩:=Paired.get' (j:=j) q c;obtain⟨N,O⟩:=Paired.get' (j:=j) w d;obtain⟨Y,P⟩:=Paired.get' (j:=j) m L;obtain⟨Z,Q⟩:=Paired.get' (j:=j) o N;simpa using R P Q M O (by rw[Tk];omega))
    have e:((List.range (min h.toArray.size r.toArray.size)).all (λ_=>true)&&h.toArray.size==r.toArray.size)=true:=by
     rw[kW,dX,dX,J,K,beq_self_eq_true];rfl
    rw[e]at k;exact SeqAt.EqAt.of_refs p k
  | ls l=>
   obtain⟨a,U,rfl,g1,m⟩:=c;obtain⟨b,W,rfl,g2,o⟩:=d;cases f;cases g;by_cases p:a=b
   ·subst p;exact SeqAt.EqAt.same _
   ·obtain⟨h,q,F,_⟩:=I.list (QYY g1);obtain⟨r,w,G,_⟩:=I.list (QYY g2);have J:h.length=l.length:=by rw[<- q.length,m.length]
    have K:r.length=l.length:=by rw[<- w.length,o.length]
    have k:=SeqAt.RcAt.lists (A:=A) (s:=s) (e:=λ_=>true) F.isList G.isList (by rw[dX,dX,J,K]) Zo (λj c d=>by
     rw[dX]at c d;obtain⟨L,M⟩:=Paired.get' (j:=j) q c;obtain⟨N,O⟩:=Paired.get' (j:=j) w d;obtain⟨Y,P⟩:=Paired.get' (j:=j) m L;obtain⟨Z,Q⟩:=Paired.get' (j:=j) o N;simpa using R P Q M O (by rw[Tk];omega))
    rw[kW]at k;exact SeqAt.EqAt.of_refs p k
end
section
variable {X:Cx}
def Zz(a:Bool):R2:=λx y H Q=>∃n t,n<=50/\Hk H n t x/\Hk H n t y/\Q (.bl (!a)) H
def Ef(k:Bool){h:ZB}{s:PP}{C:St}{H:Hp}{x y:V}{v u:Q3}{Q:VK}{op:CmpOp}(g:op=if k then .NotEq else .Eq)(hu:X.A.units+64<cLine)(I:Inv X h C H s)(D:RelV x v)(E:RelV y u)(a0:Zz k x y H Q) :
  wpAny (model X.prog X.w) X.A (compareOp op v u) (EP X h C Q) X.xe s:=by
 revert a0;refine yE2 λn t=>yA4 λhn a c q=>?_;have sc:∀z,t=.sc z->wpAny (model X.prog X.w) X.A (compareOp op v u) (EP X h C Q) X.xe s:=by
  rintro z rfl;have R:x=z/\mP z=true:=by cases n<;>exact a
  have S:y=z/\mP z=true:=by cases n<;>exact c
  obtain⟨rfl,T⟩:=R;obtain⟨rfl,_⟩:=S;have P:L2.scal y y=true:=by cases y<;>first|rfl|cases T
  cases k with
  | true=>
   subst g;exact Vs h s C H y y v u Q I D E ⟨P,by simpa using q⟩
  | false=>
   subst g;exact Vr h s C H y y v u Q I D E ⟨P,by simpa using q⟩
 cases n with
 | zero=>
  cases t with
  | sc z=>exact sc z rfl
  | _=>exact a.elim
 | succ n=>
  cases t with
  | sc z=>exact sc z rfl
  | tp l=>
   obtain⟨a1,U,rfl,g1,m⟩:=a;obtain⟨a2,W,rfl,g2,o⟩:=c;cases D;cases E;obtain⟨d,p,r,_⟩:=I.tuple (QYZ g1);obtain⟨f,w,B,_⟩:=I.tuple (QYZ g2);have F:d.length=l.length:=by rw[<- p.length,m.length]
   have G:f.length=l.length:=by rw[<- w.length,o.length]
   have i:∀j (a:j<d.toArray.size) (c:j<f.toArray.size),SeqAt.EqAt X.A.in1 s d.toArray[j] f.toArray[j] true:=λj a c=>by
    rw[dX]at a c;obtain⟨J,K⟩:=Paired.get' (j:=j) p a;obtain⟨L,M⟩:=Paired.get' (j:=j) w c;obtain⟨Y,N⟩:=Paired.get' (j:=j) m J;obtain⟨Z,O⟩:=Paired.get' (j:=j) o L;simpa using Mj I n N O K M (by rw[Tk];omega)
   have e:((List.range (min d.toArray.size f.toArray.size)).all (λ_=>true)&&d.toArray.size==f.toArray.size)=true:=by
    rw[kW,dX,dX,F,G,beq_self_eq_true];rfl
   cases k with
   | true=>
    subst g;have b:=SeqAt.RcNeAt.tuples (A:=X.A) (s:=s) (e:=λ_=>true) r B Zo i;rw[e]at b;exact b _ _ _ _ ⟨.bl false,H,I,rfl,q⟩
   | false=>
    subst g;have b:=SeqAt.RcAt.tuples (A:=X.A) (s:=s) (e:=λ_=>true) r B Zo i;rw[e]at b;exact b _ _ _ _ ⟨.bl true,H,I,rfl,q⟩
  | ls l=>
   obtain⟨a1,U,rfl,g1,m⟩:=a;obtain⟨a2,W,rfl,g2,o⟩:=c;cases D;cases E;obtain⟨d,p,r,_⟩:=I.list (QYY g1);obtain⟨f,w,B,_⟩:=I.list (QYY g2);have F:d.length=l.length:=by rw[<- p.length,m.length]
   have G:f.length=l.length:=by rw[<- w.length,o.length]
   have i:∀j (a:j<d.toArray.size) (c:j<f.toArray.size),SeqAt.EqAt X.A.in1 s d.toArray[j] f.toArray[j] true:=λj a c=>by
    rw[dX]at a c;obtain⟨J,K⟩:=Paired.get' (j:=j) p a;obtain⟨L,M⟩:=Paired.get' (j:=j) w c;obtain⟨Y,N⟩:=Paired.get' (j:=j) m J;obtain⟨Z,O⟩:=Paired.get' (j:=j) o L;simpa using Mj I n N O K M (by rw[Tk];omega)
   cases k with
   | true=>
    subst g;have b:=SeqAt.RcNeAt.lists (A:=X.A) (s:=s) (e:=λ_=>true) r.isList B.isList (by rw[dX,dX,F,G]) Zo i;rw[kW]at b;exact b _ _ _ _ ⟨.bl false,H,I,rfl,q⟩
   | false=>
    subst g;have b:=SeqAt.RcAt.lists (A:=X.A) (s:=s) (e:=λ_=>true) r.isList B.isList (by rw[dX,dX,F,G]) Zo i;rw[kW]at b;exact b _ _ _ _ ⟨.bl true,H,I,rfl,q⟩
def R.ia(a:X.A.units+64<cLine):iV X (compareOp .Eq) (Zz false):=⟨λd s e H x y v u Q I b c h=>Ef false rfl a I b c h⟩
def R.cv(a:X.A.units+64<cLine):iV X (compareOp .NotEq) (Zz true):=⟨λd s e H x y v u Q I b c h=>Ef true rfl a I b c h⟩
def R.ba{st:Stmt}:XS X st (λ_ _ _=>False):=⟨λa s b H D I h=>h.elim⟩
end
end L2
namespace L2
open PySem PySem.Spec PyProof.Rows PySem.Builtin PySem.Builtin.Str
def Eg:∀l:List (Str×Tok),Vals ((l.map (·.1)).map V.str) (strValues l)
 | []=>.nil
 | p::l=>.cons ⟨p.2,rfl⟩ (Eg l)
section
variable {X:Cx}
def Bu:V->List V->Hp->VK->Prop:=λx vs H Q=>mS x λz=>match vs with
 | [.str y]=>(y.length==0)=false/\z.length<=1000/\∀l,H l=none->Q (.ref l) (aH H l (.lst ((Txt.split z y).map V.str)))
 | _=>False
def Ml:MtR X "str.split" Bu:=by
 intro f s i H x vs v w Q I m n h;unfold Bu at h;rw[oF]at h;obtain⟨z,rfl,h⟩:=h;split at h
 ·rename_i y;obtain⟨g,p,q⟩:=h;obtain⟨t,rfl⟩:=m;obtain⟨A,rfl,u,rfl⟩:=n.one;have d:∀(l:List (Str×Tok))(k:Nat),l.map (·.1)=Txt.split z y->EP X f i Q (.ref s.heap.objs.size) {s with heap:=s.heap.push {cls:=.type "list",data:=.seq (strValues l).toArray },toks:=k }:=λl k e=>by
   refine⟨.ref s.heap.objs.size,_,I.laid (t':=k) (o:=.lst ((Txt.split z y).map V.str)) (λb B q=>iD _ q) (bA _) ?_,rfl,q _ (I.hok.fresh (bA _))⟩;refine⟨?_,strValues l,0,by rw[<- e];exact Eg l,TW _ rfl⟩;rw[aR];have:=split_le z y;exact fT this (fT (show z.length+2<=1002 by omega) Zd)
  have j:z.length<=sizeLine:=fJ p;have r:(partsBetween z (occurrences z y 0 z.length (z.length+1)) y.length).length<=sizeLine:=by
   rw[length_partsBetween];have:=StrLaws.occ_length_le z y 0 z.length (z.length+1);exact fT (show _<=1002 by omega) Zd
  cases a:(decide (z.length<y.length)||decide (strKind z<strKind y))
  ·cases c:(occurrences z y 0 z.length (z.length+1)).isEmpty
   ·refine call_meets F.slot_str_split (typeIs_str _ _ _) F.entry_str_split (F.args_str_split_2 _ _) (meets_str_split_sep z y t u a g c j r) ?_;show wants (EP X f i Q) X.xe _ {s with toks:=_,heap:=s.heap.push {cls:=.type "list",data:=.seq (strsFrom s.toks (partsBetween z (occurrences z y 0 z.length (z.length+1)) y.length)).toArray } };rw[strsFrom_eq];exact d (numbered s.toks _) _ ((numbered_texts _ _).trans ((NE (ne_true_of_eq_false a)).trans (NE (ne_true_of_eq_false c))).symm)
   ·exact call_meets F.slot_str_split (typeIs_str _ _ _) F.entry_str_split (F.args_str_split_2 _ _) (meets_str_split_not_found z y t u a g c)
     (d [(z,t)] s.toks ((NE (ne_true_of_eq_false a)).trans (O8 c)).symm)
  ·exact call_meets F.slot_str_split (typeIs_str _ _ _) F.entry_str_split (F.args_str_split_2 _ _) (meets_str_split_cannot_occur z y t u a)
    (d [(z,t)] s.toks (O8 a).symm)
 ·exact h.elim
def R.ib:XM X "str.split" Bu:=⟨Ml⟩
end
open PySem PySem.Spec PyProof.Rows
def aAa(a b:Str):ltCps b.cps.toList a.cps.toList=false↔a.cps.toList<=b.cps.toList:=by
 rw[ltCps_eq,decide_eq_false_iff_not];exact Iff.rfl
def Mm{a b:Str}(h:a.cps.toList=b.cps.toList):a=b:=by rw[sP a,sP b,h]
theorem jB:∀(l:List Str)(p:Str),risingS p l=true->(p::l).Pairwise (λa b=>a.cps.toList<=b.cps.toList)
 | [],p,_=>List.pairwise_singleton _ _
 | x::r,p,h=>by
  unfold risingS at h;rw[Bool.and_eq_true]at h;obtain⟨f,g⟩:=h;have d:=jB r x g;have e:p.cps.toList<=x.cps.toList:=(aAa p x).mp (by simpa using f);refine pairwise_cons.mpr ⟨λy c=>?_,d⟩;rcases mem_cons.mp c with rfl|c
  ·exact e
  ·exact le_trans e ((pairwise_cons.mp d).1 y c)
def pH:∀(l:List Str),sortedS l=true->l.Pairwise (λa b=>a.cps.toList<=b.cps.toList)
 | [],_=>List.Pairwise.nil
 | x::r,h=>jB r x h
theorem qP:∀(l m:List Str),l.Perm m->l.Pairwise (λa b=>a.cps.toList<=b.cps.toList)->m.Pairwise (λa b=>a.cps.toList<=b.cps.toList)->l=m
 | [],m,c,_,_=>(List.nil_perm.mp c).symm
 | a::l,[],c,_,_=>(perm_nil.mp c)
 | a::l,b::m,c,d,f=>by
  obtain⟨g,i⟩:=pairwise_cons.mp d;obtain⟨j,k⟩:=pairwise_cons.mp f;have e:a=b:=by
   have n:a∈b::m:=c.mem_iff.mp fY;have o:b∈a::l:=c.mem_iff.mpr fY;rcases mem_cons.mp n with h|h
   ·exact h
   ·rcases mem_cons.mp o with h'|h'
    ·exact h'.symm
    ·exact Mm (List.le_antisymm (g b h') (j a h))
  subst e;rw[qP l m (List.Perm.cons_inv c) i k]
def zE(c:List Str):List Str:=c.mergeSort (λa b=>decide (a.cps.toList<=b.cps.toList))
def kX(a:List Str):(zE a).Perm a:=List.mergeSort_perm _ _
def sR(d:List Str):(zE d).Pairwise (λa b=>a.cps.toList<=b.cps.toList):=by
 have:=List.pairwise_mergeSort (le:=λ(a b:Str)=>decide (a.cps.toList<=b.cps.toList)) (λa b c e f=>UF (le_trans (U3 e) (U3 f))) (λa b=>by
  rcases List.le_total a.cps.toList b.cps.toList with h|h
  ·simp[h]
  ·simp [h]) d
 exact this.imp λh=>U3 h
def aAb{a b:List Str}(c:b.Perm a)(hs:sortedS b=true):b=zE a:=
 qP _ _ (c.trans (kX a).symm) (pH _ hs) (sR a)
def xJ(a:List Str):(zE a).length=a.length:=(kX a).length_eq
def vM:∀ {vs:List Q3}{a:List Str},StrsAre vs a->Vals (a.map V.str) vs
 | _,_,.nil=>.nil
 | _,_,.cons x t h=>.cons ⟨t,rfl⟩ (vM h)
def TK(H H':Hp):Prop:=∀a b,H a=some (.tup b)->H' a=some (.tup b)
def TK.trans{H H1 H2:Hp}(a:TK H H1)(b:TK H1 H2):TK H H2:=λp c h=>b p c (a p c h)
def Same.tk{H H':Hp}(s:Same H H'):TK H H':=λa b h=>s _ _ h
def Kp.tk{H H':Hp}{d b:TD}(D:Dk H d b)(k:Kp d b H H'):TK H H':=λa c h=>k _ _ h (D.tup_ne h).1 (D.tup_ne h).2
def Mn{H:Hp}{l:TD}{xs ys:List V}(g:H l=some (.lst xs)):TK H (aH H l (.lst ys)):=λa b h=>by
 have:a≠l:=λe=>by rw[e,g]at h;cases h
 rw[aB this];exact h
def RepT(H:Hp):Nat->TV->V->Prop
 | 0,.sc v,x=>x=v/\mP v=true
 | _+1,.sc v,x=>x=v/\mP v=true
 | n+1,.tp c,x=>∃a b,x=.ref a/\H a=some (.tup b)/\Paired (RepT H n) c b
 | _,_,_=>False
def RepT.scal{H:Hp}{n:Nat}{v:V}(h:mP v=true):RepT H n (.sc v) v:=by
 cases n<;>exact⟨rfl,h⟩
def RepT.s{H:Hp}{n:Nat}{z:Str}:RepT H n (.sc (.str z)) (.str z):=.scal rfl
def RepT.i{H:Hp}{n:Nat}{z:Int}:RepT H n (.sc (.int z)) (.int z):=.scal rfl
section
variable {X:Cx}{es:List Expr}{t:TA}{pos:Pos}
def Mo(t:TA):TE:=λd H Q=>t d H λb c=>b.length<=1000/\∀p a,Same c a->a p=some (.tup b)->Q (.ref p) a
def Tl{g}(h:PA X es t):PE X (.Tuple es g pos) (Mo t):=by
 intro f s m H Q I i;refine wpAny_Tuple_spliced (bN (h pos f s m H _ I i) λj a ⟨k,c,d,r,z,q⟩=>⟨by rw[<- r.length];exact fJ z,?_⟩);have l:c a.heap.objs.size=none:=d.hok.fresh (bA _);refine⟨.ref a.heap.objs.size,aH c a.heap.objs.size (.tup k),d.laid (t':=a.toks) (λb u e=>iD _ e) (bA _) ?_,rfl,q _ _ (aG l) aA⟩;exact⟨fJ z,j,r,⟨_,TW _ rfl,rfl,_,rfl⟩⟩
def R.ah{a}(h:XA X es t):XE X (.Tuple es a pos) (Mo t):=⟨Tl h.h⟩
end
section
def Ask(lt:Nat->Nat->Bool)(n:Nat){b:Type}:W.KasT b->(b->Prop)->Prop
 | .ret a,Q=>Q a
 | .ask i j k,Q=>i<n/\j<n/\Ask lt n (k (lt i j)) Q
theorem Ask.bind{lt:Nat->Nat->Bool}{n:Nat}{b c:Type}{f:b->W.KasT c}{Q:c->Prop}:∀(t:W.KasT b),Ask lt n t (λa=>Ask lt n (f a) Q)->Ask lt n (t.bind f) Q
 | .ret _,h=>h
 | .ask i j k,h=>⟨h.1,h.2.1,Ask.bind (k (lt i j)) h.2.2⟩
theorem Ask.wp{lt:Nat->Nat->Bool}{n:Nat}{d:Type}{b:Nat->Nat->(Bool->PP->Prop)->PP->Prop}{s:PP}{G:d->PP->Prop}(c:∀i j C,i<n->j<n->C (lt i j) s->b i j C s) :
  ∀(t:W.KasT d),Ask lt n t (λa=>G a s)->t.kasWp b G s
 | .ret _,h=>h
 | .ask i j k,h=>c i j _ h.1 h.2.1 (Ask.wp c (k (lt i j)) h.2.2)
variable {O:KeyOrd}{key:Nat->O.α}{n:Nat}
abbrev kg(key:Nat->O.α)(p:Array Nat)(i:Nat):O.α:=key (p.getD i 0)
abbrev oG(key:Nat->O.α)(i j:Nat):Bool:=O.blt (key i) (key j)
def Prm(n:Nat)(p:Array Nat):Prop:=p.Perm (List.range n).toArray
def Prm.size{p:Array Nat}(h:Prm n p):p.size=n:=by
 have:=h.size_eq;simpa using this
def Prm.lt{p:Array Nat}(h:Prm n p){i:Nat}(a:i<n):p.getD i 0<n:=by
 have b:i<p.size:=by rw[h.size];exact a
 have e:p.getD i 0=p[i]:=by simp[Array.getD,b]
 rw[e];have c:p[i]∈(List.range n).toArray.toList:=(Array.perm_iff_toList_perm.mp h).mem_iff.mp Zs;simpa using c
def gd{p q:Array Nat}{i j:Nat}(h:p[i]?=q[j]?):p.getD i 0=q.getD j 0:=by
 rw[Array.getD_eq_getD_getElem?,Array.getD_eq_getD_getElem?,h]
def Bv{p:Array Nat}{i j:Nat}(b:j<=p.size)(k:Nat):kg key (W.kas_rev p i j) k=if i<=k/\k<j then kg key p (i+j-1-k) else kg key p k:=by
 have e:=getElem?_mirror_all (xs:=p) (i:=i) b k;unfold kg W.kas_rev;by_cases a:i<=k/\k<j
 ·rw[O8 a]at e ⊢;rw[gd e]
 ·rw[NE a]at e ⊢;rw[gd e]
def xK{p:Array Nat}{i j:Nat}(b:j<=p.size)(a:∀k,i<=k->k<j->kg key p k=kg key p (j-1))(k:Nat):kg key (W.kas_rev p i j) k=kg key p k:=by
 rw[Bv b];split
 ·rename_i h;rw[a (i+j-1-k) Zo Zo,a k h.1 h.2]
 ·rfl
def Mp{p:Array Nat}{a d:Nat}(hs:a<p.size)(hd:d<=a)(k:Nat):kg key (bubble p a d) k=if k=a-d then kg key p a else if a-d<k/\k<=a then kg key p (k-1) else kg key p k:=by
 have e:=getElem?_bubble (xs:=p) hs d hd k;unfold kg;by_cases b:k=a-d
 ·rw[O8 b]at e ⊢;rw[gd e]
 ·rw[NE b]at e ⊢;by_cases c:a-d<k/\k<=a
  ·rw[O8 c]at e ⊢;rw[gd e]
  ·rw[NE c]at e ⊢;rw[gd e]
def Prm.rev{p:Array Nat}(h:Prm n p)(i j:Nat):Prm n (W.kas_rev p i j):=(mirror_perm _ _ _ _).trans h
def Prm.bub{p:Array Nat}(h:Prm n p)(i j:Nat):Prm n (bubble p i j):=(bubble_perm _ _ _).trans h
def Up(key:Nat->O.α)(p:Array Nat)(m:Nat):Prop:=∀i j,i<=j->j<m->O.kle (kg key p i) (kg key p j)
def Dn(key:Nat->O.α)(p:Array Nat)(m:Nat):Prop:=∀i j,i<=j->j<m->O.kle (kg key p j) (kg key p i)
def Up.one{p:Array Nat}:Up key p 1:=λi j a b=>by
 have e:i=j:=by omega
 subst e;exact KeyOrd.kle_refl _
def Up.more{p:Array Nat}{m:Nat}(h:Up key p m)(d:1<=m)(hs:O.kle (kg key p (m-1)) (kg key p m)):Up key p (m+1):=λi j a e=>by
 by_cases b:j<m
 ·exact h i j a b
 ·obtain rfl:j=m:=by omega
  by_cases c:i=j
  ·subst c;exact KeyOrd.kle_refl _
  ·exact KeyOrd.kle_trans (h i (j-1) Zo Zo) hs
def Dn.more{p:Array Nat}{m:Nat}(h:Dn key p m)(d:1<=m)(hs:O.kle (kg key p m) (kg key p (m-1))):Dn key p (m+1):=λi j a e=>by
 by_cases b:j<m
 ·exact h i j a b
 ·obtain rfl:j=m:=by omega
  by_cases c:i=j
  ·subst c;exact KeyOrd.kle_refl _
  ·exact KeyOrd.kle_trans hs (h i (j-1) Zo Zo)
theorem xL{p:Array Nat}(c:Prm n p){Q:Nat->Prop}:∀(f a:Nat),1<=a->a+f<=n->Up key p a →
  (∀m,a<=m->m<=a+f->Up key p m->(m=a+f∨O.klt (kg key p m) (kg key p (m-1)))->Q m)->Ask (oG key) n (W.kas_asc p f a) Q
 | 0,a,_,_,b,h=>h a (bA _) (bA _) b (.inl rfl)
 | f+1,a,g,k,b,h=>by
  refine⟨c.lt Zo,c.lt Zo,?_⟩;show Ask (oG key) n (if O.blt (kg key p a) (kg key p (a-1))=true then _ else _) Q
  cases d:O.blt (kg key p a) (kg key p (a-1)) with
  | true=>exact h a (bA _) Zo b (.inr d)
  | false=>
   refine xL c f (a+1) Zo Zo (b.more g d) λm l m2 i j=>h m Zo Zo i (j.imp (λe=>by omega) id)
theorem oH{Q:Array Nat×Nat×Nat->Prop}:∀(f:Nat)(p:Array Nat)(a q:Nat),Prm n p->1<=a->a+f<=n->Dn key p a->q+1<=a->(∀i,a-(q+1)<=i->i<a->kg key p i=kg key p (a-1)) →
  (∀b m d,Prm n b->1<=m->m<=a+f->Dn key b m->d+1<=m->(∀i,m-(d+1)<=i->i<m->kg key b i=kg key b (m-1))->Q (b,m,d))->Ask (oG key) n (W.kas_desc f p a q) Q
 | 0,p,a,q,c,g,_,hd,r,k,h=>h p a q c g (bA _) hd r k
 | f+1,p,a,q,c,g,D,hd,r,k,h=>by
  have A:a<=p.size:=by rw[c.size];omega
  have one:∀b:Array Nat,∀i,a+1-(0+1)<=i->i<a+1->kg key b i=kg key b (a+1-1):=λb i x y=>by
   have e:i=a+1-1:=by omega
   rw[e]
  refine⟨c.lt Zo,c.lt Zo,?_⟩;show Ask (oG key) n (if O.blt (kg key p a) (kg key p (a-1))=true then _ else _) Q
  cases s:O.blt (kg key p a) (kg key p (a-1)) with
  | true=>
   rw[O8 rfl];have t:=hd.more g (KeyOrd.kle_of_klt s);by_cases u:q>0
   ·rw[O8 u];have v:=xK (key:=key) A k;refine oH f _ (a+1) 0 (c.rev _ _) Zo Zo (λi j x y=>by rw[v,v];exact t i j x y) Zo (one _) λb m d l o w=>h b m d l o Zo
   ·rw[NE u];exact oH f _ (a+1) 0 c Zo Zo t Zo (one _) λb m d l o w=>h b m d l o Zo
  | false=>
   rw[NE Zd];refine⟨c.lt Zo,c.lt Zo,?_⟩;show Ask (oG key) n (if O.blt (kg key p (a-1)) (kg key p a)=true then _ else _) Q
   cases z:O.blt (kg key p (a-1)) (kg key p a) with
   | true=>exact h p a q c g Zo hd r k
   | false=>
    rw[NE Zd];have B:kg key p a=kg key p (a-1):=KeyOrd.kle_antisymm z s;refine oH f p (a+1) (q+1) c Zo Zo (hd.more g z) Zo (λi x y=>?_) λb m d l o w=>h b m d l o Zo;rw[show a+1-1=a from rfl];by_cases C:i=a
    ·rw[C]
    ·rw[B];exact k i Zo Zo
def vN{p:Array Nat}{a r:Nat}{Q:Nat×Array Nat->Prop}(b:Prm n p)(e:1<=a)(g:a<=r)(k:r<=n)(hd:Dn key p a)(h:∀m c,Prm n c->1<=m->m<=r->Up key c m->Q (m,c)) :
  Ask (oG key) n (W.kas_tail3 a r p) Q:=by
 have d:a<=p.size:=by rw[b.size];omega
 refine Ask.bind _ (xL (b.rev 0 a) (r-a) a e Zo (λi j x y=>?_) λm l m2 f _=>h m _ (b.rev 0 a) Zo Zo f);rw[Bv d,Bv d,O8 Zo,O8 Zo];exact hd _ _ Zo Zo
def oI{p:Array Nat}{a r:Nat}{Q:Nat×Array Nat->Prop}(o:Prm n p)(t:a+1<=r)(d:r<=n)(hd:Dn key p (a+1))(h:∀m b,Prm n b->1<=m->m<=r->Up key b m->Q (m,b)) :
  Ask (oG key) n (W.kas_descPart a r p) Q:=by
 refine Ask.bind _ (oH (r-(a+1)) p (a+1) 0 o Zo Zo hd Zo (λi x y=>by rw[show i=a+1-1 by omega]) λb m q c e u f v s=>?_);have l:m<=b.size:=by rw[c.size];omega
 dsimp only;by_cases g:q>0
 ·rw[O8 g];have k:=xK (key:=key) l s;exact vN (c.rev _ _) e Zo d (λi j x y=>by rw[k,k];exact f i j x y) h
 ·rw[NE g];exact vN c e Zo d f h
def Hl{p:Array Nat}{r:Nat}{Q:Nat×Array Nat->Prop}(b:Prm n p)(B:1<=r)(o:r<=n)(h:∀m f,Prm n f->1<=m->m<=r->Up key f m->Q (m,f)) :
  Ask (oG key) n (W.kas_count r p) Q:=by
 refine Ask.bind _ (xL b (r-1) 1 (bA _) Zo Up.one λa q C c v=>?_);by_cases e:a=r
 ·rw[O8 (by simpa using e)];exact h a p b q Zo c
 ·rw[NE (by simpa using e)];have s:O.klt (kg key p a) (kg key p (a-1)):=v.resolve_left Zo;by_cases g:a>1
  ·rw[O8 g];refine⟨b.lt Zo,b.lt Zo,?_⟩;show Ask (oG key) n (if O.blt (kg key p 0) (kg key p (a-1))=true then _ else _) Q
   cases w:O.blt (kg key p 0) (kg key p (a-1)) with
   | true=>exact h a p b q Zo c
   | false=>
    rw[NE Zd];have u:a<=p.size:=by rw[b.size];omega
    have d:∀k,0<=k->k<a->kg key p k=kg key p (a-1):=λk _ z=>KeyOrd.kle_antisymm (c k (a-1) Zo Zo) (KeyOrd.kle_trans w (c 0 k Zo z))
    have t:=xK (key:=key) u d;refine oI (b.rev _ _) Zo o (λi j x y=>?_) h;rw[t,t];by_cases A:j<a
    ·rw[d i Zo Zo,d j Zo A];exact KeyOrd.kle_refl _
    ·obtain rfl:j=a:=by omega
     by_cases l:i=j
     ·subst l;exact KeyOrd.kle_refl _
     ·rw[d i Zo Zo];exact KeyOrd.kle_of_klt s
  ·rw[NE g];obtain rfl:a=1:=by omega
   refine oI b Zo o (λi j x y=>?_) h;by_cases l:i=j
   ·subst l;exact KeyOrd.kle_refl _
   ·obtain rfl:i=0:=by omega
    obtain rfl:j=1:=by omega
    exact KeyOrd.kle_of_klt s
theorem pI{p:Array Nat}{k:Nat}{Q:Nat->Prop}(a:Prm n p)(j:k<n)(b:Up key p k):∀(f l r:Nat),l<=r->r<=k->r-l<=f->(∀i,i<l->O.kle (kg key p i) (kg key p k))->(∀i,r<=i->i<k->O.klt (kg key p k) (kg key p i)) →
  (∀l,l<=k->(∀i,i<l->O.kle (kg key p i) (kg key p k))->(∀i,l<=i->i<k->O.klt (kg key p k) (kg key p i))->Q l)->Ask (oG key) n (W.kas_place p k f l r) Q
 | 0,l,r,o,c,q,d,e,h=>by
  obtain rfl:l=r:=by omega
  exact h l c d e
 | f+1,l,r,o,c,q,d,e,h=>by
  unfold W.kas_place;by_cases g:l≥r
  ·rw[O8 g];obtain rfl:l=r:=by omega
   exact h l c d e
  ·rw[NE g];refine⟨a.lt j,a.lt Zo,?_⟩;show Ask (oG key) n (if O.blt (kg key p k) (kg key p ((l+r)/2))=true then _ else _) Q
   cases m:O.blt (kg key p k) (kg key p ((l+r)/2)) with
   | true=>
    rw[O8 rfl];exact pI a j b f l _ Zo Zo Zo d (λi x y=>KeyOrd.klt_of_klt_of_kle m (b _ _ x y)) h
   | false=>
    rw[NE Zd];exact pI a j b f _ r Zo c Zo (λi x=>KeyOrd.kle_trans (b i ((l+r)/2) Zo Zo) m) e h
theorem Eh{Q:Array Nat->Prop}:∀(f:Nat)(p:Array Nat)(k:Nat),Prm n p->k+f=n->Up key p k->(∀d,Prm n d->Up key d n->Q d)->Ask (oG key) n (W.kas_bin f p k) Q
 | 0,p,k,b,e,a,h=>h p b (by
  obtain rfl:k=n:=by omega
  exact a)
 | f+1,p,k,b,e,a,h=>by
  refine Ask.bind _ (pI b Zo a k 0 k Zo Zo Zo (λi x=>by omega) (λi x y=>by omega) λl s lo r=>?_);have g:k<p.size:=by rw[b.size];omega
  refine Eh f _ (k+1) (b.bub _ _) Zo (λi j x y=>?_) h;rw[Mp g Zo,Mp g Zo,show k-(k-l)=l by omega];by_cases m:i=l
  ·rw[O8 m];by_cases c:j=l
   ·rw[O8 c];exact KeyOrd.kle_refl _
   ·rw[NE c,O8 Zo];exact KeyOrd.kle_of_klt (r _ Zo Zo)
  ·rw[NE m];by_cases c:j=l
   ·rw[O8 c,NE Zo];exact lo _ Zo
   ·rw[NE c];by_cases o:l<i/\i<=k
    ·rw[O8 o,O8 Zo];exact a _ _ Zo Zo
    ·rw[NE o];by_cases q:l<j/\j<=k
     ·rw[O8 q];exact a _ _ Zo Zo
     ·rw[NE q];exact a _ _ x Zo
def Mq{Q:Array Nat->Prop}(d:1<=n)(h:∀p,Prm n p->Up key p n->Q p):Ask (oG key) n (W.kas_sort n) Q:=by
 refine Ask.bind _ (Hl (p:=(List.range n).toArray) (Array.Perm.refl _) d (bA _) λm p a e m2 b=>?_);dsimp only;by_cases c:m<n
 ·rw[O8 c];rw[show max m 1=m by omega];exact Eh _ p m a Zo b h
 ·rw[NE c];obtain rfl:m=n:=by omega
  exact h p a b
end
abbrev Z:=Addr×Str×Int
def zle(x y:Z):Prop:=x.2.1.cps.toList<=y.2.1.cps.toList
def ZAt(H:Hp)(a:List Z):Prop:=∀z∈a,H z.1=some (.tup [.str z.2.1,.int z.2.2])
def ZAt.same{H H':Hp}{a:List Z}(h:ZAt H a)(s:Same H H'):ZAt H' a:=λz b=>s _ _ (h z b)
def cI(a:List Z):List V:=a.map λz=>V.ref z.1
section
variable {X:Cx}{pins:ZB}{σ:St}{H:Hp}{s:PP}
theorem pJ:∀ {xs:List V}{vs:List Q3} (i:Nat),Vals xs vs->i<xs.length->∀x,xs[i]?=some x->RelV x (vs.getD i Value.none)
 | x::xs,v::vs,0,.cons r b,_,y,a=>by
  cases a;exact r
 | x::xs,v::vs,i+1,.cons r b,c,y,a=>by
  have:=pJ i b (by simpa using c) y (by simpa using a);simpa using this
def zF{c:Type}{f:c->V}{g:c->Q3}:∀ {l:List c},(∀a∈l,RelV (f a) (g a))->Vals (l.map f) (l.map g)
 | [],_=>.nil
 | a::l,h=>.cons (h a fY) (zF λb d=>h b (fR _ d))
def aBQ(K:W.Frag):List V->Hp->VK->Prop:=λvs H Q=>match vs with
 | [.ref a]=>∃b:List Z,SqL K H a (cI b)/\ZAt H b/\(b.map (·.2.1)).Nodup/\b.length<64/\∀l c,H l=none->c.Perm b->c.Pairwise zle->Q (.ref l) (aH H l (.lst (cI c)))
 | _=>False
end
theorem sU:∀ {ks:List Str}{vs:List Q3},vs.length=ks.length->(∀(i:Nat)(v:Q3),vs[i]?=some v->∃x t,ks[i]?=some x/\v=Value.str x t)->StrsAre vs ks
 | [],[],_,_=>.nil
 | k::ks,v::vs,a,h=>by
  obtain⟨x,t,b,rfl⟩:=h 0 v rfl;cases b;exact .cons k t (sU (by simpa using a) λi v c=>by simpa using h (i+1) v (by simpa using c))
section
variable {prog:Program}{w:World}{A:Around}{E:XV}{s:PP}
def zG{d:TD}{c:List Str}{kvs:List (aS×Q3)}{Q:XV}(D:A.handled=none)(lo:(d==sysModules)=false)(hd:s.heap.DictOf (aX prog w) d kvs)(n:kvs.map (·.1)=c.map Sum.inr)(o:c.length<64)(h:∀(a h':Heap)(tk:Nat)(out:Array Value)(e:Nat),(∀b f,s.heap.get? b=some f->a.get? b=some f)->(∀b f,a.get? b=some f->h'.get? b=some f)->h'.get? a.objs.size=some (seqObj "list" out e)->StrsAre out.toList (zE c)->Q (.ref a.objs.size) {s with heap:=h',toks:=tk }) :
  wpAny (model prog w) A (call (.builtin "sorted") [.ref d]) Q E s:=by
 have p:kvs.length=c.length:=by simpa using congrArg length n
 obtain⟨V,F⟩:=hd.dictAt;apply Calls.call_function_entry kind_sorted plain_sorted entry_sorted (args_sorted1 _);unfold Builtin.«sorted»;apply WP (m:=checkCount "sorted" 1 1 _);apply WF;apply WP;refine W.kdu_collect (W.kdl_dict lo) D F (by rw[p];exact fT (le_of_lt o) Zd) λa tk l G q=>?_;have g:StrsAre l.toList c:=sU (by rw[Array.length_toList,q.1,p]) λi v H=>by
  obtain⟨k,x,I,J⟩:=q.2 i v (by simpa using H);have j:(kvs.map (·.1))[i]?=some k:=by rw[dW,I];rfl
  rw[n,dW]at j;cases r:c[i]? with
  | none=>rw[r]at j;cases j
  | some y=>
   rw[r]at j;cases j;rcases bH (show nF (Sum.inr y) v=true from J) with⟨_,_,e,_⟩|⟨z,t,e,K⟩
   ·cases e
   ·cases e;exact⟨_,t,rfl,K⟩
 generalize l.toList=vs at g;have u:vs.length<64:=by rw[g.length];exact o
 apply WP;apply wpAny_newList
 ·have g2:(a.push (seqObj "list" vs.toArray 0)).get? a.objs.size=some (seqObj "list" vs.toArray 0):=TW _ rfl;apply WP;apply wpAny_holding;refine wpAny_call_entry slot_list_sort ⟨_,g2,rfl⟩ entry_list_sort (list_sort_treeK (s:={s with heap:=a.push (seqObj "list" vs.toArray 0),toks:=tk }) strKind_oneLt g2 g.keysOf (λT U rest e=>keyKind_strs (by rw[<- e];exact g)) u λL M N=>⟨_,rfl,WF ⟨_,rfl,?_⟩⟩) (args_list_sort _);obtain⟨X,O,P,R⟩:=sorted_out_str g M N;obtain⟨e,S⟩:=sortedHeap_at (out:=(arrOf L).map (·.2)) g2;refine h a _ _ _ e G (λb f B=>?_) S (aAb P R▸O);have C:=Heap.lt_size B;rw[sortedHeap_old (ne_of_lt C) (by rw[size_push'];exact lt_succ_of_lt C)];exact iD _ B
 ·exact fT (le_of_lt u) Zd
end
section
variable {X:Cx}
def sV:List V->Hp->VK->Prop:=λvs H Q=>match vs with
 | [.ref a]=>∃(b:List Str)(c:List (aS×V)),Rd H a (.dK c)/\c.map (·.1)=b.map Sum.inr/\b.length<64/\∀l,H l=none->Q (.ref l) (aH H l (.lst ((zE b).map V.str)))
 | _=>False
def Hm(f:X.calm=true):CallR X (.builtin "sorted") sV:=by
 intro v s A H x y Q I r h;unfold sV at h;split at h
 ·rename_i a;revert h;refine yE2 λg w=>yA4 λi j b q=>?_;obtain⟨u,rfl,l⟩:=iE r;cases l;obtain⟨_,hd,vs,d,dd⟩:=nZ I.hok i;refine zG (I.ok.hd f) hd dd (by rw[<- d.keys];exact j) b λm z tk out e n k p t=>?_;have c:=I.kept (t':=s.toks) n;refine⟨.ref m.objs.size,_,c.laid (t':=tk) (o:=.lst ((zE g).map V.str)) k (bA _) ⟨?_,out.toList,e,vM t,p⟩,rfl,q _ (c.hok.fresh (bA _))⟩;rw[aR,xJ];exact fT (le_of_lt b) Zd
 ·exact h.elim
def R.ic(a:X.calm=true):XC X (.builtin "sorted") sV:=⟨Hm a⟩
end
def xM:typeLookup (.type "list") "keys"=pure none:=am_miss_of_fast (by kernel_rfl)
def lP:plainId "dict.update.loop"=true:=by decide +kernel
def vO:entryFor table "dict.update.loop"=some Builtin.«dict.update.loop»:=entryFor_of_tree (by kernel_rfl)
section
variable {prog:Program}{w:World}{A:Around}{E:XV}{s:PP}
def Tm{a:TD}{o:Obj}{xs:Array Value}{k:Nat}{Q:Option Q3->PP->Prop}(f:s.heap.get? a=some o)(i:o.cls=.type "list")(j:o.data=.seq xs k)(hd:o.dict=none)(q:A.handled=none)(h:∀h' tk,(∀b l,s.heap.get? b=some l->h'.get? b=some l)->Q none {s with heap:=h',toks:=tk }):wpAny (model prog w) A (getAttr? (.ref a) "keys") Q E s:=by
 obtain⟨c,dct,u,sl⟩:=o;simp only at i j hd;subst i j hd;obtain⟨r,g,d,tk,os⟩:=s;have m:∀n,(⟨r,g,d,n,os⟩:PP).TypeIs (.ref a) "list":=λ_=>⟨_,f,rfl⟩
 have f1:=sub_AttributeError;have v:=F.slot_list_getattribute.lookup;have x:=F.slot_list_getattribute.bind (.ref a);have y:=am_list_getattr_none;have t:=xM;unfold getAttr? getAttrBy? getAttrBy
 repeat (any_goals (first|assumption|exact m _|((with_reducible show wpAny _ _ (call (Value.builtin "list.__getattribute__") _ _) _ _ _);refine call_meets F.slot_list_getattribute (m _) am_entry_list_getattribute (F.args_list_getattribute_2 _ _) (meets_getattribute_miss_list a xs k sl "keys" _ t Zk) ⟨f,q,λh' n e p=>?_⟩)|wp_step))
 refine yE0 p.there (yE2 λz B C=>?_);show wpAny _ _ (getattributeRaised _ _ _ _ _ _ _) _ _ _;unfold getattributeRaised;repeat (any_goals (first|assumption|wp_step))
 exact h _ _ p.keeps
def Wb(h:Heap)(v:Q3)(q:aS×V):Prop:=∃a u x,v=Value.ref a/\IsTup h a #[u,x]/\RelV (kV q.1) u/\RelV q.2 x
def Mr(X:A.handled=none){I l d:TD}{its:List Q3}{qs:List (aS×V)}{R:Result->PP->Prop}{res:Q3}(S:I≠l)(B:I≠d)(Y:l≠d) :
  ∀(k i:Nat)(s:PP)(kvs:List (aS×V))(vs:List (aS×Q3))(z:Int),its.length-i=k->i<=its.length->qs.length=its.length->s.heap.IsListIter I l i->s.heap.IsList l its.toArray->(∀(j:Nat)(v:Q3)(q:aS×V),its[j]?=some v->qs[j]?=some q->Wb s.heap v q) →
  (∀(j:Nat)(v:Q3)(a:TD),its[j]?=some v->v=Value.ref a->a≠I/\a≠d)->s.heap.DictOf (aX prog w) d vs->KV kvs vs->kvs.length+k<=1000 →
  (∀h' tk g,(∀b c,b≠I->b≠d->s.heap.get? b=some c->h'.get? b=some c)->h'.DictOf (aX prog w) d g->KV (aL kvs (qs.drop i)) g->R (.ok (.ret res)) {s with heap:=h',toks:=tk }) →
  codeAny (model prog w) A (.builtin "dict.update.loop" ⟨[.ref d,.ref I,.int z 0,res],[]⟩) R s:=by
 intro k;induction k with
 | zero=>
  intro i s kvs vs z Z hi h y m C p hd f hz D;obtain rfl:i=its.length:=by omega
  refine codeAny_builtin vO ?_;rw[Around.under_plainId lP _];show wpAny _ A.in1 (pyNext (.ref I)>>=_) _ _ s;apply WP;refine wpAny_pyNext_list_end X y m Zs λh' L=>?_;show wpAny _ A.in1 (Builtin.Dict.addKeywords d []>>=_) _ _ _;apply WP;apply WF;apply WF;refine D h' s.toks vs (λb c hb _ e=>L b c hb e) (hd.extBut L B.symm) ?_;rw[<- h,drop_length];exact f
 | succ k ih=>
  intro i s kvs vs z Z hi h y m C p hd f hz D;have M:i<its.length:=by omega
  obtain⟨v,F⟩:∃v,its[i]?=some v:=⟨its[i],by simp[M]⟩;obtain⟨q,G⟩:∃q,qs[i]?=some q:=⟨qs[i],by simp[h,M]⟩;obtain⟨a,u,x,rfl,⟨c,EU,NY,n,U⟩,ru,rx⟩:=C i v q F G;obtain⟨na,nd⟩:=p i _ a F rfl;refine codeAny_builtin vO ?_;rw[Around.under_plainId lP _];show wpAny _ A.in1 (pyNext (.ref I)>>=_) _ _ s;apply WP;refine wpAny_pyNext_list_item y m (x:=.ref a) (by simpa using F) λh' GP H=>?_;have N:h'.get? a=some c:=(H.2 a na).trans EU;have zx:h'.DictOf (aX prog w) d vs:=hd.extBut H.extBut B.symm;apply WP;apply wpAny_holding;apply WP;apply wpAny_tryCatch;unfold Builtin.Dict.pairItems;apply WP;refine wpAny_typeOf (T:="tuple") ⟨c,N,NY⟩ ?_;rw[O8 Zd];apply WP;refine wpAny_seqItems N U ?_;apply WF;show wpAny _ _ (holding [u,x] (dictSet d u x)) _ _ _;apply wpAny_holding;have GN:vs.length<=sizeLine:=by rw[<- f.length];exact fJ Zo
  refine wpAny_dictSet_pairs (s:={s with heap:=h' }) (nY ru) zx (λh2 W O=>?_) GN;apply WF;refine⟨plainId_quiet lP _,?_⟩;have DG:=dY kvs q.1 q.2;have J:∀b o,b≠I->b≠d->s.heap.get? b=some o->h2.get? b=some o:=λb o r t e=>(O.2 b t).trans ((H.2 b r).trans e)
  refine ih (i+1) _ (bQ kvs q.1 q.2) (stored vs q.1 x) _ Zo Zo h ?_ ?_ ?_ p W (f.put q.1 rx) Zo λh3 tk g k3 IS RD=>?_
  ·exact GP.at λo e=>(O.2 I B).trans e
  ·obtain⟨o,e,a0⟩:=m;exact⟨o,J l o S.symm Y e,a0⟩
  ·intro j v q' P vv;obtain⟨K,u',x',rfl,⟨Q,Q6,r'⟩,rr⟩:=C j v q' P vv;obtain⟨n1,n2⟩:=p j _ K P rfl;exact⟨K,u',x',rfl,⟨Q,J K Q n1 n2 Q6,r'⟩,rr⟩
  ·refine D h3 tk g (λb o r t e=>k3 b o r t (J b o r t e)) IS ?_;have e1:qs.drop i=q::qs.drop (i+1):=by
    rw[List.drop_eq_getElem_cons Zo]
    congr 1
    have:qs[i]?=some qs[i]:=fX Zo;rw[this]at G;exact Option.some.inj G
   rw[e1];exact RD
def zH(H:A.handled=none){l:TD}{o:Obj}{n:Nat}{its:List Q3}{qs:List (aS×V)}{Q:XV}(I:s.heap.get? l=some o)(f:o.cls=.type "list")(m:o.data=.seq its.toArray n)(W:o.dict=none)(J:qs.length=its.length)(K:∀(j:Nat)(v:Q3)(q:aS×V),its[j]?=some v->qs[j]?=some q->Wb s.heap v q)(hz:its.length<=1000)(a0:∀h' tk g,(∀b c,s.heap.get? b=some c->h'.get? b=some c)->h'.DictOf (aX prog w) s.heap.objs.size g->KV (aL [] qs) g->Q (.ref s.heap.objs.size) {s with heap:=h',toks:=tk }) :
  wpAny (model prog w) A (call (.type "dict") [.ref l]) Q E s:=by
 refine callType_codes (Q₁:=λD C=>D=.ref s.heap.objs.size/\C={s with heap:=s.heap.push {cls:=.type "dict",data:=.dict #[] } }) F.kt_called_dict (F.kt_typeCall_dict_1 _) F.entry_dict_init (kt_code_dict_new _ ⟨rfl,rfl⟩) ?_;rintro D C ⟨rfl,rfl⟩;have p:(s.heap.push {cls:=.type "dict",data:=.dict #[] }).DictOf (aX prog w) s.heap.objs.size []:=Heap.DictOf.new s.heap;have t:(s.heap.push {cls:=.type "dict",data:=.dict #[] }).get? l=some o:=iD _ I;refine⟨p.typeIs,F.args_dict_init_2 _ _,?_⟩;unfold Builtin.«dict.__init__»;apply WP;unfold Builtin.Dict.selfAndRest;apply WP;refine wpAny_notOrdered_dict p.typeIs ?_;show wpAny _ _ (pure (s.heap.objs.size,[Value.ref l])) _ _ _;apply WF;show wpAny _ _ (Builtin.Dict.updateFrom "dict.__init__" s.heap.objs.size (.ref l) [] .none) _ _ _;unfold Builtin.Dict.updateFrom;apply WP;refine wpAny_typeOf (T:="list") ⟨o,t,f⟩ ?_;rw[O8 Zd];apply WP;refine Tm t f m W H λd tk h=>?_;rw[O8 (show(none:Option Q3).isNone=true from rfl)];apply WP;apply wpAny_rule;have L:d.get? l=some o:=h _ _ t;have U:d.IsList l its.toArray:=⟨o,L,f,n,m⟩;have G:d.DictOf (aX prog w) s.heap.objs.size []:=by
  revert p;refine yE3 λM N O=>yA2 λy r=>?_;exact⟨M,N,O,h _ _ y,r⟩
 have i:s.heap.objs.size<d.objs.size:=by
  revert G;refine yE3 λM N O=>yA2 λy r=>?_;exact Heap.lt_size y
 have P:l<s.heap.objs.size:=Heap.lt_size I;apply WP;refine wpAny_pyIter_list (s:={s with heap:=d,toks:=tk }) U ?_;apply WF;refine⟨plainId_quiet lP _,?_⟩;refine Mr (A:=A.in1) (s:={s with heap:=d.push {cls:=.type "list_iterator",data:=.fields #[.ref l,.int 0 0] },toks:=tk }) (its:=its) (qs:=qs) (l:=l) H (ne_of_gt (lt_trans P i)) (ne_of_gt i) (ne_of_lt P) its.length 0 [] [] 0 rfl (zero_le _) J ⟨_,TW _ rfl,rfl,rfl⟩ ?_ ?_ ?_ (G.push _) .nil (by simpa using hz) ?_
 ·exact⟨o,iD _ L,f,n,m⟩
 ·intro j v q k z;obtain⟨a,u,x,rfl,⟨c,B,r⟩,R⟩:=K j v q k z;exact⟨a,u,x,rfl,⟨c,iD _ (h _ _ (iD _ B)),r⟩,R⟩
 ·intro j v a k e;obtain⟨q,z⟩:∃q,qs[j]?=some q:=by
   have:j<its.length:=(Zgs.mp k).1;exact⟨qs[j],by simp[J,this]⟩
  obtain⟨a',u,x,S,⟨c,B,r⟩,R⟩:=K j v q k z;rw[e]at S;cases S;have:=Heap.lt_size B;exact⟨ne_of_lt (lt_trans this i),ne_of_lt this⟩
 ·intro h' X g Y Z RF;refine⟨rfl,a0 h' X g (λb c e=>?_) Z RF⟩;have:=Heap.lt_size e;exact Y b c (ne_of_lt (lt_trans this i)) (ne_of_lt this) (iD _ (h _ _ (iD _ e)))
end
section
variable {X:Cx}
abbrev W:=Addr×aS×V
def WAt(H:Hp)(a:List W):Prop:=∀z∈a,H z.1=some (.tup [kV z.2.1,z.2.2])
def xN(K:W.Frag):List V->Hp->VK->Prop:=λvs H Q=>match vs with
 | [.ref a]=>∃b:List W,SqL K H a (b.map λz=>V.ref z.1)/\WAt H b/\b.length<=1000/\∀d,H d=none->Q (.ref d) (aH H d (.dK (aL [] (b.map (·.2)))))
 | _=>False
def Ms(m:X.calm=true):CallR X (.type "dict") (xN X.K):=by
 intro P s Z H R S Q I r h;unfold xN at h;split at h
 ·rename_i a;obtain⟨b,p,t,T,q⟩:=h;obtain⟨a0,rfl,u⟩:=iE r;cases u;obtain⟨f,g,w,_⟩:=I.list p;revert w;refine yE2 λo n=>yA4 λx y A hd=>?_;have B:b.length=f.length:=by
   have:=g.length;rw[aR]at this;exact this
  refine zH (I.ok.hd m) x y hd A (qs:=b.map (·.2)) (by rw[aR];exact B) (λj v U C c=>?_) Zo λW tk D k hd l=>?_
  ·rw[dW]at c;cases d:b[j]? with
   | none=>rw[d]at c;cases c
   | some z=>
    rw[d]at c;cases c;have e:=t z (jJ d);obtain⟨_,Y,E,it⟩:=(show ObjOk X.prog X.w H s.heap z.1 (.tup [kV z.2.1,z.2.2]) from I.hok _ _ e);have F:j<b.length:=(Zgs.mp d).1;have i:RelV (V.ref z.1) (f.getD j Value.none):=pJ j g (by rw[aR];exact F) _ (by rw[dW,d];rfl);have G:f.getD j Value.none=v:=by rw[getD_eq_getElem?_getD,C];rfl
    rw[G]at i;cases i
    cases E with
    | cons J K=>
     cases K with
     | cons L M=>
      cases M;exact⟨z.1,_,_,rfl,it,J,L⟩
  ·have N:H s.heap.objs.size=none:=I.hok.fresh (bA _);refine⟨.ref s.heap.objs.size,_,I.laid (t':=tk) (o:=.dK (aL [] (b.map (·.2)))) k (bA _) ⟨?_,?_,D,l,hd⟩,rfl,q _ N⟩
   ·have:=iO (b.map (·.2)) [];rw[aR]at this;exact fJ (by simp at this;omega)
   ·have O:=I.big;exact beq_eq_false_iff_ne.mpr (ne_of_gt O)
 ·exact h.elim
def R.eu{K:W.Frag}(a:X.calm=true)(b:X.K=K:=by rfl):XC X (.type "dict") (xN K):=b▸⟨Ms a⟩
end
def Itd(a:TD)(o:Obj)(kvs:List (aS×V)):It:=
 ⟨λi H=>H a=some (.frz o (.dK kvs))/\i<kvs.length,λi H x b=>b=H/\(kvs.map λq=>kV q.1)[i]?=some x,λi H=>H a=some (.frz o (.dK kvs))/\kvs.length<=i⟩
def Ei(a:TD)(o:Obj)(kvs:List (aS×V)):uH (Itd a o kvs) (kvs.map λq=>kV q.1) (λH=>H a=some (.frz o (.dK kvs))):=
 ⟨λi H b e=>⟨e,by rwa [aR]at b⟩,λi H x c _ _ y=>y,λH e=>⟨e,by rw[aR];exact bA _⟩⟩
section
variable {X:Cx}{pins:ZB}{σ:St}{H:Hp}{s:PP}{a:TD}{o:Obj}{kvs:List (aS×V)}
def Bw{P:Program}{w:World}{h:Heap}(ok:HOk P w H h)(e:H a=some (.frz o (.dK kvs))):h.get? a=some o/\(a==sysModules)=false/\∃vs b,KV kvs vs/\(∃es,o.data=.dict es b)/\h.DictAt (aX P w) a vs b:=by
 obtain⟨c,z,hd,vs,f,dd⟩:=(show ObjOk P w H h a (.frz o (.dK kvs)) from ok a _ e);obtain⟨b,d⟩:=dd.dictAt;refine yE0 (id d) (yE2 λj es=>yA4 λg k i l=>?_);rw[c]at g;cases g;exact⟨c,hd,vs,b,f,⟨es,i⟩,d⟩
def Mt{P:Program}{w:World}{K:W.Frag}{S:Expr}(a it:TD){p:Nat}(N:∃es,o.data=.dict es p):rW P w K S (Itd a o kvs) [it] it (λi h=>h.IsKeyIter it a i kvs.length p) where
 mem:=by simp
 obj:=λi h st b f=>by
  obtain rfl:b=it:=by simpa using f
  obtain⟨g,e,c,d⟩:=st;exact⟨g,e,λv z=>by rw[d]at z;cases z⟩
 keep:=λi h q st k=>st.at λg e=>k it Zs g e
 item:=by
  intro X y A B O i pins s σ H a0 I r st C;subst y A B;obtain⟨D,T⟩:=C;refine yE0 (Bw I.hok D) (yA3 λU lo=>yE2 λvs E=>yA3 λn ζ dd=>?_);obtain⟨V,l⟩:=ζ;obtain⟨es,F⟩:=N;obtain rfl:E=p:=by
   rw[F]at l;cases l;rfl
  have u:=n.length;obtain⟨⟨k,a2⟩,Q⟩:∃a1,vs[i]?=some a1:=⟨vs[i],fX Zo⟩;have m:(kvs.map (·.1))[i]?=some k:=by rw[n.keys,dW,Q];rfl
  refine yE0 (r it Zs) (yA6 λG f1 f2 J L M=>?_);rw[u]at st;refine wpAny_pyNext_dict_item st dd Q λx q Y R Z=>?_
  have I1:Inv X pins σ H {s with heap:=q }:=I.turned (t':=s.toks) (λb g f e=>(Z.2 b f).trans e) G f1 J L M;obtain⟨g,e,c,d⟩:=id R;have rk:RelV (kV k) x:=by
   rcases bH (show nF k x=true from Y) with⟨j,t,rfl,rfl⟩|⟨z,t,rfl,rfl⟩
   ·exact⟨t,rfl⟩
   ·exact⟨t,rfl⟩
  refine⟨x,rfl,qJ (s:={s with heap:=q }) e c d Zd ⟨kV k,H,I1,rk,⟨rfl,?_⟩,by rw[u];exact R,λb f=>(r b f).1⟩⟩;rw[dW]at m ⊢;cases z:kvs[i]? with
  | none=>rw[z]at m;cases m
  | some a3=>rw[z]at m;cases m;rfl
 done:=by
  intro X y A B O i pins s σ H a0 I r st C;subst y A B;obtain⟨D,T⟩:=C;obtain⟨U,lo,vs,E,n,⟨V,l⟩,dd⟩:=Bw I.hok D;obtain⟨es,F⟩:=N;obtain rfl:E=p:=by
   rw[F]at l;cases l;rfl
  have u:=n.length;rw[u]at st;refine yE0 (r it Zs) (yA6 λG f1 f2 J L M=>?_);exact wpAny_pyNext_dict_end (I.ok.hd O) st dd (List.getElem?_eq_none Zo) λq eb=>⟨rfl,I.turned (t':=s.toks) (λb g f e=>eb b g f e) G f1 J L M⟩
 self:=λ_ _ _ _ _ st h=>wpAny_pyIter_keyiter st h
def Inv.freeze(I:Inv X pins σ H s)(e:H a=some (.dK kvs)):∃c,s.heap.get? a=some c/\Inv X pins σ (aH H a (.frz c (.dK kvs))) s:=by
 obtain⟨z,hd,vs,d,dd⟩:=Dr I.hok e;refine yE0 (id dd) (yE3 λc f h=>yA2 λg r=>?_);refine⟨c,g,?_⟩;have:=I.write (t':=s.toks) (h':=s.heap) (x:=a) (e:=a) (o:=.frz c (.dK kvs)) (by rw[e];exact True.intro) (.inl rfl) (λb u _ q=>q) ⟨c,g⟩ ⟨g,z,hd,vs,d,dd⟩;exact this
def Inv.thaw(I:Inv X pins σ H s)(e:H a=some (.frz o (.dK kvs)))(k:∀o' u,X.H₀ a≠some (.frz o' u)):Inv X pins σ (aH H a (.dK kvs)) s where
 ok:=I.ok
 os:=I.os
 bare:=I.bare
 base:=by
  have l:∀b,H b=none->b≠a:=λb z q=>by rw[q,e]at z;cases z
  refine⟨I.base.keep,I.base.slot,λb f q n m=>?_,I.base.there,λb i q=>?_,λb f u q=>?_,λb ps q=>?_⟩
  ·have:=I.base.free b f q n m;rw[aB (l b this)];exact this
  ·have:=I.base.tups b i q;rw[aB (aK this e nofun)];exact this
  ·have:=I.base.frzs b f u q;by_cases d:b=a
   ·subst d;exact IN q (k f u)
   ·rw[aB d];exact this
  ·obtain⟨more,j⟩:=I.base.tbls b ps q;exact⟨more,by rw[aB (aK j e nofun)];exact j⟩
 loc:=I.loc
 cell:=I.cell
 free:=by
  have z:=I.free;rw[aB (λq=>by rw[q,e]at z;cases z)];exact z
 freeC:=λx c h=>by
  have z:=I.freeC x c h;rw[aB (λq=>by rw[q,e]at z;cases z)];exact z
 pin:=λp r=>by
  obtain⟨t,g,w⟩:=I.pin p r;refine⟨t,?_,w⟩;rw[aB (λq=>by rw[q,e]at g;cases g)];exact g
 hok:=by
  intro b u d;by_cases q:b=a
  ·subst q;rw[aA]at d;cases d;exact(show ObjOk X.prog X.w H s.heap b (.frz o (.dK kvs)) from I.hok b _ e).2
  ·rw[aB q]at d;refine(I.hok b u d).stay (λc v _ h=>h) (λc h=>?_) λc i h=>?_
   ·rw[aB (aK h e nofun)];exact h
   ·rw[aB (aK h e nofun)];exact h
 len:=I.len
def aBR(c:TE):TI:=λσ H R=>c σ H λx b=>mR x λa=>∃kvs,b a=some (.dK kvs)/\∀o,R (Itd a o kvs) (aH b a (.frz o (.dK kvs)))
def aAc{m l:Expr}{i:TE}(n:PE X l i):PI X m l (aBR i):=by
 intro pins s σ H R I h;refine bN (n pins s σ H _ I h) ?_;refine λv c=>yE2 λx p=>yA3 λr t f=>?_
 (try dsimp only at f);rw[cN]at f;obtain⟨a,rfl,kvs,e,q⟩:=f;cases t;obtain⟨j,g,d⟩:=r.freeze e;refine yE0 (Bw d.hok (aA (a:=a))) (yA3 λz lo=>yE2 λvs A=>yA3 λk u dd=>?_);have w:(aH p a (.frz j (.dK kvs))) c.heap.objs.size=none:=d.hok.fresh (bA _);refine wpAny_pyIter_dict lo dd ?_;refine⟨c.heap.objs.size,[c.heap.objs.size],_,_,_,rfl,d.kept (t':=c.toks) λb o e=>iD _ e,Mt a _ u,⟨_,TW _ rfl,rfl,?_⟩,λb y=>?_,q j⟩
 ·rw[k.length];rfl
 ·obtain rfl:b=c.heap.objs.size:=by simpa using y
  exact d.fpOk (bA _) w
def Wc(t:TE):TE:=λσ H Q=>t σ H λv b=>∃a kvs o,(∃c,H a=some (.dK c))/\b a=some (.frz o (.dK kvs))/\Q v (aH b a (.dK kvs))
def To{e:Expr}{t:TE}(b:PE X e t):PE X e (Wc t):=by
 intro pins s σ H Q I h;refine bN (b pins s σ H _ I h) λu k ⟨v,l,c,d,a,kvs,o,⟨m,f⟩,g,q⟩=>⟨v,_,c.thaw g (λi j z=>?_),d,q⟩
 have:=I.base.frzs a i j z;rw[f]at this;cases this
end
def aBS(K:W.Frag)(c:TE)(f:Str):TE:=λe H Q=>c e H λx b=>mR x λa=>∃C d fs v,b a=some (.ins C d fs)/\Cls K C/\NoAttr K C f/\fs.lookup f=some v/\Q v b
def Wd(K:W.Frag)(e g:TE)(f:Str):TS:=λD b H=>g b H λy h=>e b h λx c=>mR x λa=>∃C d fs,c a=some (.ins C d fs)/\Cls K C/\NoAttr K C f/\fs.length<1000/\D.nx b (aH c a (.ins C d (bK f y fs)))
section
variable {X:Cx}{e o value:Expr}{f:Str}{pos pos':Pos}{te ta tv:TE}{K:W.Frag}
def Tp(g:PE X e te)(i:attributeBase e f X.env (eval e X.env)=eval e X.env):PE X (.Attribute e f pos) (aBS X.K te f):=by
 intro d s w H Q I h;refine Sc i (bN (g d s w H _ I h) ?_);refine λu y=>yE2 λx j=>yA3 λk m b=>?_;(try dsimp only at b);rw[cN]at b;revert b;refine yE1 λa=>yA2 λζ=>yE4 λC z fs v=>yA5 λp c n l q=>?_;subst ζ;obtain rfl:u=Value.ref a:=m;exact Bb k p c n l λA B r t=>⟨v,j,r,t,q⟩
def Tq(i:PE X o ta)(j:PE X value tv)(hs:swapsWith value (some (.Attribute o f pos')) pos.line X.env=pure false):PS X (.Assign [.Attribute o f pos'] value pos) (Wd X.K ta tv f):=by
 intro g s d H D I h;refine plainObj_wpAny_Assign_Attribute (bN (j g s d H _ I h) λu k ⟨y,m,p,r,q⟩=>bN (i g k d m _ p q) ?_) hs;refine λt E=>yE2 λx F=>yA3 λv w b=>?_;(try dsimp only at b);rw[cN]at b;revert b;refine yE1 λa=>yA2 λζ=>yE3 λC G fs=>yA5 λz c n l A=>?_;subst ζ;obtain rfl:t=Value.ref a:=w;exact Bc v z c n l r λJ B=>⟨d,_,B,A⟩
end
structure cC(P:Program)(w:World)(K:W.Frag)(mg:W1)(base:Heap)(n:Nat)(C:TD)(m:Str)(ps:List Str)(sp:Sp):Prop where
 ex:∃f fd,Cls K C/\Kh K C m f/\FnOk P w K mg base sC n f fd ps sp/\Binds K fd ps []
structure Mkr(P:Program)(w:World)(K:W.Frag)(mg:W1)(base:Heap)(n:Nat)(x:Str)(C:TD)(ps:List Str)(dvs:List V)(sp:Sp):Prop where
 ex:∃f fd ds,mg x=some (.ref C)/\Mk K C f/\FnOk P w K mg base sC n f fd ps sp/\Binds K fd ps ds/\Vals dvs ds
def Ej(C:TD)(m:Str)(sp:Sp)(d:TE)(t:TA):TE:=λc H Q=>d c H λx b=>mR x λa=>∃e fs,b a=some (.ins C e fs)/\fs.lookup m=none/\t c b λvs f=>sp (.ref a::vs) f Q E0
section
variable {X:Cx}{e o:Expr}{es:List Expr}{m x:Str}{p pos apos:Pos}{ta:TE}{t:TA}{C:TD}{n:Nat}{ps:List Str}{sp:Sp}{dvs:List V}
def Mu{pl:Sem Bool}(w:PE X o ta)(c:cC X.prog X.w X.K X.mg X.base n C m ps sp)(y:Room n X.A)(z:PA X (e::es) t)(hs:aQ e=true)(A:(backTo pos (starEach es X.env)).any (·.1)=false)(B:eval (.Call (.Attribute o m apos) (e::es) [] pos) X.env=(do
   let g←eval o X.env
   standAt apos.atName
   let (f,first)←holding [g] (getMethod g m pl)
   callWith pos f first (backTo pos (starEach (e::es) X.env)) (backToKw pos (keywordEach [] X.env)))) :
  PE X (.Call (.Attribute o m apos) (e::es) [] pos) (Ej C m sp ta t):=by
 refine yE0 c.ex (yE2 λf N=>yA4 λD i F E=>?_);intro d s v H Q I h;refine W.methodCall_KW (pl:=pl) (bN (w d s v H _ I h) ?_) B;refine λu G=>yE2 λx J=>yA3 λj K b=>?_;(try dsimp only at b);rw[cN]at b;obtain⟨a,rfl,O,fs,L,l,q⟩:=b;obtain rfl:u=Value.ref a:=K;refine mL j L D i l ?_;refine W.callWith_K (first:=[.ref a]) (h₀:=X.base) I.ok.mod.kin i.kp (bN (z pos d G v J _ j q) λus P ⟨vs,R,k,r,M⟩=>⟨k.kIn,?_⟩) (bO hs) A;exact wR (us:=.ref a::us) (vs:=.ref a::vs) (dvs:=[]) (ds:=[]) F y E .nil vG k (.cons rfl r) (by rw[append_nil];exact M)
def Hn{pl:Sem Bool}(k:PE X o ta)(c:cC X.prog X.w X.K X.mg X.base n C m ps sp)(r:Room n X.A)(v:eval (.Call (.Attribute o m apos) [] [] pos) X.env=(do
   let g←eval o X.env
   standAt apos.atName
   let (f,first)←holding [g] (getMethod g m pl)
   callWith pos f first (backTo pos (starEach [] X.env)) (backToKw pos (keywordEach [] X.env)))) :
  PE X (.Call (.Attribute o m apos) [] [] pos) (Ej C m sp ta yP):=by
 refine yE0 c.ex (yE2 λf D=>yA4 λw i F y=>?_);intro j s B H Q I h;refine W.methodCall_KW (pl:=pl) (bN (k j s B H _ I h) ?_) v;refine λu E=>yE2 λx G=>yA3 λb z d=>?_;(try dsimp only at d);rw[cN]at d;obtain⟨a,rfl,J,fs,A,l,q⟩:=d;obtain rfl:u=Value.ref a:=z;refine mL b A w i l ?_;exact W.callWith_K0 (first:=[.ref a]) b.kIn i.kp (wR (us:=[.ref a]) (vs:=[.ref a]) (dvs:=[]) (ds:=[]) F r y .nil vG b (.cons rfl .nil) (by rw[append_nil];exact q))
end
structure FunD(K:W.Frag)(x qual:Str)(st:Stmt)(dv:Q3)(f:TD)(fd:FuncData):Prop where
 ex:∃(oc:Q3)(od:Option TD)(kV doc pm:Q3)(an:Option TD)(cdv ct:Q3)(osl:Array (Option Q3)),
  fd=W.fnOf x qual (bJ st) (aT st) (aD st) dv kV doc pm an cdv ct/\K.lookup f=some ⟨oc,od,.func fd,osl⟩/\W.codeIn K cdv qual=true
section
variable {P:Program}{w:World}{K:W.Frag}{mg:W1}{base:Heap}{x qual:Str}{st:Stmt}{dv:Q3}{f C:TD}{fd:FuncData}{N ps:List Str}{k:Nat}{sp:Sp}
def FunD.go(F:FunD K x qual st dv f fd)(S:aI N ps (aD st))(len:∀vs H Q E,sp vs H Q E->vs.length=ps.length)(c:∀(a:Q3)(A:Around)(b:List Env)(s:PP)(H:Hp)(vs:List V)(Q:VK)(E:XK),Room k (A.deeper (envOfC qual (aD st) s.heap.objs.size f a))->sp vs H Q E →
   ∃t,XB (mM sC P w K mg base N qual (aD st) f a A b s H E).nox (aT st) t/\t {nx:=λ_ H'=>Q .non H',rt:=Q } (start N vs) H):FnOk P w K mg base sC (k+1) f fd ps sp:=by
 refine yE0 F.ex (yE9 λl m kV i n o a p j=>yA3 λζ lk d=>?_);subst ζ;refine Vt lk d S len λA b s H vs Q E e g=>?_;obtain⟨t,h,q⟩:=c a A b s H vs Q E e g;exact⟨t,h.h.nox,q⟩
structure MethAt(K:W.Frag)(C:TD)(m qual:Str)(st:Stmt)(ps:List Str):Prop where
 cl:Cls K C
 ex:∃f fd,Fun K m qual st f fd/\Kh K C m f/\Binds K fd ps []
def MethAt.gg{m:Str}(D:MethAt K C m qual st ps)(S:aI N ps (aD st))(c:∀(f:TD)(a:Q3)(A:Around)(b:List Env)(s:PP)(H:Hp)(vs:List V)(Q:VK)(E:XK),Room k (A.deeper (envOfC qual (aD st) s.heap.objs.size f a))->sp vs H Q E →
   ∃t,XB (mM sC P w K mg base N qual (aD st) f a A b s H E).nox (aT st) t/\t {nx:=λ_ H'=>Q .non H',rt:=Q } (start N vs) H)(len:∀vs H Q E,sp vs H Q E->vs.length=ps.length:=by intro vs H Q E h;repeat (first | (obtain⟨rfl,_⟩:=h;rfl) | obtain⟨_,h⟩:=h)):cC P w K mg base (k+1) C m ps sp:=by
 obtain⟨f,fd,F,d,e⟩:=D.ex;exact⟨f,fd,D.cl,d,F.go S len (c f),e⟩
structure ClsAt(K:W.Frag)(mg:W1)(x:Str)(C:TD)(qual:Str)(st:Stmt)(ps:List Str)(dvs:List (List V)):Prop where
 ex:∃f fd dv,mg x=some (.ref C)/\FunD K "__init__" qual st dv f fd/\Mk K C f/\∀d∈dvs,∃ds,Binds K fd ps ds/\Vals d ds
def ClsAt.gg{dvs:List (List V)}(D:ClsAt K mg x C qual st ps dvs)(S:aI N ps (aD st))(g:∀(f:TD)(a:Q3)(A:Around)(c:List Env)(s:PP)(H:Hp)(vs:List V)(Q:VK)(E:XK),Room k (A.deeper (envOfC qual (aD st) s.heap.objs.size f a))->sp vs H Q E →
   ∃t,XB (mM sC P w K mg base N qual (aD st) f a A c s H E).nox (aT st) t/\t {nx:=λ_ H'=>Q .non H',rt:=Q } (start N vs) H)(len:∀vs H Q E,sp vs H Q E->vs.length=ps.length:=by intro vs H Q E h;repeat (first | (obtain⟨rfl,_⟩:=h;rfl) | obtain⟨_,h⟩:=h)):∀d∈dvs,Mkr P w K mg base (k+1) x C ps d sp:=by
 intro d hd;refine yE0 D.ex (yE3 λf fd dv=>yA4 λe F M i=>?_);obtain⟨j,b,v⟩:=i d hd;exact⟨f,fd,j,e,M,F.go S len (g f),b,v⟩
end
namespace R
section
variable {X:Cx}{e o i value:Expr}{es:List Expr}{m x f:Str}{p pos pos' apos:Pos}{te ta tv td ty:TE}{t:TA}{C:TD}{n:Nat}{ps:List Str}{sp:Sp}{dvs:List V}{K:W.Frag}{tg:Expr}
def wD(a:XE X e te):XI X tg e (aBR te):=⟨aAc a.h⟩
def jy(a:XE X e te):XE X e (Wc te):=⟨To a.h⟩
def ag(a:XE X e te)(b:X.K=K:=by rfl)(c:attributeBase e f X.env (eval e X.env)=eval e X.env:=by rfl):XE X (.Attribute e f pos) (aBS K te f):=b▸⟨Tp a.h c⟩
def ax(a:XE X o ta)(b:XE X value tv)(c:X.K=K:=by rfl)(hs:swapsWith value (some (.Attribute o f pos')) pos.line X.env=pure false:=by rfl):XS X (.Assign [.Attribute o f pos'] value pos) (Wd K ta tv f):=c▸⟨Tq a.h b.h hs⟩
def bj(a:X.A.units+1<cLine)(b:XE X o td)(c:XE X i ty)(hs:Yo i:=by exact λ_ _=>rfl):XE X (.Subscript o i pos) (Vx td ty):=⟨Sm a b.h c.h hs⟩
def aw{pl:Sem Bool}{a:Nat}(c:cC X.prog X.w X.K X.mg X.base n C m ps sp)(d:Room a X.A)(g:XE X o ta)(h:XA X (e::es) t)(hs:aQ e=true:=by rfl)(j:es.all aQ=true:=by rfl)(k:eval (.Call (.Attribute o m apos) (e::es) [] pos) X.env=(do
   let b←eval o X.env
   standAt apos.atName
   let (f,first)←holding [b] (getMethod b m pl)
   callWith pos f first (backTo pos (starEach (e::es) X.env)) (backToKw pos (keywordEach [] X.env))):=by rfl)(l:n<=a:=by decide):XE X (.Call (.Attribute o m apos) (e::es) [] pos) (Ej C m sp ta t):=⟨Mu g.h c (d.mono l) h.h hs (fK j) k⟩
def bf{pl:Sem Bool}{a:Nat}(c:cC X.prog X.w X.K X.mg X.base n C m ps sp)(d:Room a X.A)(g:XE X o ta)(h:eval (.Call (.Attribute o m apos) [] [] pos) X.env=(do
   let b←eval o X.env
   standAt apos.atName
   let (f,first)←holding [b] (getMethod b m pl)
   callWith pos f first (backTo pos (starEach [] X.env)) (backToKw pos (keywordEach [] X.env))):=by rfl)(j:n<=a:=by decide):XE X (.Call (.Attribute o m apos) [] [] pos) (Ej C m sp ta yP):=⟨Hn g.h c (d.mono j) h⟩
def cu{a:Nat}(c:Mkr X.prog X.w X.K X.mg X.base n x C ps [] sp)(b:Room a X.A)(d:Gl X x)(g:XA X (e::es) t)(h:(x==("__debug__":Str))=false:=by decide)(hs:aQ e=true:=by rfl)(j:es.all aQ=true:=by rfl)(k:n+1<=a:=by decide) :
  XE X (.Call (.Name x p) (e::es) [] pos) (Dl C sp [] E0 t):=by
 refine yE0 c.ex (yE3 λf r s=>yA5 λl M F q hd=>?_);exact⟨Se M F (b.mono k) d l q hd vG g.h h (bO hs) (fK j)⟩
def jh{a:Nat}(c:Mkr X.prog X.w X.K X.mg X.base n x C ps dvs sp)(b:Room a X.A)(d:Gl X x)(g:(x==("__debug__":Str))=false:=by decide)(h:n+1<=a:=by decide) :
  XE X (.Call (.Name x p) [] [] pos) (Dl C sp dvs E0 yP):=by
 refine yE0 c.ex (yE3 λf l q=>yA5 λj M F k hd=>?_);exact⟨Kj M F (b.mono h) d j k hd vG g⟩
end
end R
def kJ(prs:List (Str×Int)):List (aS×V):=prs.map λq=>(Sum.inr q.1,V.int q.2)
def cA(prs:List (Str×Int))(n:Str):Int:=(prs.lookup n).getD 0
def sW(prs:List (Str×Int)):(kJ prs).map (·.1)=(prs.map (·.1)).map Sum.inr:=by
 unfold kJ;rw[map_map,map_map];rfl
theorem rH(n:Str):∀(prs:List (Str×Int)),aY (kJ prs) (Sum.inr n)=(prs.lookup n).map V.int
 | []=>rfl
 | q::r=>by
  unfold kJ;rw[map_cons,lookup_cons];by_cases h:n=q.1
  ·subst h;rw[bY rfl];simp
  ·have a:(n==q.1)=false:=beq_eq_false_iff_ne.mpr h;rw[bZ (by intro z;exact h (Sum.inr.inj z).symm),a];exact rH n r
def rJ(prs:List (Str×Int))(n:Str):(aY (kJ prs) (Sum.inr n)).getD (V.int 0)=V.int (cA prs n):=by
 rw[rH];unfold cA;cases prs.lookup n<;>rfl
theorem pK:∀(more kvs:List (aS×V)),(more.map (·.1)).Nodup->(∀k∈more.map (·.1),aY kvs k=none)->aL kvs more=kvs++more
 | [],kvs,_,_=>(append_nil _).symm
 | p::r,kvs,b,h=>by
  obtain⟨c,d⟩:=nodup_cons.mp b;show aL (bQ kvs p.1 p.2) r=_;have e:aY kvs p.1=none:=h p.1 Zs;rw[pK r _ d λk a=>?_,iY _ e]
  ·simp
  ·rw[iX,NE (λ(z:k=p.1)=>c (by dsimp only;rw[<- z];exact a))];exact h k (fR _ a)
def vP:∀ {l:List Str},l.Nodup->(l.map (Sum.inr:Str->aS)).Nodup
 | [],_=>nodup_nil
 | a::l,h=>by
  obtain⟨c,d⟩:=nodup_cons.mp h;refine nodup_cons.mpr ⟨λz=>?_,vP d⟩;obtain⟨b,f,e⟩:=Zmm.mp z;cases e;exact c f
def vQ{prs:List (Str×Int)}(h:(prs.map (·.1)).Nodup):aL [] (kJ prs)=kJ prs:=by
 rw[pK _ _ (by rw[sW];exact vP h) λ_ _=>rfl];rfl
theorem sX{n:Str}{a:Int}:∀ {prs:List (Str×Int)},(prs.map (·.1)).Nodup->(n,a)∈prs->prs.lookup n=some a
 | [],_,h=>nomatch h
 | q::r,b,h=>by
  obtain⟨c,d⟩:=nodup_cons.mp b;rw[lookup_cons];rcases mem_cons.mp h with e|h
  ·subst e;simp
  ·have f:(n==q.1)=false:=beq_eq_false_iff_ne.mpr λ(z:n=q.1)=>c (by dsimp only;rw[<- z];exact Zmm.mpr ⟨(n,a),h,rfl⟩)
   rw[f];exact sX d h
def Tr{n:Str}{a:Int}{prs:List (Str×Int)}(b:(prs.map (·.1)).Nodup)(h:(n,a)∈prs):cA prs n=a:=by
 unfold cA;rw[sX b h];rfl
def Bx(prs:List (Str×Int)):List (Str×Int):=((zE (prs.map (·.1))).filter λn=>decide (0<cA prs n)).map λn=>(n,cA prs n)
theorem mQ{n:Str}:∀ {prs:List (Str×Int)},n∈prs.map (·.1)->∃a,prs.lookup n=some a
 | q::r,h=>by
  rw[lookup_cons];by_cases e:n=q.1
  ·subst e;exact⟨q.2,Zs⟩
  ·have b:(n==q.1)=false:=beq_eq_false_iff_ne.mpr e;rw[b];rcases mem_cons.mp h with z|z
   ·exact IN z e
   ·exact mQ z
structure We(K:W.Frag)(C:TD):Prop where
 cl:Cls K C
 nA:NoAttr K C "amounts"
structure BookAt(C:TD)(H:Hp)(p:TD)(prs:List (Str×Int)):Prop where
 ex:∃dx d,H p=some (.ins C dx [("amounts",.ref d)])/\H d=some (.dK (kJ prs))
 nd:(prs.map (·.1)).Nodup
def BookAt.same{C:TD}{H H':Hp}{p:TD}{prs:List (Str×Int)}(B:BookAt C H p prs)(s:Same H H'):BookAt C H' p prs:=by
 obtain⟨a,d,b,c⟩:=B.ex;exact⟨⟨a,d,s _ _ b,s _ _ c⟩,B.nd⟩
def aAd(H:Hp)(r:V)(prs:List (Str×Int)):Prop:=(r=.non/\prs=[])∨∃l a,r=.ref l/\H l=some (.lst (cI a))/\ZAt H a/\a.map (·.2)=prs
def hU(C:TD):Sp:=λvs H Q _=>∃(p:TD)(n:Str)(a:List (Str×Int)),vs=[.ref p,.str n]/\BookAt C H p a/\Q (.int (cA a n)) H
def zI(C:TD):Sp:=λvs H Q _=>∃(p:TD)(b:List (Str×Int)),vs=[.ref p]/\BookAt C H p b/\b.length<64 ∧
 ∀(l:TD)(c:List Z)(a:Hp),Same H a->H l=none->a l=some (.lst (cI c))->ZAt a c->c.map (·.2)=Bx b->Q (.ref l) a
def wz(a:List Z):List W:=a.map λz=>(z.1,Sum.inr z.2.1,V.int z.2.2)
def aAe(a:List Z):((wz a).map λz=>V.ref z.1)=cI a:=by
 unfold wz cI;rw[map_map];rfl
def aBT{H:Hp}{a:List Z}(h:ZAt H a):WAt H (wz a):=λz b=>by
 obtain⟨y,c,rfl⟩:=Zmm.mp b;exact h y c
def aAf(a:List Z):(wz a).map (·.2)=kJ (a.map (·.2)):=by
 unfold wz kJ;rw[map_map,map_map];rfl
def aCO(y:V):bK "amounts" y []=[(("amounts":Str),y)]:=rfl
def aCP(x y:V):bK "amounts" y [(("amounts":Str),x)]=[(("amounts":Str),y)]:=by
 unfold bK;rw[O8 rfl]
def fN(y:V):([(("amounts":Str),y)]:List (Str×V)).lookup ("amounts":Str)=some y:=by
 rw[lookup_cons];simp
def pL{m:Str}(y:V)(h:(m==("amounts":Str))=false):([(("amounts":Str),y)]:List (Str×V)).lookup m=none:=by
 rw[lookup_cons,h];rfl
inductive DW(one other nm:Str)(n:Int):Str->List V->List (Str×Int)->List (Str×List V)->Prop
 | add:DW one other nm n "add" [.str "add",.str nm,.int n] [(nm,n)] []
 | take:DW one other nm n "take" [.str "take",.str nm,.int n] [(nm,-n)] []
 | move:DW one other nm n "move" [.str "move",.str one,.str other,.int n] [(one,-n),(other,n)] []
 | send:DW one other nm n "send" [.str "send",.str one,.str nm,.int n] [(nm,-n)] [(one,[.str "add",.str nm,.int n])]
 | fetch:DW one other nm n "fetch" [.str "fetch",.str one,.str nm,.int n] [(nm,n)] [(one,[.str "take",.str nm,.int n])]
 | pass:DW one other nm n "pass" [.str "pass",.str one,.str other,.str nm,.int n] [] [(one,[.str "take",.str nm,.int n]),(other,[.str "add",.str nm,.int n])]
structure DWX(wd:Str)(xs:List V)(cs:List (Str×Int))(as:List (Str×List V)):Prop where
 ex:∃one other nm n,DW one other nm n wd xs cs as
def aBV(H:Hp)(q:Str×List V)(v:V):Prop:=∃a d,v=.ref a/\H a=some (.tup [.str q.1,.ref d])/\H d=some (.tup q.2)
def pM:Sp:=λvs H Q _=>∃p wd c d e,vs=[.ref p]/\H p=some (.tup c)/\DWX wd c d e/\∀t b a,Same H a->a t=some (.tup (cI b))->ZAt a b->b.map (·.2)=d->Q (.ref t) a
def By:Sp:=λvs H Q _=>∃p wd b e c,vs=[.ref p]/\H p=some (.tup b)/\DWX wd b e c/\∀t d a,Same H a->a t=some (.tup d)->Paired (aBV a) c d->Q (.ref t) a
abbrev tS(z:Str):TV:=.sc (.str z)
abbrev tI(n:Int):TV:=.sc (.int n)
def isT(f:Str->Int)(a:List (Str×Int)):List V:=.str "is"::a.map λq=>V.int (f q.1+q.2)
def vR(C:TD):Sp:=λvs H Q _=>∃b p wd d e f c,vs=[.ref b,.ref p]/\BookAt C H b c/\H p=some (.tup d)/\DWX wd d e f/\∀t a,Same H a->a t=some (.tup (isT (cA c) e))->Q (.ref t) a
def jN(f:Str->Int)(a:TV):List (Str×Int)->TV
 | []=>a
 | q::r=>if q.2<0/\f q.1+q.2<0 then .tp [tS "short",tI (f q.1)] else if 0<q.2/\1000000000000<f q.1+q.2 then .tp [tS "full",tI (f q.1)] else jN f a r
def zJ(f:Str->Int)(a:TV)(q:Str×Int)(r:List (Str×Int)):jN f a (q::r)=if q.2<0/\f q.1+q.2<0 then .tp [tS "short",tI (f q.1)] else if 0<q.2/\1000000000000<f q.1+q.2 then .tp [tS "full",tI (f q.1)] else jN f a r:=rfl
def oJ(f:Str->Int)(a:List (Str×Int))(b:List (Str×List V)):TV:=if b=[] then .tp ((isT f a).map .sc) else .sc .non
def Ek(C:TD):Sp:=λvs H Q _=>∃b p wd e c f a,vs=[.ref b,.ref p]/\BookAt C H b a/\H p=some (.tup e)/\DWX wd e c f/\∀v d,Same H d->RepT d 1 (jN (cA a) (oJ (cA a) c f) c) v->Q v d
theorem El{H:Hp}{n:Nat}:∀ {xs:List V},(∀y∈xs,mP y=true)->Paired (RepT H n) (xs.map TV.sc) xs
 | [],_=>.nil
 | y::r,h=>.cons (RepT.scal (h y fY)) (El λz m=>h z (fR _ m))
def aAg(f:Str->Int)(a:List (Str×Int)):∀y∈isT f a,mP y=true:=λy b=>by
 rcases mem_cons.mp b with rfl|h
 ·rfl
 ·obtain⟨q,_,rfl⟩:=Zmm.mp h;rfl
section
variable {X:Cx}{pins:ZB}{σ:List (Option V)}{H:Hp}{s:PP}{h':Heap}
def Inv.turnLaid{t':Nat}{ch:List TD}{a:TD}{o:HO}(I:Inv X pins σ H s)(g:∀b∈ch,oZ X pins H b)(k:∀b u,b∉ch->s.heap.get? b=some u->h'.get? b=some u)(i:s.heap.objs.size<=a)(new:ObjOk X.prog X.w (aH H a o) h' a o) :
  Inv X pins σ (aH H a o) {s with heap:=h',toks:=t' }:=by
 have h:=I.hok.fresh i;have j:∀b u,H b=some u->b∉ch:=λb u e z=>by rw[(g b z).1]at e;cases e
 refine I.step (g':=s.gens) (d':=s.drawn) (ch:=ch) (λb d=>⟨(g b d).2.2.2.1,(g b d).2.1,(g b d).2.2.2.2.1,(g b d).2.2.2.2.2⟩) (λb u _ _ f e _=>k b u f e) (λb u _ _ f e _=>⟨u.slots,k b u f e⟩)
  (λb u _ e n=>by rw[aB (ne_of_lt (EK (Heap.lt_size e) i))];exact n) (λb u f e=>⟨u,k b u f e⟩) (λb l e=>by rw[aB (aE e h)];exact e) (λb v u e=>by rw[aB (aE e h)];exact e)
  (λb ps e=>⟨#[],by rw[aB (aE e h),e];simp⟩) (λm p=>?_) (λb u e=>?_) I.bare
 ·obtain⟨u,t,w,x,r⟩:=p;exact⟨u,t,w,k _ u (λz=>(g _ z).2.1 rfl) x,r⟩
 ·by_cases d:b=a
  ·subst d;rw[aA]at e;cases e;exact new
  ·rw[aB d]at e;refine(I.hok b u e).stay (λc v f q=>k c v ?_ q) (λc q=>by rw[aB (aE q h)];exact q) λc l q=>by rw[aB (aE q h)];exact q
   rcases f with z|z
   ·rw[z];exact j b u e
   ·exact j c _ z
def Inv.turnL{t':Nat}{ch:List TD}(I:Inv X pins σ H s)(d:∀b∈ch,oZ X pins H b)(k:∀b u,b∉ch->s.heap.get? b=some u->h'.get? b=some u):Inv X pins σ H {s with heap:=h',toks:=t' }:=by
 have g:∀b u,H b=some u->b∉ch:=λb u e z=>by rw[(d b z).1]at e;cases e
 refine I.step (g':=s.gens) (d':=s.drawn) (ch:=ch) (λb f=>⟨(d b f).2.2.2.1,(d b f).2.1,(d b f).2.2.2.2.1,(d b f).2.2.2.2.2⟩) (λb u _ _ a e _=>k b u a e) (λb u _ _ a e _=>⟨u.slots,k b u a e⟩)
  (λ_ _ _ _ n=>n) (λb u a e=>⟨u,k b u a e⟩) (λ_ _ e=>e) (λ_ _ _ e=>e) (λb ps e=>⟨#[],by rw[e];simp⟩) (λm h=>?_) (λb u e=>?_) I.bare
 ·obtain⟨u,i,j,l,r⟩:=h;exact⟨u,i,j,k _ u (λz=>(d _ z).2.1 rfl) l,r⟩
 ·refine(I.hok b u e).stay (λc v a q=>k c v ?_ q) (λ_ q=>q) λ_ _ q=>q;rcases a with z|z
  ·rw[z];exact g b u e
  ·exact g c _ z
end
section
variable {X:Cx}
def Ho(A:Around):A.in1.units=A.units+1:=rfl
def cZ(xs ys:List V):Bool:=(List.range (min xs.length ys.length)).all (λj=>wX (xs.getD j .non) (ys.getD j .non))&&xs.length==ys.length
def aAh(e:Bool):R2:=λx y H Q=>mR x λa=>mR y λb=>∃c d,H a=some (.tup c)/\H b=some (.tup d)/\(∀(j:Nat)(u v:V),c[j]?=some u->d[j]?=some v->gY u=true/\gY v=true)/\Q (.bl (if e then !cZ c d else cZ c d)) H
def aAi(k:Bool)(N:X.A.units+64<cLine):OpR X (compareOp (if k then .NotEq else .Eq)) (aAh k):=by
 intro M s O H x y v u Q I B C h;unfold aAh at h;rw[cN]at h;obtain⟨a,rfl,h⟩:=h;rw[cN]at h;obtain⟨b,rfl,c,d,g1,g2,D,q⟩:=h;cases B;cases C;obtain⟨f,o,p,_⟩:=I.tuple (QYZ g1);obtain⟨i,r,t,_⟩:=I.tuple (QYZ g2);have E:f.length=c.length:=o.length.symm;have F:i.length=d.length:=r.length.symm;have n:∀j (l:j<f.toArray.size) (m:j<i.toArray.size),SeqAt.EqAt X.A.in1 s f.toArray[j] i.toArray[j] (wX (c.getD j .non) (d.getD j .non)):=λj l m=>by
  rw[dX]at l m;obtain⟨w,G⟩:=Paired.get' (j:=j) o l;obtain⟨z,J⟩:=Paired.get' (j:=j) r m;obtain⟨f1,f2⟩:=D j c[j] d[j] (fX w) (fX z);have K:c.getD j .non=c[j]:=by simp[List.getD,w]
  have L:d.getD j .non=d[j]:=by simp[List.getD,z]
  rw[K,L];simpa using Bj G J f1 f2
 have e:((List.range (min f.toArray.size i.toArray.size)).all (λj=>wX (c.getD j .non) (d.getD j .non))&&f.toArray.size==i.toArray.size)=cZ c d:=by
  rw[dX,dX,E,F];rfl
 cases k with
 | true=>
  have g:=SeqAt.RcNeAt.tuples (A:=X.A) (s:=s) p t Zo n;rw[e]at g;exact g _ _ _ _ ⟨.bl _,H,I,rfl,q⟩
 | false=>
  have g:=SeqAt.RcAt.tuples (A:=X.A) (s:=s) p t Zo n;rw[e]at g;exact g _ _ _ _ ⟨.bl _,H,I,rfl,q⟩
def R.ie(a:X.A.units+64<cLine):iV X (compareOp .NotEq) (aAh true):=⟨aAi true a⟩
end
section
variable {X:Cx}{o:Expr}{to:TE}{p pos apos cpos:Pos}
def Wf:Gc:=λo i v H Q=>∃a b,o=.ref a/\DPut H a i v b/\Q b
def Mw(b:X.A.units+1<cLine):Rq X Wf:=by
 intro k s r H o i v l m u Q I c d e h;obtain⟨a,f,rfl,g,q⟩:=h;cases c;exact Gs b I g d e λn j=>⟨f,j,q⟩
def R.ci(a:X.A.units+1<cLine):Zr X Wf:=⟨Mw a⟩
end
def Mx(prs:List (Str×Int))(n:Str)(v:Int):List (Str×Int):=prs.map λq=>if q.1=n then (q.1,v) else q
def Hq(prs:List (Str×Int))(n:Str)(v:Int):(Mx prs n v).map (·.1)=prs.map (·.1):=by
 unfold Mx;rw[map_map];refine map_congr_left λq _=>?_
 show(if q.1=n then (q.1,v) else q).1=q.1;split<;>rfl
def Ts{prs:List (Str×Int)}{n:Str}{v:Int}(h:n∈prs.map (·.1)):bQ (kJ prs) (Sum.inr n) (.int v)=kJ (Mx prs n v):=by
 unfold bQ;rw[O8 (by rw[cS,rH];obtain⟨a,b⟩:=mQ h;rw[b];rfl)];unfold kJ Mx;rw[map_map,map_map];refine map_congr_left λq _=>?_
 show(if (Sum.inr q.1:aS)=Sum.inr n then (Sum.inr q.1,V.int v) else ((Sum.inr q.1:aS),V.int q.2))=((Sum.inr (if q.1=n then (q.1,v) else q).1:aS),V.int (if q.1=n then (q.1,v) else q).2);by_cases e:q.1=n
 ·rw[O8 (by rw[e]),O8 e]
 ·rw[NE (λz=>e (Sum.inr.inj z)),NE e]
def xO(C:TD):Sp:=λvs H Q _=>∃(p e:TD)(r:V)(a:List (Str×Int)),vs=[.ref p,r]/\H p=some (.ins C e [])/\aAd H r a/\(a.map (·.1)).Nodup/\a.length<=1000 ∧
 ∀c d,H d=none->c p=some (.ins C e [("amounts",.ref d)])->c d=some (.dK (kJ a))->(∀b o,H b=some o->b≠p->c b=some o)->Q .non c
section
variable {X:Cx}
def Mz(i j:Int):Prop:=0<j/\j<2^64
def Tt:OpR X (binaryOp .FloorDiv) (m2 Mz λi j=>.int (i / j)):=(opI (C:=Mz) (g:=λi j=>i / j) λi j _ _ s Q E a q=>by
 have b:i.fdiv j=i/j:=Int.fdiv_eq_ediv_of_nonneg _ (by have:=a.1;omega);refine floordiv_int (by have:=a.1;omega) (by rw[b];exact q) (.inl (PyProof.noPylong_of_log2 ?_));have c:j.natAbs<2^64:=by have:=a.1;have:=a.2;omega
 exact EK (Nat.log2_lt (by have:=a.1;omega) |>.mpr c) Zd).imp xE
def R.fc:iV X (binaryOp .FloorDiv) (m2 Mz λi j=>.int (i/j)):=⟨Tt⟩
end
def aAj(l:List Nat):(tx l).cps.toList=l:=by simp
def KLET:List Nat:=LET++FIG
def isKy(z:Str):Prop:=1<=z.length/\z.length<=12/\∀c∈z.cps.toList,c∈KLET
def Ite(K:W.Frag)(a:TD):It:=
  ⟨λi H=>∃b x,SqL K H a b/\b[i]?=some x,
   λi H v c=>∃t x,H t=none/\v=.ref t/\c=aH H t (.tup [.int i,x])/\∀b,SqL K H a b->b[i]?=some x,
   λi H=>∃b,SqL K H a b/\b.length<=i⟩
structure ESt(h:Heap)(e it a:TD)(i:Nat):Prop where
 e:∃old,IsEnum h e it i old
 i:h.IsListIter it a i
def Hr{P:Program}{w:World}{K:W.Frag}{es:List Expr}{n:Nat}{pos:Pos}{e it a:TD}(G:e≠it)(hea:a≠e)(hia:a≠it) :
  rW P w K (.Tuple es n pos) (Ite K a) [e,it] e (λi h=>ESt h e it a i) where
 mem:=by simp
 obj:=λi h st b c=>by
  obtain⟨f,d⟩:=st.e;obtain⟨j,k,_,Q⟩:=st.i;simp only [mem_cons,EJ,or_false]at c;rcases c with rfl|rfl
  ·exact⟨_,d,λv q=>by have R:Data.fields _=Data.cell v:=q;cases R⟩
  ·exact⟨_,k,λv q=>by rw[Q]at q;cases q⟩
 keep:=λi h h' st g=>by
  obtain⟨f,d⟩:=st.e;obtain⟨j,k,a0⟩:=st.i;exact⟨⟨f,g e Zs _ d⟩,⟨j,g it Zs _ k,a0⟩⟩
 item:=by
  intro X r t y J i N s σ H a1 I m st z;subst r t y;obtain⟨S,x,o,L⟩:=z;obtain⟨O,A,p,_⟩:=I.list o;obtain⟨u,T,U⟩:=A.get L;obtain⟨f,d⟩:=st.e;refine wpAny_pyNext_enum_item d st.i p.isList (by simpa using T) G λV k Y Z z1 B=>?_;refine⟨_,rfl,?_⟩;refine wpAny_letOwnedTupleGo_enum k λh2 e2 C=>?_;have F:e<s.heap.objs.size:=Heap.lt_size d;have t2:h2.get? s.heap.objs.size=some {cls:=.type "tuple",data:=.seq #[.int i s.toks,u] }:=C.extBut _ _ (ne_of_gt F) Z;refine⟨.ref s.heap.objs.size,aH H s.heap.objs.size (.tup [.int i,x]),I.turnLaid (t':=s.toks+1) m (λb a2 c D=>?_) (bA _) ⟨by show 2<=sizeLine;decide,[.int i s.toks,u],.cons ⟨_,rfl⟩ (.cons U .nil),⟨_,t2,rfl,_,rfl⟩⟩,rfl,?_,?_,λb c=>?_⟩
  ·have l:b≠e/\b≠it:=by simpa using c
   exact C.extBut _ _ l.1 (B b a2 l.1 l.2 D)
  ·exact⟨s.heap.objs.size,x,I.hok.fresh (bA _),rfl,rfl,λzs hz=>by rw[I.list_inj hz o];exact L⟩
  ·obtain⟨j,E,M⟩:=Y;exact⟨⟨_,by simpa using e2⟩,⟨j,C.extBut _ _ G.symm E,M⟩⟩
  ·have C7:b<s.heap.objs.size:=by
    obtain⟨j,E,M⟩:=st.i;simp only [mem_cons,EJ,or_false]at c;rcases c with rfl|rfl
    ·exact F
    ·exact Heap.lt_size E
   rw[aB (ne_of_lt C7)];exact(m b c).1
 done:=by
  intro X r t y J i N s σ H a1 I m st z;subst r t y;obtain⟨S,o,hl⟩:=z;obtain⟨O,A,p,_⟩:=I.list o;obtain⟨f,d⟩:=st.e;have l1:=A.length;refine wpAny_pyNext_enum_end (I.ok.hd J) d st.i p.isList (by simp;omega) λV B=>?_;refine⟨rfl,I.turnL (t':=s.toks) m λb u c D=>?_⟩;have l:b≠e/\b≠it:=by simpa using c
  exact B b u l.2 D
 self:=λ_ _ _ _ _ st h=>by
  obtain⟨f,d⟩:=st.e;exact wpAny_pyIter_enum d h
section
variable {X:Cx}{a b:Expr}{ta tb:TE}{p pos GF:Pos}{es:List Expr}{n:Nat}
def Wg(K:W.Frag)(ta:TE):TI:=λe H R=>ta e H λx c=>mR x λa=>∃d,SqL K c a d/\R (Ite K a) c
def Tu(B:Gl X "enumerate")(C:X.mg "enumerate"=none)(D:PE X a ta)(i:aQ a=true):PI X (.Tuple es n GF) (.Call (.Name "enumerate" p) [a] [] pos) (Wg X.K ta):=by
 intro g s A H R I h;have E:starEach [a] X.env=[(false,eval a X.env)]:=by rw[bO i];rfl
 have F:PA X [a] (qM ta yP):=Lv D Bf i;refine Call_ (rV I B C boot_enumerate (PyProof.Rows.callWith_type1 (bN (F pos g s A H (λvs j=>match vs with|[x]=>(mR x λe=>∃l,SqL X.K j e l/\R (Ite X.K e) j)|_=>False) I ?_) ?_) (by rw[E];rfl) rfl))
 ·exact h
 ·refine λP c=>yE2 λvs m=>yA3 λf G d=>?_;(try dsimp only at d);split at d
  rotate_left
  ·exact d.elim
  rename_i x;rw[cN]at d;obtain⟨e,rfl,l,J,q⟩:=d
  cases G with
  | cons r K=>
   cases K;cases r;obtain⟨O,Q,t,_⟩:=f.list J;refine call_enumerate_list t.isList λu v L S k=>?_;have M:Inv X g A m {c with heap:=u }:=f.kept (t':=c.toks) k;have w:e<c.heap.objs.size:=by
    obtain⟨o,N,_⟩:=t.isList;exact Heap.lt_size N
   refine wpAny_pyIter_enum (s:={c with heap:=u }) v ?_;refine⟨c.heap.objs.size+1,_,_,_,m,rfl,M,Hr (ne_of_gt (lt_succ_self _)) (ne_of_lt (lt_succ_of_lt w)) (ne_of_lt w),⟨⟨_,v⟩,L⟩,λb y=>?_,q⟩;have z:c.heap.objs.size<=b:=by
    simp only [mem_cons,EJ,or_false]at y;rcases y with rfl|rfl
    ·exact Nat.le_add_right _ 1
    ·exact bA _
   exact f.fpOk z (f.hok.fresh z)
def R.ig{K:W.Frag}(c:Gl X "enumerate")(d:X.mg "enumerate"=none)(e:XE X a ta)(f:X.K=K:=by rfl)(g:aQ a=true:=by rfl):XI X (.Tuple es n GF) (.Call (.Name "enumerate" p) [a] [] pos) (Wg K ta):=
 f▸⟨Tu c d e.h g⟩
end
def Na{K:W.Frag}{a:TD}{xs:List V}{g:TG}{tb:TS}{D:kN}{b:St}{H:Hp}(Pv:Nat->St->Hp->Prop)(h:∀i b H,Pv i b H->SqL K H a xs)(j:Pv 0 b H)(hs:∀(i:Nat)(x:V) b H t,xs[i]?=some x->Pv i b H->H t=none->g (.ref t) b (aH H t (.tup [.int i,x])) λc H2=>tb {D with nx:=Pv (i+1),ct:=Pv (i+1),bk:=D.nx } c H2)(hd:∀ b H,Pv xs.length b H->D.nx b H) :
  ∃W:Nat->Nat->St->Hp->Prop,(∃m,W 0 m b H)/\∀i m b H,W i m b H →
   ((Ite K a).stop i H/\D.nx b H)∨((Ite K a).go i H/\∃N:St->Hp->Prop,(∀ d H',N d H'->∃m',m'<m/\W (i+1) m' d H')/\∀x H',(Ite K a).yld i H x H'->g x b H' λc H2=>tb {D with nx:=N,ct:=N,bk:=D.nx } c H2):=by
 refine⟨λi m b H=>m=xs.length-i/\i<=xs.length/\Pv i b H,⟨_,rfl,zero_le _,j⟩,?_⟩;refine λi m b H=>yA3 λζ o p=>?_;subst ζ;have e:=h i b H p;by_cases f:i<xs.length
 ·refine .inr ⟨⟨xs,xs[i],e,fX f⟩,Pv (i+1),λd H' n=>⟨xs.length-(i+1),Zo,rfl,f,n⟩,?_⟩;refine λv H'=>yE2 λt x=>yA4 λk ζ η l=>?_;subst ζ η;exact hs i x b H t (l xs e) p k
 ·have:i=xs.length:=by omega
  subst this;exact .inl ⟨⟨xs,e,bA _⟩,hd b H p⟩
section
variable {prog:Program}{w:World}{A:Around}{E:XV}{s:PP}
def zK{a:Q3}{Q:Bool->PP->Prop}(b:(a==a)=true)(h:Q true s):wpAny (model prog w) A (eqBool a a) Q E s:=by
 unfold eqBool;refine wpAny_holding ?_;rw[O8 b];exact WP (wpAny_rule (WF h))
def Nb(a:Q3):(a==a)=true:=beq_self_eq_true a
def zL{b a:Bool}{Q:Bool->PP->Prop}:∀(l:List Q3)(i:Nat),Q a s->W.KatLex prog w A b a Q (l.zip l) i s
 | [],i,h=>W.kat_nil h
 | x::l,i,h=>W.kat_cons (zK (Nb x) (W.kat_yes (zL l (i+1) h)))
end
section
variable {X:Cx}{pins:ZB}{σ:St}{H:Hp}{s:PP}{a:TD}{o:Obj}{kvs:List (aS×V)}
def Wh(t:TS):TS:=λD σ H=>t {nx:=λc b=>∃a kvs o,(∃d,H a=some (.dK d))/\b a=some (.frz o (.dK kvs))/\D.nx c (aH b a (.dK kvs)),rt:=λ_ _=>False } σ H
def Tv{e:Stmt}{t:TS}(c:PS X e t):PS X e (Wh t):=by
 intro pins s σ H D I h;refine bN (c pins s σ H _ I h) λf l q=>?_
 cases f with
 | next=>
  obtain⟨b,m,d,a,kvs,o,⟨n,g⟩,i,q⟩:=q;refine⟨b,_,d.thaw i (λj k z=>?_),q⟩;have:=I.base.frzs a j k z;rw[g]at this;cases this
 | brk=>obtain⟨_,_,_,q⟩:=q;exact q.elim
 | cont=>obtain⟨_,_,_,q⟩:=q;exact q.elim
 | ret u=>revert q;refine yE3 λ_ _ _=>yA3 λ_ _ q=>?_;exact q.elim
end
namespace R
section
variable {X:Cx}{tg l:Expr}{tl:TE}{apos cpos:Pos}{e:Stmt}{t:TS}
def jw(h:XS X e t):XS X e (Wh t):=⟨Tv h.h⟩
end
end R
section
variable {prog:Program}{w:World}{K:Type} [DecidableEq K] {knd:HeapKind prog w K}{A:Around}{E:XV}{s:PP}{d a:TD}{k:K}
def sY(xs:List (K×TD×Q3))(k:K):List (K×TD×Q3):=xs.filter λx=>decide (x.1≠k)
def Nc{xs:List (K×TD×Q3)}(h:k∉xs.map (·.1)):sY xs k=xs:=by
 unfold sY;rw[filter_eq_self];intro x b;exact UF λe=>h (Zmm.mpr ⟨x,b,e⟩)
theorem qQ:∀ {xs:List (K×TD×Q3)}{j:Nat}{p:TD×Q3},(xs.map (·.1)).Nodup->xs[j]?=some (k,p)->sY xs k=xs.eraseIdx j
 | [],j,p,_,h=>by simp at h
 | x::r,0,p,b,h=>by
  rw[map_cons,nodup_cons]at b;have f:x=(k,p):=by simpa using h
  subst f;show filter _ _=r;rw[List.filter_cons_of_neg Zs];exact Nc b.1
 | x::r,j+1,p,b,h=>by
  rw[map_cons,nodup_cons]at b;have c:r[j]?=some (k,p):=by simpa using h
  have g:x.1≠k:=λe=>b.1 (e▸Zmm.mpr ⟨(k,p),jJ c,rfl⟩)
  show filter _ _=x::r.eraseIdx j;rw[List.filter_cons_of_pos (by simpa using g),<- qQ b.2 c];rfl
theorem mE{b c:Type}(f:b->c):∀(l:List b)(i:Nat),(l.map f).eraseIdx i=(l.eraseIdx i).map f
 | [],_=>rfl
 | _::_,0=>rfl
 | x::r,i+1=>by rw[map_cons,List.eraseIdx_cons_succ,List.eraseIdx_cons_succ,map_cons,mE f r i]
def jO{xs:List (K×TD×Q3)}{Q:Option DictEntry->PP->Prop}(h:knd.room A)(i:knd.is s.heap k a)(n:s.heap.DictOfH knd d xs)(q:atKey xs k=none->Q none {s with toks:=s.toks+knd.draws k })(r:∀e p,atKey xs k=some p->e.val=p.2->∀h',h'.DictOfH knd d (sY xs k)->Heap.SameBut d s.heap h'->Q (some e) {s with heap:=h',toks:=s.toks+knd.draws k })(hsz:xs.length<=sizeLine):wpAny (model prog w) A (Builtin.Dict.takeOut d (.ref a)) Q E s:=by
 refine yE0 n (yE3 λo t u=>yA6 λb v hd c m f=>?_);unfold Builtin.Dict.takeOut;try with_reducible refine wpAny_holding ?_
 refine WP (knd.pyHash h i ?_);refine WP (wpAny_dictFind_heap (s:={s with toks:=s.toks+knd.draws k }) h i b hd c m f ?_ ?_)
 ·intro y;exact WF (q (atKey_none_of_get y))
 ·intro j p g;refine WP (wpAny_dictEntries (s:={s with toks:=s.toks+knd.draws k }) b hd ?_);rw[entry_at c j,g];refine WP (wpAny_updateDictKeys (hz:=by have e:=size_of_entries c;omega) (s:={s with toks:=s.toks+knd.draws k }) b hd (WF (r _ p (atKey_of_get f g) rfl _ ⟨_,_,u+1,Heap.get?_update_self _ b (Obj.isFreed_of_dict (Obj.data_mapDictKeys hd _)),
   v.mapDictKeys _,Obj.data_mapDictKeys hd _,?_,?_,?_⟩ (Heap.SameBut.update ..))))
  ·rw[qQ f g,<- mE,<- c];obtain⟨l⟩:=t;simp
  ·intro x z;exact knd.keeps (m x (mem_filter.mp z).1) b hd (Heap.SameBut.update ..)
  ·exact List.Nodup.sublist (List.Sublist.map _ List.filter_sublist) f
variable (knd)
def kK(hd:(d==sysModules)=false)(rest:List Q3)(D:rest=[]∨∃dflt,rest=[dflt]) :
    MeetsIn prog w (Builtin.«dict.pop» ⟨.ref d::.ref a::rest,[]⟩) (λA R s=>knd.room A.in1/\∃k xs,knd.is s.heap k a/\s.heap.DictOfH knd d xs/\xs.length<=sizeLine ∧
      ((∃p,atKey xs k=some p/\∀h' t',h'.DictOfH knd d (sY xs k)->Heap.SameBut d s.heap h'->R (.ok (.ret p.2)) {s with heap:=h',toks:=t' })∨
       (∃x,rest=[x]/\atKey xs k=none/\∀t',R (.ok (.ret x)) {s with toks:=t' }))):=
  .of_wp λA R s ⟨u,k,xs,v,f,t,h⟩=>by
    have F:=f;revert F;refine yE3 λo i I=>yA6 λz J B G L g=>?_;unfold Builtin.«dict.pop»;refine WP ?_;unfold Builtin.Dict.keyAndDefault;refine WP (wpAny_notOrdered_dict f.typeIs ?_);have j:i.size=xs.length:=size_of_entries G;rcases D with rfl|⟨dflt,rfl⟩
    . obtain⟨p,b,h⟩|⟨x,y,_⟩:=h
      . show wpAny _ _ (pure (d,Value.ref a,none)) _ _ s
        refine WF ?_;have l:i.isEmpty=false:=by
          cases xs with
          | nil=>cases b
          | cons x r=>rw[Array.isEmpty_eq_false_iff];intro e;rw[e]at j;simp at j
        simp only [keyPart,Option.isSome_none,Bool.false_eq_true,if_false];refine WP (wpAny_dictEntries z B (WP (WF ?_)));rw[l];simp only [Bool.false_eq_true,if_false];refine WP (jO u v f (λg=>by rw[g]at b;cases b) (λe C c m h' n q=>?_) t);rw[b]at c;cases c;simp only [Option.isNone_some,Bool.false_eq_true,if_false];exact WP (wpAny_letGo (WF ⟨e.val,rfl,by rw[m];exact h h' _ n q⟩))
      . cases y
    . show wpAny _ _ (pure (d,Value.ref a,some dflt)) _ _ s
      refine WF ?_;simp only [keyPart,Option.isSome_none,Bool.false_eq_true,if_false];refine WP (wpAny_dictEntries z B (WP (WF ?_)));obtain⟨p,b,h⟩|⟨x,y,H,h⟩:=h
      . have l:i.isEmpty=false:=by
          cases xs with
          | nil=>cases b
          | cons x r=>rw[Array.isEmpty_eq_false_iff];intro e;rw[e]at j;simp at j
        rw[l];simp only [Bool.false_eq_true,if_false];refine WP (jO u v f (λg=>by rw[g]at b;cases b) (λe C c m h' n q=>?_) t);rw[b]at c;cases c;simp only [Option.isNone_some,Bool.false_eq_true,if_false];exact WP (wpAny_letGo (WF ⟨e.val,rfl,by rw[m];exact h h' _ n q⟩))
      . cases y
        cases l:i.isEmpty with
        | true=>
          simp only [if_true];refine WP (wpAny_rule (WP (WF ?_)));simp only [Option.isNone_none,if_true];refine WP (wpAny_missedRemoval_other hd ?_);exact WP (wpAny_rule (WF ⟨dflt,rfl,h s.toks⟩))
        | false=>
          simp only [Bool.false_eq_true,if_false];refine WP (jO u v f (λg=>?_) (λe C c m h' n q=>by rw[H]at c;cases c) t);simp only [Option.isNone_none,if_true];refine WP (wpAny_missedRemoval_other hd ?_);exact WP (wpAny_rule (WF ⟨dflt,rfl,h _⟩))
end
section
variable {X:Cx}{pins:ZB}{σ:St}{H:Hp}{s:PP}{a b:TD}{kvs:List (List aS×V)}{k:List aS}{A:Around}{E:XV}
def KT.drop{kvs:List (List aS×V)}{xs:List (List aS×TD×Q3)}(r:KT H kvs xs)(k:List aS):KT H (cE kvs k) (sY xs k):=by
 induction r with
 | nil=>exact .nil
 | @cons p q ps d h t c=>
  unfold cE sY;by_cases e:p.1=k
  ·rw[List.filter_cons_of_neg (by simpa using e),List.filter_cons_of_neg (by rw[<- h.1];simpa using e)];exact c
  ·rw[List.filter_cons_of_pos (by simpa using e),List.filter_cons_of_pos (by rw[<- h.1];simpa using e)];exact .cons h c
def Nd{v:V}{more:List Q3}{Q:XV}(r:A.units+1<cLine)(I:Inv X pins σ H s)(e:H a=some (.dT kvs))(t:H b=some (.tup (k.map kV)))(l:aY kvs k=some v)(g:more=[]∨∃x,more=[x])(h:∀f i,Inv X pins σ (aH H a (.dT (cE kvs k))) i->RelV v f->Q f i):wpAny (model X.prog X.w) A (call (.builtin "dict.pop") (.ref a::.ref b::more)) Q E s:=by
 obtain⟨z,hd,j,d,dd⟩:=Ku I.hok e;obtain⟨f,u,w⟩:=RelO.some_of (v:=v) (o:=(atKey j k).map (·.2)) (by rw[<- l];exact d.val k);obtain⟨p,y,rfl⟩:=Option.map_eq_some_iff.mp u;have B:argsOk "dict.pop" ⟨.ref a::.ref b::more,[]⟩:=by
  rcases g with q|⟨x,q⟩
  ·subst q;exact PySem.F.args_dict_pop_2 _ _
  ·subst q;exact PySem.F.args_dict_pop_3 _ _ _
 refine call_meetsIn PySem.F.slot_dict_pop dd.typeIs PySem.F.entry_dict_pop B (kK (tupleKind (aX X.prog X.w)) hd more g)
  ⟨tupleKind_room_in1 r,k,j,kP I.hok t,dd,by rw[<- Paired.length d];exact z,.inl ⟨p,y,λN O C D=>h _ _ ?_ w⟩⟩
 revert C;refine yE3 λq F G=>yA6 λm J K L _ M=>?_;refine oB I (by rw[e];exact True.intro) D ⟨q,m⟩ ⟨fT (nX kvs k) z,hd,_,(d.drop k).keeps λc P n=>?_,q,F,G,m,J,K,L,M⟩;rw[aB (aK n e nofun)];exact n
def Tw{r:Q3}{Q:XV}(i:A.units+1<cLine)(I:Inv X pins σ H s)(e:H a=some (.dT kvs))(j:H b=some (.tup (k.map kV)))(l:aY kvs k=none)(h:∀f,Inv X pins σ H f->Q r f) :
  wpAny (model X.prog X.w) A (call (.builtin "dict.pop") [.ref a,.ref b,r]) Q E s:=by
 obtain⟨z,hd,c,d,dd⟩:=Ku I.hok e;have g:(atKey c k).map (·.2)=none:=RelO.none_of (by rw[<- l];exact d.val k);have m:atKey c k=none:=by
  cases q:atKey c k with
  | none=>rfl
  | some p=>rw[q]at g;cases g
 exact call_meetsIn PySem.F.slot_dict_pop dd.typeIs PySem.F.entry_dict_pop (PySem.F.args_dict_pop_3 _ _ _) (kK (tupleKind (aX X.prog X.w)) hd [r] (.inr ⟨r,rfl⟩))
  ⟨tupleKind_room_in1 i,k,c,kP I.hok j,dd,by rw[<- Paired.length d];exact z,.inr ⟨r,rfl,m,λn=>h _ (I.tok _)⟩⟩
end
def Em(g ty:TE):TE:=λf H Q=>g f H λx e=>∃a,x=.ref a/\IsD e a/\ty f e λy d=>∃c k b v,d a=some (.dT c)/\y=.ref b/\d b=some (.tup (k.map kV))/\aY c k=some v/\Q v (aH d a (.dT (cE c k)))
def En(g ty tx:TE):TE:=λe H Q=>g e H λx f=>∃a,x=.ref a/\IsD f a/\ty e f λy h=>tx e h λz d=>∃c k b,d a=some (.dT c)/\y=.ref b/\d b=some (.tup (k.map kV)) ∧
 (∀v,aY c k=some v->Q v (aH d a (.dT (cE c k))))/\(aY c k=none->Q z d)
section
variable {X:Cx}{o e f:Expr}{apos cpos:Pos}{td ty tx:TE}
def Hs(j:X.A.units+1<cLine)(n:PE X o td)(p:PE X e ty)(m:M1 X o "pop" apos e cpos):PE X (.Call (.Attribute o "pop" apos) [e] [] cpos) (Em td ty):=by
 intro c s i H Q I h;refine wpAny_Call_method m.base m.few m.line PySem.F.plainAttrs_dict PySem.F.slot_dict_pop PySem.F.type_dict_pop (bN (n c s i H _ I h) ?_);refine λu q=>yE2 λx r=>yA3 λg t=>yE1 λa=>yA3 λw d z=>?_;subst w;obtain rfl:u=Value.ref a:=t;refine yE0 (sA g d) (yA3 λA B _=>?_);refine⟨A,B,?_⟩;rw[m.trees];refine Calls.callWith_builtin rfl (Calls.evalArgs_plain (Calls.spliced_cons (bN (p c q i r _ g z) λC O ⟨y,P,D,E,N,k,b,v,F,G,J,l,K⟩=>Calls.spliced_nil ?_)));subst G;obtain rfl:C=Value.ref b:=E;exact Nd j D F J l (.inl rfl) λR S L M=>⟨v,_,L,M,K⟩
def Ht(j:X.A.units+1<cLine)(w:PE X o td)(x:PE X e ty)(y:PE X f tx)(m:M2 X o "pop" apos e f cpos):PE X (.Call (.Attribute o "pop" apos) [e,f] [] cpos) (En td ty tx):=by
 intro c s i H a0 I h;refine wpAny_Call_method m.base m.few m.line PySem.F.plainAttrs_dict PySem.F.slot_dict_pop PySem.F.type_dict_pop (bN (w c s i H _ I h) ?_);refine λu A=>yE2 λa1 B=>yA3 λn C=>yE1 λa=>yA3 λD d E=>?_;subst D;obtain rfl:u=Value.ref a:=C;refine yE0 (sA n d) (yA3 λF G _=>?_);refine⟨F,G,?_⟩;rw[m.trees];refine Calls.callWith_builtin rfl (Calls.evalArgs_plain (Calls.spliced_cons (bN (x c A i B _ n E) λJ K ⟨a2,L,M,N,O⟩=>
  Calls.spliced_cons (bN (y c K i L _ M O) λP Y ⟨z,Q,p,R,t,k,b,q,S,r,T,U⟩=>Calls.spliced_nil ?_))))
 subst S;obtain rfl:J=Value.ref b:=N
 cases l:aY t k with
 | some v=>exact Nd j p q r l (.inr ⟨P,rfl⟩) λZ V g W=>⟨v,_,g,W,T v l⟩
 | none=>exact Tw j p q r l λV g=>⟨z,Q,g,R,U l⟩
def R.ii(a:X.A.units+1<cLine)(b:XE X o td)(c:XE X e ty)(d:attributeBase o "pop" X.env (eval o X.env)=eval o X.env:=by rfl)(g:(apos.endLine == cpos.line)=true:=by rfl)(h:((backTo cpos (starEach [e] X.env)).all (λx=>!x.1)&&(backToKw cpos (keywordEach [] X.env)).all (λx=>x.1.isSome)
  && decide (([e]:List Expr).length+([]:List Keyword).length+(if ([]:List Keyword).isEmpty then 0 else 1)<30))=true:=by rfl)(i:backTo cpos (starEach [e] X.env)=[(false,eval e X.env)]:=by rfl):XE X (.Call (.Attribute o "pop" apos) [e] [] cpos) (Em td ty):=⟨Hs a b.h c.h ⟨d,h,g,i⟩⟩
def R.ij(a:X.A.units+1<cLine)(b:XE X o td)(c:XE X e ty)(d:XE X f tx)(g:attributeBase o "pop" X.env (eval o X.env)=eval o X.env:=by rfl)(h:(apos.endLine == cpos.line)=true:=by rfl)(i:((backTo cpos (starEach [e,f] X.env)).all (λx=>!x.1)&&(backToKw cpos (keywordEach [] X.env)).all (λx=>x.1.isSome)
  && decide (([e,f]:List Expr).length+([]:List Keyword).length+(if ([]:List Keyword).isEmpty then 0 else 1)<30))=true:=by rfl)(j:backTo cpos (starEach [e,f] X.env)=[(false,eval e X.env),(false,eval f X.env)]:=by rfl):XE X (.Call (.Attribute o "pop" apos) [e,f] [] cpos) (En td ty tx):=⟨Ht a b.h c.h d.h ⟨g,i,h,j⟩⟩
def R.de{pos:Pos}:XE X (.Dict [] [] pos) Ky:=⟨La⟩
end
section
variable {X:Cx}
def Tx(b:Bool):R2:=λx y H Q=>mR y λa=>∃o,DGet H a x o/\Q (.bl (if b then !o.isSome else o.isSome)) H
def Nf(b:Bool)(d:X.A.units+1<cLine):OpR X (compareOp (if b then .NotIn else .In)) (Tx b):=by
 intro j s k H x y v u Q I e f h;unfold Tx at h;rw[cN]at h;obtain⟨a,rfl,o,g,q⟩:=h;cases f;cases b
 ·exact aBk d I g e λi c=>⟨.bl _,H,c,rfl,q⟩
 ·exact Ds d I g e λi c=>⟨.bl _,H,c,rfl,q⟩
def R.dq(a:X.A.units+1<cLine):iV X (compareOp .In) (Tx false):=⟨Nf false a⟩
def R.ik(a:X.A.units+1<cLine):iV X (compareOp .NotIn) (Tx true):=⟨Nf true a⟩
end
inductive KE where
 | busy (n:Int) (d:TD)
 | kept (n t:Int) (d a:TD)
abbrev KM:=Str×Str->Option KE
def KM.set(m:KM)(q:Str×Str)(e:Option KE):KM:=λr=>if r=q then e else m r
def KM.set_same{m:KM}{q:Str×Str}{e:Option KE}:m.set q e q=e:=O8 rfl
def KM.set_ne{m:KM}{q r:Str×Str}{e:Option KE}(h:r≠q):m.set q e r=m r:=NE h
def pk(q:Str×Str):List aS:=[Sum.inr q.1,Sum.inr q.2]
def mU{q r:Str×Str}(h:pk q=pk r):q=r:=by
 obtain⟨a,b⟩:=q;obtain⟨c,d⟩:=r;unfold pk at h;simp only [List.cons.injEq,Sum.inr.injEq,and_true]at h;rw[h.1,h.2]
def eF{H:Hp}{t:TD}{q:Str×Str}(h:H t=some (.tup [.str q.1,.str q.2])):H t=some (.tup ((pk q).map kV)):=h
def fB:KE->Option (List V)
 | .busy n d=>some [.int n,.ref d]
 | .kept ..=>none
def fS:KE->Option (List V)
 | .busy ..=>none
 | .kept n t d a=>some [.int n,.int t,.ref d,.ref a]
structure Dic(H:Hp)(kvs:List (List aS×V))(m:KM)(f:KE->Option (List V))(L:Nat):Prop where
 nd:(kvs.map (·.1)).Nodup
 all:∀p∈kvs,∃q e xs t,p=(pk q,V.ref t)/\m q=some e/\f e=some xs/\H t=some (.tup xs)
 has:∀q e xs,m q=some e->f e=some xs->pk q∈kvs.map (·.1)
 len:kvs.length<=L
section
variable {κ:Type} [DecidableEq κ]
def kY{kvs:List (κ×V)}{k:κ}{v:V}(h:aY kvs k=some v):(k,v)∈kvs:=by
 induction kvs with
 | nil=>cases h
 | cons p r a=>
  by_cases e:p.1=k
  ·rw[bY e]at h;cases h;cases e;exact fY
  ·rw[bZ e]at h;exact fR _ (a h)
def zM{kvs:List (κ×V)}{k:κ}{v:V}{p:κ×V}(h:p∈bQ kvs k v):p=(k,v)∨(p∈kvs/\p.1≠k):=by
 cases a:aY kvs k with
 | none=>
  rw[iY v a]at h;rcases Zma.mp h with h|h
  ·exact .inr ⟨h,λe=>iZ a (e▸Zmm.mpr ⟨p,h,rfl⟩)⟩
  ·exact .inl (Zms.mp h)
 | some x=>
  unfold bQ at h;rw[cS,a]at h;simp only [Option.isSome_some,if_true]at h;obtain⟨b,c,rfl⟩:=Zmm.mp h;by_cases e:b.1=k
  ·rw[O8 e];left;rw[e]
  ·rw[NE e];exact .inr ⟨c,e⟩
def vS{kvs:List (κ×V)}{k:κ}{v:V}(j:κ):j∈(bQ kvs k v).map (·.1)↔j=k∨j∈kvs.map (·.1):=by
 cases a:aY kvs k with
 | none=>
  rw[iY v a,dN,Zma];simp only [map_cons,map_nil,Zms];exact Or.comm
 | some x=>
  have e:(bQ kvs k v).map (·.1)=kvs.map (·.1):=by
   unfold bQ;rw[cS,a];simp only [Option.isSome_some,if_true,map_map];refine map_congr_left λp _=>?_;simp only [Function.comp];split<;>rfl
  rw[e];exact⟨.inr,λz=>z.elim (λz=>z▸Du a) id⟩
def Eo{kvs:List (κ×V)}{k:κ}{v:V}(a:(kvs.map (·.1)).Nodup):((bQ kvs k v).map (·.1)).Nodup:=by
 cases b:aY kvs k with
 | none=>exact Sn v a b
 | some x=>
  have e:(bQ kvs k v).map (·.1)=kvs.map (·.1):=by
   unfold bQ;rw[cS,b];simp only [Option.isSome_some,if_true,map_map];refine map_congr_left λp _=>?_;simp only [Function.comp];split<;>rfl
  rw[e];exact a
def Bz{kvs:List (κ×V)}{k j:κ}(h:j∈kvs.map (·.1))(a:j≠k):j∈(cE kvs k).map (·.1):=by
 obtain⟨p,b,rfl⟩:=Zmm.mp h;exact Zmm.mpr ⟨p,mem_filter.mpr ⟨b,UF a⟩,rfl⟩
def Ng{kvs:List (κ×V)}{k:κ}{p:κ×V}(h:p∈cE kvs k):p.1≠k:=U3 (mem_filter.mp h).2
end
section
variable {H H':Hp}{kvs:List (List aS×V)}{m m':KM}{f:KE->Option (List V)}{L:Nat}{q:Str×Str}
def Dic.keep(h:Dic H kvs m f L)(k:∀b xs,H b=some (.tup xs)->H' b=some (.tup xs)):Dic H' kvs m f L:=
 ⟨h.nd,λp a=>let ⟨q,e,xs,t,c,d,g,i⟩:=h.all p a;⟨q,e,xs,t,c,d,g,k _ _ i⟩,h.has,h.len⟩
def Dic.more(h:Dic H kvs m f L):Dic H kvs m f (L+1):=⟨h.nd,h.all,h.has,le_succ_of_le h.len⟩
def Dic.get(h:Dic H kvs m f L)(q:Str×Str):(∃t e xs,aY kvs (pk q)=some (.ref t)/\m q=some e/\f e=some xs/\H t=some (.tup xs))∨(aY kvs (pk q)=none/\∀e,m q=some e->f e=none):=by
 cases a:aY kvs (pk q) with
 | none=>
  refine .inr ⟨rfl,λe c=>?_⟩
  cases d:f e with
  | none=>rfl
  | some xs=>exact IN (h.has q e xs c d) (iZ a)
 | some v=>
  refine yE0 (h.all _ (kY a)) (yE4 λk e xs t=>yA4 λb g i j=>?_);cases mU (congrArg Prod.fst b);cases(congrArg Prod.snd b:v=V.ref t);exact .inl ⟨t,e,xs,rfl,g,i,j⟩
def Dic.at(h:Dic H kvs m f L){e:KE}{xs:List V}(c:m q=some e)(b:f e=some xs):∃t,aY kvs (pk q)=some (.ref t)/\H t=some (.tup xs):=by
 rcases h.get q with⟨t,j,k,g,a,d,i⟩|⟨_,a⟩
 ·rw[c]at a;cases a;rw[b]at d;cases d;exact⟨t,g,i⟩
 ·rw[a e c]at b;cases b
def Dic.no(h:Dic H kvs m f L)(c:∀e,m q=some e->f e=none):aY kvs (pk q)=none:=by
 rcases h.get q with⟨t,g,i,a,d,b,j⟩|⟨a,_⟩
 ·rw[c _ d]at b;cases b
 ·exact a
def Dic.put(h:Dic H kvs m f L){e:KE}{xs:List V}{t:TD}(g:f e=some xs)(i:H t=some (.tup xs))(j:m' q=some e)(d:∀r,r≠q->m' r=m r):Dic H (bQ kvs (pk q) (.ref t)) m' f (L+1):=by
 refine⟨Eo h.nd,λp a=>?_,λr b c k l=>?_,fT (dY _ _ _) (Nat.succ_le_succ h.len)⟩
 ·rcases zM a with rfl|⟨a,n⟩
  ·exact⟨q,e,xs,t,rfl,j,g,i⟩
  ·refine yE0 (h.all p a) (yE4 λr b c o=>yA4 λζ g2 g3 s=>?_);subst ζ;exact⟨r,b,c,o,rfl,by rw[d r (λz=>n (by rw[z]))];exact g2,g3,s⟩
 ·rw[vS];by_cases z:r=q
  ·exact .inl (by rw[z])
  ·exact .inr (h.has r b c (by rw[<- d r z];exact k) l)
def Dic.drop(h:Dic H kvs m f L)(j:∀e,m' q=some e->f e=none)(g:∀r,r≠q->m' r=m r):Dic H (cE kvs (pk q)) m' f L:=by
 refine⟨sF h.nd,λp i=>?_,λr a b c d=>?_,fT (nX _ _) h.len⟩
 ·refine yE0 (h.all p (vI i)) (yE4 λr a b k=>yA4 λζ g2 g3 l=>?_);subst ζ;exact⟨r,a,b,k,rfl,by rw[g r (λz=>Ng i (by rw[z]))];exact g2,g3,l⟩
 ·have z:r≠q:=λz=>by rw[z]at c;rw[j _ c]at d;cases d
  exact Bz (h.has r a b (by rw[<- g r z];exact c) d) (λe=>z (mU e))
def Dic.skip(h:Dic H kvs m f L)(a:∀e,m q=some e->f e=none)(b:∀e,m' q=some e->f e=none)(c:∀r,r≠q->m' r=m r):Dic H kvs m' f L:=by
 have:=h.drop b c
 rwa [sE (iZ (h.no a))]at this
def Dic.nil:Dic H [] (λ_=>none) f L:=⟨nodup_nil,λp a=>IN a (EJ),λq e c b=>(by cases b),zero_le _⟩
end
structure KF where
 dx:Addr
 db:Addr
 ds:Addr
def vT(a:KF)(b:Int):List (Str×V):=[("life",.int b),("begun_ones",.ref a.db),("settled_ones",.ref a.ds)]
structure KyAt(C:TD)(H:Hp)(p:TD)(a:KF)(life:Int)(m:KM)(L:Nat):Prop where
 hp:H p=some (.ins C a.dx (vT a life))
 hb:∃kvs,H a.db=some (.dT kvs)/\Dic H kvs m fB L
 hs:∃kvs,H a.ds=some (.dT kvs)/\Dic H kvs m fS L
 ne:a.db≠a.ds
structure Wi(K:W.Frag)(C:TD):Prop where
 cl:Cls K C
 nL:NoAttr K C "life"
 nB:NoAttr K C "begun_ones"
 nS:NoAttr K C "settled_ones"
def aCR(a:KF)(l:Int):(vT a l).lookup ("life":Str)=some (.int l):=by unfold vT;rw[lookup_cons];simp
def xP(a:KF)(l:Int):(vT a l).lookup ("begun_ones":Str)=some (.ref a.db):=by
 unfold vT;rw[lookup_cons,(by decide +kernel:(("begun_ones":Str)==("life":Str))=false)];show List.lookup ("begun_ones":Str) [(("begun_ones":Str),V.ref a.db),(("settled_ones":Str),V.ref a.ds)]=_;rw[lookup_cons];simp
def zN(a:KF)(l:Int):(vT a l).lookup ("settled_ones":Str)=some (.ref a.ds):=by
 unfold vT;rw[lookup_cons,(by decide +kernel:(("settled_ones":Str)==("life":Str))=false)];show List.lookup ("settled_ones":Str) [(("begun_ones":Str),V.ref a.db),(("settled_ones":Str),V.ref a.ds)]=_;rw[lookup_cons,(by decide +kernel:(("settled_ones":Str)==("begun_ones":Str))=false)];show List.lookup ("settled_ones":Str) [(("settled_ones":Str),V.ref a.ds)]=_;rw[lookup_cons];simp
def vU{m:Str}(a:KF)(l:Int)(b:(m==("life":Str))=false)(c:(m==("begun_ones":Str))=false)(d:(m==("settled_ones":Str))=false):(vT a l).lookup m=none:=by
 unfold vT;rw[lookup_cons,b];show List.lookup m [(("begun_ones":Str),V.ref a.db),(("settled_ones":Str),V.ref a.ds)]=none;rw[lookup_cons,c];show List.lookup m [(("settled_ones":Str),V.ref a.ds)]=none;rw[lookup_cons,d];rfl
section
variable {C:TD}{H H':Hp}{p:TD}{a:KF}{life:Int}{m:KM}{L:Nat}
def KyAt.keep(h:KyAt C H p a life m L)(k:∀b o,H b=some o->(∀xs,o≠.lst xs)->H' b=some o):KyAt C H' p a life m L:=by
 obtain⟨d,g1,f⟩:=h.hb;obtain⟨g,g2,i⟩:=h.hs;have c:∀b xs,H b=some (.tup xs)->H' b=some (.tup xs):=λb xs e=>k _ _ e (λ_ z=>nomatch z)
 exact⟨k _ _ h.hp (λ_ z=>nomatch z),⟨d,k _ _ g1 (λ_ z=>nomatch z),f.keep c⟩,⟨g,k _ _ g2 (λ_ z=>nomatch z),i.keep c⟩,h.ne⟩
def KyAt.same(h:KyAt C H p a life m L)(s:Same H H'):KyAt C H' p a life m L:=h.keep λb o e _=>s _ _ e
def KyAt.new(h:KyAt C H p a life m L){m':KM}{c:Nat}{d e:List (List aS×V)}(f:H' p=H p)(g1:H' a.db=some (.dT d))(g2:H' a.ds=some (.dT e))(j:∀b xs,H b=some (.tup xs)->H' b=some (.tup xs))(g:Dic H' d m' fB c)(i:Dic H' e m' fS c):KyAt C H' p a life m' c:=
 ⟨f.trans h.hp,⟨d,g1,g⟩,⟨e,g2,i⟩,h.ne⟩
end
def Nh(b turn:Int):Option KE->List V
 | none=>[.str "free"]
 | some (.busy n d)=>[.str "busy",.int n,.ref d]
 | some (.kept n t d a)=>if t+b>turn then [.str "kept",.int n,.ref d,.ref a] else [.str "free"]
def FrK(H H':Hp)(a:KF):Prop:=∀c o,H c=some o->c≠a.db->c≠a.ds->H' c=some o
def Ep(C:TD):Sp:=λvs H Q _=>∃(p e:TD)(d:Int),vs=[.ref p,.int d]/\H p=some (.ins C e []) ∧
 ∀c a,H a.db=none->H a.ds=none->KyAt C c p a d (λ_=>none) 0->(∀b o,H b=some o->b≠p->c b=some o)->Q .non c
def xQ:Sp:=λvs H Q _=>∃t l n:Int,vs=[.int t,.int l,.int n]/\Q (.bl (decide (t+l>n))) H
def Ni(C:TD):Sp:=λvs H Q _=>∃p a c m L q d,vs=[.ref p,.str q.1,.str q.2,.int d]/\KyAt C H p a c m L/\∀t b,Same H b->b t=some (.tup (Nh c d (m q)))->Q (.ref t) b
def xR(C:TD):Sp:=λvs H Q _=>∃p a c m L q n d,vs=[.ref p,.str q.1,.str q.2,.int n,.ref d]/\KyAt C H p a c m L/\L<=500/\(∀e f,m q≠some (.busy e f)) ∧
 ∀b,KyAt C b p a c (m.set q (some (.busy n d))) (L+1)->FrK H b a->Q .non b
def Wj(C:TD):Sp:=λvs H Q _=>∃p a c m L t q n d,vs=[.ref p,.ref t]/\KyAt C H p a c m L/\H t=some (.tup [.str q.1,.str q.2])/\m q=some (.busy n d) ∧
 ∀u b,KyAt C b p a c (m.set q none) L->FrK H b a->b u=some (.tup [.int n,.ref d])->Q (.ref u) b
def sZ(C:TD):Sp:=λvs H Q _=>∃p a c m L q n d w z,vs=[.ref p,.str q.1,.str q.2,.int w,.ref z]/\KyAt C H p a c m L/\L<=500/\m q=some (.busy n d) ∧
 ∀b,KyAt C b p a c (m.set q (some (.kept n w d z))) (L+1)->FrK H b a->Q .non b
section
variable {prog:Program}{w:World}{A:Around}{E:XV}{s:PP}{u d:TD}{i n ep:Nat}{od:Obj}{es:Array DictEntry}
def zO{Q:XV}(lo:(d==sysModules)=false)(g:s.heap.get? d=some od)(a:od.ExactDict)(gd:od.data=.dict es ep)(q:Q (.ref s.heap.objs.size) {s with heap:=s.heap.push {cls:=.type "dict_keyiterator",data:=.fields #[.ref d,.int 0 0,.int es.size 0,.int ep 0] } }):wpAny (model prog w) A (pyIter (.ref d)) Q E s:=by
 have ty:s.TypeIs (.ref d) "dict":=⟨od,g,a.1⟩;refine wpAny_pyIter_slot ty PySem.F.slot_dict_iter (wpAny_call_entry PySem.F.slot_dict_iter ty PySem.F.entry_dict_iter ?_ (PySem.F.args_dict_iter_1 _));unfold Builtin.«dict.__iter__»;refine WP ?_;unfold Builtin.Dict.dictSlotNone;refine WP (wpAny_notOrdered_dict ty ?_);show wpAny _ _ (pure (Value.ref d)) _ _ s;refine WF ?_;show wpAny _ _ (Builtin.Dict.showsAll d>>=_) _ _ s;unfold Builtin.Dict.showsAll;rw[NE (by rw[lo];exact V4)];refine WP (WF (WP (wpAny_dictEntries g gd (WP (wpAny_dictEpoch g gd ?_)))));refine WP (wpAny_newObj_type (WF ⟨_,rfl,"dict_keyiterator",_,⟨_,TW _ rfl,rfl⟩,PySem.F.slot_dict_keyiterator_next.lookup,?_⟩));simpa [rawInt]using q
def zP{Q:Option Q3->PP->Prop}(b:s.heap.IsKeyIter u d i n ep)(g:s.heap.get? d=some od)(gd:od.data=.dict es ep)(e:es.size=n)(f:i<es.size)(q:∀h',h'.IsKeyIter u d (i+1) n ep->Heap.SameBut u s.heap h'->Q (some es[i].key) {s with heap:=h' }):wpAny (model prog w) A (pyNext (.ref u)) Q E s:=by
 obtain⟨o,a,h,hd⟩:=id b;have ty:=b.typeIs;have own:Builtin.Dict_items.ownsTuple "dict_keyiterator"=false:=by decide
 unfold pyNext;refine WP (wpAny_attempt (wpAny_callSpecial?_slot (name:=Str.ofString "__next__") ty PySem.F.slot_dict_keyiterator_next (wpAny_call_entry PySem.F.slot_dict_keyiterator_next ty PySem.F.entry_dict_keyiterator_next ?_ (PySem.F.args_dict_keyiterator_next_1 _))));refine WP (WF (WP (WP ?_)))
 first|refine WP (wpAny_typeNameOfWhole_keyiter ty (WF (WP (wpAny_fieldsOf a hd ?_))))|refine WP (wpAny_typeNameOf_keyiter ty (WF (WP (wpAny_fieldsOf a hd ?_))))
 simp only [own,Bool.false_eq_true,if_false];show wpAny _ _ (if (Value.ref d==Value.none)=true then _ else _) _ _ s;rw[NE (show ¬ ((Value.ref d==Value.none)=true) from V4)];refine WP (WF (WP (wpAny_dictEntries g gd ?_)));rw[NE (by rw[e];simp)];refine WP (WF (WP (wpAny_dictEpoch g gd ?_)));rw[NE Zs];refine WF ?_;simp only [show ¬ ((i:Int)<0) from by omega,if_false,Int.toNat_natCast,Array.getElem?_eq_getElem f];refine WP ?_
 first|refine WP (wpAny_typeNameOfWhole_keyiter ty (WF (WP (wpAny_isOneOf_keyiter ty ?_))))|refine WP (wpAny_typeNameOf_keyiter ty (WF (WP (wpAny_isOneOf_keyiter ty ?_))))
 show wpAny _ _ (setField (.ref u) 1 (rawInt ((i:Int)+1))>>=_) _ _ s;refine WP (wpAny_setField a hd Zs ?_);have c:(s.heap.update u (Obj.mapFields (·.setIfInBounds 1 (rawInt ((i:Int)+1))))).IsKeyIter u d (i+1) n ep:=⟨_,Heap.get?_update_self _ a (Obj.isFreed_of_fields (Obj.data_mapFields hd _)),(Obj.cls_mapFields ..).trans h,by rw[Obj.data_mapFields hd];simp[rawInt]⟩;refine WP (wpAny_holding (WP (wpAny_isOneOf_keyiter (s:={s with heap:=s.heap.update u (Obj.mapFields (·.setIfInBounds 1 (rawInt ((i:Int)+1)))) }) c.typeIs ?_)));show wpAny _ _ (pure es[i].key) _ _ _;exact WF (WF ⟨_,rfl,WF (q _ c (Heap.SameBut.update ..))⟩)
def Er{Q:Option Q3->PP->Prop}(f:A.handled=none)(e:s.heap.IsKeyIter u d i n ep)(g:s.heap.get? d=some od)(gd:od.data=.dict es ep)(h:es.size=n)(j:es.size<=i)(q:∀h',Heap.ExtBut u s.heap h'->Q none {s with heap:=h' }):wpAny (model prog w) A (pyNext (.ref u)) Q E s:=by
 obtain⟨o,c,k,hd⟩:=id e;have ty:=e.typeIs;have own:Builtin.Dict_items.ownsTuple "dict_keyiterator"=false:=by decide
 unfold pyNext;refine WP (wpAny_attempt (wpAny_callSpecial?_slot (name:=Str.ofString "__next__") ty PySem.F.slot_dict_keyiterator_next (wpAny_call_entry PySem.F.slot_dict_keyiterator_next ty PySem.F.entry_dict_keyiterator_next ?_ (PySem.F.args_dict_keyiterator_next_1 _))));refine WP (WF (WP (WP ?_)))
 first|refine WP (wpAny_typeNameOfWhole_keyiter ty (WF (WP (wpAny_fieldsOf c hd ?_))))|refine WP (wpAny_typeNameOf_keyiter ty (WF (WP (wpAny_fieldsOf c hd ?_))))
 simp only [own,Bool.false_eq_true,if_false];show wpAny _ _ (if (Value.ref d==Value.none)=true then _ else _) _ _ s;rw[NE (show ¬ ((Value.ref d==Value.none)=true) from V4)];refine WP (WF (WP (wpAny_dictEntries g gd ?_)));rw[NE (by rw[h];simp)];refine WP (WF (WP (wpAny_dictEpoch g gd ?_)));rw[NE Zs];refine WF ?_;simp only [show ¬ ((i:Int)<0) from by omega,if_false,Int.toNat_natCast,Array.getElem?_eq_none j];refine WP ?_
 first|refine WP (wpAny_typeNameOfWhole_keyiter ty (WF ?_))|refine WP (wpAny_typeNameOf_keyiter ty (WF ?_))
 show wpAny _ _ (setField (.ref u) 0 .none>>=_) _ _ s;refine WP (wpAny_setField c hd Zs ?_);show wpAny _ _ (newExc (.type "StopIteration") []>>=_) _ _ _;refine WP ?_;simp only [newExc,newTuple];refine WP (wpAny_newObj_type ?_ (by size_fits));refine WP (m:=firstArgMember _ _) (wpAny_of_eq (a:=Value.none) (by first|rfl|(simp only [firstArgMember];rfl)) (wpAny_newObj_type ?_ (by size_fits)));simp only [raiseNew];refine WP (wpAny_handled ?_);rw[show A.in1.handled=none from f];refine WP (WF (wpAny_throw ?_));exact WP (wpAny_isInstance (T:="StopIteration") (b:=true) ⟨_,TW _ rfl,rfl⟩ isSubtype_stop (WF (q _ (((Heap.SameBut.update ..).extBut.push _).push _))))
end
@[reducible] def jP:KeyOrd where
 α:=Int
 blt a b:=decide (a<b)
 irrefl a:=by simp
 trans a b c d e:=by simp only [decide_eq_true_eq]at *;omega
 negTrans a b c h:=by simp only [decide_eq_true_eq]at *;omega
 total a b d e:=by simp only [decide_eq_false_iff_not]at *;omega
def zQ(h:Heap)(v:Q3)(q:Int×TD):Prop:=∃t rest,v=Value.ref q.2/\IsTup h q.2 (Value.int q.1 t::rest).toArray
def TnsAt(h:Heap):List Q3->List (Int×TD)->Prop
 | [],[]=>True
 | v::vs,q::a=>zQ h v q/\TnsAt h vs a
 | _,_=>False
def TnsAt.len{h:Heap}:∀ {vs:List Q3}{qs:List (Int×TD)},TnsAt h vs qs->vs.length=qs.length
 | [],[],_=>rfl
 | _::_,_::_,x=>congrArg (·+1) x.2.len
def TnsAt.keep{h h':Heap}(k:∀v q,zQ h v q->zQ h' v q):∀ {vs:List Q3}{qs:List (Int×TD)},TnsAt h vs qs->TnsAt h' vs qs
 | [],[],_=>True.intro
 | _::_,_::_,x=>⟨k _ _ x.1,x.2.keep k⟩
def TnsAt.get{h:Heap}:∀ {vs:List Q3}{qs:List (Int×TD)} (i:Nat),TnsAt h vs qs->i<vs.length->zQ h (vs.getD i Value.none) (qs.getD i ((0:Int),0))
 | v::vs,q::qs,0,x,_=>x.1
 | v::vs,q::qs,i+1,x,a=>by
  have:=TnsAt.get i x.2 (by simpa using a);simpa using this
def TnsAt.tups{h:Heap}:∀ {vs:List Q3}{qs:List (Int×TD)},TnsAt h vs qs->∃fs,W.KatTups h vs fs/\fs.length=vs.length/\∀v∈fs,∃x t,v=Value.int x t
 | [],[],_=>⟨[],.nil,rfl,λv a=>nomatch a⟩
 | v::vs,q::qs,⟨⟨t,rest,e,o,b,c,n,hd⟩,r⟩=>by
  obtain⟨fs,d,f,g⟩:=r.tups;subst e;refine⟨Value.int q.1 t::fs,.cons b c hd Zs d,congrArg (·+1) f,λv a=>?_⟩;rcases mem_cons.mp a with e|a
  ·exact⟨_,_,e⟩
  ·exact g v a
abbrev jQ(qs:List (Int×TD))(i:Nat):jP.α:=(qs.getD i ((0:Int),0)).1
section
variable {prog:Program}{w:World}{A:Around}{E:XV}{s:PP}
def aBX{v c:Q3}{p q:Int×TD}{Q:Bool->PP->Prop}(d:zQ s.heap v p)(f:zQ s.heap c q)(g:p.1=q.1->p=q)(h:Q (decide (p.1<q.1)) s) :
  wpAny (model prog w) A (keyLt' (tuples' true) v c) Q E s:=by
 obtain⟨t,rest,rfl,o,a,_,n,hd⟩:=d;obtain⟨m,r,rfl,u,b,_,x,i⟩:=f;by_cases e:p.1=q.1
 ·have j:=g e;subst j;rw[a]at b;cases b;refine W.kat_lt a hd a hd ?_;have k:decide (p.1<p.1)=false:=by simpa using Int.lt_irrefl p.1
  rw[k]at h;refine zL _ 0 ?_;simpa using h
 ·refine W.kat_lt a hd b i (W.kat_cons (wpAny_eqBool_int (W.kat_go (λl=>IN (eq_of_beq l) e) (λ_=>W.kat_no (oneLt_int h)))))
def uI{a:TD}{vs:List Q3}{qs:List (Int×TD)}{n:Nat}{R:PySem.Fin->PP->Prop}(d:s.heap.get? a=some (seqObj "list" vs.toArray n))(y:TnsAt s.heap vs qs)(F:(qs.map (·.1)).Nodup)(g:vs.length<64)(h:∀p:Array Nat,Prm vs.length p->Up (O:=jP) (jQ qs) p vs.length->R (.done (.ret .none)) {s with heap:=sortedHeap s.heap a vs (p.toList.map λi=>vs.getD i Value.none).toArray }) :
  wpAny (model prog w) A (Builtin.«list.sort» ⟨[.ref a],[]⟩) R E s:=by
 have ha:a<s.heap.objs.size:=Heap.lt_size d;have z:vs.toArray.size<=sizeLine:=by rw[dX];exact fT (le_of_lt g) Zd
 rw[list_sort_plain];apply WP;apply listItems_at d rfl;apply WP;refine listUpdate_at d rfl ?_ z (zero_le _);obtain⟨o,g1⟩:∃o,(s.heap.update a (Obj.mapSeq λ_=>(#[]:Array Value))).get? a=some (seqObj "list" #[] o):=⟨_,get?_update_seq d λ_=>#[]⟩;apply WP;apply seqEpoch_at g1 rfl;apply WP;refine wpAny_newTuple ?_ (by simpa using z);apply WP;refine wpAny_newList ?_ (zero_le _);apply wpAny_holding;have g3:(((s.heap.update a (Obj.mapSeq λ_=>(#[]:Array Value))).push (seqObj "tuple" vs.toArray 0)).push (seqObj "list" #[] 0)).get? a=some (seqObj "list" #[] o):=iD _ (iD _ g1);have H:∀v q,zQ s.heap v q->zQ (((s.heap.update a (Obj.mapSeq λ_=>(#[]:Array Value))).push (seqObj "tuple" vs.toArray 0)).push (seqObj "list" #[] 0)) v q:=by
  rintro v q ⟨t,rest,rfl,a0,k,B,hd⟩;have I:q.2≠a:=by
   intro a5;rw[a5]at k;rw[d]at k;cases k;exact IN (show(Value.type "list":Q3)=.type "tuple" from B) Zd
  refine⟨t,rest,rfl,a0,iD _ (iD _ ?_),B,hd⟩;rw[Heap.get?_update_ne _ _ _ _ I];exact k
 have r:=y.keep H;show wpAny (model prog w) A _ R E {s with heap:=((s.heap.update a (Obj.mapSeq λ_=>(#[]:Array Value))).push (seqObj "tuple" vs.toArray 0)).push (seqObj "list" #[] 0) };dsimp only;by_cases c:vs.toArray.size<2
 ·rw[O8 c,O8 c];have u:vs.length<2:=by simpa using c
  apply WP;apply WF;rw[StateT.run_pure];apply WP;apply WF;dsimp only;have out:Array.map (λx=>x.2) (arrOf (SortSt.mk' general' (vs.toArray.zip vs.toArray) #[] 7 none))=((List.range vs.length).toArray.toList.map λi=>vs.getD i Value.none).toArray:=by
   show Array.map (λx=>x.2) (vs.toArray.zip vs.toArray)=_;have C:∀b:List Q3,b.length<2->Array.map (λx=>x.2) (b.toArray.zip b.toArray)=((List.range b.length).toArray.toList.map λi=>b.getD i Value.none).toArray:=λb h=>by
    cases b with
    | nil=>simp
    | cons a6 b=>cases b with
     | nil=>simp[range_succ]
     | cons _ _=>simp at h;omega
   exact C vs u
  rw[out];have m:((List.range vs.length).toArray.toList.map λi=>vs.getD i Value.none).toArray.size<=sizeLine:=by
   rw[dX,aR,List.toList_toArray,List.length_range];exact fT (le_of_lt g) Zd
  apply WP;apply seqEpoch_at g3 rfl;apply WP;refine listUpdate_at g3 rfl ?_ (zero_le _) (le_succ_of_le m);simp only [bne_self_eq_false,Bool.false_eq_true,if_false];refine WF (h _ (Array.Perm.refl _) λi j x a7=>?_);obtain rfl:i=j:=by omega
  exact KeyOrd.kle_refl _
 ·rw[NE c,NE c];have u:2<=vs.length:=by
   have:¬ vs.length<2:=by simpa using c
   omega
  refine yE0 r.tups (yE1 λfs=>yA3 λJ t2 K=>?_);apply WP;refine W.kat_kind (T:=.type "int") J Zo (λv L=>?_) Zd ?_
  ·obtain⟨x,t,rfl⟩:=K v L;exact W.Looks.of_pure rfl
  have M:tuples' (Value.type "int" != Value.type "tuple")=tuples' true:=by rw[show(Value.type "int" != Value.type "tuple")=true by decide]
  rw[M];have run:=W.kat_run (prog:=prog) (w:=w) (A:=A) (E:=E) (κ:=tuples' true) (ks:=vs) (vs:=vs) (s:={s with heap:=((s.heap.update a (Obj.mapSeq λ_=>(#[]:Array Value))).push (seqObj "tuple" vs.toArray 0)).push (seqObj "list" #[] 0) })
   (Q:=λl f=>∃p:Array Nat,p.size=vs.length/\arrOf l=p.map (W.kas_item (vs.toArray.zip vs.toArray))/\failedOf l=none/\Prm vs.length p/\Up (O:=jP) (jQ qs) p vs.length/\f={s with heap:=((s.heap.update a (Obj.mapSeq λ_=>(#[]:Array Value))).push (seqObj "tuple" vs.toArray 0)).push (seqObj "list" #[] 0) })
   (G:=λp f=>Prm vs.length p/\Up (O:=jP) (jQ qs) p vs.length/\f={s with heap:=((s.heap.update a (Obj.mapSeq λ_=>(#[]:Array Value))).push (seqObj "tuple" vs.toArray 0)).push (seqObj "list" #[] 0) })
   rfl u g (λp l f N P S U=>⟨p,N,P,S,U⟩) ?_
  ·apply WP;refine wpAny_mono run ?_ λ_ _ e=>e;rintro⟨⟨⟩,l⟩ f ⟨p,V,D,X,Y,Z,rfl⟩;dsimp only;have RH:=W.kat_snds rfl D;rw[RH];have m:((p.toList.map λi=>vs.getD i Value.none).toArray).size<=sizeLine:=by
    rw[dX,aR,Array.length_toList,V];exact fT (le_of_lt g) Zd
   apply WP;apply seqEpoch_at g3 rfl;apply WP;refine listUpdate_at g3 rfl ?_ (zero_le _) (le_succ_of_le m);rw[X];simp only [bne_self_eq_false,Bool.false_eq_true,if_false];exact WF (h p Y Z)
  ·refine Ask.wp (lt:=oG (O:=jP) (jQ qs)) (n:=vs.length) (λi j a8 hi hj hC=>?_) _ (Mq Zo λp h1 c=>⟨h1,c,rfl⟩);unfold W.kas_ask;refine aBX (r.get i hi) (r.get j hj) (λe=>?_) hC;have hl:=y.len;have ei:qs.getD i ((0:Int),0)=qs[i]'Zo:=by simp[List.getD,fX (show i<qs.length by omega)]
   have ej:qs.getD j ((0:Int),0)=qs[j]'Zo:=by simp[List.getD,fX (show j<qs.length by omega)]
   rw[ei,ej]at e ⊢;have KY:i=j:=(getElem_inj (xs:=qs.map (·.1)) (h₀:=by rw[aR];omega) (h₁:=by rw[aR];omega) F).mp (by simpa using e);subst KY;rfl
def Ca{l:TD}{o:Obj}{vs:List Q3}{qs:List (Int × Addr)}{n:Nat}{Q:XV}(k:s.heap.get? l=some o)(r:o.cls=.type "list")(hd:o.data=.seq vs.toArray n)(u:TnsAt s.heap vs qs)(x:(qs.map (·.1)).Nodup)(d:vs.length<64)(h:∀(a h':Heap)(p:Array Nat)(e:Nat),(∀b c,s.heap.get? b=some c->a.get? b=some c)->(∀b c,a.get? b=some c->h'.get? b=some c)->h'.get? a.objs.size=some (seqObj "list" (p.toList.map λi=>vs.getD i Value.none).toArray e) →
   Prm vs.length p->Up (O:=jP) (jQ qs) p vs.length->Q (.ref a.objs.size) {s with heap:=h' }) :
  wpAny (model prog w) A (call (.builtin "sorted") [.ref l]) Q E s:=by
 apply Calls.call_function_entry kind_sorted plain_sorted entry_sorted (args_sorted1 _);unfold Builtin.«sorted»;apply WP (m:=checkCount "sorted" 1 1 _);apply WF;apply WP;refine wpAny_collect_seq l (.inl rfl) k r hd (λa f=>?_) (by rw[dX];exact fT (le_of_lt d) Zd);have y:vs.toArray.toList=vs:=by simp
 rw[y];apply WP;apply wpAny_newList
 ·have g2:(a.push (seqObj "list" vs.toArray 0)).get? a.objs.size=some (seqObj "list" vs.toArray 0):=TW _ rfl;have z:TnsAt (a.push (seqObj "list" vs.toArray 0)) vs qs:=u.keep λv q ⟨t,rest,e,c,B,C⟩=>⟨t,rest,e,c,iD _ (f _ _ B),C⟩
  apply WP;apply wpAny_holding;refine wpAny_call_entry slot_list_sort ⟨_,g2,rfl⟩ entry_list_sort (uI (s:={s with heap:=a.push (seqObj "list" vs.toArray 0) }) g2 z x d λp D F=>⟨_,rfl,WF ⟨_,rfl,?_⟩⟩) (args_list_sort _);obtain⟨e,G⟩:=sortedHeap_at (out:=(p.toList.map λi=>vs.getD i Value.none).toArray) g2;refine h a _ p e f (λb c g=>?_) G D F;have j:=Heap.lt_size g;rw[sortedHeap_old (ne_of_lt j) (by rw[size_push'];exact lt_succ_of_lt j)];exact iD _ g
 ·exact fT (le_of_lt d) Zd
end
abbrev Tn:=Int×TD×List V
def tln(x y:Tn):Prop:=x.1<=y.1
def NAt(H:Hp)(a:List Tn):Prop:=∀z∈a,H z.2.1=some (.tup (.int z.1::z.2.2))
def iP(a:List Tn):List V:=a.map λz=>V.ref z.2.1
section
variable {X:Cx}{pins:ZB}{σ:St}{H:Hp}{s:PP}
theorem Nj(I:Inv X pins σ H s):∀ {a:List Tn}{vs:List Q3},NAt H a->Vals (iP a) vs->TnsAt s.heap vs (a.map (λz=>(z.1,z.2.1)))
 | [],[],_,_=>True.intro
 | z::a,v::vs,b,.cons r c=>by
  have e:=b z fY;obtain⟨_,h,d,it⟩:=(show ObjOk X.prog X.w H s.heap z.2.1 (.tup (.int z.1::z.2.2)) from I.hok _ _ e);cases r;refine⟨?_,Nj I (λy f=>b y (fR _ f)) c⟩
  cases d with
  | cons g i=>
   obtain⟨t,rfl⟩:=g;exact⟨t,_,rfl,it⟩
def tD(K:W.Frag):List V->Hp->VK->Prop:=λvs H Q=>match vs with
 | [.ref a]=>∃b:List Tn,SqL K H a (iP b)/\NAt H b/\(b.map (·.1)).Nodup/\b.length<64/\∀l c,H l=none->c.Perm b->c.Pairwise tln->Q (.ref l) (aH H l (.lst (iP c)))
 | _=>False
def Hu:CallR X (.builtin "sorted") (tD X.K):=by
 intro pins s σ H Z us a0 I r h;unfold tD at h;split at h
 ·rename_i a1;revert h;refine yE1 λa=>yA5 λD E F G q=>?_;obtain⟨a2,rfl,J⟩:=iE r;cases J;obtain⟨t,l,K,_⟩:=I.list D;obtain⟨o,L,M,n,hd⟩:=K.isList;have b:t.length=a.length:=by
   have:=l.length;unfold iP at this;rw[aR]at this;exact this.symm
  have N:=Nj I E l;refine Ca L M hd N (by rw[map_map];exact F) Zo λw h' p e P k Q d R=>?_;have x:=I.kept (t':=s.toks) P;have B:∀i∈p.toList,i<a.length:=λi c=>by
   have:=(Array.perm_iff_toList_perm.mp d).mem_iff.mp c;rw[<- b];simpa using this
  have S:(p.toList.map λi=>a.getD i ((0:Int),0,[])).Perm a:=by
   have T:(List.range a.length).map (λi=>a.getD i ((0:Int),0,[]))=a:=by
    apply ext_getElem
    ·simp
    ·intro i w U;simp[List.getD,fX U]
   have y:=(Array.perm_iff_toList_perm.mp d).map (λi=>a.getD i ((0:Int),0,[]));rw[List.toList_toArray,b,T]at y;exact y
  have u:p.size=a.length:=by rw[d.size,b]
  refine⟨.ref w.objs.size,_,x.laid (t':=s.toks) (o:=.lst (iP (p.toList.map λi=>a.getD i ((0:Int),0,[])))) k (bA _) ⟨?_,(p.toList.map λi=>t.getD i Value.none),e,?_,Q⟩,rfl,q _ _ (x.hok.fresh (bA _)) S ?_⟩
  ·unfold iP;rw[aR,aR,Array.length_toList,u];exact fT (le_of_lt G) Zd
  ·unfold iP;rw[map_map];refine zF λi c=>?_
   have m:=B i c;refine pJ i l (by unfold iP;rw[aR];exact m) _ ?_;unfold iP;rw[dW,fX m];simp[List.getD,fX m]
  ·rw[List.pairwise_iff_getElem];intro i j c V W;rw[aR,Array.length_toList]at c V;have Y:=R i j (le_of_lt W) Zo;unfold tln;have v:∀k,k<p.size->(a.getD (p.getD k 0) ((0:Int),0,[])).1=kg (O:=jP) (jQ (a.map (λz=>(z.1,z.2.1)))) p k:=λk f=>by
    have g:p.getD k 0<a.length:=by rw[<- b];exact d.lt (by rw[b,<- u];exact f)
    unfold kg jQ;generalize p.getD k 0=i' at g;simp[List.getD,fX g]
   have A:∀k (f:k<(p.toList.map λi=>a.getD i ((0:Int),0,[])).length),(p.toList.map λi=>a.getD i ((0:Int),0,[]))[k]=a.getD (p.getD k 0) ((0:Int),0,[]):=λk f=>by
    have g:k<p.size:=by simpa using f
    simp[Array.getD,g]
   rw[A,A,v i Zo,v j Zo];have C:decide ((kg (O:=jP) (jQ (a.map (λz=>(z.1,z.2.1)))) p j:Int)<(kg (O:=jP) (jQ (a.map (λz=>(z.1,z.2.1)))) p i:Int))=false:=Y;exact Int.not_lt.mp (UV C)
 ·exact h.elim
def R.du{K:W.Frag}(a:X.K=K:=by rfl):XC X (.builtin "sorted") (tD K):=a▸⟨Hu⟩
end
structure FzT(o:Obj)(es:Array DictEntry)(ep:Nat)(bs:List TD):Prop where
 ex:o.ExactDict
 dat:o.data=.dict es ep
 keys:es.toList.map (·.key)=bs.map Value.ref
def FzT.size{o:Obj}{es:Array DictEntry}{a:Nat}{bs:List TD}(f:FzT o es a bs):es.size=bs.length:=by
 have:=congrArg length f.keys;rw[aR,aR,Array.length_toList]at this;exact this
def FzT.at{o:Obj}{es:Array DictEntry}{d:Nat}{bs:List TD}(f:FzT o es d bs){i:Nat}(b:i<es.size):∃a:i<bs.length,es[i].key=Value.ref bs[i]:=by
 have a:i<bs.length:=by rw[<- f.size];exact b
 refine⟨a,?_⟩;have c:(es.toList.map (·.key))[i]?=some es[i].key:=by rw[dW,Array.getElem?_toList,Array.getElem?_eq_getElem b];rfl
 rw[f.keys,dW,fX a]at c;exact(Option.some.inj c).symm
def aAl(a:TD)(o:Obj)(kvs:List (List aS×V))(bs:List TD):It:=
 ⟨λi H=>H a=some (.frz o (.dT kvs))/\i<bs.length,λi H x b=>b=H/\(bs.map V.ref)[i]?=some x,λi H=>H a=some (.frz o (.dT kvs))/\bs.length<=i⟩
def Cb(a:TD)(o:Obj)(kvs:List (List aS×V))(bs:List TD):uH (aAl a o kvs bs) (bs.map V.ref) (λH=>H a=some (.frz o (.dT kvs))):=
 ⟨λi H b e=>⟨e,by rwa [aR]at b⟩,λi H x c _ _ y=>y,λH e=>⟨e,by rw[aR];exact bA _⟩⟩
section
variable {X:Cx}{pins:ZB}{σ:St}{H:Hp}{s:PP}{a:TD}{o:Obj}{kvs:List (List aS×V)}
def oK{P:Program}{w:World}{h:Heap}(ok:HOk P w H h)(e:H a=some (.frz o (.dT kvs))):h.get? a=some o:=
 (show ObjOk P w H h a (.frz o (.dT kvs)) from ok a _ e).1
def Ty{P:Program}{w:World}{K:W.Frag}{L:Expr}(a it:TD){es:Array DictEntry}{D:Nat}{bs:List TD}(f:FzT o es D bs):rW P w K L (aAl a o kvs bs) [it] it (λi h=>h.IsKeyIter it a i bs.length D) where
 mem:=by simp
 obj:=λi h st b g=>by
  obtain rfl:b=it:=by simpa using g
  obtain⟨j,e,c,d⟩:=st;exact⟨j,e,λv z=>by rw[d]at z;cases z⟩
 keep:=λi h l st k=>st.at λj e=>k it Zs j e
 item:=by
  intro X n p q F i pins s σ H E I m st r;subst n p q;obtain⟨t,u⟩:=r;have x:=oK I.hok t;refine yE0 (m it Zs) (yA6 λy f1 f2 A B C=>?_);have G:i<es.size:=by rw[f.size];exact u
  obtain⟨g,M⟩:=f.at G;refine zP st x f.dat f.size G λl J N=>?_;have O:Inv X pins σ H {s with heap:=l }:=I.turned (t':=s.toks) (λb j g e=>(N.2 b g).trans e) y f1 A B C;refine yE0 (id J) (yE1 λj=>yA3 λe c d=>?_);rw[M];refine⟨_,rfl,qJ (s:={s with heap:=l }) e c d Zd ⟨.ref bs[i],H,O,rfl,⟨rfl,?_⟩,J,λb g=>(m b g).1⟩⟩;rw[dW,fX g];rfl
 done:=by
  intro X n p q F i pins s σ H E I m st r;subst n p q;obtain⟨t,u⟩:=r;have x:=oK I.hok t;refine yE0 (m it Zs) (yA6 λy f1 f2 A B C=>?_);exact Er (I.ok.hd F) st x f.dat f.size (by rw[f.size];exact u) λl Q=>⟨rfl,I.turned (t':=s.toks) (λb j g e=>Q b j g e) y f1 A B C⟩
 self:=λ_ _ _ _ _ st h=>wpAny_pyIter_keyiter st h
def Inv.freezeT(I:Inv X pins σ H s)(e:H a=some (.dT kvs)):∃(c:Obj)(es:Array DictEntry)(d:Nat)(bs:List TD),s.heap.get? a=some c/\FzT c es d bs/\bs.length=kvs.length/\(∀(i:Nat)(b:TD),bs[i]?=some b->∃p:List aS×V,kvs[i]?=some p/\H b=some (.tup (p.1.map kV)))/\(a==sysModules)=false/\Inv X pins σ (aH H a (.frz c (.dT kvs))) s:=by
 refine yE0 (show ObjOk X.prog X.w H s.heap a (.dT kvs) from I.hok a _ e) (yA3 λz hd=>yE1 λf=>yA2 λk=>yE3 λc es d=>yA5 λg h m n w=>?_);refine⟨c,es,d,f.map (·.2.1),g,⟨h,m,?_⟩,?_,λi b r=>?_,hd,?_⟩
 ·rw[n,map_map,map_map];rfl
 ·rw[aR];exact(Paired.length k).symm
 ·rw[dW]at r;obtain⟨x,t,rfl⟩:=Option.map_eq_some_iff.mp r;have y:i<f.length:=(Zgs.mp t).1;obtain⟨h,_,v,_⟩:=Paired.get' (j:=i) k y;have A:f[i]=x:=(Zgs.mp t).2;rw[A]at v;exact⟨kvs[i],fX h,v⟩
 ·have B:∀b l,H b=some (.tup l)->(aH H a (.frz c (.dT kvs))) b=some (.tup l):=λb l q=>by rw[aB (aK q e nofun)];exact q
  exact I.write (t':=s.toks) (h':=s.heap) (x:=a) (e:=a) (o:=.frz c (.dT kvs)) (by rw[e];exact True.intro) (.inl rfl) (λb u _ q=>q) ⟨c,g⟩ ⟨g,z,hd,f,KT.keeps k B,c,es,d,g,h,m,n,w⟩
def Inv.thawT(I:Inv X pins σ H s)(e:H a=some (.frz o (.dT kvs)))(k:∀o' u,X.H₀ a≠some (.frz o' u)):Inv X pins σ (aH H a (.dT kvs)) s where
 ok:=I.ok
 os:=I.os
 bare:=I.bare
 base:=by
  have l:∀b,H b=none->b≠a:=λb z q=>by rw[q,e]at z;cases z
  refine⟨I.base.keep,I.base.slot,λb f q n m=>?_,I.base.there,λb i q=>?_,λb f u q=>?_,λb ps q=>?_⟩
  ·have:=I.base.free b f q n m;rw[aB (l b this)];exact this
  ·have:=I.base.tups b i q;rw[aB (aK this e nofun)];exact this
  ·have:=I.base.frzs b f u q;by_cases d:b=a
   ·subst d;exact IN q (k f u)
   ·rw[aB d];exact this
  ·obtain⟨more,j⟩:=I.base.tbls b ps q;exact⟨more,by rw[aB (aK j e nofun)];exact j⟩
 loc:=I.loc
 cell:=I.cell
 free:=by
  have z:=I.free;rw[aB (λq=>by rw[q,e]at z;cases z)];exact z
 freeC:=λx c h=>by
  have z:=I.freeC x c h;rw[aB (λq=>by rw[q,e]at z;cases z)];exact z
 pin:=λp r=>by
  obtain⟨t,g,w⟩:=I.pin p r;refine⟨t,?_,w⟩;rw[aB (λq=>by rw[q,e]at g;cases g)];exact g
 hok:=by
  intro b u d;have st:∀ {c:TD}{v:HO},ObjOk X.prog X.w H s.heap c v->ObjOk X.prog X.w (aH H a (.dT kvs)) s.heap c v:=λx=>x.stay (λc v _ h=>h) (λc h=>by rw[aB (aK h e nofun)];exact h) λc i h=>by rw[aB (aK h e nofun)];exact h
  by_cases q:b=a
  ·subst q;rw[aA]at d;cases d;exact st (show ObjOk X.prog X.w H s.heap b (.frz o (.dT kvs)) from I.hok b _ e).2
  ·rw[aB q]at d;exact st (I.hok b u d)
 len:=I.len
def Wk(d:TE):TI:=λσ H R=>d σ H λx c=>mR x λa=>∃kvs,c a=some (.dT kvs)/\∀(o:Obj)(bs:List TD),bs.length=kvs.length->(∀(i:Nat)(b:TD),bs[i]?=some b->∃p:List aS×V,kvs[i]?=some p/\c b=some (.tup (p.1.map kV)))->R (aAl a o kvs bs) (aH c a (.frz o (.dT kvs)))
def Tz{n l:Expr}{k:TE}(p:PE X l k):PI X n l (Wk k):=by
 intro pins s σ H R I h;refine bN (p pins s σ H _ I h) ?_;refine λv c=>yE2 λx r=>yA3 λt u d=>?_
 (try dsimp only at d);rw[cN]at d;obtain⟨a,rfl,kvs,e,q⟩:=d;cases u;refine yE0 (t.freezeT e) (yE4 λm z A bs=>yA6 λg f w i lo j=>?_);have y:(aH r a (.frz m (.dT kvs))) c.heap.objs.size=none:=j.hok.fresh (bA _);refine zO lo g f.ex f.dat ?_;refine⟨c.heap.objs.size,[c.heap.objs.size],_,_,_,rfl,j.kept (t':=c.toks) λb o e=>iD _ e,Ty a _ f,⟨_,TW _ rfl,rfl,?_⟩,λb i=>?_,q m bs w i⟩
 ·rw[f.size];rfl
 ·obtain rfl:b=c.heap.objs.size:=by simpa using i
  exact j.fpOk (bA _) y
def Nk(t:TE):TE:=λσ H Q=>t σ H λv b=>∃a kvs o,(∃c,H a=some (.dT c))/\b a=some (.frz o (.dT kvs))/\Q v (aH b a (.dT kvs))
def Nl{e:Expr}{t:TE}(b:PE X e t):PE X e (Nk t):=by
 intro pins s σ H Q I h;refine bN (b pins s σ H _ I h) λu k ⟨v,l,c,d,a,kvs,o,⟨m,f⟩,g,q⟩=>⟨v,_,c.thawT g (λi j z=>?_),d,q⟩
 have:=I.base.frzs a i j z;rw[f]at this;cases this
def Nm(t:TS):TS:=λD σ H=>t {nx:=λc b=>∃a kvs o,(∃d,H a=some (.dT d))/\b a=some (.frz o (.dT kvs))/\D.nx c (aH b a (.dT kvs)),rt:=λ_ _=>False } σ H
def Nn{e:Stmt}{t:TS}(c:PS X e t):PS X e (Nm t):=by
 intro pins s σ H D I h;refine bN (c pins s σ H _ I h) λf l q=>?_
 cases f with
 | next=>
  obtain⟨b,m,d,a,kvs,o,⟨n,g⟩,i,q⟩:=q;refine⟨b,_,d.thawT i (λj k z=>?_),q⟩;have:=I.base.frzs a j k z;rw[g]at this;cases this
 | brk=>obtain⟨_,_,_,q⟩:=q;exact q.elim
 | cont=>obtain⟨_,_,_,q⟩:=q;exact q.elim
 | ret u=>revert q;refine yE3 λ_ _ _=>yA3 λ_ _ q=>?_;exact q.elim
end
namespace R
section
variable {X:Cx}{tg l e1:Expr}{tl te:TE}{e:Stmt}{t:TS}
def ft(a:XE X l tl):XI X tg l (Wk tl):=⟨Tz a.h⟩
def jg(h:XE X e1 te):XE X e1 (Nk te):=⟨Nl h.h⟩
def jc(h:XS X e t):XS X e (Nm t):=⟨Nn h.h⟩
end
end R
section
variable {prog:Program}{w:World}{A:Around}{E:XV}{s:PP}
def zR{l:TD}{o:Obj}{vs:List Q3}{g:List Int}{n:Nat}{Q:XV}(k:s.heap.get? l=some o)(p:o.cls=.type "list")(hd:o.data=.seq vs.toArray n)(q:IntsAre vs g)(f:vs.length<64)(h:∀(a h':Heap)(out:Array Value)(e:Nat)(d:List Int),(∀b c,s.heap.get? b=some c->a.get? b=some c)->(∀b c,a.get? b=some c->h'.get? b=some c)->h'.get? a.objs.size=some (seqObj "list" out e)->IntsAre out.toList d->d.Perm g->d.Pairwise (·<=·)->Q (.ref a.objs.size) {s with heap:=h' }) :
  wpAny (model prog w) A (call (.builtin "sorted") [.ref l]) Q E s:=by
 apply Calls.call_function_entry kind_sorted plain_sorted entry_sorted (args_sorted1 _);unfold Builtin.«sorted»;apply WP (m:=checkCount "sorted" 1 1 _);apply WF;apply WP;refine wpAny_collect_seq l (.inl rfl) k p hd (λa r=>?_) (by rw[dX];exact fT (le_of_lt f) Zd);rw[show vs.toArray.toList=vs by simp];apply WP;apply wpAny_newList
 ·have g2:(a.push (seqObj "list" vs.toArray 0)).get? a.objs.size=some (seqObj "list" vs.toArray 0):=TW _ rfl;apply WP;apply wpAny_holding;refine wpAny_call_entry slot_list_sort ⟨_,g2,rfl⟩ entry_list_sort (list_sort_tree g2 q f λout d t u v=>⟨_,rfl,WF ⟨_,rfl,?_⟩⟩) (args_list_sort _);obtain⟨e,x⟩:=sortedHeap_at (out:=out) g2;refine h a _ _ e d r (λb c i=>?_) x t u v;have j:=Heap.lt_size i;rw[sortedHeap_old (ne_of_lt j) (by rw[size_push'];exact lt_succ_of_lt j)];exact iD _ i
 ·exact fT (le_of_lt f) Zd
end
def pN:∀ {vs:List Q3}{a:List Int},IntsAre vs a->Vals (a.map V.int) vs
 | _,_,.nil=>.nil
 | _,_,.cons x t h=>.cons ⟨t,rfl⟩ (pN h)
section
variable {X:Cx}
def tE(K:W.Frag):List V->Hp->VK->Prop:=λvs H Q=>match vs with
 | [.ref a]=>∃b:List Int,SqL K H a (b.map V.int)/\b.length<64/\∀(l:TD)(c:List Int),H l=none->c.Perm b->c.Pairwise (·<=·)->Q (.ref l) (aH H l (.lst (c.map V.int)))
 | _=>False
def Hv:CallR X (.builtin "sorted") (tE X.K):=by
 intro A s G H C D Q I r h;unfold tE at h;split at h
 ·rename_i a;obtain⟨E,f,g,q⟩:=h;obtain⟨u,rfl,i⟩:=iE r;cases i;obtain⟨B,b,j,_⟩:=I.list f;obtain⟨o,l,m,n,hd⟩:=j.isList;have p:=b.length;rw[aR]at p;refine zR l m hd (mN b) Zo λt F out e v w k x y c z=>?_
  have d:=I.kept (t':=s.toks) w;refine⟨.ref t.objs.size,_,d.laid (t':=s.toks) (o:=.lst (v.map V.int)) k (bA _) ?_,rfl,q _ _ (d.hok.fresh (bA _)) c z⟩;refine⟨?_,out.toList,e,pN y,x⟩;rw[aR,c.length_eq];exact fT (le_of_lt g) Zd
 ·exact h.elim
def R.im{K:W.Frag}(a:X.K=K:=by rfl):XC X (.builtin "sorted") (tE K):=a▸⟨Hv⟩
end
section
variable {X:Cx}
def xS{a:Type}(xs:List a)(k:Nat)(x:a):List a:=xs.take k++[x]++xs.drop k
def Es:V->List V->Hp->VK->Prop:=λx vs H Q=>∃(l:TD)(a:List V)(k:Nat)(y:V),x=.ref l/\vs=[.int (k:Int),y]/\H l=some (.lst a)/\k<=a.length/\a.length<1000/\Q .non (aH H l (.lst (xS a k y)))
def No{k:Nat}(h:k<1000):¬ (!Builtin.List.listFitsIndex (k:Int))=true:=by
 have a:-(2^63)<=(k:Int):=by omega
 have b:(k:Int)<2^63:=by omega
 rw[fitsIndex_both a b];exact V4
def vV:∀ {xs:List V}{its:List Q3} (k:Nat),Vals xs its->Vals (xs.take k) (its.take k)
 | _,_,0,_=>by simp;exact .nil
 | _,_,k+1,.nil=>by simp;exact .nil
 | _,_,k+1,.cons h t=>by rw[List.take_succ_cons,List.take_succ_cons];exact .cons h (vV k t)
def vW:∀ {xs:List V}{its:List Q3} (k:Nat),Vals xs its->Vals (xs.drop k) (its.drop k)
 | _,_,0,h=>by simpa using h
 | _,_,k+1,.nil=>by simp;exact .nil
 | _,_,k+1,.cons h t=>by rw[List.drop_succ_cons,List.drop_succ_cons];exact vW k t
def aAm{s:PP}{A:Around}{E:XV}{prog:Program}{w:World}{l:TD}{its:List Q3}{n:Nat}{k:Int}{t:Tok}{a:Q3}{Q:XV}(e:s.heap.get? l=some {cls:=.type "list",data:=.seq its.toArray n })(f1:¬ (!Builtin.List.listFitsIndex k)=true)(f2:its.toArray.size<=sizeLine)(q:Q .none {s with heap:=s.heap.update l (Obj.mapSeq λxs=>have k:=if k<0 then (k+(xs.size:Int)).toNat else min k.toNat xs.size;(xs.extract 0 k).push a++xs.extract k),toks:=s.toks }) :
  wpAny (model prog w) A (call (.builtin "list.insert") [.ref l,.int k t,a]) Q E s:=by
 have M:=AutoSeq1.list_insert_list_int_val_1 l its.toArray n k t a f1 f2;exact call_meets PySem.F.slot_list_insert ⟨_,e,rfl⟩ PySem.F.entry_list_insert (PySem.F.args_list_insert_3 _ _ _) M ⟨e,q⟩
def Hw:MtM X "list.insert" Es:=by
 intro D s G H x vs v E Q I o p h;revert h;refine yE4 λl a k y=>yA6 λζ η c u w q=>?_;subst ζ η;cases o;obtain⟨F,d,rfl,i,j⟩:=p.two;obtain⟨t,rfl⟩:=i;obtain⟨z,b,n,r,f,e⟩:=I.lstM c;have g:(xS a k y).length=a.length+1:=by unfold xS;simp;omega
 have A:Vals (xS a k y) (xS b k d):=by
  unfold xS;exact((vV k r).append (.cons j .nil)).append (vW k r)
 have m:(xS a k y).length<=sizeLine:=fJ (by rw[g];omega);refine aAm e (No (uD u w)) (by rw[dX,<- f];exact z) ?_;refine⟨.non,_,I.lset (its':=xS b k d) c e ?_ A m,rfl,q⟩;have B:¬ ((k:Int)<0):=by omega
 have C:min (k:Int).toNat b.toArray.size=k:=by rw[dX,<- f];simp;omega
 simp only [B,if_false,C];unfold xS;simp;exact lJ Zs
def R.io:XM X "list.insert" Es:=⟨Hw⟩
end
def isKy.len{z:Str}(h:isKy z):z.length<=1000:=fT h.2.1 Zd
section
variable {X:Cx}
def Wl(K:W.Frag):List V->Hp->VK->Prop:=λvs H Q=>∃(p:TD)(b:List Int),vs=[.ref p]/\SqL K H p (b.map V.int)/\0<b.length/\∀M:Int,M∈b->(∀a∈b,a<=M)->Q (.int M) H
def Hx(x:X.calm=true):CallR X (.builtin "max") (Wl X.K):=by
 intro F s N H b J Q I r h;revert h;refine yE2 λp c=>yA4 λζ y K q=>?_;subst ζ;obtain⟨u,rfl,z⟩:=iE r;cases z;obtain⟨o,A,B,L⟩:=I.list y;have e:=mN A;obtain⟨b,f⟩:=e.allInts.items;have C:s.heap.IsList p (intItems b):=f▸B.isList;have g:c=b.toList.map (·.1):=by
  rw[<- nums_intItems,<- f];exact(show numsOf o.toArray.toList=c from e.numsOf).symm
 have G:c.length=b.size:=by rw[g];simp
 refine max_intList (I.ok.hd x) C Zo λv M tk l D=>?_;obtain⟨w,m⟩:=argBest_gt (numAt b) (b.size-1);generalize argBest (λi j=>decide (numAt b i>numAt b j)) (b.size-1)=k at l w m;obtain⟨t,rfl⟩:=intItems_at l;have d:∀j,j<c.length->numAt b j=c.getD j 0:=λj _=>by rw[numAt_eq,g]
 refine⟨.int _,H,I.kept D,⟨_,rfl⟩,q _ ?_ ?_⟩
 ·rw[d k Zo,getD_eq_getElem?_getD,fX Zo];exact getElem_mem _
 ·intro a E;obtain⟨j,n,rfl⟩:=getElem_of_mem E;have:=m j Zo;rw[d j n,getD_eq_getElem?_getD,fX n]at this;exact this
def R.fe{K:W.Frag}(a:X.calm=true)(b:X.K=K:=by rfl):XC X (.builtin "max") (Wl K):=b▸⟨Hx a⟩
end
inductive Dd where
 | add (a:Str) (n:Nat)
 | take (a:Str) (n:Nat)
 | move (a b:Str) (n:Nat)
 | send (h a:Str) (n:Nat)
 | fetch (h a:Str) (n:Nat)
 | pass (h g a:Str) (n:Nat)
namespace Dd
def vs:Dd->List V
 | .add a n=>[.str "add",.str a,.int (n:Int)]
 | .take a n=>[.str "take",.str a,.int (n:Int)]
 | .move a b n=>[.str "move",.str a,.str b,.int (n:Int)]
 | .send h a n=>[.str "send",.str h,.str a,.int (n:Int)]
 | .fetch h a n=>[.str "fetch",.str h,.str a,.int (n:Int)]
 | .pass h g a n=>[.str "pass",.str h,.str g,.str a,.int (n:Int)]
def n:Dd->Nat
 | .add _ n=>n|.take _ n=>n|.move _ _ n=>n|.send _ _ n=>n|.fetch _ _ n=>n|.pass _ _ _ n=>n
def far:Dd->Bool
 | .send _ _ _=>true|.fetch _ _ _=>true|.pass _ _ _ _=>true|_=>false
def Ok:Dd->Prop
 | .add a n=>isNm a/\1<=n/\n<=1000000000000
 | .take a n=>isNm a/\1<=n/\n<=1000000000000
 | .move a b n=>isNm a/\isNm b/\a≠b/\1<=n/\n<=1000000000000
 | .send h a n=>isNm h/\isNm a/\1<=n/\n<=1000000000000
 | .fetch h a n=>isNm h/\isNm a/\1<=n/\n<=1000000000000
 | .pass h g a n=>isNm h/\isNm g/\isNm a/\h≠g/\1<=n/\n<=1000000000000
def Ok.n{d:Dd}(h:d.Ok):1<=d.n/\d.n<=1000000000000:=by
 cases d<;>simp only [Ok]at h<;>simp only [Dd.n]<;>omega
def wd:Dd->Str
 | .add _ _=>"add"|.take _ _=>"take"|.move _ _ _=>"move"|.send _ _ _=>"send"|.fetch _ _ _=>"fetch"|.pass _ _ _ _=>"pass"
end Dd
inductive An where
 | is1 (m:Nat)
 | is2 (l m:Nat)
 | short (m:Nat)
 | full (m:Nat)
 | no (h:Str)
 | ok
namespace An
def vs:An->List V
 | .is1 m=>[.str "is",.int (m:Int)]
 | .is2 l m=>[.str "is",.int (l:Int),.int (m:Int)]
 | .short m=>[.str "short",.int (m:Int)]
 | .full m=>[.str "full",.int (m:Int)]
 | .no h=>[.str "no",.str h]
 | .ok=>[.str "ok"]
def early:An->Bool|.short _=>true|.full _=>true|_=>false
def Of:Dd->An->Prop
 | .add _ n,.is1 m=>n<=m/\m<=1000000000000
 | .add _ n,.full m=>1000000000000<m+n/\m<=1000000000000
 | .take _ n,.is1 m=>m+n<=1000000000000
 | .take _ n,.short m=>m<n
 | .move _ _ n,.is2 l m=>l+n<=1000000000000/\n<=m/\m<=1000000000000
 | .move _ _ n,.short m=>m<n
 | .move _ _ n,.full m=>1000000000000<m+n/\m<=1000000000000
 | .send _ _ n,.is1 m=>m+n<=1000000000000
 | .send _ _ n,.short m=>m<n
 | .send h _ _,.no g=>g=h
 | .fetch _ _ n,.is1 m=>n<=m/\m<=1000000000000
 | .fetch _ _ n,.full m=>1000000000000<m+n/\m<=1000000000000
 | .fetch h _ _,.no g=>g=h
 | .pass h g _ _,.no k=>k=h∨k=g
 | .pass _ _ _ _,.ok=>True
 | _,_=>False
end An
inductive RX where
 | next (n t:Nat)
 | has (z:Str) (m:Nat)
 | kept (n t:Nat) (p k:Str) (d:Dd) (y:An)
 | came (n t:Nat) (p k:Str) (d:Dd)
 | asked (n:Nat)
 | done (n t:Nat) (y:An)
namespace RX
def At(H:Hp)(a:TD):RX->Prop
 | .next n t=>H a=some (.tup [.str "next",.int (n:Int),.int (t:Int)])
 | .has z m=>H a=some (.tup [.str "has",.str z,.int (m:Int)])
 | .kept n t p k d y=>∃b c,H a=some (.tup [.str "kept",.int (n:Int),.int (t:Int),.str p,.str k,.ref b,.ref c])/\H b=some (.tup d.vs)/\H c=some (.tup y.vs)
 | .came n t p k d=>∃b,H a=some (.tup [.str "came",.int (n:Int),.int (t:Int),.str p,.str k,.ref b])/\H b=some (.tup d.vs)
 | .asked n=>H a=some (.tup [.str "asked",.int (n:Int)])
 | .done n t y=>∃c,H a=some (.tup [.str "done",.int (n:Int),.int (t:Int),.ref c])/\H c=some (.tup y.vs)
def At.tk{H H':Hp}{a:TD}{r:RX}(s:TK H H')(h:r.At H a):r.At H' a:=by
 cases r with
 | next n t=>exact s _ _ h
 | has z m=>exact s _ _ h
 | kept n t p k d y=>obtain⟨b,c,e,f,g⟩:=h;exact⟨b,c,s _ _ e,s _ _ f,s _ _ g⟩
 | came n t p k d=>obtain⟨b,e,f⟩:=h;exact⟨b,s _ _ e,s _ _ f⟩
 | asked n=>exact s _ _ h
 | done n t y=>obtain⟨b,e,f⟩:=h;exact⟨b,s _ _ e,s _ _ f⟩
def tvs:List V->TV:=λa=>.tp (a.map TV.sc)
def rep_flat{H:Hp}{b:TD}{xs:List V}(g:H b=some (.tup xs))(d:∀x∈xs,mP x=true):Hk H 1 (tvs xs) (.ref b):=by
 refine⟨b,xs,rfl,g,?_⟩
 induction xs with
 | nil=>exact .nil
 | cons x xs e=>
  clear g;refine .cons ⟨rfl,d x fY⟩ ?_;have:∀(a:List V),(∀y∈a,mP y=true)->Paired (Hk H 0) (a.map TV.sc) a:=λa h=>by
   induction a with
   | nil=>exact .nil
   | cons y a e=>exact .cons ⟨rfl,h y fY⟩ (e λz c=>h z (fR _ c))
  exact this xs λz c=>d z (fR _ c)
def sc_dd(d:Dd):∀x∈d.vs,mP x=true:=by
 intro x a;cases d<;>simp only [Dd.vs,mem_cons,EJ,or_false]at a<;>rcases a with rfl|rfl|rfl|rfl|rfl<;>rfl
def sc_an(y:An):∀x∈y.vs,mP x=true:=by
 intro x a;cases y<;>simp only [An.vs,mem_cons,EJ,or_false]at a<;>rcases a with rfl|rfl|rfl|rfl|rfl<;>rfl
def aBY:RX->Nat|.next _ _=>0|.has _ _=>1|.kept _ _ _ _ _ _=>2|_=>3
def turn:RX->Nat|.next _ t=>t|.came _ t _ _ _=>t|.done _ t _=>t|_=>0
def aCS(rs:List RX):RX->Prop
 | .next _ _=>rs=[]
 | .has z _=>(∀q∈rs,aBY q<=1)/\(∃n t,.next n t∈rs)/\∀i m,.has i m∈rs->i.cps.toList<z.cps.toList
 | .kept n t _ _ d y=>(∀q∈rs,aBY q<=2)/\(∃j g,.next j g∈rs/\n<j/\t<=g)/\(∀a b c e f h,.kept a b c e f h∈rs->a<n)/\An.Of d y
 | .came n t _ _ _=>(∀a b c e f,.came a b c e f∈rs->a<n)/\(∀b c e f h,.kept n b c e f h∉rs)/\∀q∈rs,turn q<=t
 | .asked n=>(∃t p k d,.came n t p k d∈rs/\d.far=true)/\.asked n∉rs/\∀t y,.done n t y∉rs
 | .done n t y=>(∀q∈rs,turn q<=t)/\(∀t y,.done n t y∉rs)/\∃g p k d,.came n g p k d∈rs/\An.Of d y/\(d.far=true->(.asked n∈rs↔y.early=false))
inductive Whole:List RX->Prop
 | nil:Whole []
 | snoc {rs:List RX}{r:RX}:Whole rs->aCS rs r->Whole (rs++[r])
end RX
structure RxsAt(H:Hp)(ra:TD)(rs:List RX)(as:List TD):Prop where
 lst:H ra=some (.lst (as.map V.ref))
 each:Paired (λr a=>RX.At H a r) rs as
def RxsAt.len{H:Hp}{ra:TD}{rs:List RX}{a:List TD}(h:RxsAt H ra rs a):rs.length=a.length:=h.each.length
def RxsAt.keep{H H':Hp}{ra:TD}{rs:List RX}{a:List TD}(h:RxsAt H ra rs a)(s:TK H H')(e:H' ra=some (.lst (a.map V.ref))):RxsAt H' ra rs a:=⟨e,Paired.map' (λ_ _ x=>x.tk s) h.each⟩
def RxsAt.same{H H':Hp}{ra:TD}{rs:List RX}{a:List TD}(h:RxsAt H ra rs a)(s:Same H H'):RxsAt H' ra rs a:=h.keep s.tk (s _ _ h.lst)
def RxsAt.snoc{H H':Hp}{ra:TD}{rs:List RX}{b:List TD}{r:RX}{a:TD}(h:RxsAt H ra rs b)(s:TK H H')(c:r.At H' a)(e:H' ra=some (.lst (b.map V.ref++[.ref a]))):RxsAt H' ra (rs++[r]) (b++[a]):=
 ⟨by rw[e,dN];rfl,Paired.snoc (Paired.map' (λ_ _ x=>x.tk s) h.each) c⟩
def RxsAt.get{H:Hp}{ra:TD}{rs:List RX}{b:List TD}(h:RxsAt H ra rs b){i:Nat}{v:V}(e:(b.map V.ref)[i]?=some v):∃(a:TD)(r:RX),v=.ref a/\b[i]?=some a/\rs[i]?=some r/\r.At H a:=by
 rw[dW]at e;cases c:b[i]? with
 | none=>rw[c]at e;cases e
 | some a=>
  rw[c]at e;cases e;obtain⟨f,g⟩:=Zgs.mp c;obtain⟨k,d⟩:=Paired.get' (j:=i) h.each f;rw[g]at d;exact⟨a,rs[i],rfl,rfl,fX k,d⟩
def RxsAt.nil{H:Hp}{ra:TD}(h:H ra=some (.lst [])):RxsAt H ra [] []:=⟨h,.nil⟩
def cT{t u:TS}{D:kN}{b:St}{H:Hp}(R:St->Hp->Prop)(h:∀nx:St->Hp->Prop,(∀ a H',R a H'->nx a H')->t {D with nx:=nx } b H)(c:∀ a H',R a H'->u D a H'):Rl t u D b H:=h (u D) c
theorem tF:∀ {ks:List Int}{vs:List Q3},vs.length=ks.length->(∀(i:Nat)(v:Q3),vs[i]?=some v->∃x t,ks[i]?=some x/\v=Value.int x t)->IntsAre vs ks
 | [],[],_,_=>.nil
 | k::ks,v::vs,a,h=>by
  obtain⟨x,t,b,rfl⟩:=h 0 v rfl;cases b;exact .cons k t (tF (by simpa using a) λi v c=>by simpa using h (i+1) v (by simpa using c))
section
variable {prog:Program}{w:World}{A:Around}{E:XV}{s:PP}
def xT{d:TD}{c:List Int}{kvs:List (aS×Q3)}{Q:XV}(F:A.handled=none)(lo:(d==sysModules)=false)(hd:s.heap.DictOf (aX prog w) d kvs)(o:kvs.map (·.1)=c.map Sum.inl)(p:c.length<64)(h:∀(a h':Heap)(tk:Nat)(out:Array Value)(e:Nat)(g:List Int),(∀b f,s.heap.get? b=some f->a.get? b=some f)->(∀b f,a.get? b=some f->h'.get? b=some f)->h'.get? a.objs.size=some (seqObj "list" out e)->IntsAre out.toList g->g.Perm c->g.Pairwise (·<=·)->Q (.ref a.objs.size) {s with heap:=h',toks:=tk }) :
  wpAny (model prog w) A (call (.builtin "sorted") [.ref d]) Q E s:=by
 have q:kvs.length=c.length:=by simpa using congrArg length o
 obtain⟨R,G⟩:=hd.dictAt;apply Calls.call_function_entry kind_sorted plain_sorted entry_sorted (args_sorted1 _);unfold Builtin.«sorted»;apply WP (m:=checkCount "sorted" 1 1 _);apply WF;apply WP;refine W.kdu_collect (W.kdl_dict lo) F G (by rw[q];exact fT (le_of_lt p) Zd) λa tk n H r=>?_;have l:IntsAre n.toList c:=tF (by rw[Array.length_toList,r.1,q]) λi v I=>by
  obtain⟨k,x,J,K⟩:=r.2 i v (by simpa using I);have j:(kvs.map (·.1))[i]?=some k:=by rw[dW,J];rfl
  rw[o,dW]at j;cases u:c[i]? with
  | none=>rw[u]at j;cases j
  | some y=>
   rw[u]at j;cases j;rcases bH (show nF (Sum.inl y) v=true from K) with⟨z,t,e,L⟩|⟨_,_,e,_⟩
   ·cases e;exact⟨_,t,rfl,L⟩
   ·cases e
 generalize n.toList=vs at l;have B:vs.length<64:=by rw[l.length];exact p
 apply WP;apply wpAny_newList
 ·have g2:(a.push (seqObj "list" vs.toArray 0)).get? a.objs.size=some (seqObj "list" vs.toArray 0):=TW _ rfl;apply WP;apply wpAny_holding;refine wpAny_call_entry slot_list_sort ⟨_,g2,rfl⟩ entry_list_sort (list_sort_tree (s:={s with heap:=a.push (seqObj "list" vs.toArray 0),toks:=tk }) g2 l B λout g M N O=>⟨_,rfl,WF ⟨_,rfl,?_⟩⟩) (args_list_sort _);obtain⟨e,P⟩:=sortedHeap_at (out:=out) g2;refine h a _ _ _ e g H (λb f C=>?_) P M N O;have D:=Heap.lt_size C;rw[sortedHeap_old (ne_of_lt D) (by rw[size_push'];exact lt_succ_of_lt D)];exact iD _ C
 ·exact fT (le_of_lt B) Zd
end
section
variable {X:Cx}
def pO:List V->Hp->VK->Prop:=λvs H Q=>match vs with
 | [.ref a]=>∃(b:List Int)(d:List (aS×V)),Rd H a (.dK d)/\d.map (·.1)=b.map Sum.inl/\b.length<64/\∀(l:TD)(c:List Int),H l=none->c.Perm b->c.Pairwise (·<=·)->Q (.ref l) (aH H l (.lst (c.map V.int)))
 | _=>False
def Cc(g:X.calm=true):CallR X (.builtin "sorted") pO:=by
 intro x s D H z A Q I r h;unfold pO at h;split at h
 ·rename_i a;revert h;refine yE2 λB y=>yA4 λi j b q=>?_;obtain⟨u,rfl,l⟩:=iE r;cases l;obtain⟨_,hd,vs,f,dd⟩:=nZ I.hok i;refine xT (I.ok.hd g) hd dd (by rw[<- f.keys];exact j) b λm C tk out e n p k t v c w=>?_;have d:=I.kept (t':=s.toks) p;refine⟨.ref m.objs.size,_,d.laid (t':=tk) (o:=.lst (n.map V.int)) k (bA _) ⟨?_,out.toList,e,pN v,t⟩,rfl,q _ _ (d.hok.fresh (bA _)) c w⟩;rw[aR,c.length_eq];exact fT (le_of_lt b) Zd
 ·exact h.elim
def R.dw(a:X.calm=true):XC X (.builtin "sorted") pO:=⟨Cc a⟩
end
section
variable {X:Cx}
def Ua(b:Bool):R2:=λx y H Q=>mR y λa=>∃o,DGet H a x o/\Q (.bl (if b then !o.isSome else o.isSome)) H
def Np(b:Bool)(d:X.A.units+1<cLine):OpR X (compareOp (if b then .NotIn else .In)) (Ua b):=by
 intro j s k H x y v u Q I e f h;unfold Ua at h;rw[cN]at h;obtain⟨a,rfl,o,g,q⟩:=h;cases f;cases b
 ·exact aBk d I g e λi c=>⟨.bl _,H,c,rfl,q⟩
 ·exact Ds d I g e λi c=>⟨.bl _,H,c,rfl,q⟩
def R.fg(a:X.A.units+1<cLine):iV X (compareOp .In) (Ua false):=⟨Np false a⟩
def R.fh(a:X.A.units+1<cLine):iV X (compareOp .NotIn) (Ua true):=⟨Np true a⟩
end
def kZ(xs ys:List V):Prop:=∀(j:Nat)(u v:V),xs[j]?=some u->ys[j]?=some v->gY u=true/\gY v=true
def tG{xs:List V}(h:kZ xs xs):cZ xs xs=true:=by
 unfold cZ;rw[Bool.and_eq_true_iff];refine⟨all_eq_true.mpr λj a=>?_,Zs⟩;have a:j<xs.length:=by simpa using a
 have e:xs.getD j .non=xs[j]:=by simp[List.getD,a]
 rw[e];have:=(h j xs[j] xs[j] (fX a) (fX a)).1;generalize xs[j]=v at this;cases v<;>first|exact IN (show false=true from this) V4|simp[wX]
section
variable {X:Cx}
def Nq{o:ZB}{s:PP}{F:St}{H:Hp}{a b:TD}{xs ys:List V}(I:Inv X o F H s)(G:X.A.units+64<cLine)(g1:H a=some (.tup xs))(g2:H b=some (.tup ys))(fl:kZ xs ys):SeqAt.EqAt X.A.in1 s (.ref a) (.ref b) (cZ xs ys):=by
 by_cases e:a=b
 ·subst e;rw[g1]at g2;cases g2;rw[tG fl];exact SeqAt.EqAt.same _
 ·obtain⟨c,k,r,_⟩:=I.tuple (QYZ g1);obtain⟨d,l,t,_⟩:=I.tuple (QYZ g2);have u:c.length=xs.length:=k.length.symm;have v:d.length=ys.length:=l.length.symm;have p:∀j (f:j<c.toArray.size) (g:j<d.toArray.size),SeqAt.EqAt X.A.in1.in1 s c.toArray[j] d.toArray[j] (wX (xs.getD j .non) (ys.getD j .non)):=λj f g=>by
   rw[dX]at f g;obtain⟨m,x⟩:=Paired.get' (j:=j) k f;obtain⟨n,y⟩:=Paired.get' (j:=j) l g;obtain⟨f1,f2⟩:=fl j xs[j] ys[j] (fX m) (fX n);have B:xs.getD j .non=xs[j]:=by simp[List.getD,m]
   have C:ys.getD j .non=ys[j]:=by simp[List.getD,n]
   rw[B,C];simpa using Bj x y f1 f2
  have e:((List.range (min c.toArray.size d.toArray.size)).all (λj=>wX (xs.getD j .non) (ys.getD j .non))&&c.toArray.size==d.toArray.size)=cZ xs ys:=by
   rw[dX,dX,u,v];rfl
  have i:=SeqAt.RcAt.tuples (A:=X.A.in1) (s:=s) r t (by rw[Ho];omega) p;rw[e]at i;intro q w E Q h;unfold eqBool;refine wpAny_holding ?_;refine wpAny_ite_split (λD=>IN (eq_of_beq D) (λz=>by cases z;contradiction)) (λ_=>?_);exact WP (i q w E _ (wpAny_truthy_bool h))
def zS(xs:List V)(a:List (TD×List V)):Bool:=a.any λz=>cZ z.2 xs
def aAn(d:Bool):R2:=λx y H Q=>mR x λa=>mR y λp=>∃(b:List V)(c:List (TD×List V)),H a=some (.tup b)/\H p=some (.lst (c.map λz=>V.ref z.1))/\(∀z∈c,H z.1=some (.tup z.2)/\kZ z.2 b)/\Q (.bl (if d then !zS b c else zS b c)) H
def eqH(H:Hp)(xs:List V)(v:Q3):Bool:=match v with|.ref b=>(match H b with|some (.tup a)=>cZ a xs|_=>false)|_=>false
def Nr{H:Hp}{xs ys:List V}{b:TD}(g:H b=some (.tup ys)):eqH H xs (.ref b)=cZ ys xs:=by unfold eqH;dsimp only;rw[g]
def Cd{a:List (TD×List V)}:∀ {us:List Q3},Vals (a.map λz=>V.ref z.1) us->us=a.map λz=>Value.ref z.1:=by
 induction a with
 | nil=>intro us r;cases r;rfl
 | cons z a b=>intro us r;cases r with|cons r t=>rw[b t];cases r;rfl
def aAo(f:Bool)(n:X.A.units+64<cLine):OpR X (compareOp (if f then .NotIn else .In)) (aAn f):=by
  intro C s D H x y v u Q I o t h;unfold aAn at h;rw[cN]at h;obtain⟨a,rfl,h⟩:=h;rw[cN]at h;obtain⟨p,rfl,d,b,g1,g2,c,q⟩:=h;cases o;cases t;obtain⟨g,r,j,_⟩:=I.list (QYY g2);have k:=Cd r;have l:∀w,w∈g.toArray->SeqAt.EqAt X.A.in1 s w (.ref a) (eqH H d w):=λw e=>by
    have e:w∈g:=by simpa using e
    rw[k]at e;obtain⟨z,i,rfl⟩:=Zmm.mp e;rw[Nr (c z i).1];exact Nq I n (c z i).1 g1 (c z i).2
  have m:g.toArray.any (eqH H d)=zS d b:=by
    rw[k];unfold zS;rw[List.any_toArray,List.any_map];have:∀b:List (TD×List V),(∀z∈b,H z.1=some (.tup z.2)/\kZ z.2 d)->b.any (eqH H d∘λz=>Value.ref z.1)=b.any λz=>cZ z.2 d:=λb c=>by
     induction b with
     | nil=>rfl
     | cons z b A=>
      rw[any_cons,any_cons,A λy B=>c y (fR _ B)]
      congr 1
      exact Nr (c z fY).1
    exact this b c
  cases f
  . refine SeqAt.in_listAt _ j.isList l ⟨.bl _,H,I,rfl,?_⟩
    rw[m];exact q
  . refine SeqAt.notIn_listAt _ j.isList l ⟨.bl _,H,I,rfl,?_⟩
    rw[m];exact q
def R.ip(a:X.A.units+64<cLine):iV X (compareOp .NotIn) (aAn true):=⟨aAo true a⟩
end
section
variable {prog:Program}{w:World}{A:Around}{E:XV}{s:PP}{u d:TD}{i n ep:Nat}{od:Obj}{es:Array DictEntry}
def Hy{Q:Option Q3->PP->Prop}(c:s.heap.IsValIter u d i n ep)(g:s.heap.get? d=some od)(gd:od.data=.dict es ep)(e:es.size=n)(f:i<es.size)(q:∀h',h'.IsValIter u d (i+1) n ep->Heap.SameBut u s.heap h'->Q (some es[i].val) {s with heap:=h' }):wpAny (model prog w) A (pyNext (.ref u)) Q E s:=by
 obtain⟨o,a,h,hd⟩:=id c;have ty:=c.typeIs;have own:Builtin.Dict_items.ownsTuple "dict_valueiterator"=false:=by decide
 unfold pyNext;refine WP (wpAny_attempt (wpAny_callSpecial?_slot (name:=Str.ofString "__next__") ty PySem.F.slot_dict_valueiterator_next (wpAny_call_entry PySem.F.slot_dict_valueiterator_next ty PySem.F.entry_dict_valueiterator_next ?_ (PySem.F.args_dict_valueiterator_next_1 _))));refine WP (WF (WP (WP ?_)))
 first|refine WP (wpAny_typeNameOfWhole_valiter ty (WF (WP (wpAny_fieldsOf a hd ?_))))|refine WP (wpAny_typeNameOf_valiter ty (WF (WP (wpAny_fieldsOf a hd ?_))))
 simp only [own,Bool.false_eq_true,if_false];show wpAny _ _ (if (Value.ref d==Value.none)=true then _ else _) _ _ s;rw[NE (show ¬ ((Value.ref d==Value.none)=true) from V4)];refine WP (WF (WP (wpAny_dictEntries g gd ?_)));rw[NE (by rw[e];simp)];refine WP (WF (WP (wpAny_dictEpoch g gd ?_)));rw[NE Zs];refine WF ?_;simp only [show ¬ ((i:Int)<0) from by omega,if_false,Int.toNat_natCast,Array.getElem?_eq_getElem f];refine WP ?_
 first|refine WP (wpAny_typeNameOfWhole_valiter ty (WF (WP (wpAny_isOneOf_valiter ty ?_))))|refine WP (wpAny_typeNameOf_valiter ty (WF (WP (wpAny_isOneOf_valiter ty ?_))))
 show wpAny _ _ (setField (.ref u) 1 (rawInt ((i:Int)+1))>>=_) _ _ s;refine WP (wpAny_setField a hd Zs ?_);have b:(s.heap.update u (Obj.mapFields (·.setIfInBounds 1 (rawInt ((i:Int)+1))))).IsValIter u d (i+1) n ep:=⟨_,Heap.get?_update_self _ a (Obj.isFreed_of_fields (Obj.data_mapFields hd _)),(Obj.cls_mapFields ..).trans h,by rw[Obj.data_mapFields hd];simp[rawInt]⟩;refine WP (wpAny_holding (WP (wpAny_isOneOf_valiter (s:={s with heap:=s.heap.update u (Obj.mapFields (·.setIfInBounds 1 (rawInt ((i:Int)+1)))) }) b.typeIs (WP (wpAny_isOneOf_valiter (s:={s with heap:=s.heap.update u (Obj.mapFields (·.setIfInBounds 1 (rawInt ((i:Int)+1)))) }) b.typeIs ?_)))));show wpAny _ _ (pure es[i].val) _ _ _;exact WF (WF ⟨_,rfl,WF (q _ b (Heap.SameBut.update ..))⟩)
def Nt{Q:Option Q3->PP->Prop}(f:A.handled=none)(e:s.heap.IsValIter u d i n ep)(g:s.heap.get? d=some od)(gd:od.data=.dict es ep)(h:es.size=n)(j:es.size<=i)(q:∀h',Heap.ExtBut u s.heap h'->Q none {s with heap:=h' }):wpAny (model prog w) A (pyNext (.ref u)) Q E s:=by
 obtain⟨o,c,k,hd⟩:=id e;have ty:=e.typeIs;have own:Builtin.Dict_items.ownsTuple "dict_valueiterator"=false:=by decide
 unfold pyNext;refine WP (wpAny_attempt (wpAny_callSpecial?_slot (name:=Str.ofString "__next__") ty PySem.F.slot_dict_valueiterator_next (wpAny_call_entry PySem.F.slot_dict_valueiterator_next ty PySem.F.entry_dict_valueiterator_next ?_ (PySem.F.args_dict_valueiterator_next_1 _))));refine WP (WF (WP (WP ?_)))
 first|refine WP (wpAny_typeNameOfWhole_valiter ty (WF (WP (wpAny_fieldsOf c hd ?_))))|refine WP (wpAny_typeNameOf_valiter ty (WF (WP (wpAny_fieldsOf c hd ?_))))
 simp only [own,Bool.false_eq_true,if_false];show wpAny _ _ (if (Value.ref d==Value.none)=true then _ else _) _ _ s;rw[NE (show ¬ ((Value.ref d==Value.none)=true) from V4)];refine WP (WF (WP (wpAny_dictEntries g gd ?_)));rw[NE (by rw[h];simp)];refine WP (WF (WP (wpAny_dictEpoch g gd ?_)));rw[NE Zs];refine WF ?_;simp only [show ¬ ((i:Int)<0) from by omega,if_false,Int.toNat_natCast,Array.getElem?_eq_none j];refine WP ?_
 first|refine WP (wpAny_typeNameOfWhole_valiter ty (WF ?_))|refine WP (wpAny_typeNameOf_valiter ty (WF ?_))
 show wpAny _ _ (setField (.ref u) 0 .none>>=_) _ _ s;refine WP (wpAny_setField c hd Zs ?_);show wpAny _ _ (newExc (.type "StopIteration") []>>=_) _ _ _;refine WP ?_;simp only [newExc,newTuple];refine WP (wpAny_newObj_type ?_ (by size_fits));refine WP (m:=firstArgMember _ _) (wpAny_of_eq (a:=Value.none) (by first|rfl|(simp only [firstArgMember];rfl)) (wpAny_newObj_type ?_ (by size_fits)));simp only [raiseNew];refine WP (wpAny_handled ?_);rw[show A.in1.handled=none from f];refine WP (WF (wpAny_throw ?_));exact WP (wpAny_isInstance (T:="StopIteration") (b:=true) ⟨_,TW _ rfl,rfl⟩ isSubtype_stop (WF (q _ (((Heap.SameBut.update ..).extBut.push _).push _))))
def Hz(a:s.TypeIs (.ref d) "dict")(hd:(d==sysModules)=false){Q:PySem.Fin->PP->Prop}(q:Q (.done (.ret (.ref s.heap.objs.size))) {s with heap:=s.heap.push {cls:=.type "dict_values",data:=.fields #[.ref d] } }):wpAny (model prog w) A (Builtin.«dict.values» ⟨[.ref d],[]⟩) Q E s:=by
 refine WP ?_;unfold Builtin.Dict.noArgs;refine WP (wpAny_notOrdered_dict a ?_);show wpAny _ _ (pure d) _ _ s;refine WF ?_;show wpAny _ _ (Builtin.Dict.showsAll d>>=_) _ _ s;unfold Builtin.Dict.showsAll;rw[NE (by rw[hd];exact V4)];refine WP (WF ?_);exact WP (wpAny_newObj_type (WF q))
def Ia{v:TD}{Q:XV}(a:s.heap.IsValuesView v d)(g:s.heap.get? d=some od)(gd:od.data=.dict es ep)(q:Q (.ref s.heap.objs.size) {s with heap:=s.heap.push {cls:=.type "dict_valueiterator",data:=.fields #[.ref d,.int 0 0,.int es.size 0,.int ep 0] } }):wpAny (model prog w) A (pyIter (.ref v)) Q E s:=by
 obtain⟨h,b,f,c⟩:=id a;refine wpAny_pyIter_slot a.typeIs PySem.F.slot_dict_values_iter (wpAny_call_entry PySem.F.slot_dict_values_iter a.typeIs PySem.F.entry_dict_values_iter ?_ (PySem.F.args_dict_values_iter_1 _));unfold Builtin.«dict_values.__iter__»;refine WP (WF ?_);refine WP ?_;unfold Builtin.Dict_items.dictOf;refine WP (wpAny_field b c (x:=.ref d) rfl (WF ?_));refine WP ?_;unfold Builtin.Dict_items.newIterator;refine WP (wpAny_dictEntries g gd ?_);refine WP (wpAny_dictEpoch g gd ?_);have e:Builtin.Dict_items.ownsTuple "dict_valueiterator"=false:=by decide
 simp only [e,Bool.false_eq_true,if_false];refine wpAny_newObj_type (WF ⟨_,rfl,"dict_valueiterator",_,⟨_,TW _ rfl,rfl⟩,PySem.F.slot_dict_valueiterator_next.lookup,?_⟩);simpa [rawInt]using q
end
def aAp(a:TD)(o:Obj)(kvs:List (List aS×V)):It:=
 ⟨λi H=>H a=some (.frz o (.dT kvs))/\i<kvs.length,λi H x b=>b=H/\(kvs.map (·.2))[i]?=some x,λi H=>H a=some (.frz o (.dT kvs))/\kvs.length<=i⟩
def aAq(a:TD)(o:Obj)(kvs:List (List aS×V)):uH (aAp a o kvs) (kvs.map (·.2)) (λH=>H a=some (.frz o (.dT kvs))):=
 ⟨λi H b e=>⟨e,by rwa [aR]at b⟩,λi H x c _ _ y=>y,λH e=>⟨e,by rw[aR];exact bA _⟩⟩
section
variable {X:Cx}{pins:ZB}{σ:St}{H:Hp}{s:PP}{a:TD}{o:Obj}{kvs:List (List aS×V)}
def xU{P:Program}{w:World}{h:Heap}(ok:HOk P w H h)(e:H a=some (.frz o (.dT kvs))){es:Array DictEntry}{m:Nat}(hd:o.data=.dict es m):es.size=kvs.length/\∀(i:Nat)(c:i<es.size),∃u:i<kvs.length,RelV kvs[i].2 es[i].val:=by
 refine yE0 (show ObjOk P w H h a (.frz o (.dT kvs)) from ok a _ e) (yA4 λn _ _=>yE1 λp=>yA2 λb=>yE3 λv x y=>yA5 λg z d f A=>?_);rw[n]at g;cases g;rw[hd]at d;cases d;have B:=Paired.length b;have q:es.size=kvs.length:=by have:=congrArg length f;rw[aR,Array.length_toList]at this;omega
 refine⟨q,λi c=>?_⟩;have k:i<p.length:=by omega
 obtain⟨r,_,_,t⟩:=Paired.get' (j:=i) b k;refine⟨r,?_⟩;have l:(es.toList)[i]?=some es[i]:=by rw[Array.getElem?_toList,Array.getElem?_eq_getElem c]
 rw[f,dW,fX k]at l;rw[<- Option.some.inj l];exact t
def Ub{P:Program}{w:World}{K:W.Frag}{J:Expr}(a it:TD){es:Array DictEntry}{C:Nat}(hd:o.data=.dict es C):rW P w K J (aAp a o kvs) [it] it (λi h=>h.IsValIter it a i kvs.length C) where
 mem:=by simp
 obj:=λi h st b f=>by
  obtain rfl:b=it:=by simpa using f
  obtain⟨g,e,c,d⟩:=st;exact⟨g,e,λv z=>by rw[d]at z;cases z⟩
 keep:=λi h l st k=>st.at λg e=>k it Zs g e
 item:=by
  intro X n p q D i pins s σ H E I m st r;subst n p q;obtain⟨j,L⟩:=r;have t:=oK I.hok j;refine yE0 (m it Zs) (yA6 λu f1 f2 x y A=>?_);obtain⟨B,M⟩:=xU I.hok j hd;have F:i<es.size:=by omega
  obtain⟨f,N⟩:=M i F;refine Hy st t hd B F λl G O=>?_;have Q:Inv X pins σ H {s with heap:=l }:=I.turned (t':=s.toks) (λb g f e=>(O.2 b f).trans e) u f1 x y A;refine yE0 (id G) (yE1 λg=>yA3 λe c d=>?_);refine⟨_,rfl,qJ (s:={s with heap:=l }) e c d Zd ⟨kvs[i].2,H,Q,N,⟨rfl,?_⟩,G,λb f=>(m b f).1⟩⟩;rw[dW,fX f];rfl
 done:=by
  intro X n p q D i pins s σ H E I m st r;subst n p q;obtain⟨j,L⟩:=r;have t:=oK I.hok j;refine yE0 (m it Zs) (yA6 λu f1 f2 x y A=>?_);obtain⟨B,_⟩:=xU I.hok j hd;exact Nt (I.ok.hd D) st t hd B Zo λl R=>⟨rfl,I.turned (t':=s.toks) (λb g f e=>R b g f e) u f1 x y A⟩
 self:=λ_ _ _ _ _ st h=>wpAny_pyIter_valiter st h
def Nu(c:TE):TI:=λσ H R=>c σ H λx b=>mR x λa=>∃kvs,b a=some (.dT kvs)/\∀o,R (aAp a o kvs) (aH b a (.frz o (.dT kvs)))
def Nv{t l:Expr}{n:TE}{k m:Pos}(u:PE X l n)(w:attributeBase l "values" X.env (eval l X.env)=eval l X.env)(y:(k.endLine==m.line)=true):PI X t (.Call (.Attribute l "values" k) [] [] m) (Nu n):=by
 intro pins s σ H R I h;refine wpAny_Call_method0_late w y (bN (u pins s σ H _ I h) ?_);refine λv c=>yE2 λx z=>yA3 λp A i=>?_;(try dsimp only at i);rw[cN]at i;obtain⟨a,rfl,kvs,e,q⟩:=i;cases A;obtain⟨B,C,_⟩:=sA p (.inr ⟨_,.inl e⟩);refine yE0 (p.freezeT e) (yE4 λj J K bs=>yA6 λg f L r lo D=>?_);have ty:c.TypeIs (.ref a) "dict":=⟨j,g,f.ex.1⟩;refine⟨"dict","dict.values",PySem.F.plainAttrs_dict,PySem.F.slot_dict_values,PySem.F.type_dict_values,B,C,Calls.callWith_builtin rfl (PySem.evalArgs_none ?_)⟩;refine wpAny_call_entry PySem.F.slot_dict_values ty PySem.F.entry_dict_values (Hz ty lo ⟨_,rfl,?_⟩) (PySem.F.args_dict_values_1 _);have d:=D.kept (t':=c.toks) (h':=c.heap.push {cls:=.type "dict_values",data:=.fields #[.ref a] }) λb o e=>iD _ e
 have E:(c.heap.push {cls:=.type "dict_values",data:=.fields #[.ref a] }).IsValuesView c.heap.objs.size a:=⟨_,TW _ rfl,rfl,rfl⟩;obtain⟨F,_⟩:=xU d.hok (aA (a:=a)) f.dat;refine Ia (s:={c with heap:=c.heap.push {cls:=.type "dict_values",data:=.fields #[.ref a] } }) E (oK d.hok (aA (a:=a))) f.dat ?_;have G:(aH z a (.frz j (.dT kvs))) (c.heap.push {cls:=.type "dict_values",data:=.fields #[.ref a] }).objs.size=none:=d.hok.fresh (bA _);refine⟨_,[_],_,_,_,rfl,d.kept (t':=c.toks) λb o e=>iD _ e,Ub a _ f.dat,⟨_,TW _ rfl,rfl,?_⟩,λb r=>?_,q j⟩
 ·rw[F];rfl
 ·obtain rfl:b=(c.heap.push {cls:=.type "dict_values",data:=.fields #[.ref a] }).objs.size:=by simpa using r
  exact d.fpOk (bA _) G
end
def R.iq{X:Cx}{d l:Expr}{c:TE}{a b:Pos}(e:XE X l c)(f:attributeBase l "values" X.env (eval l X.env)=eval l X.env:=by rfl)(g:(a.endLine==b.line)=true:=by rfl):XI X d (.Call (.Attribute l "values" a) [] [] b) (Nu c):=⟨Nv e.h f g⟩
section
variable {X:Cx}{e o:Expr}{es:List Expr}{m:Str}{pos apos cpos:Pos}{ta td ty:TE}{t:TA}{C:TD}{n:Nat}{ps:List Str}{sp:Sp}{dvs:List V}
def R.ir(a:XE X o td)(b:XE X e ty)(c:attributeBase o "pop" X.env (eval o X.env)=eval o X.env:=by rfl)(d:(apos.endLine == cpos.line)=true:=by rfl)(f:((backTo cpos (starEach [e] X.env)).all (λx=>!x.1)&&(backToKw cpos (keywordEach [] X.env)).all (λx=>x.1.isSome)
  && decide (([e]:List Expr).length+([]:List Keyword).length+(if ([]:List Keyword).isEmpty then 0 else 1)<30))=true:=by rfl)(g:backTo cpos (starEach [e] X.env)=[(false,eval e X.env)]:=by rfl):XE X (.Call (.Attribute o "pop" apos) [e] [] cpos) (Lc td ty):=⟨Le a.h b.h ⟨c,f,d,g⟩⟩
structure Nw(P:Program)(w:World)(K:W.Frag)(mg:W1)(base:Heap)(n:Nat)(C:TD)(m:Str)(ps:List Str)(dvs:List V)(sp:Sp):Prop where
 ex:∃f fd ds,Cls K C/\Kh K C m f/\FnOk P w K mg base sC n f fd ps sp/\Binds K fd ps ds/\Vals dvs ds
def Ny(C:TD)(m:Str)(sp:Sp)(dvs:List V)(ta:TE)(t:TA):TE:=λc H Q=>ta c H λx b=>mR x λa=>∃d fs,b a=some (.ins C d fs)/\fs.lookup m=none/\t c b λvs f=>sp (.ref a::vs++dvs) f Q E0
def Ib{pl:Sem Bool}(v:PE X o ta)(c:Nw X.prog X.w X.K X.mg X.base n C m ps dvs sp)(w:Room n X.A)(y:PA X (e::es) t)(hs:aQ e=true)(z:(backTo pos (starEach es X.env)).any (·.1)=false)(A:eval (.Call (.Attribute o m apos) (e::es) [] pos) X.env=(do
   let g←eval o X.env
   standAt apos.atName
   let (f,first)←holding [g] (getMethod g m pl)
   callWith pos f first (backTo pos (starEach (e::es) X.env)) (backToKw pos (keywordEach [] X.env)))) :
  PE X (.Call (.Attribute o m apos) (e::es) [] pos) (Ny C m sp dvs ta t):=by
 refine yE0 c.ex (yE3 λf M ds=>yA5 λB i F D hd=>?_);intro d s p H Q I h;refine W.methodCall_KW (pl:=pl) (bN (v d s p H _ I h) ?_) A;refine λu E=>yE2 λx G=>yA3 λj J b=>?_;(try dsimp only at b);rw[cN]at b;obtain⟨a,rfl,N,fs,K,l,q⟩:=b;obtain rfl:u=Value.ref a:=J;refine mL j K B i l ?_;refine W.callWith_K (first:=[.ref a]) (h₀:=X.base) I.ok.mod.kin i.kp (bN (y pos d E p G _ j q) λus O ⟨vs,P,k,r,L⟩=>⟨k.kIn,?_⟩) (bO hs) z;exact wR (us:=.ref a::us) (vs:=.ref a::vs) (dvs:=dvs) (ds:=ds) F w D hd vG k (.cons rfl r) L
def R.fm{pl:Sem Bool}(c:Nw X.prog X.w X.K X.mg X.base n C m ps dvs sp)(b:Room n X.A)(d:XE X o ta)(g:XA X (e::es) t)(hs:aQ e=true:=by rfl)(h:es.all aQ=true:=by rfl)(i:eval (.Call (.Attribute o m apos) (e::es) [] pos) X.env=(do
   let a←eval o X.env
   standAt apos.atName
   let (f,first)←holding [a] (getMethod a m pl)
   callWith pos f first (backTo pos (starEach (e::es) X.env)) (backToKw pos (keywordEach [] X.env))):=by rfl):XE X (.Call (.Attribute o m apos) (e::es) [] pos) (Ny C m sp dvs ta t):=⟨Ib d.h c b g.h hs (fK h) i⟩
end
section
variable {P:Program}{w:World}{K:W.Frag}{mg:W1}{base:Heap}{qual m:Str}{st:Stmt}{C:TD}{N ps:List Str}{k:Nat}{sp:Sp}
structure MethAtD(K:W.Frag)(C:TD)(m qual:Str)(st:Stmt)(ps:List Str)(dvs:List (List V)):Prop where
 cl:Cls K C
 ex:∃f fd dv,FunD K m qual st dv f fd/\Kh K C m f/\∀d∈dvs,∃ds,Binds K fd ps ds/\Vals d ds
def MethAtD.go{dvs:List (List V)}(D:MethAtD K C m qual st ps dvs)(S:aI N ps (aD st))(len:∀vs H Q E,sp vs H Q E->vs.length=ps.length)(e:∀(f:TD)(a:Q3)(A:Around)(c:List Env)(s:PP)(H:Hp)(vs:List V)(Q:VK)(E:XK),Room k (A.deeper (envOfC qual (aD st) s.heap.objs.size f a))->sp vs H Q E →
   ∃t,XB (mM sC P w K mg base N qual (aD st) f a A c s H E).nox (aT st) t/\t {nx:=λ_ H'=>Q .non H',rt:=Q } (start N vs) H):∀d∈dvs,Nw P w K mg base (k+1) C m ps d sp:=by
 intro d hd;refine yE0 D.ex (yE3 λf g l=>yA3 λF h i=>?_);obtain⟨j,b,v⟩:=i d hd;exact⟨f,g,j,D.cl,h,F.go S len (e f),b,v⟩
end
section
variable {prog:Program}{w:World}{A:Around}
def Ic(n:A.handled=none)(I d:TD)(p:d≠I){f:Obj}{es:Array DictEntry}{j:Nat}(gd:f.data=.dict es j) :
  Walks prog w A I [I,d] [I] es.size (λi v=>∃h:i<es.size,v=es[i].key) (λi h=>h.IsKeyIter I d i es.size j/\h.get? d=some f) where
 sub:=λb a=>by simp at a;simp[a]
 frame:=λ_ _ _ st k=>⟨st.1.at λo e=>k I Zs o e,k d Zs _ st.2⟩
 item:=λi s Q E l st c=>zP st.1 st.2 gd rfl l λg q m=>c _ g s.toks ⟨l,rfl⟩ ⟨q,m.extBut d f p st.2⟩ λb o a e=>m.extBut b o (λh=>a (by simp[h])) e
 done:=λs Q E st c=>Er n st.1 st.2 gd rfl (bA _) λg r=>c g s.toks λb o a e=>r b o (λh=>a (by simp[h])) e
 self:=λ_ _ _ _ st c=>wpAny_pyIter_keyiter st.1 c
def Uc{d:TD}(lo:(d==sysModules)=false){b:Obj}{es:Array DictEntry}{f:Nat}(c:b.ExactDict)(gd:b.data=.dict es f):W.KdlSrc prog w "dict" d d es.size (λi v=>∃h:i<es.size,v=es[i].key) (λh=>h.get? d=some b) where
 type:=λ_ a=>⟨b,a,c.1⟩
 there:=λ_ a=>⟨Heap.lt_size a,Heap.lt_size a⟩
 keep:=λ_ _ a g=>g d (.inl rfl) b a
 notList:=by decide
 notTuple:=by decide
 hint:=λ_ _ _ _ a e=>W.kdl_hint_dict ⟨b,a,c.1⟩ e
 iter:=λ_ _ j a=>⟨_,_,(λ_ _ e=>zO lo a c gd e),Ic j _ d (ne_of_lt (Heap.lt_size a)) gd,⟨⟨_,TW _ rfl,rfl,rfl⟩,iD _ a⟩⟩
end
section
variable {X:Cx}
def Ce:List V->Hp->VK->Prop:=λvs H Q=>match vs with
 | [.ref a]=>∃c:List (List aS×V),H a=some (.dT c)/\∀(l:TD)(bs:List TD),H l=none->bs.length=c.length->(∀(i:Nat)(b:TD),bs[i]?=some b->∃p:List aS×V,c[i]?=some p/\H b=some (.tup (p.1.map kV)))->Q (.ref l) (aH H l (.lst (bs.map V.ref)))
 | _=>False
def Ud(B:X.calm=true):CallR X (.type "list") Ce:=by
 intro P s Z H c R Q I r h;unfold Ce at h;split at h
 ·rename_i a;obtain⟨u,e,q⟩:=h;obtain⟨a0,rfl,C⟩:=iE r;cases C;refine yE0 (show ObjOk X.prog X.w H s.heap a (.dT u) from I.hok a _ e) (yA3 λw lo=>yE1 λc=>yA2 λf=>yE3 λS m T=>yA5 λg n D x U=>?_);have v:m.size=u.length:=by
   have:=congrArg length x;rw[aR,Array.length_toList]at this;rw[this];exact(Paired.length f).symm
  have E:∀(i:Nat)(d:i<m.size),∃l:i<c.length,m[i].key=Value.ref c[i].2.1:=λi d=>by
   have l:i<c.length:=by rw[<- Paired.length f,<- v];exact d
   refine⟨l,?_⟩;have:m.toList[i]?=(c.map (entryOfKey (tupleKind (aX X.prog X.w))))[i]?:=by rw[x]
   rw[Array.getElem?_toList,Array.getElem?_eq_getElem d,dW,fX l]at this;rw[Option.some.inj this];rfl
  refine W.kdl_call (Uc lo n D) (I.ok.hd B) g (by rw[v];exact w) λY tk p F k G t=>?_;have y:p.toList=(c.map (·.2.1)).map Value.ref:=by
   refine ext_getElem (by rw[Array.length_toList,t.1,v,aR,aR];exact Paired.length f) λi J n=>?_;have d:i<m.size:=by rw[<- t.1];simpa using J
   obtain⟨l,K⟩:=E i d;obtain⟨_,L⟩:=t.2 i p[i] (by rw[Array.getElem?_eq_getElem (by rw[t.1];exact d)]);rw[Array.getElem_toList,L,K];simp
  have M:Vals ((c.map (·.2.1)).map V.ref) p.toList:=by
   rw[y];clear y;induction c.map (·.2.1) with
   | nil=>exact .nil
   | cons b bs N=>exact .cons rfl N
  refine⟨.ref s.heap.objs.size,_,I.laid (t':=tk) (o:=.lst ((c.map (·.2.1)).map V.ref)) k (bA _) ⟨?_,p.toList,F,M,?_⟩,rfl,q _ (c.map (·.2.1)) (I.hok.fresh (bA _)) (by rw[aR];exact(Paired.length f).symm) λi b z=>?_⟩
  ·rw[aR,aR,<- Paired.length f];exact w
  ·rw[G]
  ·rw[dW]at z;obtain⟨a1,l,rfl⟩:=Option.map_eq_some_iff.mp z;obtain⟨d,O⟩:=Zgs.mp l;obtain⟨n,_,A,_⟩:=Paired.get' (j:=i) f d;rw[O]at A;exact⟨u[i],fX n,A⟩
 ·exact h.elim
def R.iu(a:X.calm=true):XC X (.type "list") Ce:=⟨Ud a⟩
end
def uJ{prog:Program}{w:World}{d:TD}(hd:(d==sysModules)=false){a:Obj}{es:Array DictEntry}{b:Nat}(gd:a.data=.dict es b) :
  MeetsIn prog w (Builtin.«dict.__len__» ⟨[.ref d],[]⟩) (λ_ R s=>s.heap.get? d=some a/\R (.ok (.ret (.int es.size s.toks))) {s with toks:=s.toks+1 }):=
 .of_wp λA R s ⟨c,h⟩=>by
  show wpAny _ _ (dictSize d>>=_) _ _ s;unfold dictSize;refine WP (WP (wpAny_dictEntries c gd (WF ?_)));show wpAny _ _ (Builtin.Dict.pendingCount d>>=_) _ _ s;refine WP (wpAny_pendingCount_other hd ?_);refine wpAny_ret_mkInt ?_;rw[Nat.add_zero];exact h
def xV{prog:Program}{w:World}{A:Around}{E:XV}{s:PP}{d:TD}{a:Obj}{es:Array DictEntry}{b:Nat}{Q:XV}(hd:(d==sysModules)=false)(g:s.heap.get? d=some a)(c:a.ExactDict)(gd:a.data=.dict es b)(e:(es.size:Int)<2^63)(h:Q (.int es.size (s.toks+1)) {s with toks:=s.toks+1+1 }):wpAny (model prog w) A (call (.builtin "len") [.ref d]) Q E s:=by
 have ty:s.TypeIs (.ref d) "dict":=⟨a,g,c.1⟩;refine Calls.call_function_entry kind_len plain_len entry_len (args_len1 _) ?_;unfold Builtin.«len»;refine WP (m:=oneArg "len" _) (WF ?_);refine WP (m:=callSpecial? (.ref d) (Str.ofString "__len__")) (wpAny_callSpecial?_slot (name:=Str.ofString "__len__") ty PySem.F.slot_dict_len
  (call_meetsIn PySem.F.slot_dict_len ty PySem.F.entry_dict_len (PySem.F.args_dict_len_1 _) (uJ hd gd) ⟨g,?_⟩))
 show wpAny _ _ _ _ _ {s with toks:=s.toks+1 };refine WP (wpAny_holding (WF ?_));refine WP (wpAny_letGo ?_);show wpAny _ _ (if ((es.size:Nat):Int)<0 then _ else _) _ _ _;rw[NE Zo];show wpAny _ _ (if ((es.size:Nat):Int)≥2^63 then _ else _) _ _ _;rw[NE Zo];exact WP (wpAny_mkInt (WF ⟨_,rfl,h⟩))
section
variable {X:Cx}
def Nz:List V->Hp->VK->Prop:=λvs H Q=>match vs with
 | [.ref a]=>∃b:List (List aS×V),H a=some (.dT b)/\Q (.int b.length) H
 | _=>False
def aAr:CallR X (.builtin "len") Nz:=by
 intro o s x H f p Q I r h;unfold Nz at h;split at h
 ·rename_i a;obtain⟨b,e,q⟩:=h;obtain⟨u,rfl,i⟩:=iE r;cases i;refine yE0 (show ObjOk X.prog X.w H s.heap a (.dT b) from I.hok a _ e) (yA3 λj lo=>yE1 λf=>yA2 λd=>yE3 λt k v=>yA5 λg l m n w=>?_);have c:k.size=b.length:=by
   have:=congrArg length n;rw[aR,Array.length_toList]at this;rw[this];exact(Paired.length d).symm
  refine xV lo g l m (by rw[c];rw[sizeLine_eq]at j;omega) ?_;rw[c];exact⟨.int b.length,H,I.tok _,⟨_,rfl⟩,q⟩
 ·exact h.elim
def R.iw:XC X (.builtin "len") Nz:=⟨aAr⟩
end
end L2
namespace KL
open PySem L2
def f8:=@R.v
def lc:=@R.ab
def li:=@R.ac
def lq:=@R.ad
def lu:=@R.ae
def mo:=@R.int
def oe:=@R.af
def og:=@R.ag
def oh:=@R.op
def oi:=@R.it
def oj:=@R.ai
def o0:=@R.ah
def pi:=@R.ao
def pv:=@R.ap
def pw:=@R.gn
def px:=@R.fn
def qa:=@R.aq
def qb:=@R.ar
def qd:=@R.au
def qe:=@R.av
def re:=@R.aw
def tz:=@R.ax
def ux:=@R.ps
def uy:=@R.ay
def uz:=@R.az
def u8:=@R.ix
def va:=@R.ba
def vb:=@R.eq
def vc:=@R.sl
def vd:=@R.bb
def ve:=@R.bc
def vf:=@R.be
def vg:=@R.bf
def vh:=@R.kiT
def vi:=@R.bg
def vj:=@R.pn
def vk:=@R.bh
def vm:=@R.bi
def vn:=@R.bj
def wl:=@R.tw
def wn:=@R.sT
def wr:=@R.bn
def wt:=@R.bo
def wu:=@R.bp
def ww:=@R.bq
def wx:=@R.br
def wy:=@R.bv
def xa:=@R.bw
def xc:=@R.ce
def xf:=@R.cf
def xg:=@R.cg
def xh:=@R.bu
def xz:=@R.cj
def yn:=@R.gt
def yo:=@R.ck
def yp:=@R.cm
def yq:=@R.cn
def yr:=@R.il
def yt:=@R.bl
def yu:=@R.ci
def dC(i:Nat):Stmt:=PySem.Challenge.pw_oncedoor_k94_whole_lives.main.body.getD i (.Pass ⟨0,0,0,0⟩)
abbrev lQ:Stmt:=dC 25
abbrev oN:Stmt:=dC 26
abbrev jR:Stmt:=dC 29
abbrev eG:Stmt:=dC 30
abbrev lR:Stmt:=dC 34
abbrev fO:Stmt:=dC 35
abbrev lS:Stmt:=dC 38
abbrev cU:Stmt:=dC 39
abbrev rK:Stmt:=dC 41
abbrev dG:Stmt:=dC 43
abbrev gD:Stmt:=dC 44
abbrev bV:Stmt:=aP (dC 53) 0
abbrev iF:Stmt:=aP (dC 53) 1
abbrev gE:Stmt:=aP (dC 53) 2
abbrev fE:Stmt:=aP (dC 53) 4
abbrev iG:Stmt:=aP (dC 53) 5
abbrev jS:Stmt:=aP (dC 53) 7
abbrev eI:Stmt:=aP (dC 53) 8
abbrev jT:Stmt:=dC 54
abbrev bW:Stmt:=aP (dC 56) 0
abbrev fF:Stmt:=aP (dC 56) 1
abbrev fP:Stmt:=aP (dC 56) 2
abbrev fG:Stmt:=aP (dC 56) 3
abbrev gG:Stmt:=dC 58
abbrev gH:Stmt:=dC 59
abbrev eJ:Stmt:=dC 60
abbrev gJ:Stmt:=dC 61
abbrev cX:Stmt:=dC 62
abbrev hV:Stmt:=dC 64
abbrev eM:Stmt:=dC 65
abbrev gK:Stmt:=dC 66
abbrev bL:Stmt:=aP (dC 77) 0
abbrev dO:Stmt:=aP (dC 77) 1
abbrev dP:Stmt:=aP (dC 77) 2
abbrev eN:Stmt:=aP (dC 77) 3
abbrev eP:Stmt:=aP (dC 77) 4
abbrev eQ:Stmt:=aP (dC 77) 6
abbrev lU:Stmt:=dC 79
abbrev cG:Stmt:=aP (dC 84) 0
abbrev cD:Stmt:=aP (dC 84) 4
abbrev bP:Stmt:=aP (dC 85) 0
abbrev gL:Stmt:=aP (dC 85) 1
abbrev eS:Stmt:=aP (dC 85) 2
abbrev dH:Stmt:=aP (dC 85) 3
abbrev gM:Stmt:=aP (dC 85) 4
abbrev bX:Stmt:=aP (dC 89) 0
abbrev iH:Stmt:=aP (dC 89) 1
abbrev eC:Stmt:=aP (dC 89) 2
abbrev cK:Stmt:=aP (dC 89) 3
abbrev cR:Stmt:=aP (dC 89) 4
abbrev gN:Stmt:=aP (dC 89) 7
abbrev iI:Stmt:=aP (dC 89) 8
abbrev iJ:Stmt:=aP (dC 89) 9
abbrev iK:Stmt:=aP (dC 89) 10
abbrev fH:Stmt:=aP (dC 89) 15
abbrev iM:Stmt:=aP (dC 89) 16
abbrev gO:Stmt:=aP (dC 89) 19
abbrev gP:Stmt:=dC 90
abbrev jU:Stmt:=dC 92
abbrev jV:Stmt:=dC 93
abbrev cM:Stmt:=dC 94
abbrev jW:Stmt:=dC 96
abbrev fI:Stmt:=dC 97
abbrev jX:Stmt:=dC 98
abbrev gQ:Stmt:=dC 99
abbrev mF:Stmt:=dC 100
def dD{N P:List Str}{sc:Scope}(a:sc.kind=.function:=by rfl)(b:sc.isCoroutine=false:=by rfl)(c:sc.isGenerator=false:=by rfl)(d:N.Nodup:=by decide +kernel)(e:N.take P.length=P:=by rfl)(f:∀x∈P,sc.names.lookup x=some .local∨sc.names.lookup x=some .cell:=by decide +kernel)(g:∀y∈sc.names,y.2≠.free:=by decide +kernel):aI N P sc:=⟨a,b,c,d,e,f,g⟩
def Cf:aI zv zv (aD lQ):=dD
def Id:aI zv zv (aD oN):=dD
def zT:aI QZD QZD (aD jR):=dD
def uK:aI QZQ QZQ (aD eG):=dD
def Cg:aI zv zv (aD lR):=dD
def xW:aI QZM QZM (aD fO):=dD
def mV:aI ["deed","add","take"] zu (aD lS):=dD
def kL:aI zu zu (aD cU):=dD
def oO:aI ["book","deed","name","by","amount"] QZX (aD rK):=dD
def tH:aI QZX QZX (aD dG):=dD
def uL:aI QZL QZL (aD gD):=dD
def pP:aI QZK QZK (aD bV):=dD
def jY:aI ["self","asker","key","turn","pair","entry"] QZs (aD iF):=dD
def mG:aI ["self","asker","key","number","deed","pair"] QZC (aD gE):=dD
def lA:aI ["self","asker","key","turn","answer","entry"] QZB (aD fE):=dD
def gT:aI ["self","turn","told","pair","entry"] QZU (aD iG):=dD
def zU:aI QZA QZA (aD jS):=dD
def qZ:aI QZJ QZJ (aD eI):=dD
def zV:aI QZI QZI (aD jT):=dD
def pQ:aI QZP QZP (aD bW):=dD
def tJ:aI zr zr (aD fF):=dD
def xX:aI AC AC (aD fP):=dD
def cV:aI ["self","changes","name","by"] QZz (aD fG):=dD
def lB:aI QZH zt (aD gG):=dD
def iQ:aI ["rows","word","told","row"] QZy (aD gH):=dD
def uM:aI zt zt (aD eJ):=dD
def iR:aI ["rows","came","book","row"] QZT (aD gJ):=dD
def mH:aI QZg QZT (aD cX):=dD
def gX:aI QZr QZq (aD hV):=dD
def iU:aI QZe QZp (aD eM):=dD
def dI:aI ["rows","turn","numbers","came","asked","told","number"] QZo (aD gK):=dD
def lZ:aI QZO QZO (aD bL):=dD
def pS:aI QZN QZN (aD dO):=dD
def pT:aI AC AC (aD dP):=dD
def fV:aI ["self","more","stays","row"] QZW (aD eN):=dD
def rA:aI AC AC (aD eP):=dD
def rB:aI AC AC (aD eQ):=dD
def jZ:aI ["text","rows","place","line"] ["text"] (aD lU):=dD
def rC:aI QZY QZY (aD cG):=dD
def lC:aI QZx QZx (aD cD):=dD
def aO:aI ["self","life","turn","up","number","since","asker","key","deed","answer"] QZS (aD bP):=dD
def uN:aI QZY QZY (aD gL):=dD
def kM:aI ["self","asker","key","deed","number"] QZn (aD eS):=dD
def lD:aI ["self","run","holders"] QZR (aD dH):=dD
def mJ:aI ["self","number","turn","answer","run"] QZm (aD gM):=dD
def pU:aI QZG QZG (aD bX):=dD
def cY:aI ["self","turn","asker","key","deed","memory","house","there","seen","number"] QZw (aD iH):=dD
def kA:aI ["self","number","way","memory","run"] QZv (aD eC):=dD
def fZ:aI QZF QZR (aD cK):=dD
def mW:aI QZF QZF (aD cR):=dD
def dJ:aI ["self","memory","safe","told","row"] AC (aD gN):=dD
def xY:aI QZW QZW (aD iI):=dD
def oP:aI ["self","turn","up"] QZU (aD iJ):=dD
def gV:aI ["self","memory","rows","row"] AC (aD iK):=dD
def tK:aI zr zr (aD fH):=dD
def oQ:aI ["self","memory"] AC (aD iM):=dD
def uO:aI AC AC (aD gO):=dD
def uP:aI QZu QZu (aD gP):=dD
def zW:aI QZV QZV (aD jU):=dD
def fQ:aI ["_law_deck_here","_law_many","_law_cell","_law_number"] QZE (aD jV):=dD
def cP:aI QZl QZk (aD cM):=dD
def qR:aI ["_law_door","_law_number","_law_steps"] QZt (aD jW):=dD
def lE:aI ["_law_deck_here","_law_door","_law_turn","_law_way"] QZj (aD fI):=dD
def cJ:aI ["_law_table","_law_turn","_law_life","_law_found","_law_asker","_law_key","_law_number","_law_when","_law_deed","_law_answer"] QZi (aD jX):=dD
def bC:aI ["_law_deck_here","_law_door","_law_table","_law_turn","_law_life","_law_book","_law_name","_law_amount_here","_law_number","_law_spot","_law_stands","_law_when","_law_deed","_law_answer","_law_odd"] QZh (aD gQ):=dD
def cB:aI QZd QZV (aD mF):=dD
structure Txt(K:W.Frag)(mg:W1):Prop where
 b_isinstance:mg "isinstance"=none
 b_int:mg "int"=none
 b_bool:mg "bool"=none
 b_str:mg "str"=none
 b_len:mg "len"=none
 b_all:mg "all"=none
 b_tuple:mg "tuple"=none
 b_dict:mg "dict"=none
 b_sorted:mg "sorted"=none
 b_max:mg "max"=none
 b_list:mg "list"=none
 b_enumerate:mg "enumerate"=none
 b_sum:mg "sum"=none
 b_range:mg "range"=none
 g_LETTERS:∃t,mg "LETTERS"=some (.str ("abcdefghijklmnopqrstuvwxyz") t)
 g_FIGURES:∃t,mg "FIGURES"=some (.str ("0123456789") t)
 g_LONGEST_NAME:∃t,mg "LONGEST_NAME"=some (.int (8) t)
 g_LONGEST_KEY:∃t,mg "LONGEST_KEY"=some (.int (12) t)
 g_MOST:∃t,mg "MOST"=some (.int (1000000000000) t)
 g_LONGEST_DOOR_NAME:∃t,mg "LONGEST_DOOR_NAME"=some (.int (5) t)
structure Top(Pm:Params)(K:W.Frag)(mg:W1):Prop where
 g_NAME_COUNTS:∃a,mg "NAME_COUNTS"=some (.ref a)/\KTab K Pm a (WS)
 g_UNLIKE_WORDS:∃a,mg "UNLIKE_WORDS"=some (.ref a)/\∀H,SqT K H a (UW)
 g_WAYS:∃a,mg "WAYS"=some (.ref a)/\∀H,SqT K H a ([V.str "through",V.str "lost",V.str "unheard"])
section
variable {P:Program}{w:World}{K:W.Frag}{mg:W1}{base:Heap}
def Ue(T:Txt K mg)(D:DefAt K mg "is_made_of" eG QZQ):Callee P w K mg base 1 "is_made_of" QZQ Bt:=by
 refine D.gg uK (λf J A F s H vs Q E L h=>?_)
 ·revert h;refine yE4 λx a n k=>yA4 λζ b r q=>?_;subst ζ;refine⟨_,(lq (qa (wl (xa (wr (vk (R.dh .str (f8 0) rfl T.b_isinstance rfl T.b_str Lz))) (xc (wr (R.iy R.le R.le mo (uy R.di rfl T.b_len dQ (lc (f8 0) li)) (f8 2)))))) (lu (oe yt)) qb) (lu (oe (uy (R.iz (K:=K) rfl) rfl T.b_all Ly (lc (vm rfl (js:=[none,some 1]) (N:=["sign","signs"]) (CompScope.by (aD eG) QZQ rfl rfl Zk) (aV rfl) (R.wS (f8 0)) (λC G I M=>⟨(pw (i:=0) (show(["sign","signs"]:List Str).Nodup by decide +kernel)),xf,(R.cp R.jj (f8 0) (f8 1))⟩)) li))))),?_⟩;have no:isK .str k=false->eU x a.cps.toList n=false:=λe=>by
   cases x<;>first|rfl|(cases k<;>first|exact b.elim|cases e)
  refine⟨k,b,?_⟩
  cases x with
  | str z=>
   cases k<;>first|exact b.elim|skip
   have m:=r z rfl;refine⟨fJ m,?_⟩;refine dF (λd=>?_) (λd=>?_)
   ·refine dF (λg=>?_) (λg=>?_)
    ·have e:eU (.str z) a.cps.toList n=false:=by
      rw[gZ];have j:decide ((z.length:Int)<=n)=false:=by simpa using g
      rw[j];simp
     have h:=q H (Same.refl H);rw[e]at h;exact h
    ·refine⟨z,rfl,Hh (Te z) (by simp[vK,Str.length]at m ⊢;omega) (λ_=>true) (λv=>match v with|.str y=>.bl (decide (y.cps.toList.headD 0∈a.cps.toList))|_=>.non) trivial (λv O N t u S=>?_) ?_⟩
     ·obtain⟨c,U,rfl⟩:=Zmm.mp t;exact⟨c,rfl,u rfl⟩
     ·intro p B;refine⟨p,z.cps.toList.map (λc=>decide (c∈a.cps.toList)),rfl,QYY (by rw[aA,filter_eq_self.mpr (λ_ _=>rfl)];unfold vK;rw[map_map,map_map];rfl),?_⟩;have e:eU (.str z) a.cps.toList n=List.all (z.cps.toList.map (λc=>decide (c∈a.cps.toList))) id:=by
       rw[gZ];have j:decide ((z.length:Int)<=n)=true:=by simpa using g
       have l:decide (1<=(z.length:Int))=true:=d;rw[j,l,all_map];simp[Function.comp_def]
      rw[<- e];exact q _ (λc o e=>by rw[aB (aE e B)];exact e)
   ·have e:eU (.str z) a.cps.toList n=false:=by
     rw[gZ];have l:decide (1<=(z.length:Int))=false:=d;rw[l];simp
    have h:=q H (Same.refl H);rw[e]at h;exact h
  | _=>
   cases k<;>first|exact b.elim|exact q H (Same.refl H)
def Ch(T:Txt K mg)(a:Callee P w K mg base 1 "is_made_of" QZQ Bt)(D:DefAt K mg "is_name" lQ zv):Callee P w K mg base 2 "is_name" zv (pG LET 8):=by
 refine D.gg Cf (λf j A i s H vs Q E b h=>?_)
 ·revert h;refine yE2 λx k=>yA4 λζ c d q=>?_;subst ζ;refine⟨_,(lu (oe (px a b rfl (lc (f8 0) (lc (R.gS rfl T.g_LETTERS) (lc (R.gI rfl T.g_LONGEST_NAME) li)))))),?_⟩;refine⟨x,_,8,k,rfl,c,d,λe g=>?_⟩;rw[xH];exact q e g
def Ie(T:Txt K mg)(a:Callee P w K mg base 1 "is_made_of" QZQ Bt)(D:DefAt K mg "is_key" oN zv):Callee P w K mg base 2 "is_key" zv (pG (LET++FIG) 12):=by
 refine D.gg Id (λf j A i s H vs Q E b h=>?_)
 ·revert h;refine yE2 λx k=>yA4 λζ c d q=>?_;subst ζ;refine⟨_,(lu (oe (px a b rfl (lc (f8 0) (lc (oh R.dy (R.gS rfl T.g_LETTERS) (R.gS rfl T.g_FIGURES)) (lc (R.gI rfl T.g_LONGEST_KEY) li)))))),?_⟩;refine⟨Zk,x,_,12,k,rfl,c,d,λe g=>?_⟩;rw[Su,xH,Md];exact q e g
def Oa(T:Txt K mg)(D:DefAt K mg "is_whole" jR QZD):Callee P w K mg base 1 "is_whole" QZD Ed:=by
 refine D.gg zT (λf i A g s H vs Q E j h=>?_)
 ·obtain⟨x,lo,d,rfl,⟨k,a,l⟩,q⟩:=h;refine⟨_,(lq (qa (wl (xa (wr (vk (R.dh .int (f8 0) rfl T.b_isinstance rfl T.b_int Zp))) (xc (vk (R.dh .bl (f8 0) rfl T.b_isinstance rfl T.b_bool Td))))) (lu (oe yt)) qb) (lu (oe (R.jk R.le R.le (f8 1) (f8 0) (f8 2))))),?_⟩;have h:=q H (Same.refl H);refine⟨k,a,?_⟩
  cases x with
  | int n=>
   cases k<;>first|exact a.elim|skip
   refine⟨.int,trivial,?_⟩;show if decide (lo<=n)=true then _ else _
   have e:zC lo d (.int n)=(decide (lo<=n)&&decide (n<=d)):=rfl;refine dF (λc=>?_) (λc=>?_)
   ·rw[e,c,Bool.true_and]at h;exact h
   ·rw[e,c,Bool.false_and]at h;exact h
  | bl b=>
   cases k<;>first|exact a.elim|skip
   exact⟨.bl,trivial,h⟩
  | _=>cases k<;>first|exact a.elim|exact h
def Uf(T:Txt K mg)(U:Top w.params K mg)(X:Callee P w K mg base 2 "is_name" zv (pG LET 8))(D:DefAt K mg "fits_word" fO QZM):Callee P w K mg base 3 "fits_word" QZM Mh:=by
 refine D.gg xW (λa1 cdv a2 outer s H vs a3 a4 Y h=>?_)
 ·revert h;refine yE3 λa0 a b=>yA6 λζ η g KC Z q=>?_;subst ζ;obtain⟨k,u,hz⟩:=η;obtain⟨aN,E,F⟩:=U.g_NAME_COUNTS;obtain⟨aU,mn,tU⟩:=U.g_UNLIKE_WORDS;refine⟨_,(lq (qa (wl (xa (wr (vk (R.dh .str (f8 0) rfl T.b_isinstance rfl T.b_str Lz))) (xc (pi (R.jm (K:=K) (P:=w.params)) (f8 0) (R.gR rfl E))))) (lu (oe yt)) qb) (lq (qa (wl (xa (pi R.ne (uy (xz (K:=K)) rfl T.b_len dQ (lc (f8 1) li)) (u8 (R.jn (K:=K) (P:=w.params)) (R.gR rfl E) (f8 0))) (xc (wr (vk (uy (R.iz (K:=K) rfl) rfl T.b_all Ly (lc (vm rfl (js:=[none]) (N:=["name"]) (CompScope.by (aD fO) QZM rfl rfl Zk) (aV rfl) (R.cw (K:=K) (f8 1)) (λa5 s₂ H₂ fp=>⟨(pw (i:=0) (show(["name"]:List Str).Nodup by decide +kernel)),xf,(px X Y rfl (lc (f8 0) li))⟩)) li))))))) (lu (oe yt)) qb) (lu (oe (R.or (R.cp (R.ja (K:=K)) (f8 0) (R.gR rfl mn)) (R.fq (R.cp R.ne (oi K 1) (oi K 1)))))))),?_⟩;have h:=q H (Same.refl H);refine⟨k,u,?_⟩
  cases a0 with
  | str z=>
   cases k<;>first|exact u.elim|skip
   refine⟨WS,F,?_⟩;show if (!(WS.lookup z).isSome)=true then _ else _
   cases e:WS.lookup z with
   | none=>
    have l:fL (.str z) b=false:=by unfold fL;simp only [e]
    rw[l]at h;exact h
   | some i=>
    have l:fL (.str z) b=(decide ((b.length:Int)=i)&&b.all vL&&(!Rf (.str z) UW||!decide (nO b 0=nO b 1))):=by unfold fL;simp only [e]
    refine⟨b,.inr (QYZ g),WS,i,F,e,?_⟩;refine dF (λv=>?_) (λv=>?_)
    ·have m:decide ((b.length:Int)=i)=false:=by simpa using v
     rw[l,m]at h;exact h
    ·have m:decide ((b.length:Int)=i)=true:=by simpa using v
     refine⟨a,rfl,⟨_,QYZ g⟩,?_⟩;refine bF (lO K a b) Zo (λj n o=>n=(b.take j).map (λy=>V.bl (vL y))/\Same H o) (λj n o ⟨d,f⟩=>⟨QYZ (f _ _ g),by rw[d,aR,oX];omega⟩) ⟨rfl,Same.refl H⟩ (?_) (?_)
     ·rintro j y n o G ⟨d,f⟩;obtain⟨ky,OI,S⟩:=(Z y (jJ G)).same f;refine⟨y,ky,rfl,OI,S,λV9 GB=>⟨?_,f.trans GB⟩⟩;rw[List.take_add_one,G,dN,d];rfl
     ·rintro n o ⟨d,f⟩;intro p W;rw[lJ (bA _)]at d;have x:Same H (aH o p (.lst n)):=f.trans (aG W);refine⟨p,b.map vL,rfl,QYY (by rw[aA,d,map_map];rfl),?_⟩;have e4:List.all (b.map vL) id=b.all vL:=by rw[all_map];rfl
      have c:=q _ x;dsimp only;rw[e4];cases t:b.all vL with
      | false=>
       rw[l,m,t]at c;exact c
      | true=>
       rw[l,m,t]at c;refine⟨aU,UW,rfl,.inr (tU _),rfl,rfl,?_⟩;show if (!Rf (.str z) UW)=true then _ else _
       cases A:Rf (.str z) UW with
       | false=>
        rw[A]at c;exact c
       | true=>
        rw[A]at c;have i2:=aBO e A;have hl:(b.length:Int)=i:=U3 m;obtain⟨B,I,m0⟩:=kS (xs:=b) (i:=0) Zd Zo;obtain⟨C,J,m1⟩:=kS (xs:=b) (i:=1) Zd Zo;have L:=all_eq_true.mp t B m0;have M:=all_eq_true.mp t C m1;refine⟨b,QYZ (x _ _ g),B,I,b,QYZ (x _ _ g),C,J,?_⟩;rw[I,J]at c;cases B<;>first|(unfold vL eU at L;exact IN L V4)|skip
        cases C<;>first|(unfold vL eU at M;exact IN M V4)|skip
        rename_i O Q;have e7:decide (some (V.str O)=some (V.str Q))=decide (O=Q):=by
         rw[decide_eq_decide];constructor
         ·intro r;injection r with r;injection r
         ·intro r;rw[r]
        rw[e7]at c;exact c
  | _=>cases k<;>first|exact u.elim|exact h
def Ci(T:Txt K mg)(vx:Callee P w K mg base 3 "fits_word" QZM Mh)(xm:Callee P w K mg base 1 "is_whole" QZD Ed)(D:DefAt K mg "is_deed" lR zv):Callee P w K mg base 4 "is_deed" zv zD:=by
 refine D.gg Cg (λf cdv A outer s H vs Q E hr h=>?_)
 ·obtain⟨x,rfl,⟨⟨k,hk,hz⟩,hp⟩,hlen,q⟩:=h;refine⟨_,(lq (qa (wl (xa (wr (vk (R.dh .tup (f8 0) rfl T.b_isinstance rfl T.b_tuple yY))) (xc (pi R.lt (uy (xz (K:=K)) rfl T.b_len dQ (lc (f8 0) li)) mo)))) (lu (oe yt)) qb) (lu (oe (R.jb (px vx hr rfl (lc (oi K 0) (lc (vc wn (f8 0) (ux mo) (ux (vd mo))) li))) (R.fq (px xm hr rfl (lc (u8 (vh (K:=K)) (f8 0) (vd mo)) (lc mo (lc (R.gI rfl T.g_MOST) li))))))))),?_⟩;have h:=q H (Same.refl H);refine⟨k,hk,?_⟩
  cases x with
  | ref a=>
   cases k<;>first|exact hk.elim|skip
   case tup=>
    obtain⟨xs,hx⟩:=hk;have IQ:=hp a xs rfl hx;have hlx:=hlen a xs rfl hx;have eV:sQ H (.ref a)=mD xs:=by unfold sQ;simp only [hx]
    refine⟨xs,.inr (QYZ hx),?_⟩;refine dF (λh1=>?_) (λh1=>?_)
    ·have U5:((xs.length:Int)<3):=U3 h1;have e1:mD xs=false:=by
      unfold mD;rw[T0 Zo];rfl
     rw[eV,e1]at h;exact h
    ·have U5:¬ ((xs.length:Int)<3):=UV h1;have h3:3<=xs.length:=by omega
     obtain⟨y0,IV,m0⟩:=kS (xs:=xs) (i:=0) Zd Zo;refine⟨xs,QYZ hx,y0,IV,xs,hx,λp H1 s1 g1=>?_⟩;refine⟨y0,p,_,rfl,(IQ y0 m0).same s1,g1,?_,λy hy=>(IQ y (Tj h3 hy)).same s1,λH2 s2=>?_⟩
     ·have:=Ti h3;unfold xI at this;omega
     have e2:mD xs=(fL y0 (xI xs)&&zC 1 1000000000000 ((nO xs (-1)).getD .non)):=by
      unfold mD;rw[UF h3,IV];rfl
     have hs:=s1.trans s2;have h5:=q H2 hs;show if fL y0 (xI xs)=true then _ else _
     cases e3:fL y0 (xI xs) with
     | false=>
      rw[eV,e2,e3]at h5;exact h5
     | true=>
      rw[eV,e2,e3]at h5;obtain⟨yl,WZ,ml⟩:∃v,nO xs (-1)=some v/\v∈xs:=by
       have hj:xs.length-1<xs.length:=by omega
       refine⟨xs[xs.length-1],?_,getElem_mem hj⟩;unfold nO Vu;rw[NE Zd,O8 Zo];have:((-1:Int)+(xs.length:Int)).toNat=xs.length-1:=by omega
       simp[this,hj]
      refine⟨xs,QYZ (hs _ _ hx),yl,WZ,?_⟩;refine⟨yl,1,1000000000000,rfl,(IQ yl ml).same hs,λH3 s3=>?_⟩;have h6:=q H3 (hs.trans s3);rw[eV,e2,e3,WZ]at h6;exact h6
   all_goals
    have e1:sQ H (.ref a)=false:=by
     unfold sQ;first
      | (rcases hk with⟨xs,e⟩|⟨o,xs,e⟩<;>simp only [e])
      | (obtain⟨kvs,e⟩:=hk;simp only [e])
    rw[e1]at h;exact h
  | _=>cases k<;>first|exact hk.elim|exact h
def Ug(T:Txt K mg)(D:DefAt K mg "asks_of" lS zu):Callee P w K mg base 1 "asks_of" zu By:=by
 refine D.gg mV (λf cdv A outer s H vs Q E hr h=>?_)
 ·revert h;refine yE5 λp wd xs cs as=>yA4 λζ hp η q=>?_;subst ζ;obtain⟨one,other,nm,n,hd⟩:=η;refine⟨_,(lq (pv (i:=1) mV.nd (o0 (lc oj (lc (u8 (vh (K:=K)) (f8 0) (vd mo)) (lc (u8 (vh (K:=K)) (f8 0) (vd mo)) li))))) (lq (pv (i:=2) mV.nd (o0 (lc oj (lc (u8 (vh (K:=K)) (f8 0) (vd mo)) (lc (u8 (vh (K:=K)) (f8 0) (vd mo)) li))))) (lq (qa (pi vb (oi K 0) oj) (lu (oe (o0 (lc (o0 (lc (oi K 0) (lc (f8 1) li))) li)))) qb) (lq (qa (pi vb (oi K 0) oj) (lu (oe (o0 (lc (o0 (lc (oi K 0) (lc (f8 2) li))) li)))) qb) (lq (qa (pi vb (oi K 0) oj) (lu (oe (o0 (lc (o0 (lc (oi K 0) (lc (f8 2) li))) (lc (o0 (lc (oi K 0) (lc (f8 1) li))) li))))) qb) (lu (oe (o0 li)))))))),?_⟩;cases hd
  all_goals
   refine⟨_,QYZ hp,_,rfl,_,QYZ hp,_,rfl,Zs,λp1 H1 s1 g1=>⟨_,QYZ (s1 _ _ hp),_,rfl,_,QYZ (s1 _ _ hp),_,rfl,Zs,λp2 H2 s2 g2=>?_⟩⟩;have mj:=(s1.trans s2) _ _ hp;refine⟨_,QYZ mj,_,rfl,?_⟩
  case send=>exact⟨_,QYZ mj,_,rfl,Zs,λp3 H3 s3 g3=>⟨Zs,λp4 H4 s4 g4=>q p4 _ H4 (((s1.trans s2).trans s3).trans s4) g4 (.cons ⟨p3,p1,rfl,s4 _ _ g3,s4 _ _ (s3 _ _ (s2 _ _ g1))⟩ .nil)⟩⟩
  all_goals refine⟨_,QYZ mj,_,rfl,?_⟩
  case fetch=>exact⟨_,QYZ mj,_,rfl,Zs,λp3 H3 s3 g3=>⟨Zs,λp4 H4 s4 g4=>q p4 _ H4 (((s1.trans s2).trans s3).trans s4) g4 (.cons ⟨p3,p2,rfl,s4 _ _ g3,s4 _ _ (s3 _ _ g2)⟩ .nil)⟩⟩
  all_goals refine⟨_,QYZ mj,_,rfl,?_⟩
  case pass=>
   refine⟨_,QYZ mj,_,rfl,Zs,λp3 H3 s3 g3=>⟨_,QYZ (s3 _ _ mj),_,rfl,Zs,λp4 H4 s4 g4=>⟨Zs,λp5 H5 s5 g5=>?_⟩⟩⟩;exact q p5 _ H5 ((((s1.trans s2).trans s3).trans s4).trans s5) g5 (.cons ⟨p3,p2,rfl,s5 _ _ (s4 _ _ g3),s5 _ _ (s4 _ _ (s3 _ _ g2))⟩ (.cons ⟨p4,p1,rfl,s5 _ _ g4,s5 _ _ (s4 _ _ (s3 _ _ (s2 _ _ g1)))⟩ .nil))
  all_goals exact⟨Zd,λp3 H3 s3 g3=>q p3 [] H3 ((s1.trans s2).trans s3) g3 .nil⟩
def Ob{C:TD}(B:Wi K C)(D:ClsAt K mg "Keys" C "Keys.__init__" bV QZK [[]]):∀d∈([[]]:List (List V)),Mkr P w K mg base 1 "Keys" C QZK d (Ep C):=by
 refine D.gg pP (λf M A L s H vs Q E N h=>?_)
 ·revert h;refine yE3 λp g c=>yA3 λζ F q=>?_;subst ζ;refine⟨_,(lq (tz (K:=K) (f8 0) (f8 1)) (lq (tz (K:=K) (f8 0) R.de) (lu (tz (K:=K) (f8 0) R.de)))),?_⟩;refine⟨C,g,[],F,B.cl,B.nL,(by show 0<1000;decide),?_⟩;have G:bK "life" (.int c) []=[(("life":Str),V.int c)]:=rfl;dsimp only;rw[G];intro a j;have r:(aH H p (.ins C g [("life",.int c)])) p=some (.ins C g [("life",.int c)]):=aA;have m:∀b o,H b=some o->b≠p->(aH H p (.ins C g [("life",.int c)])) b=some o:=λb o e i=>by rw[aB i];exact e
  have f1:H a=none:=by
   cases e:H a with
   | none=>rfl
   | some o=>
    by_cases z:a=p
    ·rw[z,r]at j;cases j
    ·rw[m _ _ e z]at j;cases j
  generalize aH H p (.ins C g [("life",.int c)])=n at r m j ⊢;have v:=aE r j;refine⟨C,g,_,(by rw[aB v];exact r),B.cl,B.nB,(by show 1<1000;decide),?_⟩;have I:bK "begun_ones" (.ref a) [(("life":Str),V.int c)]=[(("life":Str),V.int c),("begun_ones",.ref a)]:=by
   unfold bK;rw[NE Zk];rfl
  dsimp only;rw[I];have g1:(aH (aH n a (.dT [])) p (.ins C g [("life",.int c),("begun_ones",.ref a)])) p=some (.ins C g [("life",.int c),("begun_ones",.ref a)]):=aA;have x:(aH (aH n a (.dT [])) p (.ins C g [("life",.int c),("begun_ones",.ref a)])) a=some (.dT []):=by rw[aB v.symm];exact aA
  have t:∀b o,n b=some o->b≠p->(aH (aH n a (.dT [])) p (.ins C g [("life",.int c),("begun_ones",.ref a)])) b=some o:=λb o e i=>by rw[aB i,aB (aE e j)];exact e
  generalize aH (aH n a (.dT [])) p (.ins C g [("life",.int c),("begun_ones",.ref a)])=O at g1 x t ⊢;intro k l;have u:=aE g1 l;refine⟨C,g,_,(by rw[aB u];exact g1),B.cl,B.nS,(by show 2<1000;decide),?_⟩;have J:bK "settled_ones" (.ref k) [(("life":Str),V.int c),("begun_ones",.ref a)]=[(("life":Str),V.int c),("begun_ones",.ref a),("settled_ones",.ref k)]:=by
   unfold bK;rw[NE Zk];unfold bK;rw[NE Zk];rfl
  dsimp only;rw[J];have y:a≠k:=aE x l;have f2:H k=none:=by
   cases e:H k with
   | none=>rfl
   | some o=>rw[t _ _ (m _ _ e u.symm) u.symm]at l;cases l
  refine q _ ⟨g,a,k⟩ f1 f2 ⟨aA,⟨[],?_,Dic.nil⟩,⟨[],?_,Dic.nil⟩,y⟩ (λb o e i=>?_)
  ·show(aH _ p _) a=_;rw[aB v.symm,aB y];exact x
  ·show(aH _ p _) k=_;rw[aB u.symm];exact aA
  ·rw[aB i,aB (aE (t _ _ (m _ _ e i) i) l)];exact t _ _ (m _ _ e i) i
def Oc(D:DefAt K mg "is_alive" jT QZI):Callee P w K mg base 1 "is_alive" QZI xQ:=by
 refine D.gg zV (λf b A a s H vs Q E c h=>?_)
 ·obtain⟨t,l,n,rfl,q⟩:=h;refine⟨_,(lu (oe (R.cp yn (oh qd (f8 0) (f8 1)) (f8 2)))),?_⟩;exact q
def pV(C:TD):Sp:=λvs H Q _=>∃(p:TD)(a:KF)(b:Int)(m:KM)(L:Nat)(e:List (List aS×V))(t:TD)(q:Str×Str)(c n w:Int)(d z:TD),vs=[.ref p,.ref t,.int c]/\H p=some (.ins C a.dx (vT a b))/\Rd H a.ds (.dT e)/\Dic H e m fS L/\H t=some (.tup [.str q.1,.str q.2])/\m q=some (.kept n w d z)/\Q (.bl (decide (w+b>c))) H
def DGet.rd{H:Hp}{a b:TD}{kvs:List (List aS×V)}{k:List aS}(e:Rd H a (.dT kvs))(c:H b=some (.tup (k.map kV))):DGet H a (.ref b) (aY kvs k):=.inr ⟨kvs,k,b,e,rfl,c,rfl⟩
def Ig{C:TD}(B:Wi K C)(k:Callee P w K mg base 1 "is_alive" QZI xQ)(D:MethAt K C "is_kept" "Keys.is_kept" eI QZJ):cC P w K mg base 2 C "is_kept" QZJ (pV C):=by
 refine D.gg qZ (λf I A G s H vs Q E c h=>?_)
 ·revert h;refine yE9 λp a b m L J t q j=>yE4 λn e d z=>yA7 λζ g l o gt r v=>?_;subst ζ;obtain⟨u,x,y⟩:=o.at r (rfl:fS (.kept n e d z)=some _);have F:=dE c;have i:=DGet.rd l (eF gt);rw[x]at i;refine⟨_,(lu (oe (px k c rfl (lc (u8 (vh (K:=K)) (vn F (og (K:=K) (f8 0)) (f8 1)) mo) (lc (og (K:=K) (f8 0)) (lc (f8 2) li)))))),?_⟩;exact⟨C,a.dx,_,.ref a.ds,g,B.cl,B.nS,zN a b,a.ds,.ref u,rfl,i,_,QYZ y,_,rfl,C,a.dx,_,.int b,g,B.cl,B.nL,aCR a b,e,b,j,rfl,v⟩
def Uh{C:TD}(B:Wi K C)(S:cC P w K mg base 2 C "is_kept" QZJ (pV C))(D:MethAt K C "look" "Keys.look" iF QZs):cC P w K mg base 3 C "look" QZs (Ni C):=by
 refine D.gg jY (λf Z a0 Y s a1 vs a2 a3 N h=>?_)
 ·revert h;refine yE7 λp a b m L q E=>yA3 λζ T o=>?_;subst ζ;have F:=dE N;refine⟨_,(lq (pv (i:=4) jY.nd (o0 (lc (f8 1) (lc (f8 2) li)))) (lq (qa (pi (R.dq F) (f8 4) (og (K:=K) (f8 0))) (lu (oe (oh yo (o0 (lc oj li)) (vn F (og (K:=K) (f8 0)) (f8 4))))) qb) (lq (qa (wl (R.dz (pi (R.dq F) (f8 4) (og (K:=K) (f8 0))) (R.eg (vk (re S N (f8 0) (lc (f8 4) (lc (f8 3) li))))))) (lq (pv (i:=5) jY.nd (vn F (og (K:=K) (f8 0)) (f8 4))) (lu (oe (o0 (lc oj (lc (oi K 5) (lc (oi K 5) (lc (oi K 5) li)))))))) qb) (lu (oe (o0 (lc oj li))))))),?_⟩;refine⟨Zs,λt a4 v gt=>?_⟩;dsimp only [aJ];have c:=T.same v;obtain⟨bk,O,H⟩:=c.hb;obtain⟨U,Q,I⟩:=c.hs;have r:=DGet.t O (eF gt);have x:=DGet.t Q (eF gt)
  cases j:m q with
  | none=>
   rw[H.no (λe z=>by rw[j]at z;cases z)]at r;rw[I.no (λe z=>by rw[j]at z;cases z)]at x;rw[j]at o;refine⟨C,a.dx,_,.ref a.db,c.hp,B.cl,B.nB,xP a b,none,r,?_⟩;refine⟨C,a.dx,_,.ref a.ds,c.hp,B.cl,B.nS,zN a b,none,x,?_⟩;exact⟨Zs,λk l g g2=>o k l (v.trans g) g2⟩
  | some e=>
   rw[j]at o;cases e with
   | busy n d=>
    obtain⟨u,G,y⟩:=H.at j (rfl:fB (.busy n d)=some _);rw[G]at r;refine⟨C,a.dx,_,.ref a.db,c.hp,B.cl,B.nB,xP a b,_,r,?_⟩;refine⟨Zs,λk l g g2=>⟨C,a.dx,_,.ref a.db,g _ _ c.hp,B.cl,B.nB,xP a b,a.db,.ref u,rfl,?_,_,_,g2,g _ _ y,Zs,λV W X g3=>o V W ((v.trans g).trans X) g3⟩⟩;have:=DGet.t (g _ _ O) (eF (g _ _ gt));rw[G]at this;exact this
   | kept n A d z=>
    obtain⟨u,G,y⟩:=I.at j (rfl:fS (.kept n A d z)=some _);rw[G]at x;rw[H.no (λe h=>by rw[j]at h;cases h;rfl)]at r;refine⟨C,a.dx,_,.ref a.db,c.hp,B.cl,B.nB,xP a b,none,r,?_⟩;refine⟨C,a.dx,_,.ref a.ds,c.hp,B.cl,B.nS,zN a b,_,x,?_⟩;refine⟨a.dx,_,c.hp,vU a b Zk Zk Zk,p,a,b,m,L,U,t,q,E,n,A,d,z,rfl,c.hp,.inl Q,I,gt,j,?_⟩;show if decide (A+b>E)=true then _ else _
    refine dF (λJ=>?_) (λJ=>?_)
    ·have M:=U3 J;refine⟨C,a.dx,_,.ref a.ds,c.hp,B.cl,B.nS,zN a b,a.ds,.ref u,rfl,x,?_⟩;refine⟨_,QYZ y,_,rfl,_,QYZ y,_,rfl,_,QYZ y,_,rfl,Zs,λk l g g2=>o k l (v.trans g) ?_⟩;show l k=some (.tup (if A+b>E then _ else _));rw[O8 M];exact g2
    ·have M:=UV J;refine⟨Zs,λk l g g2=>o k l (v.trans g) ?_⟩;show l k=some (.tup (if A+b>E then _ else _));rw[NE M];exact g2
def aAs{C:TD}(B:Wi K C)(D:MethAt K C "end" "Keys.end" jS QZA):cC P w K mg base 1 C "end" QZA (Wj C):=by
 refine D.gg zU (λf W A V s H vs Q E l h=>?_)
 ·revert h;refine yE9 λp a x m L t q n d=>yA5 λζ i gt y N=>?_;subst ζ;have z:=dE l;obtain⟨bk,j,F⟩:=i.hb;obtain⟨X,O,S⟩:=i.hs;obtain⟨u,G,T⟩:=F.at y (rfl:fB (.busy n d)=some _);have I:=DGet.t j (eF gt);rw[G]at I;refine⟨_,(lq (qa (pi (R.ik z) (f8 1) (og (K:=K) (f8 0))) (lu va) qb) (lu (oe (R.ii z (og (K:=K) (f8 0)) (f8 1))))),?_⟩;refine⟨C,a.dx,_,.ref a.db,i.hp,B.cl,B.nB,xP a x,_,I,?_⟩;refine⟨C,a.dx,_,.ref a.db,i.hp,B.cl,B.nB,xP a x,a.db,rfl,.inr ⟨bk,.inl j⟩,bk,pk q,t,.ref u,j,rfl,eF gt,G,?_⟩;have k:∀b v,H b=some (.tup v)->(aH H a.db (.dT (cE bk (pk q)))) b=some (.tup v):=λb v e=>by rw[aB (aK e j nofun)];exact e
  have J:∀r,r≠q->(m.set q none) r=m r:=λr l=>KM.set_ne l
  have M:∀e,(m.set q none) q=some e->False:=λe g=>by rw[KM.set_same]at g;cases g
  refine N u _ (i.new (by rw[aB (aK i.hp j nofun)]) aA (by rw[aB i.ne.symm];exact O) k ((F.drop (λe g=>(M e g).elim) J).keep k) ((S.skip (λe g=>?_) (λe g=>(M e g).elim) J).keep k)) (λc o e U Y=>by rw[aB U];exact e) (k _ _ T);rw[y]at g;cases g;rfl
def Ih{C:TD}(B:Wi K C)(O:cC P w K mg base 1 C "end" QZA (Wj C))(D:MethAt K C "settle" "Keys.settle" fE QZB):cC P w K mg base 2 C "settle" QZB (sZ C):=by
 refine D.gg lA (λa0 cdv a1 outer s a2 vs a3 a4 j h=>?_)
 ·revert h;refine yE9 λp a l m L q n d v=>yE1 λz=>yA5 λζ x Q R S=>?_;subst ζ;have T:=dE j;refine⟨_,(lq (pv (i:=5) lA.nd (re O j (f8 0) (lc (o0 (lc (f8 1) (lc (f8 2) li))) li))) (lu (wt (o0 (lc (oi K 5) (lc (f8 3) (lc (oi K 5) (lc (f8 4) li))))) (yp (og (K:=K) (f8 0)) (o0 (lc (f8 1) (lc (f8 2) li))) (yu T))))),?_⟩;refine⟨a.dx,_,x.hp,vU a l Zk Zk Zk,Zs,λt a5 y gt=>⟨p,a,l,m,L,t,q,n,d,rfl,x.same y,gt,R,λa6 G2 U fr A=>?_⟩⟩;refine⟨_,QYZ A,_,rfl,_,QYZ A,_,rfl,Zs,λE V F g3=>?_⟩;have f:=U.same F;obtain⟨bk,W,X⟩:=f.hb;obtain⟨G,o,H⟩:=f.hs;refine⟨C,a.dx,_,.ref a.ds,f.hp,B.cl,B.nS,zN a l,Zs,λt4 u c Y=>⟨a.ds,_,rfl,DPut.t (c _ _ o) (eF Y) (uD H.len (uD Q Zd)),?_⟩⟩;have I:∀b g,u b=some (.tup g)->(aH u a.ds (.dT (bQ G (pk q) (.ref E)))) b=some (.tup g):=λb g e=>by rw[aB (aK e (c _ _ o) nofun)];exact e
  have J:∀b g,V b=some (.tup g)->(aH u a.ds (.dT (bQ G (pk q) (.ref E)))) b=some (.tup g):=λb g e=>I _ _ (c _ _ e)
  have M:∀r,r≠q->(m.set q (some (.kept n v d z))) r=(m.set q none) r:=λr j=>by rw[KM.set_ne j,KM.set_ne j]
  refine S _ (f.new (by rw[aB (aK (c _ _ f.hp) (c _ _ o) nofun),c _ _ f.hp,f.hp]) (by rw[aB f.ne];exact c _ _ W) aA J (((X.skip (λe k=>?_) (λe k=>?_) M).more).keep J) (((H.keep (λb g e=>c _ _ e)).put (rfl:fS (.kept n v d z)=some _) (c _ _ g3) KM.set_same M).keep I)) (λa7 a8 e Z N=>by rw[aB N];exact c _ _ (F _ _ (fr _ _ (y _ _ e) Z N)))
  ·rw[KM.set_same]at k;cases k
  ·rw[KM.set_same]at k;cases k;rfl
def Od{C:TD}(B:Wi K C)(D:MethAt K C "begin" "Keys.begin" gE QZC):cC P w K mg base 1 C "begin" QZC (xR C):=by
 refine D.gg mG (λa3 cdv a4 outer s a5 vs a1 a6 E a2=>?_)
 ·revert a2;refine yE8 λa0 a A m L q n d=>yA5 λζ ht hL hm Q0=>?_;subst ζ;have Q:=dE E;refine⟨_,(lq (pv (i:=5) mG.nd (o0 (lc (f8 1) (lc (f8 2) li)))) (lq (qa (pi (R.dq Q) (f8 5) (og (K:=K) (f8 0))) (lu va) qb) (lq (uz (R.ij Q (og (K:=K) (f8 0)) (f8 5) wu)) (lu (wt (o0 (lc (f8 3) (lc (f8 4) li))) (yp (og (K:=K) (f8 0)) (f8 5) (yu Q))))))),?_⟩;refine⟨Zs,λt G Z gt=>?_⟩;dsimp only [aJ];have p:=ht.same Z;obtain⟨bk,S,T⟩:=p.hb;obtain⟨J,y,ds⟩:=p.hs;have U:∀e,m q=some e->fB e=none:=λe f=>by
   cases e with
   | busy n' F=>exact IN f (hm n' F)
   | kept=>rfl
  have AD:=DGet.t S (eF gt);rw[T.no U]at AD;refine⟨C,a.dx,_,.ref a.db,p.hp,B.cl,B.nB,xP a A,none,AD,?_⟩;have I:∀e,(m.set q none) q=some e->False:=λe f=>by rw[KM.set_same]at f;cases f
  have M:∀r,r≠q->(m.set q none) r=m r:=λr E=>KM.set_ne E
  have step:∀k h,h=aH G a.ds (.dT k)∨(h=G/\k=J)->Dic G k (m.set q none) fS L->∃_:True,KyAt C h a0 a A (m.set q none) L/\h a.ds=some (.dT k)/\(∀c o,G c=some o->c≠a.ds->h c=some o):=by
   intro k h hG F;rcases hG with rfl|⟨rfl,rfl⟩
   ·have z:∀b l,G b=some (.tup l)->(aH G a.ds (.dT k)) b=some (.tup l):=λb l e=>by rw[aB (aK e y nofun)];exact e
    exact⟨trivial,p.new (by rw[aB (aK p.hp y nofun)]) (by rw[aB p.ne];exact S) aA z ((T.skip U (λe f=>(I e f).elim) M).keep z) (F.keep z),aA,λc o e hn=>by rw[aB hn];exact e⟩
   ·exact⟨trivial,p.new rfl S y (λb l e=>e) (T.skip U (λe f=>(I e f).elim) M) F,y,λc o e _=>e⟩
  have Y:∀k h,KyAt C h a0 a A (m.set q none) L->h a.ds=some (.dT k)->(∀c o,G c=some o->c≠a.ds->h c=some o)->5<=5->∀u j,Same h j->j u=some (.tup [.int n,.ref d]) →
    ∃H,DPut j a.db (.ref t) (.ref u) (aH j a.db (.dT H))/\a1 .non (aH j a.db (.dT H)):=by
   intro k h x N fr _ u j g g2;obtain⟨H,V,XH⟩:=x.hb;have O:=x.same g;have DO:=g _ _ (fr _ _ gt (aK gt y nofun));refine⟨_,DPut.t (g _ _ V) (eF DO) (uD XH.len (uD hL Zd)),?_⟩;have z:∀b l,j b=some (.tup l)->(aH j a.db (.dT (bQ H (pk q) (.ref u)))) b=some (.tup l):=λb l e=>by rw[aB (aK e (g _ _ V) nofun)];exact e
   obtain⟨sk2,RM,ds2⟩:=O.hs;have e2:∀r,r≠q->(m.set q (some (.busy n d))) r=(m.set q none) r:=λr E=>by rw[KM.set_ne E,KM.set_ne E]
   refine Q0 _ (O.new (by rw[aB (aK O.hp (g _ _ V) nofun)]) aA (by rw[aB O.ne.symm];exact RM) z (((XH.keep (λb l e=>g _ _ e)).put (rfl:fB (.busy n d)=some _) g2 KM.set_same e2).keep z) (((ds2.skip (λe f=>(I e f).elim) (λe f=>?_) e2).more).keep z)) (λc o e n1 n2=>by rw[aB n1];exact g _ _ (fr _ _ (Z _ _ e) n2));rw[KM.set_same]at f;cases f;rfl
  refine⟨C,a.dx,_,.ref a.ds,p.hp,B.cl,B.nS,zN a A,a.ds,rfl,.inr ⟨J,.inl y⟩,J,pk q,t,y,rfl,eF gt,λv hv=>?_,λhv=>?_⟩
  ·refine yE0 (step _ _ (.inl rfl) (ds.drop (λe f=>(I e f).elim) M)) (yE1 λ_=>yA3 λx N fr=>?_);refine⟨Zs,λu j g g2=>?_⟩;obtain⟨H,W,X⟩:=Y _ _ x N fr Zd u j g g2;exact⟨C,a.dx,_,.ref a.db,g _ _ x.hp,B.cl,B.nB,xP a A,a.db,_,rfl,W,X⟩
  ·have F:Dic G J (m.set q none) fS L:=by
    have:=ds.drop (m':=m.set q none) (λe f=>(I e f).elim) M
    rwa [sE (iZ hv)]at this
   obtain⟨_,x,N,fr⟩:=step _ _ (.inr ⟨rfl,rfl⟩) F;refine⟨Zs,λu j g g2=>?_⟩;obtain⟨H,W,X⟩:=Y _ _ x N fr Zd u j g g2;exact⟨C,a.dx,_,.ref a.db,g _ _ x.hp,B.cl,B.nB,xP a A,a.db,_,rfl,W,X⟩
def oR(t:Int)(q:Str×Str)(d a:TD):List V:=[.int t,.str q.1,.str q.2,.ref d,.ref a]
def Cj(a:List Tn):List (Int×List V):=a.map λz=>(z.1,z.2.2)
def aAt(m:KM):Prop:=∀q b n t d a c e f,m q=some (.kept n t d a)->m b=some (.kept n c e f)->q=b
def Oe(m:KM)(b c:Int)(rs:List (Int×List V)):Prop:=∀n rest,(n,rest)∈rs↔∃q t d a,m q=some (.kept n t d a)/\t+b>c/\rest=oR t q d a
def Og(C:TD):Sp:=λvs H Q _=>∃(p:TD)(a:KF)(d e:Int)(m:KM)(L:Nat),vs=[.ref p,.int e]/\KyAt C H p a d m L/\L<64/\aAt m ∧
 ∀l b c,Same H c->H l=none->c l=some (.lst (iP b))->NAt c b->b.Pairwise tln->(b.map (·.1)).Nodup->Oe m d e (Cj b)->b.length<64->Q (.ref l) c
def NAt.keep{H H':Hp}{a:List Tn}(h:NAt H a)(k:∀b xs,H b=some (.tup xs)->H' b=some (.tup xs)):NAt H' a:=λz c=>k _ _ (h z c)
def NAt.perm{H:Hp}{a b:List Tn}(h:NAt H a)(p:b.Perm a):NAt H b:=λz c=>h z (p.mem_iff.mp c)
def Dic.ent{H:Hp}{kvs:List (List aS×V)}{m:KM}{L:Nat}(h:Dic H kvs m fS L){p:List aS×V}(b:p∈kvs):∃q n w d z t,p=(pk q,.ref t)/\m q=some (.kept n w d z)/\H t=some (.tup [.int n,.int w,.ref d,.ref z]):=by
 refine yE0 (h.all p b) (yE4 λq e i t=>yA4 λc f a g=>?_)
 cases e with
 | busy n d=>cases a
 | kept n w d z=>cases a;exact⟨q,n,w,d,z,t,c,f,g⟩
def Oh{a:Type}{l:List a}{i j:Nat}{x:a}(b:l.Nodup)(c:l[i]?=some x)(d:l[j]?=some x):i=j:=by
 obtain⟨g,e⟩:=Zgs.mp c;obtain⟨h,f⟩:=Zgs.mp d;exact(getElem_inj b).mp (e.trans f.symm)
def Ui{C:TD}(T:Txt K mg)(a2:Wi K C)(u7:cC P w K mg base 2 C "is_kept" QZJ (pV C))(D:MethAt K C "kept" "Keys.kept" iG QZU):cC P w K mg base 3 C "kept" QZU (Og C):=by
 refine D.gg gT (λa7 cdv a8 outer s a3 vs a9 b0 hr h=>?_)
 ·revert h;refine yE6 λa5 a r L a4 a6=>yA5 λζ ht hL hu Q0=>?_;subst ζ;have l8:=dE hr;refine⟨_,(lq (pv (i:=2) gT.nd (vf li)) (lq (R.jc (vi PassesOwn.never rfl (R.ft (og (K:=K) (f8 0))) (pw (i:=3) gT.nd) (lu (qa (vk (re u7 hr (f8 0) (lc (f8 3) (lc (f8 1) li)))) (lq (pv (i:=4) gT.nd (vn l8 (og (K:=K) (f8 0)) (f8 3))) (lu (uz (xg (K:=K) PySem.F.plainAttrs_list PySem.F.slot_list_append PySem.F.type_list_append R.cz (f8 2) (lc (oh yo (oh yo (vc wn (f8 4) vj (ux mo)) (f8 3)) (vc wn (f8 4) (ux mo) vj)) li))))) qb)))) (lu (oe (uy (R.du (K:=K)) rfl T.b_sorted eB (lc (f8 2) li)))))),?_⟩;refine⟨sM rfl,λl hl=>?_⟩;dsimp only [aJ];have s1:=aG (o:=.lst []) hl;have g1:(aH a3 l (.lst [])) l=some (.lst []):=aA;generalize aH a3 l (.lst [])=G at s1 g1 ⊢;have U:=ht.same s1;obtain⟨b,M,F⟩:=U.hs;refine⟨C,a.dx,_,.ref a.ds,U.hp,a2.cl,a2.nS,zN a r,b,M,λo bs CO GR=>?_⟩;have W:l≠a.ds:=aK g1 M nofun;have kF:∀c v,G c=some v->c≠a.ds->(aH G a.ds (.frz o (.dT b))) c=some v:=λc v e N=>by rw[aB N];exact e
  have gF:(aH G a.ds (.frz o (.dT b))) a.ds=some (.frz o (.dT b)):=aA;generalize aH G a.ds (.frz o (.dT b))=G2 at kF gF ⊢;refine bU (Cb a.ds o b bs) (λi σ f=>∃(g:List Tn)(o3 o4:Option V),σ=[some (.ref a5),some (.int L),some (.ref l),o3,o4]/\f l=some (.lst (iP g))/\NAt f g/\g.length<=i/\(g.map (·.1)).Nodup/\(∀n rest,(n,rest)∈Cj g↔∃j q t d z u,j<i/\b[j]?=some (pk q,u)/\a4 q=some (.kept n t d z)/\t+r>L/\rest=oR t q d z)/\(∀c v,G2 c=some v->c≠l->f c=some v))
   (λi σ f ⟨_,_,_,_,_,_,_,_,_,k⟩=>k _ _ gF W.symm) ⟨[],none,none,rfl,kF _ _ g1 W,(λz O=>IN O EJ),bA _,nodup_nil,(λn rest=>⟨λh=>IN h EJ,λ⟨j,_,_,_,_,_,m,_⟩=>IN m (Nat.not_lt_zero _)⟩),λc v e _=>e⟩ ?_ ?_
  ·refine λi x σ f hx=>yE3 λg o3 o4=>yA7 λζ X O DP Y I k=>?_;subst ζ;rw[dW]at hx;obtain⟨a0,hb,rfl⟩:=Option.map_eq_some_iff.mp hx;obtain⟨pp,H,gb⟩:=GR i a0 hb;refine yE0 (Dic.ent F (jJ H)) (yE6 λq n Q d z t=>yA3 λζ A gt=>?_);subst ζ;have kG:∀ {c:TD}{v:HO},G c=some v->c≠a.ds->c≠l->f c=some v:=λe h1 h2=>k _ _ (kF _ _ e h1) h2
   have kT:∀c Z,G c=some (.tup Z)->f c=some (.tup Z):=λc Z e=>kG e (aK e M nofun) (aK e g1 nofun)
   have zf:f a0=some (.tup [.str q.1,.str q.2]):=kT _ _ gb;have qg:f a5=some (.ins C a.dx (vT a r)):=kG U.hp (aK U.hp M nofun) (aK U.hp g1 nofun);have FE:Rd f a.ds (.dT b):=.inr ⟨o,k _ _ gF W.symm⟩;have ds':=F.keep kT;have gt':=kT _ _ gt;refine⟨a.dx,_,qg,vU a r Zk Zk Zk,a5,a,r,a4,a6,b,a0,q,L,n,Q,d,z,rfl,qg,FE,ds',zf,A,?_⟩;show if decide (Q+r>L)=true then _ else _
   have old:∀B J,(∃j q t d z u,j<i/\b[j]?=some (pk q,u)/\a4 q=some (.kept B t d z)/\t+r>L/\J=oR t q d z)->∃j q t d z u,j<i+1/\b[j]?=some (pk q,u)/\a4 q=some (.kept B t d z)/\t+r>L/\J=oR t q d z:=λB J ⟨j,q,t,d,z,u,m,a1⟩=>⟨j,q,t,d,z,u,lt_succ_of_lt m,a1⟩
   refine dF (λP0=>?_) (λP0=>?_)
   ·have al:=U3 P0;obtain⟨S,_⟩:aY b (pk q)=some (.ref t)/\True:=by
     obtain⟨u,S,gu⟩:=F.at A (rfl:fS (.kept n Q d z)=some _);refine⟨?_,trivial⟩;have h2:=List.mem_iff_getElem?.mp (kY S);obtain⟨j,m⟩:=h2;have:=Oh F.nd (i:=j) (j:=i) (x:=pk q) (by rw[dW,m];rfl) (by rw[dW,H];rfl);rw[this,H]at m;rw[S,<- (Prod.mk.inj (Option.some.inj m)).2]
    have dg:=DGet.rd FE (eF zf);rw[S]at dg;refine⟨C,a.dx,_,.ref a.ds,qg,a2.cl,a2.nS,zN a r,a.ds,.ref t,rfl,dg,?_⟩;refine⟨.inl ⟨rfl,_,QYY X⟩,_,gt',λt1 H1 RN ga1=>⟨_,_,ga1,RN _ _ zf,?_,λt2 H2 XJ ga2=>⟨_,XJ _ _ (RN _ _ gt'),λt3 H3 XN ga3=>⟨_,_,XN _ _ ga2,ga3,?_,λt4 H4 sa4 OL=>?_⟩⟩⟩⟩
    ·show 2+2<=1000;decide
    ·show 4+2<=1000;decide
    have RP:Same f H4:=((RN.trans XJ).trans XN).trans sa4;replace OL:H4 t4=some (.tup (.int n::oR Q q d z)):=OL;have RQ:=RP _ _ X;have n4:t4≠l:=aK OL RQ nofun;refine⟨l,_,_,rfl,rfl,RQ,?_,g++[(n,t4,oR Q q d z)],_,_,rfl,?_,λy hy=>?_,?_,?_,λB J=>?_,λc v e N=>?_⟩
    ·unfold iP;rw[aR];have:=(Zgs.mp H).1;have:=F.len;exact uD (show g.length<=64 by omega) Zd
    ·rw[aA];unfold iP;rw[dN];rfl
    ·have e:H4 y.2.1=some (.tup (.int y.1::y.2.2)):=by
      rcases Zma.mp hy with h|h
      ·exact RP _ _ (O y h)
      ·cases Zms.mp h;exact OL
     rw[aB (aK e RQ nofun)];exact e
    ·rw[uC];exact Nat.succ_le_succ DP
    ·rw[dN];refine lK Y λLC=>?_
     obtain⟨y,hy,hyn⟩:=Zmm.mp LC;refine yE0 ((I y.1 y.2.2).mp (Zmm.mpr ⟨y,hy,rfl⟩)) (yE6 λj q' t' d' z' u'=>yA4 λm E p _=>?_);rw[hyn]at p;have eq:=hu _ _ _ _ _ _ _ _ _ p A;have:=Oh F.nd (i:=j) (j:=i) (x:=pk q) (by rw[dW,E,eq];rfl) (by rw[dW,H];rfl);omega
    ·unfold Cj;rw[dN,Zma];constructor
     ·rintro(h|h)
      ·exact old _ _ ((I B J).mp h)
      ·cases Zms.mp h;exact⟨i,q,Q,d,z,_,lt_succ_self _,H,A,al,rfl⟩
     ·refine yE6 λj q' t' d' z' u'=>yA5 λm E p OM ζ=>?_;subst ζ;by_cases RS:j=i
      ·rw[RS,H]at E;cases mU (Prod.mk.inj (Option.some.inj E)).1;rw[A]at p;cases p;exact .inr (Zms.mpr rfl)
      ·exact .inl ((I B _).mpr ⟨j,q',t',d',z',u',Zo,E,p,OM,rfl⟩)
    ·rw[aB N];exact RP _ _ (k _ _ e N)
   ·have al:=UV P0;refine⟨g,_,_,rfl,X,O,le_succ_of_le DP,Y,λB J=>⟨λh=>old _ _ ((I B J).mp h),?_⟩,k⟩;refine yE6 λj q' t' d' z' u'=>yA5 λm E p OM ζ=>?_;subst ζ;by_cases RS:j=i
    ·rw[RS,H]at E;cases mU (Prod.mk.inj (Option.some.inj E)).1;rw[A]at p;cases p;exact IN OM al
    ·exact(I B _).mpr ⟨j,q',t',d',z',u',Zo,E,p,OM,rfl⟩
  ·refine λσ f=>yE3 λg o3 o4=>yA7 λζ X O DP Y I k=>?_;subst ζ;have zd:=k _ _ gF W.symm;refine⟨a.ds,b,o,⟨b,M⟩,zd,?_⟩;have kU:∀c v,G c=some v->c≠l->(aH f a.ds (.dT b)) c=some v:=λc v e N=>by
    by_cases z:c=a.ds
    ·rw[z]at e ⊢;rw[M]at e;cases e;exact aA
    ·rw[aB z];exact k _ _ (kF _ _ e z) N
   have gU:(aH f a.ds (.dT b)) l=some (.lst (iP g)):=by rw[aB W];exact X
   have IY:NAt (aH f a.ds (.dT b)) g:=NAt.keep O (λa0 Z e=>by rw[aB (aK e zd nofun)];exact e);generalize aH f a.ds (.dT b)=V9 at kU gU IY ⊢;have LD:g.length<64:=by
    rw[aR,CO]at DP;have:=F.len;omega
   refine⟨g,QYY gU,IY,Y,LD,λl2 Q7 u6 hp hs=>?_⟩;have s0:Same a3 V9:=λc v e=>kU _ _ (s1 _ _ e) (aE e hl)
   have s2:=aG (o:=.lst (iP Q7)) u6;refine Q0 l2 Q7 _ (s0.trans s2) ?_ aA (NAt.keep (NAt.perm IY hp) λa0 Z e=>s2 _ _ e) hs ((hp.map _).nodup_iff.mpr Y) (λn rest=>?_) (by rw[hp.length_eq];exact LD)
   ·cases e:a3 l2 with
    | none=>rfl
    | some v=>rw[s0 _ _ e]at u6;cases u6
   ·have:(n,rest)∈Cj Q7↔(n,rest)∈Cj g:=(hp.map _).mem_iff;rw[this,I];constructor
    ·refine yE6 λj q t d z u=>yA3 λ_ _ a1=>?_;exact⟨q,t,d,z,a1⟩
    ·refine yE4 λq t d z=>yA2 λA a1=>?_;obtain⟨u,S,_⟩:=F.at A (rfl:fS (.kept n t d z)=some _);obtain⟨j,m⟩:=List.mem_iff_getElem?.mp (kY S);refine⟨j,q,t,d,z,_,?_,m,A,a1⟩;rw[aR,CO];exact(Zgs.mp m).1
def rL:Sp:=λvs H Q _=>∃d b m,vs=[.ref d,.int m]/\Dk H d b/\0<m/\m<18446744073709551616/\∀r a,0<=r->r<m->Dk a d b->Kp d b H a->Q (.int r) a
def Uj(T:Txt K mg)(D:DefAt K mg "_law_deck" jU QZV):Callee P w K mg base 1 "_law_deck" QZV (Ma K):=by
 refine D.gg zW (λf v A u s H vs Q E x h=>?_)
 ·obtain⟨a,c,rfl,j,q⟩:=h;refine⟨_,(lu (oe (vf (lc (R.da (R.jd (K:=K)) rfl T.b_list xG (lc (vc (R.cr (K:=K)) (f8 0) vj (ux mo)) li)) (lc (oh qd mo (oh yq (uy (R.jo (K:=K) rfl) rfl T.b_sum Zm (lc (vc (R.cr (K:=K)) (f8 0) vj (ux mo)) li)) mo)) (lc mo li)))))),?_⟩;have k:iB (c.map V.int) none (some 63)=(c.take 63).map V.int:=by rw[Tf];exact congrArg _ (sO c 63)
  refine⟨_,j,λe l=>⟨_,.inl (QYY aA),λb m=>?_⟩⟩;have g:Same H (aH (aH H e (.lst (iB (c.map V.int) none (some 63)))) b (.lst (iB (c.map V.int) none (some 63)))):=(aG l).trans (aG m);have g2:(aH (aH H e (.lst (iB (c.map V.int) none (some 63)))) b (.lst (iB (c.map V.int) none (some 63)))) b=some (.lst ((c.take 63).map V.int)):=by rw[aA,k]
  have r:H b=none:=(aG l).free m;show qM _ _ _ (aH (aH H e (.lst (iB (c.map V.int) none (some 63)))) b (.lst (iB (c.map V.int) none (some 63)))) _;generalize aH (aH H e (.lst (iB (c.map V.int) none (some 63)))) b (.lst (iB (c.map V.int) none (some 63)))=t at g g2;refine⟨_,g.seq j,λn i=>⟨n,c.take 63,rfl,QYY (by rw[aA,k]),by show(0:Int)<2147483629;decide,sM rfl,λd hd=>?_⟩⟩;have o:Same H (aH t n (.lst (iB (c.map V.int) none (some 63)))):=g.trans (aG i);have p:b≠d:=aE ((aG i) _ _ g2) hd;refine q d b _ (o.free hd) r ⟨c.take 63,_,_,aA,?_,?_⟩ (o.trans (aG hd))
  ·rw[aB p];exact(aG i) _ _ g2
  ·rw[oX];exact min_le_left _ _
def Oi(D:DefAt K mg "_law_draw" jV QZE) :
  Callee P w K mg base 1 "_law_draw" QZE rL:=by
 refine D.gg fQ (λa0 cdv a1 Z s H vs a2 a3 Q h=>?_)
 ·revert h;refine yE3 λd b m=>yA5 λζ S k T q=>?_;subst ζ;have U:=Q.units0;refine yE0 S.ex (yE3 λa g f=>yA3 λE L M=>?_);have F:d≠b:=aK E L (by
   intro z;injection z with z
   cases a with
   | nil=>cases z
   | cons z1 zs=>injection z with z _;cases z)
  refine⟨_,(lq (wt (oh qd (yr K 0) mo) (yp (f8 0) mo R.jp)) (lq (pv (i:=2) fQ.nd (yr K 0)) (lq (qa (pi (R.jq (K:=K) U) (yr K 0) (vf li)) (lq (pv (i:=2) fQ.nd (xg (K:=K) PySem.F.plainAttrs_list PySem.F.slot_list_pop PySem.F.type_list_pop R.jr (yr K 0) (lc mo li))) (lu (qa (pi R.ge (f8 2) (oh R.eh mo mo)) (lq (uz (xg (K:=K) PySem.F.plainAttrs_list PySem.F.slot_list_insert PySem.F.type_list_insert R.io (yr K 0) (lc mo (lc (oh R.fc (f8 2) (f8 1)) li)))) (lu (oe (oh yq (f8 2) (f8 1))))) qb))) qb) (lq (pv (i:=3) fQ.nd (oh yq (oh qd (oh qd (oh R.dj (oh yq (f8 2) mo) mo) (oh R.dj mo (yr K 0))) mo) mo)) (lq (pv (i:=3) fQ.nd (oh yq (oh R.dj (f8 3) (f8 3)) mo)) (lu (oe (oh yq (oh R.fc (oh yq (oh R.dj (f8 3) (oh qd (f8 3) mo)) mo) mo) (f8 1))))))))),?_⟩;refine⟨_,QYY E,_,rfl,d,_,2,2,rfl,rfl,E,rfl,?_⟩;have g1:(aH H d (.lst [.ref b,.int g,.int (f+1)])) d=some (.lst [.ref b,.int g,.int (f+1)]):=aA;have g2:(aH H d (.lst [.ref b,.int g,.int (f+1)])) b=some (.lst (a.map V.int)):=by rw[aB F.symm];exact L
  have N:Kp d b H (aH H d (.lst [.ref b,.int g,.int (f+1)])):=λc o e l j=>by rw[aB l];exact e
  show Rl _ _ _ _ (aH H d (.lst [.ref b,.int g,.int (f+1)]));generalize aH H d (.lst [.ref b,.int g,.int (f+1)])=n at g1 g2 N;refine⟨_,QYY g1,_,rfl,?_⟩;dsimp only [aJ];refine aBK (t:=Xm _ _ _) (λJ r=>∃c:Int,J=[some (.ref d),some (.int m),some (.int c),none]/\(∃u:List Int,r d=some (.lst [.ref b,.int g,.int (f+1)])/\r b=some (.lst (u.map V.int))/\u.length<=63)/\Kp d b H r) (λnx O=>?_) ?_
  ·refine⟨_,QYY g1,_,rfl,sM rfl,λp v=>⟨b,p,_,rfl,rfl,QYY (by rw[aB (aE g2 v)];exact g2),QYY aA,?_⟩⟩;have A:(aH n p (.lst [])) d=some (.lst [.ref b,.int g,.int (f+1)]):=by rw[aB (aE g1 v)];exact g1
   have B:(aH n p (.lst [])) b=some (.lst (a.map V.int)):=by rw[aB (aE g2 v)];exact g2
   have G:Kp d b H (aH n p (.lst [])):=N.trans (.new v);generalize aH n p (.lst [])=C at A B G;cases a with
   | nil=>
    exact O _ _ ⟨_,rfl,⟨[],A,B,M⟩,G⟩
   | cons z a=>
    have W:a.length+1<=63:=by simpa using M
    refine⟨_,QYY A,_,rfl,.inl ⟨rfl,_,QYY B⟩,b,_,0,0,.int z,rfl,rfl,B,Zd,Zd,by simp[seqIndex?],rfl,?_⟩;have f1:(aH C b (.lst ((List.map V.int (z::a)).eraseIdx 0))) d=some (.lst [.ref b,.int g,.int (f+1)]):=by rw[aB F];exact A
    have f2:(aH C b (.lst ((List.map V.int (z::a)).eraseIdx 0))) b=some (.lst (a.map V.int)):=by rw[aA];rfl
    have I:Kp d b H (aH C b (.lst ((List.map V.int (z::a)).eraseIdx 0))):=λc o e l j=>by rw[aB j];exact G c o e l j
    dsimp only [aJ];generalize aH C b (.lst ((List.map V.int (z::a)).eraseIdx 0))=H3 at f1 f2 I;refine⟨⟨Zd,Zd,Zd⟩,?_⟩;refine dF (λ_=>?_) (λ_=>?_)
    ·refine⟨_,QYY f1,_,rfl,.inl ⟨rfl,_,QYY f2⟩,⟨k,T⟩,b,_,0,_,rfl,rfl,f2,zero_le _,uD (m:=63) (by rw[aR];omega) Zd,k,?_⟩;refine q _ _ (Int.emod_nonneg _ Zo) (Int.emod_lt_of_pos _ k) ⟨z/m::a,g,f+1,by rw[aB F];exact f1,by rw[aA];rfl,by simpa using W⟩ λc o e l j=>by rw[aB j];exact I c o e l j
    ·exact O _ _ ⟨_,rfl,⟨a,f1,f2,Zo⟩,I⟩
  ·rintro J r ⟨c,rfl,⟨u,f1,f2,X⟩,Y⟩;refine⟨by show(0:Int)<_;decide,.inr ⟨Zd,Zd⟩,_,QYY f1,_,rfl,.inl ⟨Zd,Zd⟩,by show(0:Int)<_;decide,?_⟩;generalize hx:(c%2147483629*16807+69621*(f+1)+7919)%2147483629=x;have FF:0<=x:=by omega
   have hx1:x<2147483629:=by omega
   refine⟨.inl ⟨Zo,Zo⟩,by show(0:Int)<_;decide,?_⟩;generalize hy:x*x%2147483587=y;have IV:0<=y:=by omega
   have RJ:y<2147483587:=by omega
   refine⟨.inl ⟨Zo,Zo⟩,by show(0:Int)<_;decide,⟨Zd,Zd⟩,k,?_⟩;exact q _ _ (Int.emod_nonneg _ Zo) (Int.emod_lt_of_pos _ k) ⟨u,g,f+1,f1,f2,X⟩ Y
structure WordsOf(L:List Nat)(g:Nat)(ws:List Str):Prop where
 nd:ws.Nodup
 of:∀z∈ws,1<=z.length/\z.length<=g/\∀c∈z.cps.toList,c∈L
def vX:Sp:=λvs H Q _=>∃(d b:TD)(L:List Nat)(g m:Nat),vs=[.ref d,.str (tx L),.int (g:Int),.int (m:Int)]/\Dk H d b/\1<=m/\m<=g/\g<=12/\L.Nodup/\m<=L.length/\L.length<=40 ∧
 ∀(l:TD)(c:List Str)(a:Hp),WordsOf L g c->c.length=m->a l=some (.lst (c.map V.str))->l≠d->l≠b->Dk a d b->Kp d b H a->Q (.ref l) a
def Oj{c:Type}(xs:List c){i j:Nat}(a:i<=xs.length)(b:j<=xs.length):iB xs (some (i:Int)) (some (j:Int))=(xs.drop i).take (j-i):=by
 unfold iB;rw[HT.sIx_nat,HT.sIx_nat,Nat.min_eq_left a,Nat.min_eq_left b]
def tL(L b:List Nat)(a sz f k:Nat):List Nat:=b.take a++[L.getD ((f+k)%L.length) 0]++(b.drop (a+1)).take (sz-(a+1))
def Uk{L:List Nat}(d:L.Nodup){i j:Nat}(a:i<L.length)(b:j<L.length)(h:L.getD i 0=L.getD j 0):i=j:=by
 rw[getD_eq_getElem?_getD,getD_eq_getElem?_getD,fX a,fX b]at h;have c:L[i]=L[j]:=h;have p:=List.pairwise_iff_getElem.mp d;rcases Nat.lt_trichotomy i j with z|z|z
 ·exact IN c (p i j a b z)
 ·exact z
 ·exact IN c.symm (p j i b a z)
def Ul{f k a n:Nat}(d:k<n)(e:a<n)(h:(f+k)%n=(f+a)%n):k=a:=by
 have b:=Nat.mod_add_div (f+k) n;have c:=Nat.mod_add_div (f+a) n;rw[h]at b;generalize (f+k)/n=u at b;generalize (f+a)/n=v at c;rcases Nat.lt_trichotomy u v with z|z|z
 ·have:n*(u+1)<=n*v:=Nat.mul_le_mul_left n z;rw[Nat.mul_add,Nat.mul_one]at this;omega
 ·subst z;omega
 ·have:n*(v+1)<=n*u:=Nat.mul_le_mul_left n z;rw[Nat.mul_add,Nat.mul_one]at this;omega
def Ol{L c:List Nat}(d:L.Nodup){a sz f k b:Nat}(h:tL L c a sz f k=tL L c a sz f b)(e:k<L.length)(g:b<L.length):k=b:=by
 unfold tL at h;have i:=List.append_inj_left' h rfl;have j:=List.append_inj_right' i rfl;have l:L.getD ((f+k)%L.length) 0=L.getD ((f+b)%L.length) 0:=by injection j
 exact Ul e g (Uk d (mod_lt _ Zo) (mod_lt _ Zo) l)
def aB0{L:List Nat}{i:Nat}(h:i<L.length):L.getD i 0∈L/\L[i]?=some (L.getD i 0):=by
 have e:L[i]?=some (L[i]):=fX h;have a:L.getD i 0=L[i]:=by rw[getD_eq_getElem?_getD,e];rfl
 exact⟨a▸getElem_mem _,a▸e⟩
def Um{L d:List Nat}{g a sz f k:Nat}(i:0<L.length)(j:d.length=g)(h:∀c∈d,c∈L)(l:a<sz)(hs:sz<=g):1<=(tL L d a sz f k).length/\(tL L d a sz f k).length<=g/\∀c∈tL L d a sz f k,c∈L:=by
 have e:(tL L d a sz f k).length=sz:=by
  unfold tL;simp[j];omega
 refine⟨Zo,Zo,λc b=>?_⟩;unfold tL at b;rcases Zma.mp b with b|b
 ·rcases Zma.mp b with b|b
  ·exact h c (mem_of_mem_take b)
  ·rw[Zms.mp b];exact(aB0 (mod_lt _ i)).1
 ·exact h c (List.mem_of_mem_drop (mem_of_mem_take b))
def xZ{n i:Nat}{x:V}(h:(jM 0 n)[i]?=some x):x=.int (i:Int)/\i<n:=by
 unfold jM at h;rw[dW]at h;cases a:(List.range n)[i]? with
 | none=>rw[a]at h;cases h
 | some y=>
  rw[a]at h;obtain⟨c,b⟩:=Zgs.mp a;rw[List.getElem_range]at b;cases h;rw[<- b];exact⟨Zs,by simpa using c⟩
def kB(n:Nat):(jM 0 n).length=n:=by simp[jM]
def zX{L:List Nat}{g m:Nat}{F:Nat->List Nat}(d:∀k a,k<m->a<m->F k=F a->k=a)(e:∀k,k<m->1<=(F k).length/\(F k).length<=g/\∀c∈F k,c∈L):WordsOf L g ((List.range m).map λk=>tx (F k)):=by
 refine⟨?_,λz f=>?_⟩
 ·show List.Pairwise (·≠·) _;rw[pairwise_map];refine List.Pairwise.imp_of_mem (λ{x y} h i j b=>j ?_) List.nodup_range;exact d _ _ (mem_range.mp h) (mem_range.mp i) (by simpa using congrArg (λz:Str=>z.cps.toList) b)
 ·obtain⟨k,l,rfl⟩:=Zmm.mp f;have:=e k (mem_range.mp l);exact⟨by rw[fU];exact this.1,by rw[fU];exact this.2.1,λc n=>this.2.2 c (by simpa using n)⟩
def Ii(T:Txt K mg)(x:Callee P w K mg base 1 "_law_draw" QZE rL)(D:DefAt K mg "_law_unlike" cM QZk) :
  Callee P w K mg base 2 "_law_unlike" QZk vX:=by
 refine D.gg cP (λa5 cdv a6 outer s H vs a7 a8 y h=>?_)
 ·revert h;refine yE5 λd b L g m=>yA9 λζ dk AQ ER hg ox hmL bQ' a2=>?_;subst ζ;have C:(tx L).length=L.length:=fU L;have A:(tx L).length<=sizeLine:=fJ Zo;have E:(tx L).cps.toList=L:=by simp
  refine⟨_,(lq (pv (i:=4) cP.nd (xg (K:=K) PySem.F.plainAttrs_str PySem.F.slot_str_join PySem.F.type_str_join (R.jt (K:=K)) oj (lc (vm rfl (js:=[none,some 0,some 1]) (N:=QZc) (CompScope.by (aD cM) QZl rfl rfl Zk) (aV rfl) (R.dl rfl T.b_range (lc (f8 2) li)) (λa3 X Y fp=>⟨(pw (i:=0) (show(QZc:List Str).Nodup by decide +kernel)),xf,(u8 R.iS (f8 2) (px x y rfl (lc (f8 1) (lc (uy R.di rfl T.b_len dQ (lc (f8 2) li)) li))))⟩)) li))) (lq (qa (pi vb (px x y rfl (lc (f8 0) (lc mo li))) mo) (lu (oe (vm rfl (js:=[none,some 4]) (N:=["_law_k","_law_word"]) (CompScope.by (aD cM) QZl rfl rfl Zk) (aV rfl) (R.dl rfl T.b_range (lc (f8 3) li)) (λa3 X Y fp=>⟨(pw (i:=0) (show(["_law_k","_law_word"]:List Str).Nodup by decide +kernel)),xf,(vc R.sS (f8 1) vj (ux (oh qd (f8 0) mo)))⟩)))) qb) (lq (pv (i:=5) cP.nd (oh qd mo (px x y rfl (lc (f8 0) (lc (f8 2) li))))) (lq (pv (i:=6) cP.nd (px x y rfl (lc (f8 0) (lc (f8 5) li)))) (lq (pv (i:=7) cP.nd (px x y rfl (lc (f8 0) (lc (uy R.di rfl T.b_len dQ (lc (f8 1) li)) li)))) (lq (pv (i:=8) cP.nd (R.je (lc (vc R.sS (f8 4) vj (ux (f8 6))) (lc (vc R.sS (f8 4) (ux (oh qd (f8 6) mo)) (ux (f8 5))) li)))) (lu (oe (vm rfl (js:=[none,some 1,some 7,some 8]) (N:=QZb) (CompScope.by (aD cM) QZl rfl rfl Zk) (aV rfl) (R.dl rfl T.b_range (lc (f8 3) li)) (λa3 X Y fp=>⟨(pw (i:=0) (show(QZb:List Str).Nodup by decide +kernel)),xf,(oh R.dy (oh R.dy (oi K 3) (u8 R.iS (f8 1) (oh yq (oh qd (f8 2) (f8 0)) (uy R.di rfl T.b_len dQ (lc (f8 1) li))))) (oi K 3))⟩)))))))))),?_⟩;refine aBK (t:=Jy _ _) (λZ j=>∃f:List Nat,Z=[some (.ref d),some (.str (tx L)),some (.int (g:Int)),some (.int m),some (.str (tx f)),none,none,none,none]/\f.length=g/\(∀c∈f,c∈L)/\Dk j d b/\Kp d b H j) (λnx l7=>?_) ?_
  ·refine⟨rfl,g,rfl,Zo,Zo,?_⟩;refine bF (jA 0 (g:Int).toNat) (by rw[kB];omega) (λi l j=>Dk j d b/\Kp d b H j/\∃f:List Nat,l=f.map (λc=>V.str (tx [c]))/\f.length=i/\∀c∈f,c∈L) (λi l j ⟨_,_,f,e,n,_⟩=>⟨trivial,by rw[e,aR,n];exact bA _⟩) ⟨dk,.refl,[],rfl,rfl,(λ_ h=>nomatch h)⟩ (?_) (?_)
   ·refine λi a4 l j B=>yA3 λF G=>yE1 λf=>yA3 λe n I=>?_;refine⟨A,d,b,_,rfl,F,Zo,Zo,λr2 V9 r20 r21 Dj kpj=>⟨A,?_⟩⟩;obtain⟨c,J,hm⟩:=kS (xs:=(tx L).cps.toList) r20 (by rw[E];omega);rw[E]at hm;refine⟨c,J,Dj,G.trans kpj,f++[c],by rw[e,dN];rfl,by rw[uC,n];rfl,λc' CU=>?_⟩;rcases Zma.mp CU with h|h
    ·exact I c' h
    ·rw[Zms.mp h];exact hm
   ·refine λl j=>yA3 λF G=>yE1 λf=>yA3 λe n I=>?_;intro p q;have v:f.length=g:=by rw[n,kB];omega
    refine⟨_,p,f.map (λc=>tx [c]),rfl,rfl,QYY (by rw[aA,e,map_map];rfl),?_,?_⟩
    ·rw[zB,aR,Mc,fU];simp;omega
    ·refine l7 _ _ ⟨f,?_,v,I,F.new q,G.trans (.new q)⟩;rw[Mc,Bs];rfl
  ·refine λZ H1=>yE1 λf=>yA5 λζ v LH D1 k1=>?_;subst ζ;have XR:(tx f).cps.toList=f:=by simp
   have em:((m:Int)).toNat=m:=by omega
   refine⟨d,b,3,rfl,D1,Zd,Zd,λa9 H2 r0 r1 M k2=>?_⟩;refine dF (λ_=>?_) (λ_=>?_)
   ·refine⟨m,rfl,Zo,Zo,?_⟩;refine bF (jA 0 (m:Int).toNat) (by rw[kB];omega) (λi l j=>l=((List.range i).map λk=>tx (f.take (k+1))).map V.str/\j=H2) (λi l j ⟨e,_⟩=>⟨trivial,by rw[e];simp⟩) ⟨rfl,rfl⟩ (?_) (?_)
    ·rintro i a4 l j B ⟨e,n⟩;subst n;obtain⟨rfl,hi⟩:=xZ B;refine⟨fJ (by rw[fU];omega),?_,rfl⟩;rw[XR,show((i:Nat):Int)+1=((i+1:Nat):Int) by omega,sO,e,range_succ,dN,dN];rfl
    ·rintro l j ⟨e,n⟩;subst n;intro p q;rw[kB,em]at e;have hd:=M.ne q;refine a2 p ((List.range m).map λk=>tx (f.take (k+1))) _ (zX (λk k' O DK e=>?_) (λk O=>?_)) Zs (by rw[aA,e]) hd.1 hd.2 (M.new q) ((k1.trans k2).trans (.new q))
     ·have:=congrArg length e;rw[oX,oX,v]at this;omega
     ·exact⟨by rw[oX,v];omega,by rw[oX,v];omega,λc J=>LH c (mem_of_mem_take J)⟩
   ·refine⟨d,b,g,rfl,M,Zo,Zo,λQ H3 s0 s1 D3 k3=>?_⟩;refine⟨d,b,1+Q,rfl,D3,Zo,Zo,λra H4 a0 a1 D4 k4=>?_⟩;refine⟨A,d,b,_,rfl,D4,Zo,Zo,λrf S f0 f1 D5 k5=>?_⟩;rw[C]at f1;dsimp only [aJ];obtain⟨a,rfl⟩:∃a:Nat,ra=a:=⟨ra.toNat,Zo⟩;obtain⟨r,rfl⟩:∃z:Nat,Q=z:=⟨Q.toNat,Zo⟩;obtain⟨u,rfl⟩:∃z:Nat,rf=z:=⟨rf.toNat,Zo⟩;refine⟨fJ (by rw[fU];omega),fJ (by rw[fU];omega),sM rfl,λtp XU=>?_⟩;have U:(aH S tp (.tup [.str (tx (iB (tx f).cps.toList none (some (a:Int)))),.str (tx (iB (tx f).cps.toList (some ((a:Int)+1)) (some (1+(r:Int)))))])) tp=some (.tup [.str (tx (f.take a)),.str (tx ((f.drop (a+1)).take (r+1-(a+1))))]):=by
     rw[aA,XR,sO,show(a:Int)+1=((a+1:Nat):Int) by omega,show 1+(r:Int)=((r+1:Nat):Int) by omega,Oj f Zo Zo]
    have k6:Kp d b H (aH S tp (.tup [.str (tx (iB (tx f).cps.toList none (some (a:Int)))),.str (tx (iB (tx f).cps.toList (some ((a:Int)+1)) (some (1+(r:Int)))))])):=((((k1.trans k2).trans k3).trans k4).trans k5).trans (.new XU);have W:=D5.new (o:=.tup [.str (tx (iB (tx f).cps.toList none (some (a:Int)))),.str (tx (iB (tx f).cps.toList (some ((a:Int)+1)) (some (1+(r:Int)))))]) XU;dsimp only [aJ];generalize aH S tp (.tup [.str (tx (iB (tx f).cps.toList none (some (a:Int)))),.str (tx (iB (tx f).cps.toList (some ((a:Int)+1)) (some (1+(r:Int)))))])=H6 at U k6 W;refine⟨m,rfl,Zo,Zo,?_⟩;refine bF (jA 0 (m:Int).toNat) (by rw[kB];omega) (λi l j=>l=((List.range i).map λk=>tx (tL L f a (r+1) u k)).map V.str/\j=H6) (λi l j ⟨e,_⟩=>⟨trivial,by rw[e];simp⟩) ⟨rfl,rfl⟩ (?_) (?_)
    ·rintro i a4 l j B ⟨e,n⟩;subst n;obtain⟨rfl,hi⟩:=xZ B;have h0:0<L.length:=by omega
     have hL:=aB0 (L:=L) (mod_lt (u+i) h0);have t1:(tx (f.take a)).length<=12:=by rw[fU,oX];omega
     have t2:(tx ((f.drop (a+1)).take (r+1-(a+1)))).length<=12:=by rw[fU,oX,length_drop];omega
     refine⟨_,QYZ U,_,rfl,A,by rw[C];omega,A,L.getD ((u+i)%L.length) 0,?_,fJ (by have:=fU [L.getD ((u+i)%L.length) 0];simp only [yK,length_nil]at this;omega),_,QYZ U,_,rfl,fJ ?_,?_,rfl⟩
     ·rw[C,E,show((u:Int)+(i:Int))%(L.length:Int)=(((u+i)%L.length:Nat):Int) by rw[Int.natCast_emod,Int.natCast_add]];exact nQ hL.2
     ·rw[xD,fU,uC,oX];simp only [yK,length_nil];omega
     ·rw[e,range_succ,dN,dN,xD,xD];rfl
    ·rintro l j ⟨e,n⟩;subst n;intro p q;rw[kB,em]at e;have hd:=W.ne q;refine a2 p ((List.range m).map λk=>tx (tL L f a (r+1) u k)) _ (zX (λk k' O DK e=>?_) (λk O=>?_)) Zs (by rw[aA,e]) hd.1 hd.2 (W.new q) (k6.trans (.new q))
     ·exact Ol ox e Zo Zo
     ·exact Um Zo v LH Zo Zo
def bM{n:Nat}(h:Nat.ble n 1000=true):n<=1000:=FS h
def Ij:An->Str|.is1 _=>"is"|.is2 _ _=>"is"|.short _=>"short"|.full _=>"full"|.no _=>"no"|.ok=>"ok"
def yA{C:TD}(B:We K C)(D:MethAt K C "amount" "Book.amount" fF zr):cC P w K mg base 1 C "amount" zr (hU C):=by
 refine D.gg tJ (λf j A i s H vs Q E b h=>?_)
 ·revert h;refine yE3 λp n l=>yA3 λζ bk q=>?_;subst ζ;have c:=dE b;obtain⟨e,d,g,a⟩:=bk.ex;refine⟨_,(lu (oe (R.ju c (og (K:=K) (f8 0)) (f8 1) mo))),?_⟩;refine⟨C,e,_,.ref d,g,B.cl,B.nA,fN _,d,rfl,.inl ⟨_,.inl a⟩,_,DGet.k (k:=Sum.inr n) a,?_⟩;rw[rJ];exact q
def aM{a:Type}{xs:List a}{i:Nat}{x:a}(h:xs[i]?=some x):xs.take (i+1)=xs.take i++[x]:=by
 rw[List.take_succ,h];rfl
def Ck{C:TD}(T:Txt K mg)(B:We K C)(D:MethAt K C "rows" "Book.rows" fP AC):cC P w K mg base 1 C "rows" AC (zI C):=by
 refine D.gg xX (λa2 cdv a3 outer s H vs a4 a5 U h=>?_)
 ·revert h;refine yE2 λa6 b=>yA4 λζ bk F a0=>?_;subst ζ;have G:=dE U;obtain⟨v,d,I,J⟩:=bk.ex;refine⟨_,(lu (oe (vm rfl (js:=[none,some 0]) (N:=["name","self"]) (CompScope.by (aD fP) AC rfl rfl Zk) (aV rfl) (ve (K:=K) (uy (R.ic rfl) rfl T.b_sorted eB (lc (og (K:=K) (f8 0)) li))) (λC s₂ H₂ fp=>⟨(pw (i:=0) (show(["name","self"]:List Str).Nodup by decide +kernel)),(wy (pi yn (vn G (og (K:=K) (f8 1)) (f8 0)) mo)),(R.je (lc (f8 0) (lc (vn G (og (K:=K) (f8 1)) (f8 0)) li)))⟩)))),?_⟩;refine⟨C,v,_,.ref d,I,B.cl,B.nA,fN _,b.map (·.1),_,.inl J,sW b,by rw[aR];exact F,λl W=>⟨l,rfl,⟨_,QYY aA⟩,?_⟩⟩;have j:Same H (aH H l (.lst ((zE (b.map (·.1))).map V.str))):=aG W;have g1:(aH H l (.lst ((zE (b.map (·.1))).map V.str))) l=some (.lst ((zE (b.map (·.1))).map V.str)):=aA;generalize aH H l (.lst ((zE (b.map (·.1))).map V.str))=L at j g1;have hlen:(zE (b.map (·.1))).length<64:=by rw[xJ,aR];exact F
  refine bF (bE K l ((zE (b.map (·.1))).map V.str)) (by rw[aR];omega) (λi q g=>∃c:List Z,q=cI c/\Same L g/\ZAt g c/\c.length<=i/\c.map (·.2)=(((zE (b.map (·.1))).take i).filter λn=>decide (0<cA b n)).map λn=>(n,cA b n))
   (λi q g ⟨c,e,f,_,X,_⟩=>⟨QYY (f _ _ g1),by rw[e];unfold cI;rw[aR];exact X⟩) ⟨[],rfl,Same.refl _,(λ_ h=>nomatch h),bA _,rfl⟩ (λi a7 q g o ⟨c,e,f,r,M,u⟩=>?_) (λq g ⟨c,e,f,r,M,u⟩=>?_)
  ·rw[dW]at o;cases p:(zE (b.map (·.1)))[i]? with
   | none=>rw[p]at o;cases o
   | some n=>
    rw[p]at o;cases o;have Y:n∈b.map (·.1):=(kX _).mem_iff.mp (jJ p);obtain⟨a,O⟩:=mQ Y;have x:cA b n=a:=by unfold cA;rw[O];rfl
    have gd:∀y,Same L y->DGet y d (.str n) (some (.int a)):=λy GB=>by
     have:=DGet.k (k:=Sum.inr n) (GB  _ _ (j _ _ J));rw[rH,O]at this;exact this
    have Q:=f _ _ (j _ _ I);refine⟨C,v,_,.ref d,Q,B.cl,B.nA,fN _,d,_,rfl,gd g f,?_⟩;refine dF (λz=>?_) (λz=>?_)
    ·have A:0<a:=by simpa using z
     refine⟨C,v,_,.ref d,Q,B.cl,B.nA,fN _,d,_,rfl,gd g f,sM rfl,λt S=>⟨c++[(t,n,a)],by rw[e];unfold cI;rw[dN];rfl,f.trans (aG S),?_,by rw[uC];simpa using M,?_⟩⟩
     ·intro a1 LJ;rcases Zma.mp LJ with m|m
      ·exact(r.same (aG S)) a1 m
      ·rw[Zms.mp m];exact aA
     ·rw[dN,u,aM p,filter_append,dN];congr 1;rw[filter_cons,O8 (by rw[x];exact UF A)];rw[<- x];rfl
    ·have A:¬ 0<a:=by simpa using z
     refine⟨c,e,f,r,Zo,?_⟩;rw[u,aM p,filter_append,filter_cons,NE (by rw[x];simpa using A)];simp
  ·intro l2 E;subst e;refine a0 l2 c _ (j.trans (f.trans (aG E))) ?_ aA (r.same (aG E)) ?_
   ·exact j.free (f.free E)
   ·rw[u,aR,take_length];rfl
def dB(f:Str->Nat)(z:Str)(v:Nat):Str->Nat:=λy=>if y=z then v else f y
def bB(f:Str->Nat):Dd->Option An
 | .add a n=>if 1000000000000<f a+n then some (.full (f a)) else some (.is1 (f a+n))
 | .take a n=>if f a<n then some (.short (f a)) else some (.is1 (f a-n))
 | .move a b n=>if f a<n then some (.short (f a)) else if 1000000000000<f b+n then some (.full (f b)) else some (.is2 (f a-n) (f b+n))
 | .send _ a n=>if f a<n then some (.short (f a)) else none
 | .fetch _ a n=>if 1000000000000<f a+n then some (.full (f a)) else none
 | .pass _ _ _ _=>none
def eW(f:Str->Nat):Dd->List An
 | .send h a n=>[.no h,.is1 (f a-n)]
 | .fetch h a n=>[.no h,.is1 (f a+n)]
 | .pass h g _ _=>[.no h,.no g,.ok]
 | _=>[]
def after(f:Str->Nat):Dd->An->(Str->Nat)
 | .add a n,.is1 _=>dB f a (f a+n)
 | .take a n,.is1 _=>dB f a (f a-n)
 | .move a b n,.is2 _ _=>dB (dB f a (f a-n)) b (f b+n)
 | .send _ a n,.is1 _=>dB f a (f a-n)
 | .fetch _ a n,.is1 _=>dB f a (f a+n)
 | _,_=>f
def lF(f:Str->Nat)(x:Dd)(q:Bool)(y:An):Prop:=(q=false/\bB f x=some y)∨(q=true/\bB f x=none/\y∈eW f x)
def Om{f:Str->Nat}(c:∀z,f z<=1000000000000){x:Dd}(m:x.Ok){q:Bool}{y:An}(h:lF f x q y)(i:q=true->x.far=true):An.Of x y/\(x.far=true->(q=true↔y.early=false)):=by
 rcases h with⟨rfl,h⟩|⟨rfl,d,e⟩
 ·cases x with
  | add a n=>
   simp only [bB]at h;have:=c a;split at h<;>cases h
   ·exact⟨⟨Zo,Zo⟩,λz=>nomatch z⟩
   ·exact⟨⟨Zo,Zo⟩,λz=>nomatch z⟩
  | take a n=>
   simp only [bB]at h;have:=c a;split at h<;>cases h
   ·exact⟨by show f a<n;omega,λz=>nomatch z⟩
   ·exact⟨by show f a-n+n<=1000000000000;omega,λz=>nomatch z⟩
  | move a b n=>
   simp only [bB]at h;have:=c a;have:=c b;split at h
   ·cases h;exact⟨by show f a<n;omega,λz=>nomatch z⟩
   ·split at h<;>cases h
    ·exact⟨⟨Zo,Zo⟩,λz=>nomatch z⟩
    ·exact⟨⟨Zo,Zo,Zo⟩,λz=>nomatch z⟩
  | send g a n=>
   simp only [bB]at h;split at h<;>cases h;exact⟨by show f a<n;omega,λ_=>⟨nofun,nofun⟩⟩
  | fetch g a n=>
   simp only [bB]at h;have:=c a;split at h<;>cases h;exact⟨⟨Zo,Zo⟩,λ_=>⟨nofun,nofun⟩⟩
  | pass g k a n=>cases h
 ·cases x with
  | add a n=>cases i rfl
  | take a n=>cases i rfl
  | move a b n=>cases i rfl
  | send g a n=>
   have:=c a;simp only [bB]at d;simp only [eW,mem_cons,EJ,or_false]at e;have l:n<=f a:=by
    by_cases j:f a<n
    ·rw[O8 j]at d;cases d
    ·omega
   rcases e with rfl|rfl
   ·exact⟨rfl,λ_=>⟨λ_=>rfl,λ_=>rfl⟩⟩
   ·exact⟨by show f a-n+n<=1000000000000;omega,λ_=>⟨λ_=>rfl,λ_=>rfl⟩⟩
  | fetch g a n=>
   simp only [bB]at d;simp only [eW,mem_cons,EJ,or_false]at e;have l:¬ 1000000000000<f a+n:=by
    intro j;rw[O8 j]at d;cases d
   rcases e with rfl|rfl
   ·exact⟨rfl,λ_=>⟨λ_=>rfl,λ_=>rfl⟩⟩
   ·exact⟨⟨Zo,Zo⟩,λ_=>⟨λ_=>rfl,λ_=>rfl⟩⟩
  | pass g k a n=>
   simp only [eW,mem_cons,EJ,or_false]at e;rcases e with rfl|rfl|rfl
   ·exact⟨.inl rfl,λ_=>⟨λ_=>rfl,λ_=>rfl⟩⟩
   ·exact⟨.inr rfl,λ_=>⟨λ_=>rfl,λ_=>rfl⟩⟩
   ·exact⟨trivial,λ_=>⟨λ_=>rfl,λ_=>rfl⟩⟩
def kC{f:Str->Nat}{z:Str}{v:Nat}(a:∀z,f z<=1000000000000)(b:v<=1000000000000):∀y,dB f z v y<=1000000000000:=λy=>by
 unfold dB;split
 ·exact b
 ·exact a y
def On{f:Str->Nat}(c:∀z,f z<=1000000000000){x:Dd}{q:Bool}{y:An}(h:lF f x q y):∀z,after f x y z<=1000000000000:=by
 rcases h with⟨rfl,h⟩|⟨rfl,e,d⟩
 ·cases x with
  | add a n=>
   simp only [bB]at h;split at h<;>cases h
   ·exact c
   ·exact kC c Zo
  | take a n=>
   simp only [bB]at h;have:=c a;split at h<;>cases h
   ·exact c
   ·exact kC c Zo
  | move a b n=>
   simp only [bB]at h;have:=c a;split at h
   ·cases h;exact c
   ·split at h<;>cases h
    ·exact c
    ·exact kC (kC c Zo) Zo
  | send g a n=>
   simp only [bB]at h;split at h<;>cases h;exact c
  | fetch g a n=>
   simp only [bB]at h;split at h<;>cases h;exact c
  | pass g k a n=>cases h
 ·cases x with
  | add a n=>cases d
  | take a n=>cases d
  | move a b n=>cases d
  | send g a n=>
   have:=c a;simp only [eW,mem_cons,EJ,or_false]at d;rcases d with rfl|rfl
   ·exact c
   ·exact kC c Zo
  | fetch g a n=>
   simp only [bB]at e;simp only [eW,mem_cons,EJ,or_false]at d;have j:¬ 1000000000000<f a+n:=by
    intro i;rw[O8 i]at e;cases e
   rcases d with rfl|rfl
   ·exact c
   ·exact kC c Zo
  | pass g k a n=>
   simp only [eW,mem_cons,EJ,or_false]at d;rcases d with rfl|rfl|rfl<;>exact c
def uQ:Dd->An->List (Str×Int)
 | .add a n,.is1 _=>[(a,(n:Int))]
 | .take a n,.is1 _=>[(a,-(n:Int))]
 | .move a b n,.is2 _ _=>[(a,-(n:Int)),(b,(n:Int))]
 | .send _ a n,.is1 _=>[(a,-(n:Int))]
 | .fetch _ a n,.is1 _=>[(a,(n:Int))]
 | _,_=>[]
def aB1(y:An):nO y.vs 0=some (.str (Ij y)):=by cases y<;>rfl
def aB2{y:An}(h:Ij y="is"):(∃m,y=.is1 m)∨∃l m,y=.is2 l m:=by
 cases y with
 | is1 m=>exact .inl ⟨m,rfl⟩
 | is2 l m=>exact .inr ⟨l,m,rfl⟩
 | short m=>exact IN (show("short":Str)="is" from h) Zk
 | full m=>exact IN (show("full":Str)="is" from h) Zk
 | no m=>exact IN (show("no":Str)="is" from h) Zk
 | ok=>exact IN (show("ok":Str)="is" from h) Zk
def eX(f:Str->Nat)(c:Str×Int):Str->Nat:=dB f c.1 ((f c.1:Int)+c.2).toNat
def Oo(f:Str->Nat)(a:List (Str×Int)):Str->Nat:=a.foldl eX f
def Op:(Str->Nat)->List (Str×Int)->Prop
 | _,[]=>True
 | f,c::a=>0<=(f c.1:Int)+c.2/\Op (eX f c) a
def qS{f:Str->Nat}{x:Dd}{q:Bool}{y:An}(j:x.Ok)(h:lF f x q y):Oo f (uQ x y)=after f x y/\Op f (uQ x y):=by
 rcases h with⟨rfl,h⟩|⟨rfl,d,c⟩
 ·cases x with
  | add a n=>
   simp only [bB]at h;split at h<;>cases h
   ·exact⟨rfl,trivial⟩
   ·refine⟨?_,by show(0:Int)<=_+_;omega,trivial⟩;show dB f a ((f a:Int)+(n:Int)).toNat=dB f a (f a+n);rw[show((f a:Int)+(n:Int)).toNat=f a+n by omega]
  | take a n=>
   simp only [bB]at h;split at h<;>cases h
   ·exact⟨rfl,trivial⟩
   ·refine⟨?_,by show(0:Int)<=(f a:Int)+-(n:Int);omega,trivial⟩;show dB f a ((f a:Int)+-(n:Int)).toNat=dB f a (f a-n);rw[show((f a:Int)+-(n:Int)).toNat=f a-n by omega]
  | move a b n=>
   have l:b≠a:=λz=>j.2.2.1 z.symm
   simp only [bB]at h;split at h
   ·cases h;exact⟨rfl,trivial⟩
   ·split at h<;>cases h
    ·exact⟨rfl,trivial⟩
    ·have e:eX f (a,-(n:Int)) b=f b:=by unfold eX dB;exact NE l
     refine⟨?_,by show(0:Int)<=(f a:Int)+-(n:Int);omega,?_,trivial⟩
     ·show eX (eX f (a,-(n:Int))) (b,(n:Int))=dB (dB f a (f a-n)) b (f b+n);have i:eX f (a,-(n:Int))=dB f a (f a-n):=by
       unfold eX;rw[show((f a:Int)+-(n:Int)).toNat=f a-n by omega]
      unfold eX at e ⊢;dsimp only at e ⊢;rw[e,show((f b:Int)+(n:Int)).toNat=f b+n by omega];unfold eX at i;rw[i]
     ·show(0:Int)<=(eX f (a,-(n:Int)) b:Int)+(n:Int);omega
  | send g a n=>
   simp only [bB]at h;split at h<;>cases h;exact⟨rfl,trivial⟩
  | fetch g a n=>
   simp only [bB]at h;split at h<;>cases h;exact⟨rfl,trivial⟩
  | pass g k a n=>cases h
 ·cases x with
  | add a n=>cases c
  | take a n=>cases c
  | move a b n=>cases c
  | send g a n=>
   simp only [bB]at d;simp only [eW,mem_cons,EJ,or_false]at c;have o:¬ f a<n:=by
    intro m;rw[O8 m]at d;cases d
   rcases c with rfl|rfl
   ·exact⟨rfl,trivial⟩
   ·refine⟨?_,by show(0:Int)<=(f a:Int)+-(n:Int);omega,trivial⟩;show dB f a ((f a:Int)+-(n:Int)).toNat=dB f a (f a-n);rw[show((f a:Int)+-(n:Int)).toNat=f a-n by omega]
  | fetch g a n=>
   simp only [eW,mem_cons,EJ,or_false]at c;rcases c with rfl|rfl
   ·exact⟨rfl,trivial⟩
   ·refine⟨?_,by show(0:Int)<=(f a:Int)+(n:Int);omega,trivial⟩;show dB f a ((f a:Int)+(n:Int)).toNat=dB f a (f a+n);rw[show((f a:Int)+(n:Int)).toNat=f a+n by omega]
  | pass g k a n=>
   simp only [eW,mem_cons,EJ,or_false]at c;rcases c with rfl|rfl|rfl<;>exact⟨rfl,trivial⟩
def tM:Dd->List (Str×Int)
 | .add a n=>[(a,(n:Int))]
 | .take a n=>[(a,-(n:Int))]
 | .move a b n=>[(a,-(n:Int)),(b,(n:Int))]
 | .send _ a n=>[(a,-(n:Int))]
 | .fetch _ a n=>[(a,(n:Int))]
 | .pass _ _ _ _=>[]
def Oq{x:Dd}{y:An}(a:An.Of x y)(h:Ij y="is"):uQ x y=tM x:=by
 rcases aB2 h with⟨m,rfl⟩|⟨l,m,rfl⟩<;>cases x<;>first|rfl|exact a.elim
def aAu{x:Dd}{y:An}(h:Ij y≠"is"):uQ x y=[]:=by cases x<;>cases y<;>first|rfl|exact IN rfl h
def Et:Sp:=λvs H Q _=>∃(t:TD)(x:Dd),vs=[.ref t]/\H t=some (.tup x.vs)/\∀(tp:TD)(b:List Z)(a:Hp),Same H a->a tp=some (.tup (cI b))->ZAt a b->b.map (·.2)=tM x->Q (.ref tp) a
def rD(T:Txt K mg)(D:DefAt K mg "done_changes" cU zu):Callee P w K mg base 1 "done_changes" zu Et:=by
 refine D.gg kL (λf J A I s H vs Q E L h=>?_)
 ·revert h;refine yE2 λp x=>yA3 λζ c q=>?_;subst ζ;refine⟨_,(lq (qa (pi vb (oi K 0) oj) (lu (oe (o0 li))) qb) (lq (qa (pi vb (oi K 0) oj) (lu (oe (o0 (lc (o0 (lc (oi K 0) (lc (vd (u8 (vh (K:=K)) (f8 0) (vd mo))) li))) (lc (o0 (lc (oi K 0) (lc (u8 (vh (K:=K)) (f8 0) (vd mo)) li))) li))))) qb) (lq (qa (pi (R.fu (K:=K)) (oi K 0) (o0 (lc oj (lc oj li)))) (lu (oe (o0 (lc (o0 (lc (u8 (vh (K:=K)) (f8 0) (vd mo)) (lc (vd (u8 (vh (K:=K)) (f8 0) (vd mo))) li))) li)))) qb) (lu (oe (o0 (lc (o0 (lc (u8 (vh (K:=K)) (f8 0) (vd mo)) (lc (u8 (vh (K:=K)) (f8 0) (vd mo)) li))) li))))))),?_⟩;have u:∀ {B:Hp}{a:TD}{x:Str}{i:Int},B a=some (.tup [.str x,.int i])->ZAt B [(a,x,i)]:=λh z r=>by
   rw[Zms.mp r];exact h
  cases x with
  | add a n=>
   refine⟨_,QYZ c,_,rfl,_,QYZ c,_,rfl,_,QYZ c,_,rfl,bM rfl,λk t d g1=>⟨k,_,rfl,.inr (QYZ g1),rfl,rfl,?_⟩⟩;exact⟨_,QYZ (d _ _ c),_,rfl,_,QYZ (d _ _ c),_,rfl,bM rfl,λl v j g2=>⟨bM rfl,λm o e g3=>q m [(l,a,(n:Int))] o ((d.trans j).trans e) g3 (u (e _ _ g2)) rfl⟩⟩
  | take a n=>
   refine⟨_,QYZ c,_,rfl,_,QYZ c,_,rfl,_,QYZ c,_,rfl,bM rfl,λk t d g1=>⟨k,_,rfl,.inr (QYZ g1),rfl,rfl,?_⟩⟩;exact⟨_,QYZ (d _ _ c),_,rfl,_,QYZ (d _ _ c),_,rfl,bM rfl,λl v j g2=>⟨bM rfl,λm o e g3=>q m [(l,a,-(n:Int))] o ((d.trans j).trans e) g3 (u (e _ _ g2)) rfl⟩⟩
  | send h a n=>
   refine⟨_,QYZ c,_,rfl,_,QYZ c,_,rfl,_,QYZ c,_,rfl,bM rfl,λk t d g1=>⟨k,_,rfl,.inr (QYZ g1),rfl,rfl,?_⟩⟩;exact⟨_,QYZ (d _ _ c),_,rfl,_,QYZ (d _ _ c),_,rfl,bM rfl,λl v j g2=>⟨bM rfl,λm o e g3=>q m [(l,a,-(n:Int))] o ((d.trans j).trans e) g3 (u (e _ _ g2)) rfl⟩⟩
  | fetch h a n=>
   refine⟨_,QYZ c,_,rfl,_,QYZ c,_,rfl,_,QYZ c,_,rfl,bM rfl,λk t d g1=>⟨k,_,rfl,.inr (QYZ g1),rfl,rfl,?_⟩⟩;exact⟨_,QYZ (d _ _ c),_,rfl,_,QYZ (d _ _ c),_,rfl,bM rfl,λl v j g2=>⟨bM rfl,λm o e g3=>q m [(l,a,(n:Int))] o ((d.trans j).trans e) g3 (u (e _ _ g2)) rfl⟩⟩
  | move a b n=>
   refine⟨_,QYZ c,_,rfl,_,QYZ c,_,rfl,_,QYZ c,_,rfl,_,QYZ c,_,rfl,bM rfl,λl v j g2=>⟨_,QYZ (j _ _ c),_,rfl,_,QYZ (j _ _ c),_,rfl,bM rfl,λm o e g3=>⟨bM rfl,λC F y G=>?_⟩⟩⟩;refine q C [(l,a,-(n:Int)),(m,b,(n:Int))] F ((j.trans e).trans y) G (λz r=>?_) rfl;rcases mem_cons.mp r with rfl|r
   ·exact y _ _ (e _ _ g2)
   ·rw[Zms.mp r];exact y _ _ g3
  | pass h g a n=>
   refine⟨_,QYZ c,_,rfl,?_⟩;exact⟨bM rfl,λk t d g1=>q k [] t d g1 (λ_ h=>nomatch h) rfl⟩
def Os:Sp:=λvs H Q _=>∃(t c:TD)(x:Dd)(y:An),vs=[.ref t,.ref c]/\H t=some (.tup x.vs)/\H c=some (.tup y.vs)/\An.Of x y/\∀(tp:TD)(b:List Z)(a:Hp),Same H a->a tp=some (.tup (cI b))->ZAt a b->b.map (·.2)=uQ x y->Q (.ref tp) a
def uR(T:Txt K mg)(b:Callee P w K mg base 1 "done_changes" zu Et)(D:DefAt K mg "changes_of" gD QZL):Callee P w K mg base 2 "changes_of" QZL Os:=by
 refine D.gg uL (λf u A r s H vs Q E d h=>?_)
 ·revert h;refine yE4 λt c x y=>yA5 λζ gt i j q=>?_;subst ζ;refine⟨_,(lq (qa (pi R.ne (oi K 1) oj) (lu (oe (o0 li))) qb) (lu (oe (px b d rfl (lc (f8 0) li))))),?_⟩;refine⟨_,QYZ i,_,aB1 y,?_⟩;show if (!decide (Ij y="is"))=true then _ else _
  by_cases a:Ij y="is"
  ·refine yZ (by rw[UF a];rfl) ?_;exact⟨t,x,rfl,gt,λtp k l m g z e=>q tp k l m g z (by rw[e,Oq j a])⟩
  ·refine Zq (by rw[T0 a];rfl) ?_;exact⟨bM rfl,λn o p g1=>q n [] o p g1 (λ_ h=>nomatch h) (by rw[aAu a];rfl)⟩
def Ot{C:TD}(T:Txt K mg)(B:We K C)(D:ClsAt K mg "Book" C "Book.__init__" bW QZP [[],[.non]]):∀d∈([[],[.non]]:List (List V)),Mkr P w K mg base 1 "Book" C QZP d (xO C):=by
 refine D.gg pQ (λf M A L s H vs Q E O h=>?_)
 ·revert h;refine yE4 λp c r N=>yA6 λζ j y F k q=>?_;subst ζ;refine⟨_,(lq (tz (K:=K) (f8 0) R.fw) (lu (qa (pi R.gm (f8 1) wu) (lu (tz (K:=K) (f8 0) (R.da (R.eu (K:=K) rfl) rfl T.b_dict Eb (lc (f8 1) li)))) qb))),?_⟩;intro a m;have n:=aE j m;refine⟨C,c,[],(by rw[aB n];exact j),B.cl,B.nA,(by show 0<1000;decide),?_⟩;have g1:(aH (aH H a (.dK [])) p (.ins C c [("amounts",.ref a)])) p=some (.ins C c [("amounts",.ref a)]):=aA;have g2:(aH (aH H a (.dK [])) p (.ins C c [("amounts",.ref a)])) a=some (.dK []):=by rw[aB n.symm];exact aA
  have g:∀b o,H b=some o->b≠p->(aH (aH H a (.dK [])) p (.ins C c [("amounts",.ref a)])) b=some o:=λb o e i=>by rw[aB i,aB (aE e m)];exact e
  dsimp only;rw[aCO];generalize aH (aH H a (.dK [])) p (.ins C c [("amounts",.ref a)])=t at g1 g2 g;rcases y with⟨rfl,rfl⟩|⟨l,u,rfl,v,x,rfl⟩
  ·exact q t a m g1 g2 g
  ·have G:l≠p:=aK v j nofun;have I:ZAt t u:=λz k=>g _ _ (x z k) (aK (x z k) j nofun)
   refine⟨wz u,by rw[aAe];exact QYY (g _ _ v G),aBT I,by unfold wz;rw[aR];simpa using k,λd hd=>?_⟩;have J:H d=none:=by
    cases e:H d with
    | none=>rfl
    | some o=>
     by_cases z:d=p
     ·rw[z,g1]at hd;cases hd
     ·rw[g d o e z]at hd;cases hd
   rw[aAf,vQ F];refine⟨C,c,_,(by rw[aB (aE g1 hd)];exact g1),B.cl,B.nA,(by show 1<1000;decide),?_⟩;refine q _ d J (by rw[aA,aCP]) (by rw[aB (aE g1 hd).symm];exact aA) λb o e i=>?_;rw[aB i,aB (aE (g b o e i) hd)];exact g b o e i
def oS(prs:List (Str×Int))(n:Str)(v:Int):List (Str×Int):=if n∈prs.map (·.1) then Mx prs n v else prs++[(n,v)]
def kD:List (Str×Int)->List (Str×Int)->List (Str×Int)
 | prs,[]=>prs
 | prs,q::r=>kD (oS prs q.1 (cA prs q.1+q.2)) r
theorem vY:∀(a prs:List (Str×Int))(q:Str×Int),kD prs (a++[q])=oS (kD prs a) q.1 (cA (kD prs a) q.1+q.2)
 | [],_,_=>rfl
 | p::r,prs,q=>vY r _ q
def zY{prs:List (Str×Int)}{n:Str}{v:Int}:bQ (kJ prs) (Sum.inr n) (.int v)=kJ (oS prs n v):=by
 unfold oS;by_cases h:n∈prs.map (·.1)
 ·rw[O8 h];exact Ts h
 ·rw[NE h];have a:aY (kJ prs) (Sum.inr n)=none:=by
   cases e:aY (kJ prs) (Sum.inr n) with
   | none=>rfl
   | some x=>
    have:=Du e;rw[sW]at this;obtain⟨m,b,c⟩:=Zmm.mp this;cases c;exact IN b h
  rw[iY _ a];unfold kJ;rw[dN];rfl
def pW{prs:List (Str×Int)}{n:Str}{v:Int}:(oS prs n v).map (·.1)=if n∈prs.map (·.1) then prs.map (·.1) else prs.map (·.1)++[n]:=by
 unfold oS;by_cases h:n∈prs.map (·.1)
 ·rw[O8 h,O8 h];exact Hq _ _ _
 ·rw[NE h,NE h,dN];rfl
def Uo{prs:List (Str×Int)}{n:Str}{v:Int}(h:(prs.map (·.1)).Nodup):((oS prs n v).map (·.1)).Nodup:=by
 rw[pW];split
 ·exact h
 ·rename_i a;exact lK h a
def rM:∀(a prs:List (Str×Int)),(prs.map (·.1)).Nodup->((kD prs a).map (·.1)).Nodup
 | [],_,h=>h
 | _::r,_,h=>rM r _ (Uo h)
def Eu(prs:List (Str×Int))(q:Str×Int):Prop:=0<=cA prs q.1+q.2/\cA prs q.1+q.2<=1000000000000
def yB{H:Hp}{a:List Z}{i:Nat}{x:V}(hz:ZAt H a)(b:(cI a)[i]?=some x):∃z,a[i]?=some z/\x=.ref z.1/\H z.1=some (.tup [.str z.2.1,.int z.2.2]):=by
 unfold cI at b;rw[dW]at b;obtain⟨z,c,rfl⟩:=Option.map_eq_some_iff.mp b;exact⟨z,c,rfl,hz z (jJ c)⟩
theorem zZ:∀(a prs:List (Str×Int)),(kD prs a).length<=prs.length+a.length
 | [],prs=>bA _
 | q::r,prs=>by
  have h:=zZ r (oS prs q.1 (cA prs q.1+q.2));have b:(oS prs q.1 (cA prs q.1+q.2)).length<=prs.length+1:=by
   have:=congrArg length (pW (prs:=prs) (n:=q.1) (v:=cA prs q.1+q.2));rw[aR]at this;rw[this];split<;>simp
  show(kD (oS prs q.1 (cA prs q.1+q.2)) r).length<=_;rw[yK];omega
def pX(C:TD):Sp:=λvs H Q E=>∃(p f d t:TD)(a:List (Str×Int))(c:List Z),vs=[.ref p,.ref t]/\H p=some (.ins C f [("amounts",.ref d)])/\H d=some (.dK (kJ a))/\(a.map (·.1)).Nodup/\H t=some (.tup (cI c))/\ZAt H c/\a.length+c.length<=100 ∧
 (∀q∈c.map (·.2),Eu a q)/\∀e,e d=some (.dK (kJ (kD a (c.map (·.2)))))->(∀b o,H b=some o->b≠d->e b=some o)->Q .non e
def Cl{C:TD}(T:Txt K mg)(B:We K C)(J:cC P w K mg base 1 C "amount" zr (hU C))(D:MethAt K C "change" "Book.change" fG QZz):cC P w K mg base 2 C "change" QZz (pX C):=by
 refine D.gg cV (λa1 cdv a2 outer s H vs a3 a4 y h=>?_)
 ·revert h;refine yE6 λp r d t q a=>yA9 λζ x hd L u A hl U V=>?_;subst ζ;have W:=dE y;have O:(cI a).length=a.length:=by unfold cI;rw[aR]
  refine⟨_,(lq (vi PassesOwn.never rfl (R.cw (K:=K) (f8 1)) (ww (K:=K) (n:=2) rfl (qe (pw (i:=2) cV.nd) (qe (pw (i:=3) cV.nd) wx))) (lu (qa (wr (R.iy R.le R.le mo (oh qd (re J y (f8 0) (lc (f8 2) li)) (f8 3)) (R.gI rfl T.g_MOST))) (lu va) qb))) (lu (vi PassesOwn.never rfl (R.cw (K:=K) (f8 1)) (ww (K:=K) (n:=2) rfl (qe (pw (i:=2) cV.nd) (qe (pw (i:=3) cV.nd) wx))) (lu (wt (oh qd (re J y (f8 0) (lc (f8 2) li)) (f8 3)) (yp (og (K:=K) (f8 0)) (f8 2) (yu W))))))),?_⟩;refine cT (λQ f=>f=H/\∃j l,Q=[some (.ref p),some (.ref t),j,l]) (λnx X=>?_) ?_
  ·refine⟨t,rfl,⟨_,QYZ u⟩,bU (lO K t (cI a)) (λi c f=>f=H/\∃j l,c=[some (.ref p),some (.ref t),j,l]) (λi c f ⟨e,_⟩=>by rw[e];exact QYZ u) ⟨rfl,_,_,rfl⟩ ?_ (λc f h=>X c f h)⟩;refine λi a0 c f E=>yA2 λζ=>yE2 λj l η=>?_;subst ζ η;refine yE0 (yB A E) (yE1 λz=>yA3 λF ζ G=>?_);subst ζ;have M:=U z.2 (mem_map_of_mem (jJ F));refine⟨z.1,_,rfl,QYZ G,rfl,_,_,rfl,_,_,rfl,rfl,r,_,x,pL _ Zk,p,z.2.1,q,rfl,⟨⟨r,d,x,hd⟩,L⟩,?_⟩;refine Zq (UF M.1) ?_;show if (!decide (cA q z.2.1+z.2.2<=1000000000000))=true then _ else _
   refine yZ (by rw[UF M.2];rfl) ?_;exact⟨rfl,_,_,rfl⟩
  ·rintro c f ⟨rfl,j,l,rfl⟩;have Y:t≠d:=aK u hd nofun;refine⟨t,rfl,⟨_,QYZ u⟩,bU (lO K t (cI a)) (λi c v=>v d=some (.dK (kJ (kD q ((a.map (·.2)).take i))))/\(∀b o,f b=some o->b≠d->v b=some o)/\∃j l,c=[some (.ref p),some (.ref t),j,l]) (λi c v ⟨_,k,_⟩=>QYZ (k _ _ u Y)) ⟨hd,λb o e _=>e,_,_,rfl⟩ ?_ ?_⟩
   ·refine λi a0 c v E=>yA3 λg k=>yE2 λj l ζ=>?_;subst ζ;refine yE0 (yB (λz m=>k _ _ (A z m) (aK (A z m) hd nofun)) E) (yE1 λz=>yA3 λF ζ G=>?_);subst ζ;have Z:(a.map (·.2))[i]?=some z.2:=by rw[dW,F];rfl
    have I:=k _ _ x (aK x hd nofun);have S:=rM ((a.map (·.2)).take i) q L;have hle:=zZ ((a.map (·.2)).take i) q;have GU:((a.map (·.2)).take i).length<=a.length:=by rw[oX,aR];exact Nat.min_le_right _ _
    refine⟨z.1,_,rfl,QYZ G,rfl,_,_,rfl,_,_,rfl,rfl,r,_,I,pL _ Zk,p,z.2.1,kD q ((a.map (·.2)).take i),rfl,⟨⟨r,d,I,g⟩,S⟩,?_⟩;refine⟨C,r,_,.ref d,I,B.cl,B.nA,fN _,d,_,rfl,DPut.k (k:=Sum.inr z.2.1) g ?_,?_,λb o e N=>?_,_,_,rfl⟩
    ·unfold kJ;rw[aR];exact uD (m:=1000) Zo Zd
    ·rw[aA,zY,aM Z,vY]
    ·rw[aB N];exact k b o e N
   ·refine λc v=>yA3 λg k=>yE2 λj l ζ=>?_;subst ζ;refine V _ ?_ k;rw[g,O,lJ (by rw[aR];exact bA _)]
def Ou(prs:List (Str×Int))(n m:Str)(v:Int):cA (oS prs n v) m=if m=n then v else cA prs m:=by
 have a:=rJ (oS prs n v) m;rw[<- zY,iX]at a;by_cases e:m=n
 ·rw[O8 (by rw[e])]at a;rw[O8 e];injection a with a
  exact a.symm
 ·rw[NE (λc=>e (by injection c)),rJ]at a;rw[NE e];injection a with a
  exact a.symm
theorem tO:∀(a:List (Str×Int))(prs:List (Str×Int))(g:Str->Nat),Op g a->(∀z,cA prs z=(g z:Int))->∀z,cA (kD prs a) z=(Oo g a z:Int)
 | [],prs,g,_,h=>h
 | c::a,prs,g,b,h=>by
  refine tO a (oS prs c.1 (cA prs c.1+c.2)) (eX g c) b.2 (λz=>?_);rw[Ou,h];unfold eX dB;by_cases e:z=c.1
  ·rw[O8 e,O8 e,Int.toNat_of_nonneg b.1]
  ·rw[NE e,NE e];exact h z
def Aa{f:Str->Nat}(i:∀z,f z<=1000000000000){x:Dd}{q:Bool}{y:An}(m:x.Ok)(h:lF f x q y):∀c∈uQ x y,0<=(f c.1:Int)+c.2/\(f c.1:Int)+c.2<=1000000000000:=by
 have o:=m.n;rcases h with⟨rfl,h⟩|⟨rfl,j,e⟩
 ·cases x with
  | add a n=>
   have:=i a;simp only [bB]at h;split at h<;>cases h
   ·exact λc d=>nomatch d
   ·intro c d;rw[Zms.mp d];exact⟨by show(0:Int)<=(f a:Int)+(n:Int);omega,by show(f a:Int)+(n:Int)<=_;omega⟩
  | take a n=>
   have:=i a;simp only [bB]at h;split at h<;>cases h
   ·exact λc d=>nomatch d
   ·intro c d;rw[Zms.mp d];exact⟨by show(0:Int)<=(f a:Int)+-(n:Int);omega,by show(f a:Int)+-(n:Int)<=_;omega⟩
  | move a b n=>
   have:=i a;have:=i b;simp only [bB]at h;split at h
   ·cases h;exact λc d=>nomatch d
   ·split at h<;>cases h
    ·exact λc d=>nomatch d
    ·intro c d;rcases mem_cons.mp d with rfl|d
     ·exact⟨by show(0:Int)<=(f a:Int)+-(n:Int);omega,by show(f a:Int)+-(n:Int)<=_;omega⟩
     ·rw[Zms.mp d];exact⟨by show(0:Int)<=(f b:Int)+(n:Int);omega,by show(f b:Int)+(n:Int)<=_;omega⟩
  | send g a n=>
   simp only [bB]at h;split at h<;>cases h;exact λc d=>nomatch d
  | fetch g a n=>
   simp only [bB]at h;split at h<;>cases h;exact λc d=>nomatch d
  | pass g k a n=>cases h
 ·cases x with
  | add a n=>cases e
  | take a n=>cases e
  | move a b n=>cases e
  | send g a n=>
   have:=i a;simp only [bB]at j;simp only [eW,mem_cons,EJ,or_false]at e;have l:¬ f a<n:=λl=>by rw[O8 l]at j;cases j
   rcases e with rfl|rfl
   ·exact λc d=>nomatch d
   ·intro c d;rw[Zms.mp d];exact⟨by show(0:Int)<=(f a:Int)+-(n:Int);omega,by show(f a:Int)+-(n:Int)<=_;omega⟩
  | fetch g a n=>
   have:=i a;simp only [bB]at j;simp only [eW,mem_cons,EJ,or_false]at e;have l:¬ 1000000000000<f a+n:=λl=>by rw[O8 l]at j;cases j
   rcases e with rfl|rfl
   ·exact λc d=>nomatch d
   ·intro c d;rw[Zms.mp d];exact⟨by show(0:Int)<=(f a:Int)+(n:Int);omega,by show(f a:Int)+(n:Int)<=_;omega⟩
  | pass g k a n=>
   simp only [eW,mem_cons,EJ,or_false]at e;rcases e with rfl|rfl|rfl<;>exact λc d=>nomatch d
def Ab:Dd->List (Str×List V)
 | .send h a n=>[(h,[.str "add",.str a,.int (n:Int)])]
 | .fetch h a n=>[(h,[.str "take",.str a,.int (n:Int)])]
 | .pass h g a n=>[(h,[.str "take",.str a,.int (n:Int)]),(g,[.str "add",.str a,.int (n:Int)])]
 | _=>[]
def Cm(T:Txt K mg)(D:DefAt K mg "done_changes" cU zu):Callee P w K mg base 1 "done_changes" zu pM:=by
 refine D.gg kL (λf J A I s H vs Q E L h=>?_)
 ·revert h;refine yE5 λp wd u M N=>yA4 λζ b η q=>?_;subst ζ;obtain⟨one,B,nm,n,hd⟩:=η;refine⟨_,(lq (qa (pi vb (oi K 0) oj) (lu (oe (o0 li))) qb) (lq (qa (pi vb (oi K 0) oj) (lu (oe (o0 (lc (o0 (lc (oi K 0) (lc (vd (u8 (vh (K:=K)) (f8 0) (vd mo))) li))) (lc (o0 (lc (oi K 0) (lc (u8 (vh (K:=K)) (f8 0) (vd mo)) li))) li))))) qb) (lq (qa (pi (R.fu (K:=K)) (oi K 0) (o0 (lc oj (lc oj li)))) (lu (oe (o0 (lc (o0 (lc (u8 (vh (K:=K)) (f8 0) (vd mo)) (lc (vd (u8 (vh (K:=K)) (f8 0) (vd mo))) li))) li)))) qb) (lu (oe (o0 (lc (o0 (lc (u8 (vh (K:=K)) (f8 0) (vd mo)) (lc (u8 (vh (K:=K)) (f8 0) (vd mo)) li))) li))))))),?_⟩;have r:∀ {y:Hp}{a:TD}{x:Str}{i:Int},y a=some (.tup [.str x,.int i])->ZAt y [(a,x,i)]:=λh z m=>by
   rw[Zms.mp m];exact h
  have two:∀(nm:Str)(i:Int),H p=some (.tup u)->nO u (-2)=some (.str nm)->nO u (-1)=some (.int i)->True:=λ_ _ _ _ _=>trivial
  cases hd with
  | add=>
   refine⟨_,QYZ b,_,rfl,?_⟩;refine⟨_,QYZ b,_,rfl,?_⟩;refine⟨_,QYZ b,_,rfl,Zs,λg o c g1=>⟨g,_,rfl,.inr (QYZ g1),rfl,rfl,?_⟩⟩;refine⟨_,QYZ (c _ _ b),_,rfl,_,QYZ (c _ _ b),_,rfl,Zs,λj t e g2=>⟨Zs,λk l d g3=>q k [(j,nm,n)] l ((c.trans e).trans d) g3 (r (d _ _ g2)) rfl⟩⟩
  | take=>
   refine⟨_,QYZ b,_,rfl,?_⟩;refine⟨_,QYZ b,_,rfl,?_⟩;refine⟨_,QYZ b,_,rfl,Zs,λg o c g1=>⟨g,_,rfl,.inr (QYZ g1),rfl,rfl,?_⟩⟩;refine⟨_,QYZ (c _ _ b),_,rfl,_,QYZ (c _ _ b),_,rfl,Zs,λj t e g2=>⟨Zs,λk l d g3=>q k [(j,nm,-n)] l ((c.trans e).trans d) g3 (r (d _ _ g2)) rfl⟩⟩
  | move=>
   refine⟨_,QYZ b,_,rfl,?_⟩;refine⟨_,QYZ b,_,rfl,?_⟩;refine⟨_,QYZ b,_,rfl,_,QYZ b,_,rfl,Zs,λj t e g2=>⟨_,QYZ (e _ _ b),_,rfl,_,QYZ (e _ _ b),_,rfl,Zs,λk l d g3=>⟨Zs,λC F v G=>?_⟩⟩⟩;refine q C [(j,one,-n),(k,B,n)] F ((e.trans d).trans v) G (λz m=>?_) rfl;rcases mem_cons.mp m with rfl|m
   ·exact v _ _ (d _ _ g2)
   ·rw[Zms.mp m];exact v _ _ g3
  | send=>
   refine⟨_,QYZ b,_,rfl,?_⟩;refine⟨_,QYZ b,_,rfl,?_⟩;refine⟨_,QYZ b,_,rfl,Zs,λg o c g1=>⟨g,_,rfl,.inr (QYZ g1),rfl,rfl,?_⟩⟩;refine⟨_,QYZ (c _ _ b),_,rfl,_,QYZ (c _ _ b),_,rfl,Zs,λj t e g2=>⟨Zs,λk l d g3=>q k [(j,nm,-n)] l ((c.trans e).trans d) g3 (r (d _ _ g2)) rfl⟩⟩
  | fetch=>
   refine⟨_,QYZ b,_,rfl,?_⟩;refine⟨_,QYZ b,_,rfl,?_⟩;refine⟨_,QYZ b,_,rfl,Zs,λg o c g1=>⟨g,_,rfl,.inr (QYZ g1),rfl,rfl,?_⟩⟩;refine⟨_,QYZ (c _ _ b),_,rfl,_,QYZ (c _ _ b),_,rfl,Zs,λj t e g2=>⟨Zs,λk l d g3=>q k [(j,nm,n)] l ((c.trans e).trans d) g3 (r (d _ _ g2)) rfl⟩⟩
  | pass=>
   refine⟨_,QYZ b,_,rfl,?_⟩;exact⟨Zd,λg o c g1=>q g [] o c g1 (λ_ h=>nomatch h) rfl⟩
def Ac{H:Hp}{b:List Z}(h:ZAt H b){i:Nat}{x:V}(a:(cI b)[i]?=some x):∃z,b[i]?=some z/\x=.ref z.1/\H z.1=some (.tup [.str z.2.1,.int z.2.2]):=by
 unfold cI at a;rw[dW]at a;cases c:b[i]? with
 | none=>rw[c]at a;cases a
 | some z=>
  rw[c]at a;cases a;exact⟨z,rfl,rfl,h z (jJ c)⟩
def tP{C:TD}(T:Txt K mg)(a0:We K C)(G:Callee P w K mg base 1 "done_changes" zu pM)(I:cC P w K mg base 1 C "amount" zr (hU C))(D:DefAt K mg "done_answer" dG QZX):Callee P w K mg base 2 "done_answer" QZX (vR C):=by
 refine D.gg tH (λa1 cdv a2 Z s H vs a3 a4 m h=>?_)
 ·revert h;refine yE7 λb p wd J l L k=>yA5 λζ bk M hd q=>?_;subst ζ;refine⟨_,(lu (oe (R.da (R.jv (K:=K)) rfl T.b_tuple yY (lc (oh xh (vf (lc oj li)) (vm rfl (js:=[none,none,some 0]) (N:=QZf) (CompScope.by (aD dG) QZX rfl rfl Zk) (Lh (sJ rfl (sJ rfl Gy))) (R.cw (K:=K) (px G m rfl (lc (f8 1) li))) (λC s₂ H₂ fp=>⟨(ww (K:=K) (n:=2) rfl (qe (pw (i:=0) (show(QZf:List Str).Nodup by decide +kernel)) (qe (pw (i:=1) (show(QZf:List Str).Nodup by decide +kernel)) wx))),xf,(oh qd (re I m (f8 2) (lc (f8 0) li)) (f8 1))⟩))) li)))),?_⟩;refine⟨sM rfl,λO o=>⟨p,wd,J,l,L,rfl,aG o _ _ M,hd,λt f r u g1 Q g=>⟨t,rfl,⟨_,QYZ g1⟩,?_⟩⟩⟩;have v:Same H r:=(aG o).trans u;have y:=bk.same v;have hlen:f.length<=2:=by
   obtain⟨one,other,nm,n,hd⟩:=hd;have:=congrArg length g;rw[aR]at this;rw[this];cases hd<;>simp
  refine bF (lO K t (cI f)) (by unfold cI;rw[aR];omega) (λi a c=>c=r/\a=((f.map (·.2)).take i).map λq=>V.int (cA k q.1+q.2)) (λi a c ⟨e,d⟩=>⟨by rw[e];exact QYZ g1,by rw[d,aR,oX];exact min_le_left _ _⟩) ⟨rfl,rfl⟩ (?_) (?_)
  ·rintro i x a c S ⟨e,d⟩;subst e;refine yE0 (Ac Q S) (yE1 λz=>yA3 λU ζ W=>?_);subst ζ;refine yE0 (id y.ex) (yE2 λX a5=>yA2 λj A=>?_);refine⟨z.1,_,rfl,QYZ W,rfl,_,_,rfl,_,_,rfl,rfl,X,_,j,pL _ Zk,b,z.2.1,k,rfl,y,rfl,?_⟩;rw[aM (x:=z.2) (by rw[dW,U];rfl),dN,d];rfl
  ·rintro a c ⟨e,d⟩;subst e;intro l1 j;have B:a=l.map λq=>V.int (cA k q.1+q.2):=by
    rw[d,g];have:(cI f).length=l.length:=by rw[<- g];unfold cI;rw[aR,aR]
    rw[this,take_length]
   have E:c O=some (.lst [.str "is"]):=u _ _ aA;refine⟨[.str "is"],a,aG j _ _ E,aA,fJ (by rw[B,aR,<- g,aR];simp;omega),λl2 A=>⟨_,QYY aA,λY F=>?_⟩⟩;refine q Y _ (((v.trans (aG j)).trans (aG A)).trans (aG F)) ?_;rw[aA,B];rfl
def Ik{C:TD}(T:Txt K mg)(a3:We K C)(Z:Callee P w K mg base 1 "done_changes" zu pM)(W0:Callee P w K mg base 1 "asks_of" zu By)(b6:cC P w K mg base 1 C "amount" zr (hU C))(oy:Callee P w K mg base 2 "done_answer" QZX (vR C))(D:DefAt K mg "early" rK QZX):Callee P w K mg base 3 "early" QZX (Ek C):=by
 refine D.gg oO (λa4 cdv a5 outer s a6 vs a0 a7 x h=>?_)
 ·revert h;refine yE7 λb p wd E a g c=>yA5 λζ bk N hd q=>?_;subst ζ;refine⟨_,(lq (vi PassesOwn.never rfl (R.cw (K:=K) (px Z x rfl (lc (f8 1) li))) (ww (K:=K) (n:=2) rfl (qe (pw (i:=2) oO.nd) (qe (pw (i:=3) oO.nd) wx))) (lq (pv (i:=4) oO.nd (re b6 x (f8 0) (lc (f8 2) li))) (lq (qa (wl (R.dz (pi R.lt (f8 3) mo) (R.eg (pi R.lt (oh qd (f8 4) (f8 3)) mo)))) (lu (oe (o0 (lc oj (lc (f8 4) li))))) qb) (lu (qa (wl (R.dz (pi yn (f8 3) mo) (R.eg (pi yn (oh qd (f8 4) (f8 3)) (R.gI rfl T.g_MOST))))) (lu (oe (o0 (lc oj (lc (f8 4) li))))) qb))))) (lq (qa (pi yn (uy (xz (K:=K)) rfl T.b_len dQ (lc (px W0 x rfl (lc (f8 1) li)) li)) mo) (lu (oe wu)) qb) (lu (oe (px oy x rfl (lc (f8 0) (lc (f8 1) li))))))),?_⟩;refine⟨p,wd,E,a,g,rfl,N,hd,λt O H1 m g1 hz Q=>⟨t,rfl,⟨_,QYZ g1⟩,?_⟩⟩;have S:=bk.same m;have U:=m _ _ N;refine bU (lO K t (cI O)) (λi B d=>Same H1 d/\(∃F G H:Option V,B=[some (.ref b),some (.ref p),F,G,H])/\jN (cA c) (oJ (cA c) a g) a=jN (cA c) (oJ (cA c) a g) (a.drop i)) (λi B d ⟨I,_⟩=>QYZ (I _ _ g1)) ⟨Same.refl _,⟨_,_,_,rfl⟩,rfl⟩ ?_ ?_
  ·refine λi a8 B J hx=>yA3 λj ζ f=>?_;obtain⟨F,G,H,rfl⟩:=ζ;refine yE0 (Ac (λz a1=>j _ _ (hz z a1)) hx) (yE1 λz=>yA3 λhn ζ gz=>?_);subst ζ;have W:=S.same j;refine yE0 (id W.ex) (yE2 λdx a9=>yA2 λh1 h2=>?_);have IL:a.drop i=z.2::a.drop (i+1):=by
    have:a[i]?=some z.2:=by rw[<- Q,dW,hn];rfl
    obtain⟨hi,e⟩:=Zgs.mp this;rw[List.drop_eq_getElem_cons hi,e]
   rw[IL,zJ]at f;refine⟨z.1,_,rfl,QYZ gz,rfl,_,_,rfl,_,_,rfl,rfl,dx,_,h1,pL _ Zk,b,z.2.1,c,rfl,W,?_⟩;dsimp only [aJ];have M:∀u:TV,jN (cA c) (oJ (cA c) a g) a=u->∀v d,Same J d->RepT d 1 u v->a0 v d:=λu e v d I a2=>q v d ((m.trans j).trans I) (by rw[e];exact a2)
   refine aBJ (t:=Rj _ _) (λv d=>v=decide (z.2.2<0/\cA c z.2.1+z.2.2<0)/\d=J) (λk o=>?_) ?_
   ·refine dF (λh=>?_) (λh=>?_)
    ·exact o _ _ ⟨by rw[Bool.decide_and,h];rfl,rfl⟩
    ·exact o _ _ ⟨by rw[Bool.decide_and,h];rfl,rfl⟩
   rintro v d ⟨rfl,rfl⟩;refine dF (λh=>?_) (λh=>?_)
   ·rw[O8 (U3 h)]at f;exact⟨Zs,λy r l g3=>M _ f _ r l ⟨y,_,rfl,g3,.cons .s (.cons .i .nil)⟩⟩
   rw[NE (UV h)]at f;dsimp only [iW];refine aBJ (t:=Rj _ _) (λv X=>v=decide (0<z.2.2/\1000000000000<cA c z.2.1+z.2.2)/\X=d) (λk o=>?_) ?_
   ·refine dF (λh=>?_) (λh=>?_)
    ·exact o _ _ ⟨by rw[Bool.decide_and,h];rfl,rfl⟩
    ·exact o _ _ ⟨by rw[Bool.decide_and,h];rfl,rfl⟩
   rintro v X ⟨rfl,rfl⟩;refine dF (λh=>?_) (λh=>?_)
   ·rw[O8 (U3 h)]at f;exact⟨Zs,λy r l g3=>M _ f _ r l ⟨y,_,rfl,g3,.cons .s (.cons .i .nil)⟩⟩
   rw[NE (UV h)]at f;exact⟨j,⟨_,_,_,rfl⟩,f⟩
  ·refine λB J=>yA3 λj ζ f=>?_;obtain⟨F,G,H,rfl⟩:=ζ;have el:(cI O).length=a.length:=by rw[<- Q];unfold cI;rw[aR,aR]
   rw[el,drop_length]at f;have Y:jN (cA c) (oJ (cA c) a g) a=oJ (cA c) a g:=f;refine⟨p,wd,E,a,g,rfl,j _ _ U,hd,λy A r l g3 ha=>⟨A,.inr (QYZ g3),?_⟩⟩;have yz:A.length=g.length:=ha.length.symm;refine dF (λh=>?_) (λh=>?_)
   ·have L:0<A.length:=by have:=U3 h;omega
    refine q _ r ((m.trans j).trans l) ?_;rw[Y];unfold oJ;rw[NE (λe=>by rw[yz,e]at L;exact IN L (Nat.lt_irrefl _))];exact RepT.scal rfl
   ·have L:¬ 0<A.length:=by have:=UV h;omega
    have e0:g=[]:=List.length_eq_zero_iff.mp Zo;refine⟨b,p,wd,E,a,g,c,rfl,S.same (j.trans l),l _ _ (j _ _ U),hd,λt4 H4 s4 g4=>?_⟩;refine q _ H4 (((m.trans j).trans l).trans s4) ?_;rw[Y];unfold oJ;rw[O8 e0];exact⟨t4,_,rfl,g4,El (aAg _ _)⟩
def Ov(x:Dd):DWX x.wd x.vs (tM x) (Ab x):=by
 cases x with
 | add a n=>exact⟨a,a,a,_,.add⟩
 | take a n=>exact⟨a,a,a,_,.take⟩
 | move a b n=>exact⟨a,b,a,_,.move⟩
 | send g a n=>exact⟨g,a,a,_,.send⟩
 | fetch g a n=>exact⟨g,a,a,_,.fetch⟩
 | pass g c a n=>exact⟨g,c,a,_,.pass⟩
def Cn{prs:List (Str×Int)}{f:Str->Nat}(d:∀z,cA prs z=(f z:Int)){x:Dd}(i:x.Ok) :
  jN (cA prs) (oJ (cA prs) (tM x) (Ab x)) (tM x)=(match bB f x with|some y=>RX.tvs y.vs|none=>.sc .non):=by
 have c:=i.n
 cases x with
 | add a n=>
  have c:1<=n/\n<=1000000000000:=c;show(if (n:Int)<0/\cA prs a+(n:Int)<0 then _ else if 0<(n:Int)/\1000000000000<cA prs a+(n:Int) then TV.tp [tS "full",tI (cA prs a)] else TV.tp [tS "is",tI (cA prs a+(n:Int))])=(match (if 1000000000000<f a+n then some (An.full (f a)) else some (.is1 (f a+n))) with|some y=>RX.tvs y.vs|none=>.sc .non);rw[NE Zo,d];by_cases h:1000000000000<f a+n
  ·rw[O8 h,O8 Zo];rfl
  ·rw[NE h,NE Zo];rfl
 | take a n=>
  have c:1<=n/\n<=1000000000000:=c;show(if -(n:Int)<0/\cA prs a+-(n:Int)<0 then TV.tp [tS "short",tI (cA prs a)] else if 0 < -(n:Int)/\1000000000000<cA prs a+-(n:Int) then _ else TV.tp [tS "is",tI (cA prs a+-(n:Int))])=(match (if f a<n then some (An.short (f a)) else some (.is1 (f a-n))) with|some y=>RX.tvs y.vs|none=>.sc .non);rw[d];by_cases h:f a<n
  ·rw[O8 h,O8 Zo];rfl
  ·rw[NE h,NE Zo,NE Zo,show(f a:Int)+-(n:Int)=((f a-n:Nat):Int) by omega];rfl
 | move a b n=>
  have c:1<=n/\n<=1000000000000:=c;show(if -(n:Int)<0/\cA prs a+-(n:Int)<0 then TV.tp [tS "short",tI (cA prs a)] else if 0 < -(n:Int)/\1000000000000<cA prs a+-(n:Int) then TV.tp [tS "full",tI (cA prs a)] else if (n:Int)<0/\cA prs b+(n:Int)<0 then TV.tp [tS "short",tI (cA prs b)] else if 0<(n:Int)/\1000000000000<cA prs b+(n:Int) then TV.tp [tS "full",tI (cA prs b)] else TV.tp [tS "is",tI (cA prs a+-(n:Int)),tI (cA prs b+(n:Int))])=(match (if f a<n then some (An.short (f a)) else if 1000000000000<f b+n then some (.full (f b)) else some (.is2 (f a-n) (f b+n))) with|some y=>RX.tvs y.vs|none=>.sc .non);rw[d,d];by_cases h:f a<n
  ·rw[O8 h,O8 Zo];rfl
  ·rw[NE h,NE Zo,NE Zo,NE Zo];by_cases e:1000000000000<f b+n
   ·rw[O8 e,O8 Zo];rfl
   ·rw[NE e,NE Zo,show(f a:Int)+-(n:Int)=((f a-n:Nat):Int) by omega];rfl
 | send g a n=>
  have c:1<=n/\n<=1000000000000:=c;show(if -(n:Int)<0/\cA prs a+-(n:Int)<0 then TV.tp [tS "short",tI (cA prs a)] else if 0 < -(n:Int)/\1000000000000<cA prs a+-(n:Int) then _ else TV.sc .non)=(match (if f a<n then some (An.short (f a)) else none) with|some y=>RX.tvs y.vs|none=>.sc .non);rw[d];by_cases h:f a<n
  ·rw[O8 h,O8 Zo];rfl
  ·rw[NE h,NE Zo,NE Zo]
 | fetch g a n=>
  have c:1<=n/\n<=1000000000000:=c;show(if (n:Int)<0/\cA prs a+(n:Int)<0 then _ else if 0<(n:Int)/\1000000000000<cA prs a+(n:Int) then TV.tp [tS "full",tI (cA prs a)] else TV.sc .non)=(match (if 1000000000000<f a+n then some (An.full (f a)) else none) with|some y=>RX.tvs y.vs|none=>.sc .non);rw[NE Zo,d];by_cases h:1000000000000<f a+n
  ·rw[O8 h,O8 Zo];rfl
  ·rw[NE h,NE Zo]
 | pass g j a n=>rfl
def Wm{g:Type}{N:List g}(k:N.Nodup){i j:Nat}{x:g}(a:N[i]?=some x)(b:N[j]?=some x):i=j:=by
 obtain⟨c,d⟩:=Zgs.mp a;obtain⟨e,f⟩:=Zgs.mp b;have h:=List.pairwise_iff_getElem.mp k;rcases Nat.lt_trichotomy i j with z|z|z
 ·exact IN (d.trans f.symm) (h i j c e z)
 ·exact z
 ·exact IN (f.trans d.symm) (h j i e c z)
def vZ{d:Type}:∀ {L:List d}{i:Nat}{a:d},L.Nodup->a∉L->(L.set i a).Nodup
 | [],_,_,_,_=>by simp
 | x::r,0,a,h,b=>by
  rw[List.set_cons_zero];exact nodup_cons.mpr ⟨λm=>b (fR _ m),(nodup_cons.mp h).2⟩
 | x::r,i+1,a,h,b=>by
  rw[List.set_cons_succ];have c:=nodup_cons.mp h;refine nodup_cons.mpr ⟨λm=>?_,vZ c.2 λm=>b (fR _ m)⟩;rcases mem_or_eq_of_mem_set m with z|z
  ·exact c.1 z
  ·exact b (by rw[<- z];exact fY)
def Own(H:Hp)(L:List (TD×HO)):Prop:=(L.map (·.1)).Nodup/\∀q∈L,H q.1=some q.2
def Own.get{H:Hp}{L:List (TD×HO)}(h:Own H L)(i:Nat){a:TD}{o:HO}(e:L[i]?=some (a,o)):H a=some o:=h.2 _ (jJ e)
def Own.same{H H':Hp}{L:List (TD×HO)}(s:Same H H')(h:Own H L):Own H' L:=⟨h.1,λq a=>s _ _ (h.2 q a)⟩
def Own.keys{H:Hp}{L:List (TD×HO)}(h:Own H L){b:TD}(a:H b=none):b∉L.map (·.1):=λm=>by
 obtain⟨q,c,e⟩:=Zmm.mp m;rw[<- e,h.2 q c]at a;cases a
def Own.set{H:Hp}{L:List (TD×HO)}(h:Own H L)(i:Nat){a:TD}{o:HO}(e:L[i]?=some (a,o))(o':HO):Own (aH H a o') (L.set i (a,o')):=by
 obtain⟨l,d⟩:=Zgs.mp e;refine⟨?_,λq f=>?_⟩
 ·have:(L.set i (a,o')).map (·.1)=L.map (·.1):=by
   rw[map_set];apply ext_getElem Zs;intro j m p;rw[List.getElem_set];split
   ·rename_i z;subst z;simp[d]
   ·rfl
  rw[this];exact h.1
 ·obtain⟨j,c,b⟩:=List.mem_iff_getElem.mp f;rw[List.getElem_set]at b;split at b
  ·rw[<- b];exact aA
  ·rename_i g;rw[List.length_set]at c;have k:L[j]∈L:=getElem_mem c;have:q.1≠a:=λz=>by
    have n:=Wm h.1 (i:=i) (j:=j) (x:=a) (by rw[dW,e];rfl) (by rw[dW,fX c,b,<- z];rfl);exact g n
   rw[aB this,<- b];exact h.2 _ k
def Own.swap{H:Hp}{L:List (TD×HO)}(h:Own H L)(i:Nat){b:TD}{o:HO}(a:b∉L.map (·.1))(g:H b=some o):Own H (L.set i (b,o)):=by
 refine⟨?_,λq c=>?_⟩
 ·rw[map_set];exact vZ h.1 a
 ·rcases mem_or_eq_of_mem_set c with m|m
  ·exact h.2 q m
  ·rw[m];exact g
def fW{H:Hp}{a:TD}{o o':HO}(g:H a=some o)(b:∀xs,o≠.tup xs):TK H (aH H a o'):=λc xs e=>by
 rw[aB (λz=>by rw[z,g]at e;exact b xs (Option.some.inj e))];exact e
def TK.of{H H':Hp}(s:Same H H'):TK H H':=λc a e=>s _ _ e
def Own.ne{H:Hp}{L:List (TD×HO)}(h:Own H L){i j:Nat}{a b:TD}{o o':HO}(c:L[i]?=some (a,o))(d:L[j]?=some (b,o'))(f:i≠j):a≠b:=λe=>
 f (Wm h.1 (x:=a) (by rw[dW,c];rfl) (by rw[dW,d,e];rfl))
def Own.at{H H':Hp}{L:List (TD×HO)}(h:Own H L)(i:Nat){a:TD}{o o':HO}(e:L[i]?=some (a,o))(g:H' a=some o')(k:∀b u,H b=some u->b≠a->H' b=some u):Own H' (L.set i (a,o')):=by
 have c:=h.set i e o';refine⟨c.1,λq d=>?_⟩;by_cases z:q.1=a
 ·have:=c.2 q d;rw[z,aA]at this;rw[z,g];exact this
 ·have:=c.2 q d;rw[aB z]at this;exact k _ _ this z
def Own.sub{H:Hp}{L a:List (TD×HO)}(h:Own H L)(s:a.Sublist L):Own H a:=⟨h.1.sublist (s.map _),λq b=>h.2 q (s.subset b)⟩
def Own.snoc{H:Hp}{L:List (TD×HO)}(h:Own H L){a:TD}{o:HO}(b:a∉L.map (·.1))(g:H a=some o):Own H (L++[(a,o)]):=by
 refine⟨?_,λq c=>(Zma.mp c).elim (h.2 q) λz=>by rw[Zms.mp z];exact g⟩;rw[dN];exact nodup_append.mpr ⟨h.1,Zs,λx d y f e=>b ((show y=a by simpa using f)▸e▸d)⟩
structure CK where
 (D M R J B Ks:TD)
structure Rn where
 (p dx:TD)
 (n:Nat)
 (q:Str×Str)
 (d:TD)
 (x:Dd)
 (st:Str)
 (pl un:Int)
def Rn.fs(r:Rn):List (Str×V):=[("number",.int r.n),("asker",.str r.q.1),("key",.str r.q.2),("deed",.ref r.d),("stage",.str r.st),("place",.int r.pl),("undos",.int r.un)]
structure DA where
 (dr dx hd j jx jl me mx bk bx bd ks rn:TD)
 (kf:KF)
structure DS where
 (name:Str)
 (life turn:Int)
 (next:Nat)
 (hs:List (aS×V))
 (prs:List (Str×Int))
 (m:KM)
 (L:Nat)
 (runs:List Rn)
 (rows:List V)
 (safe:Int)
def jf(a:TD)(n:Int):List (Str×V):=[("written",.ref a),("safe_count",.int n)]
def df(a:DA)(s:DS):List (Str×V):=[("name",.str s.name),("life",.int s.life),("houses",.ref a.hd),("journal",.ref a.j),("memory",.ref a.me)]
def mf(a:DA)(turn:Int)(next:Int):List (Str×V):=[("turn",.int turn),("book",.ref a.bk),("standing",.ref a.ks),("runs",.ref a.rn),("next_number",.int next)]
def bG(rs:List Rn):List (aS×V):=rs.map λr=>(Sum.inl (r.n:Int),.ref r.p)
def rE(c:CK)(r:Rn):TD×HO:=(r.p,.ins c.R r.dx r.fs)
def DA.fix(a:DA):List Addr:=[a.dr,a.hd,a.j,a.jl,a.me,a.bk,a.bd,a.ks,a.kf.db,a.kf.ds,a.rn]
def DA.objs(c:CK)(a:DA)(s:DS)(bs b:List (List aS×V)):List (TD×HO):=
  [(a.dr,.ins c.D a.dx (df a s)),(a.hd,.dK s.hs),(a.j,.ins c.J a.jx (jf a.jl s.safe)),(a.jl,.lst s.rows),(a.me,.ins c.M a.mx (mf a s.turn s.next)),(a.bk,.ins c.B a.bx [("amounts",.ref a.bd)]),(a.bd,.dK (kJ s.prs)),
   (a.ks,.ins c.Ks a.kf.dx (vT a.kf s.life)),(a.kf.db,.dT bs),(a.kf.ds,.dT b),(a.rn,.dK (bG s.runs))]
def DA.all(c:CK)(a:DA)(s:DS)(bs b:List (List aS×V)):List (TD×HO):=a.objs c s bs b++s.runs.map (rE c)
structure DAt(c:CK)(H:Hp)(a:DA)(s:DS):Prop where
 own:∃bs ss,Own H (a.all c s bs ss)/\Dic H bs s.m fB s.L/\Dic H ss s.m fS s.L
 nd:(s.prs.map (·.1)).Nodup
 up:s.runs.Pairwise λr r'=>r.n<r'.n
 dd:∀r∈s.runs,H r.d=some (.tup r.x.vs)
def jC(c:CK)(a:DA)(s:DS)(bs b:List (List aS×V)):(a.all c s bs b).map (·.1)=a.fix++s.runs.map (·.p):=by
 unfold DA.all;rw[dN,map_map];rfl
def Ev{c:CK}{a:DA}{s:DS}{bs b:List (List aS×V)}:∀q∈a.all c s bs b,∀xs,q.2≠.tup xs:=by
 intro q d xs;rcases Zma.mp d with m|m
 ·simp only [DA.objs,mem_cons,EJ,or_false]at m;rcases m with rfl|rfl|rfl|rfl|rfl|rfl|rfl|rfl|rfl|rfl|rfl<;>exact λz=>nomatch z
 ·obtain⟨r,_,rfl⟩:=Zmm.mp m;exact λz=>nomatch z
structure Mv(a:DA)(s s':DS)(H H':Hp):Prop where
 fr:∀c o,H c=some o->c∉a.fix++s.runs.map (·.p)->H' c=some o
 nw:∀r∈s'.runs,r.p∈s.runs.map (·.p)∨H r.p=none
 gr:∀c,H' c=none->H c=none
def Same.gr{H H':Hp}(k:Same H H')(c:TD)(e:H' c=none):H c=none:=by
 cases z:H c with
 | none=>rfl
 | some o=>rw[k _ _ z]at e;cases e
def Mv.same{a:DA}{s:DS}{H H':Hp}(k:Same H H'):Mv a s s H H':=⟨λc o e _=>k c o e,λr b=>.inl (mem_map_of_mem b),λc e=>Same.gr k c e⟩
def Mv.trans{a:DA}{s f g:DS}{H H1 H2:Hp}(x:Mv a s f H H1)(y:Mv a f g H1 H2):Mv a s g H H2:=by
 refine⟨λc o e b=>y.fr c o (x.fr c o e b) λm=>?_,λr d=>?_,λc e=>x.gr c (y.gr c e)⟩
 ·rcases Zma.mp m with m|m
  ·exact b (FM _ m)
  ·obtain⟨r,d,rfl⟩:=Zmm.mp m;rcases x.nw r d with z|z
   ·exact b (EQ _ z)
   ·rw[z]at e;cases e
 ·rcases y.nw r d with z|z
  ·obtain⟨h,i,e⟩:=Zmm.mp z;rw[<- e];exact x.nw h i
  ·exact .inr (x.gr _ z)
section
variable {c:CK}{H H':Hp}{a:DA}{s s':DS}
def DAt.out(h:DAt c H a s){b:TD}{o:HO}(e:H b=some o)(f:∃xs,o=.tup xs):b∉a.fix++s.runs.map (·.p):=by
 obtain⟨bs,g,i,_,_⟩:=h.own;obtain⟨xs,rfl⟩:=f;intro m;rw[<- jC c a s bs g]at m;obtain⟨q,d,rfl⟩:=Zmm.mp m;have:=i.2 q d;rw[e]at this;exact Ev q d xs (Option.some.inj this).symm
def DAt.fresh(h:DAt c H a s){b:TD}(d:H b=none):b∉a.fix++s.runs.map (·.p):=by
 obtain⟨bs,f,e,_,_⟩:=h.own;have:=e.keys d
 rwa [jC]at this
def Mv.tk(m:Mv a s s' H H')(h:DAt c H a s):TK H H':=λb d e=>m.fr _ _ e (h.out e ⟨d,rfl⟩)
def DAt.keep(h:DAt c H a s)(k:∀b o,H b=some o->b∈a.fix++s.runs.map (·.p)->H' b=some o)(t:TK H H'):DAt c H' a s:=by
 obtain⟨bs,d,e,g,i⟩:=h.own;refine⟨⟨bs,d,⟨e.1,λq f=>k _ _ (e.2 q f) ?_⟩,g.keep t,i.keep t⟩,h.nd,h.up,λr j=>t _ _ (h.dd r j)⟩;rw[<- jC c a s bs d];exact mem_map_of_mem f
def DAt.same(h:DAt c H a s)(k:Same H H'):DAt c H' a s:=h.keep (λb o e _=>k b o e) (TK.of k)
def DAt.put(h:DAt c H a s)(i:Nat){p:TD}{o o':HO}(s':DS)(e:∀bs d,(a.all c s bs d)[i]?=some (p,o))(x:∀bs d,(a.all c s bs d).set i (p,o')=a.all c s' bs d)(g:H' p=some o')(k:∀b u,H b=some u->b≠p->H' b=some u)(j:s'.m=s.m)(l:s'.L=s.L)(y:(s'.prs.map (·.1)).Nodup)(f:s'.runs=s.runs) :
  DAt c H' a s'/\Mv a s s' H H':=by
 obtain⟨bs,d,n,A,B⟩:=h.own;have C:p∈a.fix++s.runs.map (·.p):=by
  rw[<- jC c a s bs d];exact mem_map_of_mem (jJ (e bs d))
 have t:TK H H':=λb D z=>k _ _ z λw=>Ev (p,o) (jJ (e bs d)) D (Option.some.inj ((n.2 _ (jJ (e bs d))).symm.trans (w▸z)))
 have v:=n.at i (e bs d) g k;rw[x bs d]at v;refine⟨⟨⟨bs,d,v,?_,?_⟩,y,by rw[f];exact h.up,by rw[f];exact λr m=>t _ _ (h.dd r m)⟩,⟨λb u z E=>k b u z λw=>E (w▸C),λr m=>.inl (by rw[f]at m;exact mem_map_of_mem m),λb z=>?_⟩⟩
 ·rw[j,l];exact A.keep t
 ·rw[j,l];exact B.keep t
 ·cases w:H b with
  | none=>rfl
  | some u=>
   by_cases q:b=p
   ·rw[q,g]at z;cases z
   ·rw[k b u w q]at z;cases z
def DAt.dr(h:DAt c H a s):H a.dr=some (.ins c.D a.dx (df a s)):=let ⟨_,_,b,_⟩:=h.own;b.get 0 rfl
def DAt.hd(h:DAt c H a s):H a.hd=some (.dK s.hs):=let ⟨_,_,b,_⟩:=h.own;b.get 1 rfl
def DAt.j(h:DAt c H a s):H a.j=some (.ins c.J a.jx (jf a.jl s.safe)):=let ⟨_,_,b,_⟩:=h.own;b.get 2 rfl
def DAt.jl(h:DAt c H a s):H a.jl=some (.lst s.rows):=let ⟨_,_,b,_⟩:=h.own;b.get 3 rfl
def DAt.me(h:DAt c H a s):H a.me=some (.ins c.M a.mx (mf a s.turn s.next)):=let ⟨_,_,b,_⟩:=h.own;b.get 4 rfl
def DAt.bk(h:DAt c H a s):H a.bk=some (.ins c.B a.bx [("amounts",.ref a.bd)]):=let ⟨_,_,b,_⟩:=h.own;b.get 5 rfl
def DAt.bd(h:DAt c H a s):H a.bd=some (.dK (kJ s.prs)):=let ⟨_,_,b,_⟩:=h.own;b.get 6 rfl
def DAt.ks(h:DAt c H a s):H a.ks=some (.ins c.Ks a.kf.dx (vT a.kf s.life)):=let ⟨_,_,b,_⟩:=h.own;b.get 7 rfl
def DAt.rn(h:DAt c H a s):H a.rn=some (.dK (bG s.runs)):=let ⟨_,_,b,_⟩:=h.own;b.get 10 rfl
def DAt.run(h:DAt c H a s){r:Rn}(b:r∈s.runs):H r.p=some (.ins c.R r.dx r.fs):=let ⟨_,_,d,_⟩:=h.own;d.2 (rE c r) (EQ _ (mem_map_of_mem b))
def DAt.book(h:DAt c H a s):BookAt c.B H a.bk s.prs:=⟨⟨_,_,h.bk,h.bd⟩,h.nd⟩
def DAt.ky(h:DAt c H a s):KyAt c.Ks H a.ks a.kf s.life s.m s.L:=by
 obtain⟨bs,d,b,e,f⟩:=h.own;exact⟨b.get 7 rfl,⟨bs,b.get 8 rfl,e⟩,⟨d,b.get 9 rfl,f⟩,b.ne (i:=8) (j:=9) rfl rfl Zd⟩
def DAt.keys(h:DAt c H a s){m':KM}{j:Nat}(k:KyAt c.Ks H' a.ks a.kf s.life m' j)(fr:FrK H H' a.kf):DAt c H' a {s with m:=m',L:=j }/\Mv a s {s with m:=m',L:=j } H H':=by
 obtain⟨bs,p,d,J,M⟩:=h.own;obtain⟨v,g1,F⟩:=k.hb;obtain⟨x,g2,G⟩:=k.hs;have y:=d.get 8 rfl;have A:=d.get 9 rfl;have t:TK H H':=λb N z=>fr _ _ z (aK z y λw=>nomatch w) (aK z A λw=>nomatch w)
 have B:∀q∈a.all c s bs p,(∀n,q.2≠.dT n)->H' q.1=some q.2:=λq f l=>fr _ _ (d.2 q f) (aK (d.2 q f) y (l _)) (aK (d.2 q f) A (l _))
 have I:Own H' (a.all c {s with m:=m',L:=j } v x):=by
  refine⟨by rw[jC];have:=d.1;rwa [jC]at this,λq f=>?_⟩;rcases Zma.mp f with m|m
  ·simp only [DA.objs,mem_cons,EJ,or_false]at m;have z:∀(i:Nat)(q:TD×HO),(a.all c s bs p)[i]?=some q->(∀n,q.2≠.dT n)->H' q.1=some q.2:=λi q e l=>B q (jJ e) l
   rcases m with rfl|rfl|rfl|rfl|rfl|rfl|rfl|rfl|rfl|rfl|rfl
   ·exact z 0 _ rfl λ_ w=>nomatch w
   ·exact z 1 _ rfl λ_ w=>nomatch w
   ·exact z 2 _ rfl λ_ w=>nomatch w
   ·exact z 3 _ rfl λ_ w=>nomatch w
   ·exact z 4 _ rfl λ_ w=>nomatch w
   ·exact z 5 _ rfl λ_ w=>nomatch w
   ·exact z 6 _ rfl λ_ w=>nomatch w
   ·exact z 7 _ rfl λ_ w=>nomatch w
   ·exact g1
   ·exact g2
   ·exact z 10 _ rfl λ_ w=>nomatch w
  ·obtain⟨r,g,rfl⟩:=Zmm.mp m;exact B (rE c r) (EQ _ (mem_map_of_mem g)) λ_ w=>nomatch w
 refine⟨⟨⟨v,x,I,F,G⟩,h.nd,h.up,λr g=>t _ _ (h.dd r g)⟩,⟨λb o z C=>fr b o z ?_ ?_,λr g=>.inl (mem_map_of_mem g),λb z=>?_⟩⟩
 ·exact λw=>C (by rw[w];simp[DA.fix])
 ·exact λw=>C (by rw[w];simp[DA.fix])
 ·cases w:H b with
  | none=>rfl
  | some u=>
   by_cases D:b=a.kf.db
   ·rw[D,g1]at z;cases z
   ·by_cases E:b=a.kf.ds
    ·rw[E,g2]at z;cases z
    ·rw[fr b u w D E]at z;cases z
def DAt.rput{pre post:List Rn}{r r':Rn}(h:DAt c H a s)(hs:s.runs=pre++r::post)(g:r'.p=r.p)(k:r'.n=r.n)(v:r'.d=r.d)(A:r'.x=r.x) :
  DAt c (aH H r.p (.ins c.R r'.dx r'.fs)) a {s with runs:=pre++r'::post }/\Mv a s {s with runs:=pre++r'::post } H (aH H r.p (.ins c.R r'.dx r'.fs)):=by
 refine yE0 h.own (yE2 λbs d=>yA3 λB C D=>?_);have i:r∈s.runs:=by rw[hs];simp
 have gr:=h.run i;have t:TK H (aH H r.p (.ins c.R r'.dx r'.fs)):=fW gr λ_ z=>nomatch z
 have l:(a.objs c s bs d++pre.map (rE c)).length=11+pre.length:=by simp[DA.objs];omega
 have n:a.all c s bs d=(a.objs c s bs d++pre.map (rE c))++rE c r::post.map (rE c):=by
  unfold DA.all;rw[hs,dN,map_cons,append_assoc]
 have E:bG (pre++r'::post)=bG s.runs:=by rw[hs];unfold bG;simp[g,k]
 have F:a.objs c {s with runs:=pre++r'::post } bs d=a.objs c s bs d:=by unfold DA.objs df;dsimp only;rw[E]
 have G:(a.all c s bs d)[11+pre.length]?=some (r.p,.ins c.R r.dx r.fs):=by
  rw[n,List.getElem?_append_right Zo,l,sub_self];rfl
 have p:=B.set _ G (.ins c.R r'.dx r'.fs);have I:(a.all c s bs d).set (11+pre.length) (r.p,.ins c.R r'.dx r'.fs)=a.all c {s with runs:=pre++r'::post } bs d:=by
  rw[n,List.set_append_right _ _ Zo,l,sub_self,List.set_cons_zero];unfold DA.all;rw[F];show _=a.objs c s bs d++List.map (rE c) (pre++r'::post);rw[dN,map_cons,append_assoc];have:rE c r'=(r.p,.ins c.R r'.dx r'.fs):=by unfold rE;rw[g]
  rw[this]
 rw[I]at p;refine⟨⟨⟨bs,d,p,C.keep t,D.keep t⟩,h.nd,?_,λq j=>?_⟩,⟨λb o z J=>?_,λq j=>.inl ?_,λb z=>?_⟩⟩
 ·have:=h.up;rw[hs]at this;have e:(pre++r'::post).map (·.n)=(pre++r::post).map (·.n):=by simp[k]
  have:=(pairwise_map (f:=λ(r:Rn)=>r.n) (R:=λ(x y:Nat)=>x<y)).mpr this;rw[<- e]at this;exact pairwise_map.mp this
 ·rcases Zma.mp j with m|m
  ·exact t _ _ (h.dd q (by rw[hs];exact FM _ m))
  ·rcases mem_cons.mp m with rfl|m
   ·rw[v,A];exact t _ _ (h.dd r i)
   ·exact t _ _ (h.dd q (by rw[hs];simp[m]))
 ·rw[aB λw=>J (by rw[w];exact EQ _ (mem_map_of_mem i))];exact z
 ·rw[hs];rcases Zma.mp j with m|m
  ·exact mem_map_of_mem (FM _ m)
  ·rcases mem_cons.mp m with rfl|m
   ·rw[g];exact mem_map_of_mem Zs
   ·exact mem_map_of_mem (by simp[m])
 ·cases w:H b with
  | none=>rfl
  | some u=>
   by_cases q:b=r.p
   ·rw[q,aA]at z;cases z
   ·rw[aB q,w]at z;cases z
end
def lV{H H1:Hp}{p:TD}{o:HO}(a:H p=none)(s:Same H H1):Same H (aH H1 p o):=λc u e=>by
 rw[aB (aE e a)];exact s _ _ e
def cO{a:Type}{xs:List a}{x y:a}(h:y∈xs++[x]):y∈xs∨y=x:=by
 rcases Zma.mp h with h|h
 ·exact .inl h
 ·exact .inr (Zms.mp h)
def BookIs(kvs:List (aS×V))(f:Str->Nat):Prop:=∀z:Str,(aY kvs (Sum.inr z)).getD (.int 0)=.int (f z:Int)
def BookIs.put{kvs:List (aS×V)}{f:Str->Nat}(h:BookIs kvs f)(z:Str)(v:Nat):BookIs (bQ kvs (Sum.inr z) (.int (v:Int))) (dB f z v):=λy=>by
 rw[iX];unfold dB;by_cases e:y=z
 ·rw[O8 (by rw[e]),O8 e];rfl
 ·rw[NE (λc=>e (by injection c)),NE e];exact h y
def Uq(x:Dd)(y:An):(uQ x y).length<=2:=by cases x<;>cases y<;>exact FS rfl
def dR:RX->Str|.next _ _=>"next"|.has _ _=>"has"|.kept _ _ _ _ _ _=>"kept"|.came _ _ _ _ _=>"came"|.asked _=>"asked"|.done _ _ _=>"done"
def aAv:RX->V|.next n _=>.int (n:Int)|.has z _=>.str z|.kept n _ _ _ _ _=>.int (n:Int)|.came n _ _ _ _=>.int (n:Int)|.asked n=>.int (n:Int)|.done n _ _=>.int (n:Int)
def aAw:RX->V|.next _ t=>.int (t:Int)|.has _ m=>.int (m:Int)|.kept _ t _ _ _ _=>.int (t:Int)|.came _ t _ _ _=>.int (t:Int)|.asked _=>.non|.done _ t _=>.int (t:Int)
def qT{H:Hp}{a:TD}{r:RX}(h:r.At H a):∃xs,H a=some (.tup xs)/\nO xs 0=some (.str (dR r))/\nO xs 1=some (aAv r)/\(aAw r≠.non->nO xs 2=some (aAw r)):=by
 cases r with
 | next n t=>exact⟨_,h,rfl,rfl,λ_=>rfl⟩
 | has z m=>exact⟨_,h,rfl,rfl,λ_=>rfl⟩
 | kept n t p k d y=>revert h;refine yE2 λb c=>yA3 λe f g=>?_;exact⟨_,e,rfl,rfl,λ_=>rfl⟩
 | came n t p k d=>obtain⟨b,e,f⟩:=h;exact⟨_,e,rfl,rfl,λ_=>rfl⟩
 | asked n=>exact⟨_,h,rfl,rfl,λz=>IN rfl z⟩
 | done n t y=>obtain⟨b,e,f⟩:=h;exact⟨_,e,rfl,rfl,λ_=>rfl⟩
def mY(rs:List RX):Str->Nat:=rs.foldl (λf r=>match r with|.has z m=>dB f z m|_=>f) (λ_=>0)
def Ow(rs:List RX):List (aS×V):=rs.filterMap λr=>match r with|.has z m=>some (Sum.inr z,.int (m:Int))|_=>none
theorem dU:∀(rs:List RX)(kvs:List (aS×V))(f:Str->Nat),BookIs kvs f->BookIs (aL kvs (Ow rs)) (rs.foldl (λf r=>match r with|.has z m=>dB f z m|_=>f) f)
 | [],kvs,f,h=>h
 | r::rs,kvs,f,h=>by
  cases r with
  | has z m=>exact dU rs _ _ (h.put z m)
  | next n t=>exact dU rs _ _ h
  | kept n t p k x y=>exact dU rs _ _ h
  | came n t p k x=>exact dU rs _ _ h
  | asked n=>exact dU rs _ _ h
  | done n t y=>exact dU rs _ _ h
def aAx{r:RX}(h:dR r="has"):∃z m,r=.has z m:=by
 cases r with
 | has z m=>exact⟨z,m,rfl⟩
 | next n t=>exact IN (show("next":Str)="has" from h) Zk
 | kept n t p k x y=>exact IN (show("kept":Str)="has" from h) Zk
 | came n t p k x=>exact IN (show("came":Str)="has" from h) Zk
 | asked n=>exact IN (show("asked":Str)="has" from h) Zk
 | done n t y=>exact IN (show("done":Str)="has" from h) Zk
def Ur{r:RX}(h:dR r="next"):∃n t,r=.next n t:=by
 cases r with
 | next n t=>exact⟨n,t,rfl⟩
 | has z m=>exact IN (show("has":Str)="next" from h) Zk
 | kept n t p k x y=>exact IN (show("kept":Str)="next" from h) Zk
 | came n t p k x=>exact IN (show("came":Str)="next" from h) Zk
 | asked n=>exact IN (show("asked":Str)="next" from h) Zk
 | done n t y=>exact IN (show("done":Str)="next" from h) Zk
def Us{r:RX}(h:dR r="kept"):∃n t p k x y,r=.kept n t p k x y:=by
 cases r with
 | kept n t p k x y=>exact⟨n,t,p,k,x,y,rfl⟩
 | has z m=>exact IN (show("has":Str)="kept" from h) Zk
 | next n t=>exact IN (show("next":Str)="kept" from h) Zk
 | came n t p k x=>exact IN (show("came":Str)="kept" from h) Zk
 | asked n=>exact IN (show("asked":Str)="kept" from h) Zk
 | done n t y=>exact IN (show("done":Str)="kept" from h) Zk
def jD:RX->aS|.next n _=>Sum.inl (n:Int)|.has z _=>Sum.inr z|.kept n _ _ _ _ _=>Sum.inl (n:Int)|.came n _ _ _ _=>Sum.inl (n:Int)|.asked n=>Sum.inl (n:Int)|.done n _ _=>Sum.inl (n:Int)
def aAy(r:RX):aAv r=kV (jD r):=by cases r<;>rfl
def kE(wd:Str)(r:RX)(a:TD):List (aS×V):=if dR r=wd then [(jD r,.ref a)] else []
def bI(wd:Str)(rs:List RX)(b:List TD):Nat->List (aS×V)
 | 0=>[]
 | i+1=>bI wd rs b i++(match rs[i]?,b[i]? with|some r,some a=>kE wd r a|_,_=>[])
def jE{wd:Str}{rs:List RX}{b:List TD}{i:Nat}{r:RX}{a:TD}(c:rs[i]?=some r)(d:b[i]?=some a):bI wd rs b (i+1)=bI wd rs b i++kE wd r a:=by
 simp only [bI,c,d]
theorem tQ(wd:Str)(rs:List RX)(a:List TD):∀i,(bI wd rs a i).length<=i
 | 0=>bA _
 | i+1=>by
  have:=tQ wd rs a i;unfold bI;rw[uC];split
  ·unfold kE;split<;>simp<;>omega
  ·simp;omega
theorem tR{wd:Str}{rs:List RX}{c:List TD}{k:aS}{v:V}:∀ {i:Nat},(k,v)∈bI wd rs c i->∃j r a,j<i/\rs[j]?=some r/\c[j]?=some a/\dR r=wd/\k=jD r/\v=.ref a
 | 0,h=>nomatch h
 | i+1,h=>by
  unfold bI at h;rcases Zma.mp h with h|h
  ·refine yE0 (tR h) (yE3 λj r a=>yA2 λd b=>?_);exact⟨j,r,a,Zo,b⟩
  ·split at h
   ·rename_i r a e f;unfold kE at h;split at h
    ·rename_i g;have:=Zms.mp h;injection this with d b
     exact⟨i,r,a,lt_succ_self _,e,f,g,d,b⟩
    ·cases h
   ·cases h
theorem Ad{wd:Str}{rs:List RX}{b:List TD}{j:Nat}{r:RX}{a:TD}(c:rs[j]?=some r)(d:b[j]?=some a)(f:dR r=wd):∀ {i:Nat},j<i->(jD r,V.ref a)∈bI wd rs b i
 | 0,h=>nomatch h
 | i+1,h=>by
  by_cases e:j=i
  ·subst e;rw[jE c d];refine EQ _ ?_;unfold kE;rw[O8 f];exact fY
  ·unfold bI;exact FM _ (Ad c d f Zo)
def Co(kvs l:List (aS×V))(k:aS)(v:V):aL kvs (l++[(k,v)])=bQ (aL kvs l) k v:=by unfold aL;rw[foldl_append];rfl
theorem mZ{k:aS}{v:V}:∀ {l kvs:List (aS×V)},aY (aL kvs l) k=some v->(k,v)∈l∨aY kvs k=some v
 | [],kvs,h=>.inr h
 | (b,c)::l,kvs,h=>by
  have d:aY (aL (bQ kvs b c) l) k=some v:=h;rcases mZ d with a|a
  ·exact .inl (fR _ a)
  ·rw[iX]at a;by_cases e:k=b
   ·rw[O8 e]at a;injection a with a
    rw[<- a,e];exact .inl fY
   ·rw[NE e]at a;exact .inr a
theorem Ae{k:aS}:∀ {l kvs:List (aS×V)},(k∈l.map (·.1)∨∃v,aY kvs k=some v)->∃v,aY (aL kvs l) k=some v
 | [],kvs,h=>by
  rcases h with h|h
  ·cases h
  ·exact h
 | (a,b)::l,kvs,h=>by
  refine Ae (l:=l) (kvs:=bQ kvs a b) ?_;rcases h with h|⟨v,h⟩
  ·rcases mem_cons.mp h with h|h
   ·right
    rw[iX,O8 h];exact⟨_,rfl⟩
   ·exact .inl h
  ·right
   rw[iX];split
   ·exact⟨_,rfl⟩
   ·exact⟨v,h⟩
def tT{wd:Str}{rs:List RX}{b:List TD}(t:rs.length=b.length){r:RX}(f:r∈rs)(g:dR r=wd):∃(j:Nat)(r':RX)(a:TD),aY (aL [] (bI wd rs b rs.length)) (jD r)=some (.ref a)/\rs[j]?=some r'/\b[j]?=some a/\dR r'=wd/\jD r=jD r':=by
 obtain⟨j,e,h⟩:=getElem_of_mem f;have i:rs[j]?=some r:=by rw[fX e,h]
 have m:b[j]?=some b[j]:=fX Zo;have n:=Ad i m g e;obtain⟨v,c⟩:=Ae (kvs:=[]) (k:=jD r) (l:=bI wd rs b rs.length) (.inl (mem_map_of_mem n));rcases mZ c with d|d
 ·refine yE0 (tR d) (yE3 λo r' p=>yA6 λ_ g1 g2 g3 q s=>?_);rw[s]at c;exact⟨o,r',p,c,g1,g2,g3,q⟩
 ·cases d
def yC:Sp:=λvs H Q _=>∃(c:TD)(wd:Str)(a:List RX)(d:List TD),vs=[.ref c,.str wd]/\RxsAt H c a d/\a.length<=400/\∀(p:TD)(b:Hp),H p=none->b p=some (.dK (aL [] (bI wd a d a.length)))->Same H b->Q (.ref p) b
def uS(D:DefAt K mg "by_numbers" gH QZy):Callee P w K mg base 1 "by_numbers" QZy yC:=by
 refine D.gg iQ (λf N A M s H vs Q E y h=>?_)
 ·revert h;refine yE4 λl wd e j=>yA4 λζ n O q=>?_;subst ζ;have z:=dE y;have le:=n.len;refine⟨_,(lq (pv (i:=2) iQ.nd R.fw) (lq (vi PassesOwn.never rfl (ve (K:=K) (f8 0)) (pw (i:=3) iQ.nd) (lu (qa (pi vb (oi K 3) (f8 1)) (lu (wt (f8 3) (yp (f8 2) (oi K 3) (yu z)))) qb))) (lu (oe (f8 2))))),?_⟩;refine λp o=>?_;have S:p≠l:=(aE n.lst o).symm;dsimp only [aJ];refine cT (λb k=>∃c,b=[some (.ref l),some (.str wd),some (.ref p),c]/\k p=some (.dK (aL [] (bI wd e j e.length)))/\Same H k) (λT B=>?_) ?_
  ·refine⟨l,rfl,⟨_,QYY (cF n.lst o)⟩,bU (bE K l (j.map V.ref)) (λi b k=>∃c,b=[some (.ref l),some (.str wd),some (.ref p),c]/\k p=some (.dK (aL [] (bI wd e j i)))/\Same H k) (λi b k ⟨_,_,_,C⟩=>QYY (C _ _ n.lst))
    ⟨_,rfl,aA,aG o⟩ ?_ ?_⟩
   ·refine λi x b t F=>yE1 λc=>yA3 λζ g1 d=>?_;subst ζ;refine yE0 ((n.same d).get F) (yE2 λa r=>yA4 λζ u v G=>?_);subst ζ;refine yE0 (qT G) (yE1 λU=>yA4 λg x0 I W=>?_);have X:=(Zgs.mp u).1;have Y:=tQ wd e j i;have J:=iO (bI wd e j i) [];refine⟨_,QYZ g,_,x0,?_⟩;show if decide (dR r=wd)=true then _ else _
    refine dF (λh=>?_) (λh=>?_)
    ·have L:DPut t p (aAv r) (.ref a) (aH t p (.dK (bQ (aL [] (bI wd e j i)) (jD r) (.ref a)))):=by
      rw[aAy];exact DPut.k g1 (uD (m:=1000) (by simp at J;omega) Zd)
     refine⟨_,QYZ g,_,I,p,_,rfl,L,?_⟩
     ·refine⟨_,rfl,?_,lV o d⟩;rw[aA,jE v u];unfold kE;rw[O8 (U3 h),Co]
    ·refine⟨_,rfl,?_,d⟩;rw[jE v u];unfold kE;rw[NE (UV h),append_nil];exact g1
   ·rintro b t ⟨c,rfl,g1,d⟩;rw[aR,<- le]at g1;exact B _ _ ⟨c,rfl,g1,d⟩
  ·rintro b t ⟨c,rfl,g1,d⟩;exact q p t o g1 d
def lW{rs:List RX}(h:RX.Whole rs){n t t':Nat}{p k d e:Str}{x f:Dd}(b:.came n t p k x∈rs)(a:.came n t' d e f∈rs):RX.came n t p k x=.came n t' d e f:=by
 induction h with
 | nil=>cases b
 | snoc i c g=>
  rcases cO b with b|b
  ·rcases cO a with a|a
   ·exact g b a
   ·rw[<- a]at c;exact IN (c.1 _ _ _ _ _ b) (Nat.lt_irrefl _)
  ·rcases cO a with a|a
   ·rw[<- b]at c;exact IN (c.1 _ _ _ _ _ a) (Nat.lt_irrefl _)
   ·rw[b,a]
def eY{rs:List RX}(h:RX.Whole rs){n t:Nat}{y:An}(a:.done n t y∈rs):∃t0 p k x,RX.came n t0 p k x∈rs/\An.Of x y:=by
 induction h with
 | nil=>cases a
 | snoc f d e=>
  rcases cO a with a|a
  ·refine yE0 (e a) (yE4 λt0 p k x=>yA2 λb c=>?_);exact⟨t0,p,k,x,FM _ b,c⟩
  ·rw[<- a]at d;revert d;refine yA3 λ_ _=>yE4 λt0 p k x=>yA3 λb c _=>?_;exact⟨t0,p,k,x,FM _ b,c⟩
def rN{r:RX}(h:dR r="came"):∃n t p k x,r=.came n t p k x:=by
 cases r with
 | came n t p k x=>exact⟨n,t,p,k,x,rfl⟩
 | has z m=>exact IN (show("has":Str)="came" from h) Zk
 | next n t=>exact IN (show("next":Str)="came" from h) Zk
 | kept n t p k x y=>exact IN (show("kept":Str)="came" from h) Zk
 | asked n=>exact IN (show("asked":Str)="came" from h) Zk
 | done n t y=>exact IN (show("done":Str)="came" from h) Zk
def rO{r:RX}(h:dR r="done"):∃n t y,r=.done n t y:=by
 cases r with
 | done n t y=>exact⟨n,t,y,rfl⟩
 | has z m=>exact IN (show("has":Str)="done" from h) Zk
 | next n t=>exact IN (show("next":Str)="done" from h) Zk
 | kept n t p k x y=>exact IN (show("kept":Str)="done" from h) Zk
 | asked n=>exact IN (show("asked":Str)="done" from h) Zk
 | came n t p k x=>exact IN (show("came":Str)="done" from h) Zk
structure RepF(rs:List RX)(F:Nat->Str->Nat)(f:Str->Nat):Prop where
 z:F 0=mY rs
 done:∀i n t y,rs[i]?=some (.done n t y)->∃t0 p k x q,.came n t0 p k x∈rs/\lF (F i) x q y/\F (i+1)=after (F i) x y
 rest:∀i r,rs[i]?=some r->dR r≠"done"->F (i+1)=F i
 last:F rs.length=f
def hW:RX->Bool|.came _ _ _ _ _=>true|_=>false
def Af(rs:List RX):List Nat:=rs.filterMap λr=>match r with|.done n _ _=>some n|_=>none
def bS(rs:List RX):List Nat:=rs.filterMap λr=>match r with|.came n _ _ _ _=>some n|_=>none
def wA{rs:List RX}{n:Nat}(h:n∈Af rs):∃t y,.done n t y∈rs:=by
 obtain⟨r,a,e⟩:=mem_filterMap.mp h;cases r<;>cases e;exact⟨_,_,a⟩
def wB{rs:List RX}{n t:Nat}{p k:Str}{x:Dd}(h:.came n t p k x∈rs):n∈bS rs:=mem_filterMap.mpr ⟨_,h,rfl⟩
def Ox{rs:List RX}(h:RX.Whole rs):(Af rs).Nodup:=by
 induction h with
 | nil=>exact nodup_nil
 | @snoc rs r j d c=>
  unfold Af at c ⊢;rw[CG];cases r with
  | done n t y=>
   refine nodup_append.mpr ⟨c,Zs,λa e b f=>?_⟩;have g:b=n:=by simpa using f
   subst g;rintro rfl;obtain⟨k,l,i⟩:=wA e;exact d.2.1 _ _ i
  | _=>simpa using c
def aAz{xs:List Nat}:∀ {ys:List Nat},xs.Nodup->(∀x∈xs,x∈ys)->xs.length<=ys.length:=by
 induction xs with
 | nil=>exact λ_ _=>zero_le _
 | cons x r c=>
  intro ys d h;obtain⟨f,g⟩:=nodup_cons.mp d;have a:=h x fY;have:=c (ys:=ys.erase x) g λy b=>(List.mem_erase_of_ne (λe=>f (by rw[<- e];exact b))).mpr (h y (fR _ b))
  rw[List.length_erase_of_mem a]at this;have i:0<ys.length:=List.length_pos_of_mem a;rw[yK];omega
def Ut{prs:List (Str×Int)}{n:Str}{v:Int}{zn:List Str}(h:∀m∈prs.map (·.1),m∈zn)(a:n∈zn):∀m∈(oS prs n v).map (·.1),m∈zn:=by
 rw[pW];split
 ·exact h
 ·intro m hm;rcases Zma.mp hm with hm|hm
  ·exact h m hm
  ·cases Zms.mp hm;exact a
def yD{zn:List Str}:∀(a prs:List (Str×Int)),(∀m∈prs.map (·.1),m∈zn)->(∀q∈a,q.1∈zn)->∀m∈(kD prs a).map (·.1),m∈zn
 | [],_,h,_=>h
 | q::r,_,h,b=>yD r _ (Ut h (b q fY)) λp c=>b p (fR _ c)
def Oy{xs:List Str}:∀ {ys:List Str},xs.Nodup->(∀x∈xs,x∈ys)->xs.length<=ys.length:=by
 induction xs with
 | nil=>exact λ_ _=>zero_le _
 | cons x r c=>
  intro ys d h;obtain⟨f,g⟩:=nodup_cons.mp d;have a:=h x fY;have:=c (ys:=ys.erase x) g λy b=>(List.mem_erase_of_ne (λe=>f (by rw[<- e];exact b))).mpr (h y (fR _ b))
  rw[List.length_erase_of_mem a]at this;have i:0<ys.length:=List.length_pos_of_mem a;rw[yK];omega
def Oz:RX->Prop|.has _ m=>m<=1000000000000|.came _ _ _ _ d=>d.Ok|_=>True
def Cp{rs:List RX}(h:∀r∈rs,Oz r)(z:Str):mY rs z<=1000000000000:=by
 have:∀(rs:List RX)(f:Str->Nat),(∀r∈rs,Oz r)->(∀z,f z<=1000000000000)->∀z,rs.foldl (λf r=>match r with|.has z m=>dB f z m|_=>f) f z<=1000000000000:=by
  intro rs;induction rs with
  | nil=>exact λf _ a=>a
  | cons r rs b=>
   intro f h a z;rw[foldl_cons];refine b _ (λr c=>h r (fR _ c)) ?_ z
   cases r with
   | has y m=>exact kC a (h _ fY)
   | _=>exact a
 exact this rs _ h (λ_=>zero_le _) z
def RepF.leS{rs:List RX}{F:Nat->Str->Nat}{f:Str->Nat}(h:RepF rs F f)(ok:∀r∈rs,Oz r):∀i,i<=rs.length->∀z,F i z<=1000000000000
 | 0,_,z=>by rw[h.z];exact Cp ok z
 | i+1,g,z=>by
  have a:=h.leS ok i Zo;obtain⟨r,b⟩:∃r,rs[i]?=some r:=⟨rs[i],fX Zo⟩;by_cases e:dR r="done"
  ·obtain⟨n,t,y,rfl⟩:=rO e;refine yE0 (h.done i n t y b) (yE5 λj p k x q=>yA3 λ_ c d=>?_);rw[d];exact On a c z
  ·rw[h.rest i r b e];exact a z
def jF(rs:List RX):List (Str×Int):=rs.filterMap λr=>match r with|.has z m=>some (z,(m:Int))|_=>none
theorem wC:∀rs:List RX,Ow rs=kJ (jF rs)
 | []=>rfl
 | r::rs=>by
  have a:=wC rs;unfold Ow jF kJ at a ⊢;cases r<;>simp only [CF,map_cons]<;>first|exact a|rw[a]
def Ag{rs:List RX}{z:Str}{m:Int}(h:(z,m)∈jF rs):∃m',.has z m'∈rs:=by
 obtain⟨r,a,e⟩:=mem_filterMap.mp h;cases r<;>cases e;exact⟨_,a⟩
def yE{rs:List RX}(h:RX.Whole rs):((jF rs).map (·.1)).Nodup:=by
 induction h with
 | nil=>exact nodup_nil
 | @snoc rs r l d c=>
  have e:jF (rs++[r])=jF rs++jF [r]:=by unfold jF;rw[CG]
  rw[e,dN];cases r with
  | has z m=>
   refine nodup_append.mpr ⟨c,by simp[jF],λa f b g=>?_⟩;have i:b=z:=by simpa [jF]using g
   subst i;rintro rfl;obtain⟨q,j,rfl⟩:=Zmm.mp f;obtain⟨n,k⟩:=Ag (z:=q.1) (m:=q.2) j;exact IN (d.2.2 _ _ k) (List.lt_irrefl _)
  | _=>simpa [jF]using c
def Pa{rs:List RX}(h:RX.Whole rs)(z:Str):cA (jF rs) z=(mY rs z:Int):=by
 have a:=dU rs [] (λ_=>0) (λ_=>rfl) z;rw[wC,vQ (yE h),rJ]at a;injection a
def Ew(C:TD):Sp:=λvs H Q _=>∃(c:TD)(a:List RX)(e:List TD),vs=[.ref c]/\RxsAt H c a e/\a.length<=400/\RX.Whole a ∧
 ∀(p f d:TD)(b:Hp),H p=none->H d=none->b p=some (.ins C f [("amounts",.ref d)])->b d=some (.dK (kJ (jF a)))->Same H b->Q (.ref p) b
def uT{C:TD}(T:Txt K mg)(S:Mkr P w K mg base 1 "Book" C QZP [] (xO C))(D:DefAt K mg "first_book" eJ zt):Callee P w K mg base 3 "first_book" zt (Ew C):=by
 refine D.gg uM (λa6 cdv a7 outer s H vs a8 a9 U h=>?_)
 ·revert h;refine yE3 λA u W=>yA5 λζ n hl X a0=>?_;subst ζ;have le:=n.len;refine⟨_,(lu (oe (R.cu S U rfl (lc (vm rfl (js:=[none]) (N:=QZZ) (CompScope.by (aD eJ) zt rfl rfl Zk) (aV rfl) (ve (K:=K) (f8 0)) (λC s₂ H₂ fp=>⟨(pw (i:=0) (show(QZZ:List Str).Nodup by decide +kernel)),(wy (pi vb (oi K 0) oj)),(vc wn (f8 0) (ux mo) vj)⟩)) li)))),?_⟩;refine⟨A,rfl,⟨_,QYY n.lst⟩,?_⟩;refine bF (bE K A (W.map V.ref)) (by rw[aR];omega) (λi c b=>∃a:List Z,c=cI a/\ZAt b a/\a.map (·.2)=jF (u.take i)/\Same H b/\a.length<=i) (λi c b ⟨a,e,_,_,d,o⟩=>⟨QYY (d _ _ n.lst),by rw[e];unfold cI;rw[aR];exact o⟩) ⟨[],rfl,(λ_ h=>nomatch h),rfl,(λ_ _ e=>e),bA _⟩ (?_) (?_)
  ·refine λi x c b g=>yE1 λa=>yA5 λe p f d o=>?_;refine yE0 ((n.same d).get g) (yE2 λb0 r=>yA4 λζ ha Y B=>?_);subst ζ;refine yE0 (qT B) (yE1 λxs=>yA4 λa1 x0 x1 x2=>?_);have E:=aM Y;have F:jF (u.take i++[r])=jF (u.take i)++jF [r]:=by unfold jF;rw[CG]
   refine⟨_,QYZ a1,_,x0,?_⟩;show if decide (dR r="has")=true then _ else _
   refine dF (λh=>?_) (λh=>?_)
   ·obtain⟨z,m,rfl⟩:=aAx (U3 h);refine⟨_,B,λtp G I g2=>⟨a++[(tp,z,(m:Int))],by rw[e];unfold cI;rw[dN];rfl,λa2 v=>?_,?_,d.trans I,by simp;omega⟩⟩
    ·rcases cO v with v|rfl
     ·exact I _ _ (p a2 v)
     ·exact g2
    ·rw[dN,f,E,F];rfl
   ·refine⟨a,e,p,?_,d,Zo⟩;rw[f,E,F];have:jF [r]=[]:=by
     cases r with
     | has z m=>exact IN rfl (UV h)
     | _=>rfl
    rw[this,append_nil]
  ·refine λc b=>yE1 λa=>yA5 λe p f d o=>?_;intro l J;rw[aR]at o f;rw[<- le,lJ (bA _)]at f;have j:Same H (aH b l (.lst c)):=d.trans (aG J);have L:(aH b l (.lst c)) l=some (.lst (cI a)):=by rw[aA,e]
   have M:ZAt (aH b l (.lst c)) a:=λz y=>cF (p z y) J
   generalize aH b l (.lst c)=O at j L M;intro x q g GV E7;have t:Same O (aH (aH O q (.own x)) x (.ins C q [])):=λa3 a4 e=>by
    rw[aB (aE e g),aB (aE e GV)];exact e
   refine⟨x,q,.ref l,a.map (·.2),rfl,aA,.inr ⟨l,a,rfl,t _ _ L,λz y=>t _ _ (M z y),rfl⟩,by rw[f];exact yE X,by rw[aR];omega,λG a5 hd h1 Q k=>⟨rfl,?_⟩⟩;rw[f]at Q;refine a0 x q a5 G (j.free g) (j.free (t.free hd)) h1 Q (λa3 a4 e=>k _ _ (t _ _ (j _ _ e)) (aE (j _ _ e) g))
def Pb(rs:List RX)(nm:List Str):Prop:=nm.length<=43/\(∀z m,RX.has z m∈rs->z∈nm)/\∀n t p k x y c,RX.came n t p k x∈rs->c∈uQ x y->c.1∈nm
def Ex(C:TD):Sp:=λvs H Q _=>∃(e g:TD)(a:List RX)(h:List TD)(F:Nat->Str->Nat)(f:Str->Nat)(nm:List Str),vs=[.ref e,.ref g]/\RxsAt H e a h/\a.length<=400/\Pb a nm/\RX.Whole a/\(∀r∈a,Oz r)/\RepF a F f/\H g=some (.dK (aL [] (bI "came" a h a.length))) ∧
 ∀(p i d:TD)(b:List (Str×Int))(c:Hp),H p=none->H d=none->c p=some (.ins C i [("amounts",.ref d)])->c d=some (.dK (kJ b))->(b.map (·.1)).Nodup->(∀z,cA b z=(f z:Int))->b.length<=43->Same H c->Q (.ref p) c
def rP{H:Hp}{ra:TD}{rs:List RX}{d:List TD}(o:RX.Whole rs)(RR:RxsAt H ra rs d){n t:Nat}{p k:Str}{x:Dd}(e:.came n t p k x∈rs):∃(a b:TD)(t':Nat),aY (aL [] (bI "came" rs d rs.length)) (Sum.inl (n:Int))=some (.ref a)/\H a=some (.tup [.str "came",.int (n:Int),.int (t':Int),.str p,.str k,.ref b])/\H b=some (.tup x.vs):=by
 refine yE0 (tT RR.len e (wd:="came") rfl) (yE3 λj G f=>yA5 λq g r s u=>?_);refine yE0 (rN s) (yE5 λh t' I J L ζ=>?_);subst ζ;have y:n=h:=by
  have:(Sum.inl (n:Int):aS)=Sum.inl (h:Int):=u;injection this with this
  omega
 subst y;have z:=lW o e (jJ g);injection z with _ _ A B C
 subst A;subst B;subst C;refine yE0 (RR.get (i:=j) (v:=.ref f) (by rw[dW,r];rfl)) (yE2 λM N=>yA4 λc O l D=>?_);injection c with c
 subst c;rw[g]at l;injection l with c
 subst c;obtain⟨E,F,m⟩:=D;exact⟨f,E,t',q,F,m⟩
def uU{C:TD}(T:Txt K mg)(ql:Callee P w K mg base 3 "first_book" zt (Ew C))(E9:Callee P w K mg base 2 "changes_of" QZL Os)(A7:cC P w K mg base 2 C "change" QZz (pX C))(D:DefAt K mg "risen_book" gJ QZT):Callee P w K mg base 4 "risen_book" QZT (Ex C):=by
 refine D.gg iR (λa0 cdv a5 outer s a1 vs a6 a7 H h=>?_)
 ·revert h;refine yE7 λA I Q W F a0 nm=>yA9 λζ r hl J u U B gcd q=>?_;subst ζ;have l8:=dE H;have le:=r.len;refine⟨_,(lq (pv (i:=2) iR.nd (px ql H rfl (lc (f8 0) li))) (lq (vi PassesOwn.never rfl (ve (K:=K) (f8 0)) (pw (i:=3) iR.nd) (lu (qa (pi vb (oi K 3) oj) (lu (uz (re A7 H (f8 2) (lc (px E9 H rfl (lc (u8 (vh (K:=K)) (vn l8 (f8 1) (oi K 3)) mo) (lc (oi K 3) li))) li)))) qb))) (lu (oe (f8 2))))),?_⟩;refine⟨A,Q,W,rfl,r,Zo,u,λp E d H1 fp X Y gd Z=>?_⟩;have npd:p≠d:=aK Y gd nofun;dsimp only [aJ];refine cT (λl g=>∃(a:List (Str×Int))(v:Option V),l=[some (.ref A),some (.ref I),some (.ref p),v]/\g p=some (.ins C E [("amounts",.ref d)])/\g d=some (.dK (kJ a))/\(a.map (·.1)).Nodup/\(∀z,cA a z=(a0 z:Int))/\(∀z∈a.map (·.1),z∈nm)/\Same a1 g) (λnx l7=>?_) ?_
  ·refine⟨A,rfl,⟨_,QYY (Z _ _ r.lst)⟩,bU (bE K A (W.map V.ref)) (λi l g=>∃(a:List (Str × Int))(v:Option V),l=[some (.ref A),some (.ref I),some (.ref p),v]/\g p=some (.ins C E [("amounts",.ref d)])/\g d=some (.dK (kJ a))/\(a.map (·.1)).Nodup/\(∀z,cA a z=(F i z:Int))/\(∀z∈a.map (·.1),z∈nm)/\Same a1 g) (λi l g ⟨_,_,_,_,_,_,_,_,s'⟩=>QYY (s' _ _ r.lst))
    ⟨jF Q,_,rfl,Y,gd,yE u,λz=>by rw[B.z];exact Pa u z,(λz R=>let ⟨q,L,e⟩:=Zmm.mp R;let ⟨m',zb⟩:=Ag (z:=q.1) (m:=q.2) L;e ▸ J.2.1 _ _ zb),Z⟩ ?_ ?_⟩
   ·refine λi a8 l M hx=>yE2 λa v=>yA7 λζ j x b c o f=>?_;subst ζ;refine yE0 ((r.same f).get hx) (yE2 λa9 a2=>yA4 λζ ha G oq=>?_);subst ζ;have YC:i<Q.length:=(Zgs.mp G).1;refine yE0 (qT oq) (yE1 λxs=>yA4 λa3 x0 x1 x2=>?_);have lx:=aM G;refine⟨_,QYZ a3,_,x0,?_⟩;show if decide (dR a2="done")=true then _ else _
    refine dF (λh=>?_) (λh=>?_)
    ·refine yE0 (rO (U3 h)) (yE3 λn t y ζ=>?_);subst ζ;obtain⟨cy,gr,gy⟩:=oq;refine yE0 (B.done i n t y G) (yE5 λt0 pp kk xd qq=>yA3 λN hR LM=>?_);refine yE0 (eY u (jJ G)) (yE4 λYD pp' kk' xd'=>yA2 λSH DV=>?_);have SF:=lW u N SH;injection SF with _ _ _ _ e5
     subst e5;have LN:xd.Ok:=U _ N;refine yE0 (rP u (r.same f) N) (yE3 λca cb ct=>yA3 λhv GX GY=>?_);have LO:DGet M I (.int (n:Int)) (some (.ref ca)):=by rw[<- hv];exact DGet.k (k:=Sum.inl (n:Int)) (f _ _ gcd)
     obtain⟨ea,hG⟩:=qS LN hR;have hle:=B.leS U i Zo;refine⟨E,_,j,pL _ Zk,_,QYZ gr,_,rfl,I,_,rfl,LO,_,QYZ GX,_,rfl,_,QYZ gr,_,rfl,cb,cy,xd,y,rfl,GY,gy,DV,λtp zs H3 O g3 R S=>?_⟩;have lz:zs.length<=2:=by
      have:=congrArg length S;rw[aR]at this;have:=Uq xd y;omega
     refine⟨p,E,d,tp,a,zs,rfl,O _ _ j,O _ _ x,b,g3,R,?_,λqc L=>?_,λH4 g4 k4=>?_⟩
     ·have:=Oy b o;have:=J.1;simp only [aR]at *;omega
     ·rw[S]at L;have:=Aa hle LN hR qc L;unfold Eu;rw[c];exact this
     ·rw[S]at g4;refine⟨kD a (uQ xd y),_,rfl,k4 _ _ (O _ _ j) npd,g4,rM _ _ b,λz=>?_,?_,λa4 b0 e=>k4 _ _ (O _ _ (f _ _ e)) (aE e X)⟩
      ·rw[tO _ _ _ hG c,ea,LM]
      ·exact yD _ _ o λa4 hc=>J.2.2 _ _ _ _ _ _ _ N hc
    ·refine⟨a,_,rfl,j,x,b,λz=>?_,?_,f⟩
     ·rw[B.rest i a2 G (UV h)];exact c z
     ·exact o
   ·refine λl M=>yE2 λa v=>yA7 λζ j x b c o f=>?_;subst ζ;rw[aR,<- le]at c;rw[B.last]at c;exact l7 _ _ ⟨a,_,rfl,j,x,b,c,o,f⟩
  ·refine λl M=>yE2 λa v=>yA7 λζ j x b c o f=>?_;subst ζ;exact q p E d a M fp X j x b c (by have:=Oy b o;have:=J.1;simp only [aR]at *;omega) f
abbrev E6:=Nat×Nat×Str×Str×Dd×An
abbrev O4:=Nat×Str×Str×Dd
def At6(H:Hp)(e:E6)(a:TD):Prop:=∃b c,H a=some (.tup [.int (e.1:Int),.int (e.2.1:Int),.str e.2.2.1,.str e.2.2.2.1,.ref b,.ref c])/\H b=some (.tup e.2.2.2.2.1.vs)/\H c=some (.tup e.2.2.2.2.2.vs)
def AtO(H:Hp)(e:O4)(a:TD):Prop:=∃b,H a=some (.tup [.int (e.1:Int),.str e.2.1,.str e.2.2.1,.ref b])/\H b=some (.tup e.2.2.2.vs)
def At6.tk{H H':Hp}(s:TK H H'){e:E6}{a:TD}(h:At6 H e a):At6 H' e a:=let ⟨b,c,d,f,g⟩:=h;⟨b,c,s _ _ d,s _ _ f,s _ _ g⟩
def AtO.tk{H H':Hp}(s:TK H H'){e:O4}{a:TD}(h:AtO H e a):AtO H' e a:=let ⟨b,c,d⟩:=h;⟨b,s _ _ c,s _ _ d⟩
def eT(rs:List RX)(n:Nat):Option (Str×Str×Dd):=rs.findSome? λr=>match r with|.came m _ p k x=>if m=n then some (p,k,x) else none|_=>none
def pY{rs:List RX}(c:RX.Whole rs){n t:Nat}{p k:Str}{x:Dd}(b:.came n t p k x∈rs):eT rs n=some (p,k,x):=by
 cases h:eT rs n with
 | none=>
  unfold eT at h;have:=List.findSome?_eq_none_iff.mp h _ b;simp at this
 | some v=>
  unfold eT at h;obtain⟨r,d,e⟩:=List.exists_of_findSome?_eq_some h
  cases r with
  | came m j l o q=>
   dsimp only at e;by_cases a:m=n
   ·rw[O8 a]at e;subst a;have:=lW c b d;injection this with _ _ f g i
    rw[<- e,f,g,i]
   ·rw[NE a]at e;cases e
  | _=>cases e
def gC:RX->List E6|.kept n t p k x y=>[(n,t,p,k,x,y)]|_=>[]
def hX(rs:List RX):RX->List E6
 | .done n t y=>match eT rs n with|some (p,k,x)=>[(n,t,p,k,x,y)]|none=>[]
 | _=>[]
def bT(rs:List RX):List E6:=rs.flatMap gC++rs.flatMap (hX rs)
def cH{a b:Type}(f:a->List b)(xs:List a)(x:a):(xs++[x]).flatMap f=xs.flatMap f++f x:=by rw[flatMap_append];simp
def Pc{r:RX}(h:dR r≠"kept"):gC r=[]:=by cases r<;>first|rfl|exact IN rfl h
def Ah{rs:List RX}{r:RX}(h:dR r≠"done"):hX rs r=[]:=by cases r<;>first|rfl|exact IN rfl h
def jG{rs:List RX}(a:RX.Whole rs){n t t0:Nat}{p k:Str}{x:Dd}{y:An}(b:.came n t0 p k x∈rs):hX rs (.done n t y)=[(n,t,p,k,x,y)]:=by
 show(match eT rs n with|some (p,k,x)=>[(n,t,p,k,x,y)]|none=>[])=_;rw[pY a b]
def Paired.append'{d e:Type}{R:d->e->Prop}{xs b:List d}{ys c:List e}(h:Paired R xs ys)(h':Paired R b c):Paired R (xs++b) (ys++c):=by
 induction h with
 | nil=>exact h'
 | cons a t f=>exact .cons a f
def Pd(rs:List RX)(f:RX->List E6)(h:∀r,(f r).length<=1):(rs.flatMap f).length<=rs.length:=by
 induction rs with
 | nil=>exact bA _
 | cons r rs a=>have:=h r;rw[AT,uC,yK];omega
def Pe(r:RX):(gC r).length<=1:=by cases r<;>exact FS rfl
def Ey:Sp:=λvs H Q _=>∃(c d:TD)(a:List RX)(e:List TD),vs=[.ref c,.ref d]/\RxsAt H c a e/\a.length<=400/\RX.Whole a/\H d=some (.dK (aL [] (bI "came" a e a.length))) ∧
 ∀(l:TD)(ls:List TD)(b:Hp),H l=none->b l=some (.lst (ls.map V.ref))->Paired (At6 b) (bT a) ls->Same H b->Q (.ref l) b
def uV(T:Txt K mg)(D:DefAt K mg "risen_kept" cX QZT):Callee P w K mg base 1 "risen_kept" QZT Ey:=by
 refine D.gg mH (λa7 cdv a8 outer s a0 vs a9 b0 hr h=>?_)
 ·revert h;refine yE4 λm H p U=>yA6 λζ q hl I gcd a1=>?_;subst ζ;have l8:=dE hr;have le:=q.len;refine⟨_,(lq (R.dm (i:=2) mH.nd rfl (Or.inl rfl) rfl (js:=[none]) (N:=QZZ) (CompScope.by (aD cX) QZg rfl rfl Zk) (aV rfl) (ve (K:=K) (f8 0)) (λa2 s₂ H₂ fp=>⟨(pw (i:=0) (show(QZZ:List Str).Nodup by decide +kernel)),(wy (pi vb (oi K 0) oj)),(vc wn (f8 0) (ux mo) vj)⟩) rfl) (lu (oe (oh xh (f8 2) (vm rfl (js:=[none,some 1]) (N:=["row","came"]) (CompScope.by (aD cX) QZg rfl rfl Zk) (aV rfl) (ve (K:=K) (f8 0)) (λa2 s₂ H₂ fp=>⟨(pw (i:=0) (show(["row","came"]:List Str).Nodup by decide +kernel)),(wy (pi vb (oi K 0) oj)),(oh yo (oh yo (vc wn (f8 0) (ux mo) (ux mo)) (vc wn (vn l8 (f8 1) (oi K 0)) (ux mo) vj)) (vc wn (f8 0) (ux mo) vj))⟩)))))),?_⟩;refine cT (λS a=>∃(u:TD)(ls:List TD),S=[some (.ref m),some (.ref H),some (.ref u)]/\a u=some (.lst (ls.map V.ref))/\Paired (At6 a) (p.flatMap gC) ls/\Same a0 a) (λnx l7=>?_) ?_
  ·refine⟨m,rfl,⟨_,QYY q.lst⟩,?_⟩;refine bF (bE K m (U.map V.ref)) (by rw[aR];omega) (λi d a=>∃ls:List TD,d=ls.map V.ref/\Paired (At6 a) ((p.take i).flatMap gC) ls/\Same a0 a/\ls.length<=i) (λi d a ⟨ls,e,_,b,j⟩=>⟨QYY (b _ _ q.lst),by rw[e,aR];exact j⟩) ⟨[],rfl,.nil,(λ_ _ e=>e),bA _⟩ (?_) (?_)
   ·refine λi x d a J=>yE1 λls=>yA4 λe f b j=>?_;refine yE0 ((q.same b).get J) (yE2 λa3 r=>yA4 λζ ha B v=>?_);subst ζ;refine yE0 (qT v) (yE1 λxs=>yA4 λg x0 x1 x2=>?_);have y:=aM B;refine⟨_,QYZ g,_,x0,?_⟩;show if decide (dR r="kept")=true then _ else _
    refine dF (λh=>?_) (λh=>?_)
    ·refine yE0 (Us (U3 h)) (yE6 λn t a4 k x a5 ζ=>?_);subst ζ;refine yE0 v (yE2 λb1 L=>yA3 λA M gx3=>?_);refine⟨_,A,λtp W c g2=>⟨ls++[tp],by rw[e,dN];rfl,?_,b.trans c,by simp;omega⟩⟩;rw[y,cH];exact Paired.snoc (Paired.map' (λ_ _ z=>z.tk (Same.tk c)) f) ⟨b1,L,g2,c _ _ M,c _ _ gx3⟩
    ·refine⟨ls,e,?_,b,Zo⟩;rw[y,cH,Pc (UV h),append_nil];exact f
   ·refine λd a=>yE1 λls=>yA4 λe f b j=>?_;intro u X;rw[aR,<- le,lJ (bA _)]at f;exact l7 _ _ ⟨u,ls,rfl,by rw[aA,e],Paired.map' (λ_ _ z=>z.tk (Same.tk (aG X))) f,b.trans (aG X)⟩
  refine λS H1=>yE2 λu ls=>yA4 λζ CP Y C=>?_;subst ζ;have E:=q.same C;have lk:=Y.length;have lk1:=Pd p gC Pe;refine⟨m,rfl,⟨_,QYY E.lst⟩,?_⟩;refine bF (bE K m (U.map V.ref)) (by rw[aR];omega) (λi d a=>∃ls:List TD,d=ls.map V.ref/\Paired (At6 a) ((p.take i).flatMap (hX p)) ls/\Same H1 a/\ls.length<=i) (λi d a ⟨ls,e,_,b,j⟩=>⟨QYY (b _ _ E.lst),by rw[e,aR];exact j⟩) ⟨[],rfl,.nil,(λ_ _ e=>e),bA _⟩ (?_) (?_)
  ·refine λi x d a J=>yE1 λF=>yA4 λe f b j=>?_;refine yE0 ((E.same b).get J) (yE2 λa3 r=>yA4 λζ ha B v=>?_);subst ζ;refine yE0 (qT v) (yE1 λxs=>yA4 λg x0 x1 x2=>?_);have y:=aM B;refine⟨_,QYZ g,_,x0,?_⟩;show if decide (dR r="done")=true then _ else _
   refine dF (λh=>?_) (λh=>?_)
   ·refine yE0 (rO (U3 h)) (yE3 λn t a5 ζ=>?_);subst ζ;obtain⟨L,A,M⟩:=v;refine yE0 (eY I (jJ B)) (yE4 λt0 a4 k x=>yA2 λZ _=>?_);refine yE0 (rP I (E.same b) Z) (yE3 λca cb ct=>yA3 λhv GX GY=>?_);have LO:∀O,Same a O->DGet O H (.int (n:Int)) (some (.ref ca)):=λO ss=>by rw[<- hv];exact DGet.k (k:=Sum.inl (n:Int)) (ss _ _ (b _ _ (C _ _ gcd)))
    refine⟨_,A,λt1 W c g2=>⟨_,QYZ (c _ _ A),_,rfl,H,_,rfl,LO W c,_,c _ _ GX,λt2 H3 l g3=>⟨_,_,l _ _ g2,g3,FS rfl,λt3 H4 s4 g4=>⟨_,s4 _ _ (l _ _ (c _ _ A)),λt4 H5 s5 g5=>⟨_,_,s5 _ _ g4,g5,FS rfl,λt5 H6 s6 g6=>?_⟩⟩⟩⟩⟩;have G:Same a H6:=(((c.trans l).trans s4).trans s5).trans s6;refine⟨F++[t5],by rw[e,dN];rfl,?_,b.trans G,by simp;omega⟩;rw[y,cH,jG I Z];exact Paired.snoc (Paired.map' (λ_ _ z=>z.tk (Same.tk G)) f) ⟨cb,L,g6,G _ _ GY,G _ _ M⟩
   ·refine⟨F,e,?_,b,Zo⟩;rw[y,cH,Ah (UV h),append_nil];exact f
  ·refine λd a=>yE1 λF=>yA4 λe f b j=>?_;intro kl2 LR;rw[aR,<- le,lJ (bA _)]at f;rw[aR]at j;have c:=b.trans (aG (o:=.lst d) LR);refine⟨_,_,c _ _ CP,aA,by rw[e,aR,aR];exact fJ Zo,λa6 Q=>?_⟩;have l:=c.trans (aG (o:=.lst (ls.map V.ref++d)) Q);refine a1 a6 (ls++F) _ (C.free (c.free Q)) (by rw[aA,e,dN]) ?_ (C.trans l);exact Paired.append' (Paired.map' (λ_ _ z=>z.tk (Same.tk l)) Y) (Paired.map' (λ_ _ z=>z.tk (Same.tk ((aG LR).trans (aG Q)))) f)
def kH(wd:Str)(rs:List RX)(k:aS):Bool:=rs.any λr=>decide (dR r=wd)&&decide (jD r=k)
def pZ{wd:Str}{rs:List RX}{c:List TD}(f:rs.length=c.length)(k:aS):(aY (aL [] (bI wd rs c rs.length)) k).isSome=kH wd rs k:=by
 cases h:kH wd rs k with
 | true=>
  obtain⟨r,g,e⟩:=any_eq_true.mp h;rw[Bool.and_eq_true]at e;refine yE0 (tT f g (U3 e.1)) (yE3 λj l a=>yA2 λb _=>?_);rw[U3 e.2]at b;rw[b];rfl
 | false=>
  cases b:aY (aL [] (bI wd rs c rs.length)) k with
  | none=>rfl
  | some v=>
   exfalso;rcases mZ b with d|d
   ·refine yE0 (tR d) (yE3 λj r a=>yA6 λ_ g1 g2 g3 i m=>?_);have:=List.any_eq_false.mp h r (jJ g1);rw[UF g3,UF i.symm]at this;exact this rfl
   ·cases d
def kI(rs:List RX)(n:Nat):Bool:=kH "asked" rs (Sum.inl (n:Int))&&!kH "done" rs (Sum.inl (n:Int))
def mK(rs:List RX):RX->List O4|.came n _ p k x=>if kI rs n=true then [(n,p,k,x)] else []|_=>[]
def lG(rs:List RX):List O4:=rs.flatMap (mK rs)
def wE{rs:List RX}(h:RX.Whole rs):(bS rs).Pairwise (·<·):=by
 induction h with
 | nil=>exact .nil
 | @snoc rs r l d c=>
  have e:bS (rs++[r])=bS rs++bS [r]:=by unfold bS;rw[CG]
  rw[e];cases r with
  | came n t p k x=>
   refine List.pairwise_append.mpr ⟨c,List.pairwise_singleton _ _,λa f b g=>?_⟩;have i:b=n:=Zms.mp g;subst i;obtain⟨r,j,e⟩:=mem_filterMap.mp f;cases r<;>cases e;exact d.1 _ _ _ _ _ j
  | _=>simpa [bS]using c
theorem qA{rs:List RX}{b:List TD}(d:rs.length=b.length):∀i,i<=rs.length->(bI "came" rs b i).map (·.1)=(bS (rs.take i)).map λn:Nat=>(Sum.inl (n:Int):aS)
 | 0,_=>rfl
 | i+1,g=>by
  obtain⟨r,c⟩:∃r,rs[i]?=some r:=⟨rs[i],fX Zo⟩;obtain⟨a,f⟩:∃a,b[i]?=some a:=⟨b[i],fX Zo⟩;have e:bS (rs.take i++[r])=bS (rs.take i)++bS [r]:=by unfold bS;rw[CG]
  rw[jE c f,aM c,e,dN,dN,qA d i Zo]
  congr 1
  unfold kE;by_cases h:dR r="came"
  ·rw[O8 h];refine yE0 (rN h) (yE5 λn t p k x ζ=>?_);subst ζ;rfl
  ·rw[NE h];cases r<;>first|rfl|exact IN rfl h
def tV{rs:List RX}{c:List TD}(d:RX.Whole rs)(f:rs.length=c.length):aL [] (bI "came" rs c rs.length)=bI "came" rs c rs.length:=by
 rw[pK _ _ ?_ (λ_ _=>rfl)]
 ·rfl
 ·rw[qA f _ (bA _),lJ (bA _)];show List.Pairwise (·≠·) _;rw[pairwise_map];exact(wE d).imp λ{a b} h e=>by
   have:(Sum.inl (a:Int):aS)=Sum.inl (b:Int):=e;injection this with this
   omega
def bR(rs:List RX):List Nat:=rs.filterMap λr=>match r with|.next n _=>some n|_=>none
def cQ(rs:List RX):List Nat:=rs.filterMap λr=>match r with|.next _ t=>some t|.came _ t _ _ _=>some t|.done _ t _=>some t|_=>none
def nI(a:List Nat):List V:=a.map λn:Nat=>V.int (n:Int)
def dA(rs:List RX):List Int:=(1::(bR rs).map λn:Nat=>(n:Int))++(bS rs).map λn:Nat=>(n:Int)+1
def turnL(rs:List RX):List Int:=0::(cQ rs).map λn:Nat=>(n:Int)
def IsMax(l:List Int)(m:Int):Prop:=m∈l/\∀a∈l,a<=m
def IsMax.uniq{l:List Int}{m m':Int}(h:IsMax l m)(h':IsMax l m'):m=m':=by
 have:=h.2 _ h'.1;have:=h'.2 _ h.1;omega
def qU(rs:List RX)(r:RX):bR (rs++[r])=bR rs++bR [r]:=by unfold bR;rw[CG]
def qV(rs:List RX)(r:RX):cQ (rs++[r])=cQ rs++cQ [r]:=by unfold cQ;rw[CG]
def Pf{a:Type}(f:RX->Option a)(rs:List RX)(i:Nat):((rs.take i).filterMap f).length<=i:=fT (List.length_filterMap_le _ _) (by rw[oX];omega)
def Il{p:St}{H:Hp}{ra:TD}{rs:List RX}{f:List TD}{Q:List V->Hp->Prop}(RR:RxsAt H ra rs f)(q:rs.length<=400)(h:Q (nI (bR rs)) H) :
  qO [none] (aJ 0) (mT (uX mEq (uX (xF K) (vr 0) (tC (.int 0))) (tC (.str "next")))) (uX (xF K) (vr 0) (tC (.int 1))) p (Vp K ra) H Q:=by
 have le:=RR.len;refine bF (bE K ra (f.map V.ref)) (by rw[aR];omega) (λi c d=>d=H/\c=nI (bR (rs.take i))) (λi c d ⟨b,e⟩=>⟨by rw[b];exact QYY RR.lst,by rw[e];unfold nI bR;rw[aR];exact Pf _ _ _⟩) ⟨rfl,rfl⟩ (?_) (?_)
 ·rintro i x c d k ⟨b,e⟩;subst b;refine yE0 (RR.get k) (yE2 λa r=>yA4 λζ s l m=>?_);subst ζ;refine yE0 (qT m) (yE1 λu=>yA4 λg x0 o v=>?_);have j:=aM l;refine⟨_,QYZ g,_,x0,?_⟩;show if decide (dR r="next")=true then _ else _
  refine dF (λh=>?_) (λh=>?_)
  ·obtain⟨n,t,rfl⟩:=Ur (U3 h);refine⟨_,QYZ g,_,o,rfl,?_⟩;rw[j,qU,e];unfold nI;rw[dN];rfl
  ·refine⟨rfl,?_⟩;rw[j,qU,e];have:bR [r]=[]:=by
    cases r with
    | next n t=>exact IN rfl (UV h)
    | _=>rfl
   rw[this,append_nil]
 ·rintro c d ⟨b,e⟩;subst b;rw[aR,<- le,lJ (bA _)]at e;rw[e];exact h
def aAA(r:RX):Rf (.str (dR r)) [.str "next",.str "came",.str "done"]=true↔∃t,cQ [r]=[t]/\aAw r=.int ((t:Nat):Int):=by
 cases r with
 | next n t=>exact⟨λ_=>⟨t,rfl,rfl⟩,λ_=>rfl⟩
 | came n t p k x=>exact⟨λ_=>⟨t,rfl,rfl⟩,λ_=>rfl⟩
 | done n t y=>exact⟨λ_=>⟨t,rfl,rfl⟩,λ_=>rfl⟩
 | has z m=>exact⟨λz=>IN (show false=true from z) V4,λ⟨t,h,_⟩=>nomatch h⟩
 | kept n t p k x y=>exact⟨λz=>IN (show false=true from z) V4,λ⟨t,h,_⟩=>nomatch h⟩
 | asked n=>exact⟨λz=>IN (show false=true from z) V4,λ⟨t,h,_⟩=>nomatch h⟩
def Im{B:St}{H:Hp}{ra:TD}{rs:List RX}{f:List TD}{Q:List V->Hp->Prop}(RR:RxsAt H ra rs f)(C:rs.length<=400)(h:∀H',Same H H'->Q (nI (cQ rs)) H') :
  qO [none] (aJ 0) (mT (uX (Yl K false) (uX (xF K) (vr 0) (tC (.int 0))) (Mo (qM (tC (.str "next")) (qM (tC (.str "came")) (qM (tC (.str "done")) yP)))))) (uX (xF K) (vr 0) (tC (.int 2))) B (Vp K ra) H Q:=by
 have le:=RR.len;refine bF (bE K ra (f.map V.ref)) (by rw[aR];omega) (λi c H'=>Same H H'/\c=nI (cQ (rs.take i))) (λi c H' ⟨b,e⟩=>⟨QYY (b _ _ RR.lst),by rw[e];unfold nI cQ;rw[aR];exact Pf _ _ _⟩) ⟨(λ_ _ e=>e),rfl⟩ (?_) (?_)
 ·rintro i x c H' o ⟨b,e⟩;refine yE0 ((RR.same b).get o) (yE2 λa r=>yA4 λζ D q s=>?_);subst ζ;refine yE0 (qT s) (yE1 λE=>yA4 λg x0 F u=>?_);have j:=aM q;refine⟨_,QYZ g,_,x0,bM rfl,λv G d g2=>⟨v,_,rfl,.inr (QYZ g2),rfl,rfl,?_⟩⟩;show if Rf (.str (dR r)) [.str "next",.str "came",.str "done"]=true then _ else _
  refine dF (λh=>?_) (λh=>?_)
  ·obtain⟨t,A,l⟩:=(aAA r).mp h;refine⟨_,QYZ (d _ _ g),_,u (by rw[l];exact λz=>nomatch z),b.trans d,?_⟩;rw[j,qV,e,A,l];unfold nI;rw[dN];rfl
  ·refine⟨b.trans d,?_⟩;rw[j,qV,e];have:cQ [r]=[]:=by
    cases r with
    | has z m=>rfl
    | kept n t p k x y=>rfl
    | asked n=>rfl
    | _=>exact IN (show true=false from h) Zd
   rw[this,append_nil]
 ·rintro c H' ⟨b,e⟩;rw[aR,<- le,lJ (bA _)]at e;rw[e];exact h H' b
def Io{q:St}{H:Hp}{k:TD}{o:Obj}{kvs:List (aS×V)}{b:List Nat}{Q:List V->Hp->Prop}(g:H k=some (.frz o (.dK kvs)))(m:kvs.map (·.1)=b.map λn:Nat=>(Sum.inl (n:Int):aS))(r:b.length<=400)(h:Q (b.map λn:Nat=>V.int ((n:Int)+1)) H) :
  qO [none] (aJ 0) Li (uX (Br λi j=>.int (i+j)) (vr 0) (tC (.int 1))) q (Itd k o kvs) H Q:=by
 have lk:kvs.length=b.length:=by have:=congrArg length m;simpa using this
 refine bF (Ei k o kvs) (by rw[aR];omega) (λi d f=>f=H/\d=(b.take i).map λn:Nat=>V.int ((n:Int)+1)) (λi d f ⟨c,e⟩=>⟨by rw[c];exact g,by rw[e,aR,oX];omega⟩) ⟨rfl,rfl⟩ (?_) (?_)
 ·rintro i x d f p ⟨c,e⟩;subst c;have a:(kvs.map (·.1))[i]?.map kV=some x:=by rw[dW]at p ⊢;rw[<- p];cases kvs[i]? <;> rfl
  rw[m,dW]at a;cases l:b[i]? with
  | none=>rw[l]at a;cases a
  | some n=>
   rw[l]at a;injection a with a
   subst a;refine⟨rfl,?_⟩;rw[aM l,dN,e];rfl
 ·rintro d f ⟨c,e⟩;subst c;rw[aR,lk,lJ (bA _)]at e;rw[e];exact h
def wF{H:Hp}{a:TD}{u:HO}{o:Obj}(g:H a=some u){H2:Hp}(s:Same (aH H a (.frz o u)) H2):Same H (aH H2 a u):=λc x e=>by
 by_cases z:c=a
 ·subst z;rw[g]at e;cases e;exact aA
 ·rw[aB z];exact s _ _ (by rw[aB z];exact e)
def Same.keep{H H2:Hp}{a:TD}{u:HO}(g:H a=some u)(o:Obj):∀c x,H c=some x->c≠a->(aH H a (.frz o u)) c=some x:=λc x e n=>by rw[aB n];exact e
theorem Ai{H:Hp}{ra:TD}{rs:List RX}{b:List TD}(RR:RxsAt H ra rs b):∀i,i<=rs.length->Paired (λ(r:RX) (d:aS×V)=>hW r=true/\d.1=jD r/\r∈rs) ((rs.take i).filter hW) (bI "came" rs b i)
 | 0,_=>.nil
 | i+1,f=>by
  have le:=RR.len;obtain⟨r,c⟩:∃r,rs[i]?=some r:=⟨rs[i],fX Zo⟩;obtain⟨a,e⟩:∃a,b[i]?=some a:=⟨b[i],fX Zo⟩;rw[jE c e,aM c,filter_append];refine Paired.append' (Ai RR i Zo) ?_;unfold kE;by_cases h:dR r="came"
  ·rw[O8 h];refine yE0 (rN h) (yE5 λn t p k x ζ=>?_);subst ζ;exact .cons ⟨rfl,rfl,jJ c⟩ .nil
  ·rw[NE h];have:hW r=false:=by cases r<;>first|rfl|exact IN rfl h
   rw[filter_cons,this];exact .nil
theorem qW(a:List RX):∀rs:List RX,rs.flatMap (mK a)=(rs.filter hW).flatMap (mK a)
 | []=>rfl
 | r::rs=>by
  rw[AT,qW a rs,filter_cons];cases r<;>rfl
def aAB(H:Hp)(e:O4)(a:TD):Prop:=∃(t:Nat)(b:TD),H a=some (.tup [.str "came",.int (e.1:Int),.int (t:Int),.str e.2.1,.str e.2.2.1,.ref b])/\H b=some (.tup e.2.2.2.vs)
def Pg(a rs:List RX):(rs.flatMap (mK a)).length<=rs.length:=by
 induction rs with
 | nil=>exact bA _
 | cons r rs b=>
  have:(mK a r).length<=1:=by
   cases r with
   | came n t p k x=>
    show(if kI a n=true then [(n,p,k,x)] else []).length<=1;split
    ·exact bA _
    ·exact zero_le _
   | _=>exact zero_le _
  rw[AT,uC,yK];omega
theorem Aj{f:Type}{lt:f->f->Prop}(c:∀a,¬ lt a a)(g:∀a b,lt a b->¬ lt b a):∀ {xs ys:List f},xs.Pairwise lt->ys.Pairwise lt->(∀a,a∈xs↔a∈ys)->xs=ys
 | [],[],_,_,_=>rfl
 | [],y::ys,_,_,h=>nomatch (h y).mpr fY
 | x::xs,[],_,_,h=>nomatch (h x).mp fY
 | x::xs,y::ys,k,l,h=>by
  obtain⟨i,n⟩:=pairwise_cons.mp k;obtain⟨j,o⟩:=pairwise_cons.mp l;have e:x=y:=by
   rcases mem_cons.mp ((h x).mp fY) with z|z
   ·exact z
   ·rcases mem_cons.mp ((h y).mpr fY) with d|d
    ·exact d.symm
    ·exact IN (j _ z) (g _ _ (i _ d))
  subst e;rw[Aj c g n o λa=>⟨λm=>?_,λm=>?_⟩]
  ·rcases mem_cons.mp ((h a).mp (fR _ m)) with z|z
   ·subst z;exact IN (i _ m) (c _)
   ·exact z
  ·rcases mem_cons.mp ((h a).mpr (fR _ m)) with z|z
   ·subst z;exact IN (j _ m) (c _)
   ·exact z
structure Uu(f:Str->Nat)(hs:List Str):Prop where
 asc:hs.Pairwise λa b=>a.cps.toList<b.cps.toList
 iff:∀z,z∈hs↔0<f z
def Ip{c:List Str}(hs:c.Pairwise λa b=>a.cps.toList<=b.cps.toList)(e:c.Nodup):c.Pairwise λa b=>a.cps.toList<b.cps.toList:=
 (hs.and e).imp λ{y z} ⟨f,g⟩=>by
  rcases List.le_iff_lt_or_eq.mp f with d|d
  ·exact d
  ·exact IN (by rw[sP y,sP z,d]) g
def Iq(prs:List (Str×Int)):List Str:=(zE (prs.map (·.1))).filter λn=>decide (0<cA prs n)
def Ph(prs:List (Str×Int)):(Iq prs).length<=prs.length:=fT (length_filter_le _ _) (by rw[xJ,aR];exact bA _)
def Pi{prs:List (Str×Int)}{z:Str}(h:z∉prs.map (·.1)):cA prs z=0:=by
 unfold cA;cases e:prs.lookup z with
 | none=>rfl
 | some a=>
  exfalso;have:(z,a)∈prs:=by
   clear h;induction prs with
   | nil=>cases e
   | cons q prs c=>
    rw[lookup_cons]at e;by_cases b:z==q.1
    ·rw[b]at e;cases e;rw[eq_of_beq b];exact fY
    ·rw[Bool.eq_false_iff.mpr b]at e;exact fR _ (c e)
  exact h (Zmm.mpr ⟨_,this,rfl⟩)
def Uv{prs:List (Str×Int)}{f:Str->Nat}(b:(prs.map (·.1)).Nodup)(a:∀z,cA prs z=(f z:Int)):Uu f (Iq prs)/\Bx prs=(Iq prs).map λz=>(z,(f z:Int)):=by
 refine⟨⟨List.Pairwise.filter _ (Ip (sR _) ((kX _).nodup_iff.mpr b)),λz=>?_⟩,?_⟩
 ·unfold Iq;rw[mem_filter,(kX _).mem_iff,decide_eq_true_iff,a];refine⟨λh=>by omega,λh=>⟨?_,Zo⟩⟩;by_cases c:z∈prs.map (·.1)
  ·exact c
  ·have:=Pi c;rw[a]at this;omega
 ·unfold Bx Iq;exact map_congr_left λz _=>by rw[a]
structure aB3(H0 H:Hp)(rs:List RX)(f:Str->Nat)(tp:TD)(kl ol:TD):Prop where
 ex:∃(bl:TD)(m1 m2:Int)(ks os:List TD)(zs:List Z)(hs:List Str),H tp=some (.tup [.ref bl,.ref kl,.ref ol,.int m1,.int m2])/\H kl=some (.lst (ks.map V.ref))/\Paired (At6 H) (bT rs) ks/\H ol=some (.lst (os.map V.ref))/\Paired (AtO H) (lG rs) os/\IsMax (dA rs) m1/\IsMax (turnL rs) m2/\H bl=some (.lst (cI zs))/\ZAt H zs/\Uu f hs/\zs.map (·.2)=(hs.map λz=>(z,(f z:Int)))/\hs.length<=43
 fk:H0 kl=none
 fo:H0 ol=none
 ne:kl≠ol
def rQ:Sp:=λvs H Q _=>∃(c:TD)(a:List RX)(d:List TD)(F:Nat->Str->Nat)(f:Str->Nat)(nm:List Str),vs=[.ref c]/\RxsAt H c a d/\a.length<=400/\Pb a nm/\RX.Whole a/\(∀r∈a,Oz r)/\RepF a F f ∧
 ∀(tp e g:TD)(b:Hp),aB3 H b a f tp e g->Same H b->Q (.ref tp) b
def Pj{C:TD}(T:Txt K mg)(d9:Callee P w K mg base 1 "by_numbers" QZy yC)(qm:Callee P w K mg base 4 "risen_book" QZT (Ex C))(vy:cC P w K mg base 1 C "rows" AC (zI C))(qo:Callee P w K mg base 1 "risen_kept" QZT Ey)(D:DefAt K mg "risen" gG zt):Callee P w K mg base 5 "risen" zt rQ:=by
 refine D.gg lB (λa3 cdv a7 outer s a0 vs a8 a9 B a4=>?_)
 ·revert a4;refine yE6 λv b c F a3 nm=>yA8 λζ I hl hct O hok hF a1=>?_;subst ζ;have l8:=dE B;have le:=I.len;refine⟨_,(lq (pv (i:=1) lB.nd (px d9 B rfl (lc (f8 0) (lc oj li)))) (lq (pv (i:=2) lB.nd (px d9 B rfl (lc (f8 0) (lc oj li)))) (lq (pv (i:=3) lB.nd (px d9 B rfl (lc (f8 0) (lc oj li)))) (lq (R.jw (R.dm (i:=4) lB.nd rfl (Or.inl rfl) rfl (js:=[none,some 1,some 2,some 3]) (N:=["number","done","asked","came"]) (CompScope.by (aD gG) QZH rfl rfl Zk) (aV rfl) (R.wD (f8 3)) (λC Y Z Q=>⟨(pw (i:=0) (show(["number","done","asked","came"]:List Str).Nodup by decide +kernel)),(wy (wl (R.dz (pi (R.fg l8) (f8 0) (f8 2)) (R.eg (pi (R.fh l8) (f8 0) (f8 1)))))),(vn l8 (f8 3) (f8 0))⟩) rfl)) (lu (oe (o0 (lc (vg vy B (px qm B rfl (lc (f8 0) (lc (f8 3) li)))) (lc (px qo B rfl (lc (f8 0) (lc (f8 3) li))) (lc (vm rfl (js:=[none]) (N:=QZZ) (CompScope.by (aD gG) QZH rfl rfl Zk) (aV rfl) (ve (K:=K) (f8 4)) (λC Y Z Q=>⟨(pw (i:=0) (show(QZZ:List Str).Nodup by decide +kernel)),xf,(oh yo (vc wn (f8 0) (ux mo) (ux mo)) (vc wn (f8 0) (ux mo) vj))⟩)) (lc (uy (R.fe (K:=K) rfl) rfl T.b_max sN (lc (oh xh (oh xh (vf (lc mo li)) (vm rfl (js:=[none]) (N:=QZZ) (CompScope.by (aD gG) QZH rfl rfl Zk) (aV rfl) (ve (K:=K) (f8 0)) (λC Y Z Q=>⟨(pw (i:=0) (show(QZZ:List Str).Nodup by decide +kernel)),(wy (pi vb (oi K 0) oj)),(oi K 0)⟩))) (R.jy (vm rfl (js:=[none]) (N:=["number"]) (CompScope.by (aD gG) QZH rfl rfl Zk) (aV rfl) (R.wD (f8 3)) (λC Y Z Q=>⟨(pw (i:=0) (show(["number"]:List Str).Nodup by decide +kernel)),xf,(oh qd (f8 0) mo)⟩)))) li)) (lc (uy (R.fe (K:=K) rfl) rfl T.b_max sN (lc (oh xh (vf (lc mo li)) (vm rfl (js:=[none]) (N:=QZZ) (CompScope.by (aD gG) QZH rfl rfl Zk) (aV rfl) (ve (K:=K) (f8 0)) (λC Y Z Q=>⟨(pw (i:=0) (show(QZZ:List Str).Nodup by decide +kernel)),(wy (pi (R.fu (K:=K)) (oi K 0) (o0 (lc oj (lc oj (lc oj li)))))),(oi K 0)⟩))) li)) li)))))))))))),?_⟩;refine⟨v,"done",b,c,rfl,I,Zo,λdn H1 fdn YG s1=>?_⟩;refine⟨v,"asked",b,c,rfl,I.same s1,Zo,λak H2 fak JA S=>?_⟩;refine⟨v,"came",b,c,rfl,(I.same s1).same S,Zo,λd l OR gcd s3=>?_⟩;have sH:Same a0 l:=(s1.trans S).trans s3;have R3:=I.same sH;have SJ:=s3 _ _ (S _ _ YG);have LS:=s3 _ _ JA;have ndc:dn≠d:=aE (S _ _ YG) OR;have nac:ak≠d:=aE JA OR;have nrc:v≠d:=aE ((I.same s1).same S).lst OR;dsimp only [aJ];refine cT (λσ' f=>∃(sl:TD)(h:List TD),σ'=[some (.ref v),some (.ref dn),some (.ref ak),some (.ref d),some (.ref sl)]/\f sl=some (.lst (h.map V.ref))/\Paired (aAB f) (lG b) h/\Same l f) (λnx l7=>?_) ?_
  ·refine⟨_,gcd,λo=>?_⟩;have em:=tV O le;have np:=Ai R3 b.length (bA _);rw[lJ (bA _)]at np;have ce':=tQ "came" b c b.length;have kF:=Same.keep (H2:=l) gcd o;have y:(aH l d (.frz o (.dK (aL [] (bI "came" b c b.length))))) d=some (.frz o (.dK (aL [] (bI "came" b c b.length)))):=aA;have OS:TK l (aH l d (.frz o (.dK (aL [] (bI "came" b c b.length))))):=λa xs e=>kF _ _ e (λz=>by rw[z,gcd]at e;cases e)
   have lpp:(b.filter hW).length=(bI "came" b c b.length).length:=np.length;refine bF (Ei d o (aL [] (bI "came" b c b.length))) (by rw[aR,em];omega) (λj g f=>f=aH l d (.frz o (.dK (aL [] (bI "came" b c b.length))))/\∃h:List TD,g=h.map V.ref/\Paired (aAB f) (((b.filter hW).take j).flatMap (mK b)) h/\h.length<=j) (λj g f ⟨U,h,e,_,E⟩=>⟨by rw[U];exact y,by rw[e,aR];exact E⟩) ⟨rfl,[],rfl,.nil,bA _⟩ (?_) (?_)
   ·refine λj x g f m=>yA2 λU=>yE1 λh=>yA3 λe u E=>?_;rw[dW,em]at m;cases ou:(bI "came" b c b.length)[j]? with
    | none=>rw[ou]at m;cases m
    | some kv=>
     rw[ou]at m;injection m with m
     subst m;obtain⟨hj,ej⟩:=Zgs.mp ou;refine yE0 (Paired.get' (j:=j) np hj) (yE1 λOT=>yA3 λYH CY YI=>?_);rw[ej]at CY;have YJ:(b.filter hW)[j]?=some (b.filter hW)[j]:=fX OT;generalize (b.filter hW)[j]=a5 at YH CY YI YJ;cases a5 with
     | came n t p k x=>
      dsimp only;rw[CY];have lx:=aM YJ;subst U;refine yE0 (rP O R3 YI) (yE3 λca cb ct=>yA3 λhv GX GY=>?_);have LU:DGet (aH l d (.frz o (.dK (aL [] (bI "came" b c b.length))))) ak (.int (n:Int)) (aY (aL [] (bI "asked" b c b.length)) (Sum.inl (n:Int))):=DGet.k (k:=Sum.inl (n:Int)) (kF _ _ LS nac);have dgd:DGet (aH l d (.frz o (.dK (aL [] (bI "came" b c b.length))))) dn (.int (n:Int)) (aY (aL [] (bI "done" b c b.length)) (Sum.inl (n:Int))):=DGet.k (k:=Sum.inl (n:Int)) (kF _ _ SJ ndc);have dgc:DGet (aH l d (.frz o (.dK (aL [] (bI "came" b c b.length))))) d (.int (n:Int)) (some (.ref ca)):=.inl ⟨_,Sum.inl (n:Int),.inr ⟨o,y⟩,rfl,hv.symm⟩;have no:kI b n=false->(aH l d (.frz o (.dK (aL [] (bI "came" b c b.length))))=aH l d (.frz o (.dK (aL [] (bI "came" b c b.length))))/\∃h:List TD,g=h.map V.ref/\Paired (aAB (aH l d (.frz o (.dK (aL [] (bI "came" b c b.length)))))) (((b.filter hW).take (j+1)).flatMap (mK b)) h/\h.length<=j+1):=λDB=>by
       refine⟨rfl,h,e,?_,Zo⟩;rw[lx,cH];have:mK b (.came n t p k x)=[]:=by show(if kI b n=true then _ else _)=_;rw[NE (by rw[DB];exact V4)]
       rw[this,append_nil];exact u
      refine⟨_,LU,?_⟩;show if (aY (aL [] (bI "asked" b c b.length)) (Sum.inl (n:Int))).isSome=true then _ else _
      rw[pZ le];refine dF (λJ=>?_) (λJ=>no (by unfold kI;rw[J];rfl));refine⟨_,dgd,?_⟩;show if (!(aY (aL [] (bI "done" b c b.length)) (Sum.inl (n:Int))).isSome)=true then _ else _
      rw[pZ le];refine dF (λW=>?_) (λW=>no (by unfold kI;rw[J,W];rfl));refine⟨d,_,rfl,dgc,rfl,h++[ca],by rw[e,dN];rfl,?_,by simp;omega⟩;rw[lx,cH];have:mK b (.came n t p k x)=[(n,p,k,x)]:=by show(if kI b n=true then _ else _)=_;rw[O8 (by unfold kI;rw[J,W];rfl)]
      rw[this];exact Paired.snoc u ⟨ct,cb,OS _ _ GX,OS _ _ GY⟩
     | _=>cases YH
   ·refine λg f=>yA2 λU=>yE1 λh=>yA3 λe u E=>?_;intro sl JC;subst U;rw[lJ (show(b.filter hW).length<=((aL [] (bI "came" b c b.length)).map λa1=>kV a1.1).length by rw[aR,em];omega),<- qW]at u;have ncl:d≠sl:=aE y JC;have G:=wF gcd (aG (o:=.lst g) JC);refine⟨d,_,o,⟨_,gcd⟩,cF y JC,?_⟩;refine l7 _ _ ⟨sl,h,rfl,by rw[aB ncl.symm,aA,e],Paired.map' (λ_ _ z=>?_) u,G⟩;obtain⟨t,a2,J,W⟩:=z;have back:∀ {a:TD}{xs:List V},(aH l d (.frz o (.dK (aL [] (bI "came" b c b.length))))) a=some (.tup xs)->(aH (aH (aH l d (.frz o (.dK (aL [] (bI "came" b c b.length))))) sl (.lst g)) d (.dK (aL [] (bI "came" b c b.length)))) a=some (.tup xs):=λ{a xs} e=>by
     have:a≠d:=λz=>by rw[z,y]at e;cases e
     rw[aB this];exact cF e JC
    exact⟨t,a2,back J,back W⟩
  refine λσ' H4=>yE2 λsl h=>yA4 λζ OU ps G=>?_;subst ζ;have R4:=R3.same G;have AW:=G _ _ gcd;refine⟨v,d,b,c,F,a3,nm,rfl,R4,hl,hct,O,hok,hF,AW,λp dx a6 prs H5 Q fd gp gd nd am ln s5=>?_⟩;refine⟨dx,_,gp,pL _ Zk,p,prs,rfl,⟨⟨dx,a6,gp,gd⟩,nd⟩,uD ln Zd,λbl zs H6 s6 fb gb hz ez=>?_⟩;have OV:=s5.trans s6;refine⟨v,d,b,c,rfl,R4.same OV,hl,O,OV _ _ AW,λkl ks H7 fkl CP pk s7=>?_⟩;have X:=OV.trans s7;have LW:=X _ _ OU;have LX:=ps.length;have lop:=Pg b b;refine⟨sl,rfl,⟨_,QYY LW⟩,?_⟩;refine bF (bE K sl (h.map V.ref)) (by rw[aR];unfold lG at LX;omega) (λi g f=>∃os:List TD,g=os.map V.ref/\Paired (AtO f) ((lG b).take i) os/\Same H7 f/\os.length<=i) (λi g f ⟨os,e,_,q,E⟩=>⟨QYY (q _ _ LW),by rw[e,aR];exact E⟩) ⟨[],rfl,.nil,(λ_ _ e=>e),bA _⟩ (?_) (?_)
  ·refine λi x g f m=>yE1 λos=>yA4 λe u q E=>?_;rw[dW]at m;cases SK:h[i]? with
   | none=>rw[SK]at m;cases m
   | some a=>
    rw[SK]at m;cases m;obtain⟨hi,ei⟩:=Zgs.mp SK;obtain⟨U6,pa⟩:=Paired.get' (j:=i) ps hi;rw[ei]at pa;have JD:(lG b)[i]?=some (lG b)[i]:=fX U6;generalize (lG b)[i]=eo at pa JD;revert pa;refine yE2 λt a2=>yA2 λg1 g2=>?_;have YK:=q _ _ (X _ _ g1);refine⟨_,YK,λt1 Ha L ga=>⟨_,L _ _ YK,λt2 Hb M zf=>⟨_,_,M _ _ ga,zf,FS rfl,λt3 Hc sc gc=>?_⟩⟩⟩;have AF:=(L.trans M).trans sc;refine⟨os++[t3],by rw[e,dN];rfl,?_,q.trans AF,by simp;omega⟩;rw[aM JD];exact Paired.snoc (Paired.map' (λ_ _ z=>z.tk (Same.tk AF)) u) ⟨a2,gc,AF _ _ (q _ _ (X _ _ g2))⟩
  ·refine λg f=>yE1 λos=>yA4 λe u q E=>?_;intro r A;rw[aR,<- LX,lJ (bA _)]at u;have OW:=X.trans (q.trans (aG (o:=.lst g) A));have YL:Paired (At6 (aH f r (.lst g))) (bT b) ks:=Paired.map' (λ_ _ z=>z.tk (Same.tk (q.trans (aG A)))) pk;have YM:Paired (AtO (aH f r (.lst g))) (lG b) os:=Paired.map' (λ_ _ z=>z.tk (Same.tk (aG A))) u;have LY:(aH f r (.lst g)) bl=some (.lst (cI zs)):=cF (q _ _ (s7 _ _ gb)) A;have YN:ZAt (aH f r (.lst g)) zs:=λz xj=>cF (q _ _ (s7 _ _ (hz z xj))) A
   have JE:(aH f r (.lst g)) r=some (.lst (os.map V.ref)):=by rw[aA,e]
   have LZ:(aH f r (.lst g)) kl=some (.lst (ks.map V.ref)):=cF (q _ _ CP) A;have nko:kl≠r:=aE (q _ _ CP) A;have fol:a0 r=none:=sH.free (G.free ((X.trans q).free A));have SM:a0 kl=none:=sH.free (G.free (OV.free fkl));generalize aH f r (.lst g)=H8 at OW YL YM JE LZ LY YN;have R8:=R4.same OW;have SN:=OW _ _ AW;refine⟨sM rfl,λp1 DR=>?_⟩;have s9:=aG (o:=.lst [.int 1]) DR;have g1:(aH H8 p1 (.lst [.int 1])) p1=some (.lst [.int 1]):=aA;generalize aH H8 p1 (.lst [.int 1])=H9 at s9 g1;refine⟨v,rfl,⟨_,QYY (R8.same s9).lst⟩,Il (R8.same s9) Zo λp2 mj=>?_⟩;have nle:(bR b).length<=b.length:=List.length_filterMap_le _ _;have cle:(bS b).length<=b.length:=List.length_filterMap_le _ _;refine⟨_,_,cF g1 mj,aA,by unfold nI;rw[aR];exact fJ (by simp;omega),λp3 DJ=>?_⟩;have L:=((s9.trans (aG (o:=.lst (nI (bR b))) mj)).trans (aG (o:=.lst ([.int 1]++nI (bR b))) DJ));have g3:(aH (aH H9 p2 (.lst (nI (bR b)))) p3 (.lst ([.int 1]++nI (bR b)))) p3=some (.lst (.int 1::nI (bR b))):=aA;generalize aH (aH H9 p2 (.lst (nI (bR b)))) p3 (.lst ([.int 1]++nI (bR b)))=Ha at L g3;have GZ:=L _ _ SN;refine⟨_,GZ,λo=>?_⟩;have hk:(aL [] (bI "came" b c b.length)).map (·.1)=(bS b).map λn:Nat=>(Sum.inl (n:Int):aS):=by
    rw[tV O le,qA le _ (bA _),lJ (bA _)]
   refine Io aA hk Zo λp4 JF=>?_;have y:(aH Ha d (.frz o (.dK (aL [] (bI "came" b c b.length))))) d=some (.frz o (.dK (aL [] (bI "came" b c b.length)))):=aA;have nc4:d≠p4:=aE y JF;refine⟨d,_,o,⟨_,GZ⟩,cF y JF,?_⟩;have M:=wF GZ (aG (o:=.lst ((bS b).map λn:Nat=>V.int ((n:Int)+1))) JF);have g4:(aH (aH (aH Ha d (.frz o (.dK (aL [] (bI "came" b c b.length))))) p4 (.lst ((bS b).map λn:Nat=>V.int ((n:Int)+1)))) d (.dK (aL [] (bI "came" b c b.length)))) p4=some (.lst ((bS b).map λn:Nat=>V.int ((n:Int)+1))):=by rw[aB nc4.symm];exact aA
   generalize aH (aH (aH Ha d (.frz o (.dK (aL [] (bI "came" b c b.length))))) p4 (.lst ((bS b).map λn:Nat=>V.int ((n:Int)+1)))) d (.dK (aL [] (bI "came" b c b.length)))=Hb at M g4;refine⟨_,_,M _ _ g3,g4,by unfold nI;rw[aR];exact fJ (by simp;omega),λp5 hp5=>?_⟩;refine⟨p5,dA b,rfl,QYY (by rw[aA];unfold dA nI;simp[dN,map_map]<;>rfl),by unfold dA;simp,λm1 AQ MB=>?_⟩;have sc:=((L.trans M).trans (aG (o:=.lst ((.int 1::nI (bR b))++(bS b).map λn:Nat=>V.int ((n:Int)+1))) hp5));generalize aH Hb p5 (.lst ((.int 1::nI (bR b))++(bS b).map λn:Nat=>V.int ((n:Int)+1)))=Hc at sc;refine⟨sM rfl,λp6 hp6=>?_⟩;have sd:=sc.trans (aG (o:=.lst [.int 0]) hp6);have g6:(aH Hc p6 (.lst [.int 0])) p6=some (.lst [.int 0]):=aA;generalize aH Hc p6 (.lst [.int 0])=Hd at sd g6;refine⟨v,rfl,⟨_,QYY (R8.same sd).lst⟩,Im (R8.same sd) Zo λHe se p7 YO=>?_⟩;have tle:(cQ b).length<=b.length:=List.length_filterMap_le _ _;refine⟨_,_,cF (se _ _ g6) YO,aA,by unfold nI;rw[aR];exact fJ (by simp;omega),λp8 hp8=>?_⟩;refine⟨p8,turnL b,rfl,QYY (by rw[aA];unfold turnL nI;simp[map_map]<;>rfl),by unfold turnL;simp,λm2 LF MC=>⟨bM rfl,λtp Hf sf gf=>?_⟩⟩;have H:=((sd.trans se).trans ((aG (o:=.lst (nI (cQ b))) YO).trans (aG (o:=.lst ([.int 0]++nI (cQ b))) hp8))).trans sf;obtain⟨pR,eR⟩:=Uv nd am;refine a1 tp kl r Hf ⟨⟨bl,m1,m2,ks,os,zs,Iq prs,gf,H _ _ LZ,Paired.map' (λ_ _ z=>z.tk (Same.tk H)) YL,H _ _ JE,Paired.map' (λ_ _ z=>z.tk (Same.tk H)) YM,⟨AQ,MB⟩,⟨LF,MC⟩,H _ _ LY,λz xj=>H _ _ (YN z xj),pR,ez.trans eR,fT (Ph prs) ln⟩,SM,fol,nko⟩ ((sH.trans G).trans (OW.trans H))
def aF(e:E6):Str×Str:=(e.2.2.1,e.2.2.2.1)
def qB(s:Str×Str):List aS:=[Sum.inr s.1,Sum.inr s.2]
def Pk{s t:Str×Str}(h:qB s=qB t):s=t:=by
 unfold qB at h;injection h with b a
 injection a with a _
 injection b with b
 injection a with a
 exact Prod.ext b a
def dL(l:List E6)(s:Str×Str):Option E6:=l.foldl (λo e=>if aF e=s then some e else o) none
def eZ(l:List E6)(e:E6)(s:Str×Str):dL (l++[e]) s=if aF e=s then some e else dL l s:=by unfold dL;rw[foldl_append];rfl
def eE{l:List E6}{s:Str×Str}{e:E6}(h:dL l s=some e):e∈l/\aF e=s:=by
 have:∀(l:List E6)(o:Option E6)(e:E6),l.foldl (λo e=>if aF e=s then some e else o) o=some e->o=some e∨(e∈l/\aF e=s):=by
  intro l;induction l with
  | nil=>exact λo e h=>.inl h
  | cons x l a=>
   intro o e h;rw[foldl_cons]at h;rcases a _ e h with h|⟨b,d⟩
   ·by_cases c:aF x=s
    ·rw[O8 c]at h;cases h;exact .inr ⟨fY,c⟩
    ·rw[NE c]at h;exact .inl h
   ·exact .inr ⟨fR _ b,d⟩
 rcases this l none e h with h|h
 ·cases h
 ·exact h
structure LastD(A:E6->TD->Prop)(l:List E6)(kvs:List (List aS×V)):Prop where
 nd:(kvs.map (·.1)).Nodup
 at_:∀k v,(k,v)∈kvs->∃e a,k=qB (aF e)/\v=.ref a/\A e a/\dL l (aF e)=some e
 all:∀s e,dL l s=some e->qB s∈kvs.map (·.1)
 len:kvs.length<=l.length
def LastD.nil(A:E6->TD->Prop):LastD A [] []:=⟨nodup_nil,(λ_ _ h=>nomatch h),(λ_ _ h=>nomatch h),bA _⟩
def LastD.mono{A b:E6->TD->Prop}{l:List E6}{kvs:List (List aS×V)}(h:LastD A l kvs)(m:∀e a,A e a->b e a):LastD b l kvs:=
 ⟨h.nd,λk v c=>let ⟨e,a,d,f,g,i⟩:=h.at_ k v c;⟨e,a,d,f,m _ _ g,i⟩,h.all,h.len⟩
def LastD.put{A:E6->TD->Prop}{l:List E6}{kvs:List (List aS×V)}(h:LastD A l kvs){e:E6}{a:TD}(i:A e a):LastD A (l++[e]) (bQ kvs (qB (aF e)) (.ref a)):=by
 refine⟨Eo h.nd,λk v b=>?_,λs d f=>?_,?_⟩
 ·rcases zM b with b|⟨b,j⟩
  ·cases b;exact⟨e,a,rfl,rfl,i,by rw[eZ,O8 rfl]⟩
  ·refine yE0 (h.at_ k v b) (yE2 λd m=>yA4 λg n o p=>?_);refine⟨d,m,g,n,o,?_⟩;rw[eZ,NE (λz=>j (by rw[g,z]))];exact p
 ·rw[vS];rw[eZ]at f;by_cases c:aF e=s
  ·exact .inl (by rw[c])
  ·rw[NE c]at f;exact .inr (h.all s d f)
 ·have:=dY kvs (qB (aF e)) (.ref a);have:=h.len;rw[uC,length_singleton];omega
def jH{a e:Type}{R:a->e->Prop}:∀ {xs:List a},(∀x∈xs,∃y,R x y)->∃ys,Paired R xs ys
 | [],_=>⟨[],.nil⟩
 | x::xs,h=>by
  obtain⟨y,c⟩:=h x fY;obtain⟨ys,b⟩:=jH λx d=>h x (fR _ d)
  exact⟨y::ys,.cons c b⟩
abbrev KvE(A:E6->TD->Prop)(l:List E6)(a:List aS×V)(q:E6×TD):Prop:=a.1=qB (aF q.1)/\a.2=.ref q.2/\A q.1 q.2/\dL l (aF q.1)=some q.1
def LastD.list{A:E6->TD->Prop}{l:List E6}{kvs:List (List aS×V)}(h:LastD A l kvs):∃es:List (E6×TD),Paired (KvE A l) kvs es/\(es.map λq=>aF q.1).Nodup/\∀e,e∈es.map (·.1)↔dL l (aF e)=some e:=by
 obtain⟨es,c⟩:=jH (R:=KvE A l) (xs:=kvs) λo g=>by
  obtain⟨e,a,p,n,v,x⟩:=h.at_ o.1 o.2 g;exact⟨(e,a),p,n,v,x⟩
 have y:=c.length;have r:kvs.map (·.1)=(es.map λq=>aF q.1).map qB:=by
  refine ext_getElem (by simp[y]) λi p n=>?_;have d:i<es.length:=by simpa using n
  obtain⟨t,f⟩:=Paired.get' (j:=i) c d;simp only [List.getElem_map];exact f.1
 refine⟨es,c,?_,λe=>⟨λz=>?_,λu=>?_⟩⟩
 ·have:=h.nd;rw[r]at this;exact List.Pairwise.of_map qB (λa b B e=>B (by rw[e])) this
 ·obtain⟨q,k,rfl⟩:=Zmm.mp z;obtain⟨i,d,rfl⟩:=getElem_of_mem k;obtain⟨t,f⟩:=Paired.get' (j:=i) c d;exact f.2.2.2
 ·have g:=h.all _ _ u;rw[r]at g;obtain⟨s,C,D⟩:=Zmm.mp g;obtain⟨q,k,rfl⟩:=Zmm.mp C;obtain⟨i,d,rfl⟩:=getElem_of_mem k;obtain⟨t,f⟩:=Paired.get' (j:=i) c d;have E:=Pk D;have m:=f.2.2.2;rw[E,u]at m;injection m with m
  rw[m];exact Zmm.mpr ⟨_,k,rfl⟩
def Wn{H:Hp}{b:TD}{kvs:List (List aS×V)}{o:HO}(g:H b=some (.dT kvs)):TK H (aH H b o):=λa c e=>by rw[aB (aK e g nofun)];exact e
def paL{c d:Type}{R:c->d->Prop}{xs:List c}{ys:List d}(p:Paired R xs ys){x:c}(h:x∈xs):∃y∈ys,R x y:=by
 induction p with
 | nil=>cases h
 | @cons a b i bs r t f=>
  rcases mem_cons.mp h with rfl|h
  ·exact⟨_,fY,r⟩
  ·obtain⟨y,g,e⟩:=f h;exact⟨y,fR _ g,e⟩
def paR{d c:Type}{R:d->c->Prop}{xs:List d}{ys:List c}(p:Paired R xs ys){y:c}(h:y∈ys):∃x∈xs,R x y:=by
 induction p with
 | nil=>cases h
 | @cons a b i bs r t f=>
  rcases mem_cons.mp h with rfl|h
  ·exact⟨_,fY,r⟩
  ·obtain⟨y,g,e⟩:=f h;exact⟨y,fR _ g,e⟩
def paM{a b c:Type}{R:a->b->Prop}{f:a->c}{g:b->c}{xs:List a}{ys:List b}(p:Paired R xs ys)(h:∀x y,R x y->f x=g y):xs.map f=ys.map g:=by
 induction p with
 | nil=>rfl
 | cons r t d=>rw[map_cons,map_cons,d,h _ _ r]
def qC{c o:Type}{f:c->o}{l:List c}(h:(l.map f).Nodup){a b:c}(d:a∈l)(m:b∈l)(e:f a=f b):a=b:=by
 induction l with
 | nil=>cases d
 | cons x l n=>
  rw[map_cons,nodup_cons]at h;rcases mem_cons.mp d with g|i<;>rcases mem_cons.mp m with j|k
  ·rw[g,j]
  ·exact IN (Zmm.mpr ⟨b,k,by rw[<- e,g]⟩) h.1
  ·exact IN (Zmm.mpr ⟨a,i,by rw[e,j]⟩) h.1
  ·exact n h.2 i k
def Pl{A:Hp->E6->TD->Prop}{H:Hp}{fl:List (E6×TD)}{i c:List Tn}(j:(fl.map λq=>(q.1.1:Int)).Nodup)(k:Paired (λ(q:E6×TD) (z:Tn)=>z.1=(q.1.1:Int)/\z.2.1=q.2) fl i)(l:c.Perm i)(hs:c.Pairwise tln) :
  ∃out:List (E6×TD),out.Perm fl/\iP c=out.map (λq=>V.ref q.2)/\(out.map (·.1)).Pairwise λa b=>a.1<b.1:=by
 have y:=paM k (f:=λq=>((q.1.1:Int),q.2)) (g:=λz:Tn=>(z.1,z.2.1)) λq z h=>by rw[h.1,h.2]
 obtain⟨out,m⟩:=jH (R:=λ(z:Tn) (q:E6×TD)=>(z.1,z.2.1)=((q.1.1:Int),q.2)/\q∈fl) (xs:=c) λz n=>by
  obtain⟨q,d,h⟩:=paR k (l.mem_iff.mp n);exact⟨q,by rw[h.1,h.2],d⟩
 have r:=paM m (f:=λz:Tn=>(z.1,z.2.1)) (g:=λq=>((q.1.1:Int),q.2)) λz q h=>h.1
 have s:(c.map λz:Tn=>z.1).Nodup:=by
  refine((l.map _).nodup_iff).mpr ?_;have:i.map (λz:Tn=>z.1)=fl.map λq=>(q.1.1:Int):=by
   have:=congrArg (List.map Prod.fst) y;rw[map_map,map_map]at this;exact this.symm
  rw[this];exact j
 have t:c.map (λz:Tn=>z.1)=out.map λq=>(q.1.1:Int):=by
  have:=congrArg (List.map Prod.fst) r;rw[map_map,map_map]at this;exact this
 refine⟨out,?_,?_,?_⟩
 ·have x:fl.Nodup:=(pairwise_map.mp j).imp λ{a b} o e=>o (by rw[e])
  have B:out.Nodup:=(pairwise_map.mp (show(out.map λq=>(q.1.1:Int)).Nodup by rw[<- t];exact s)).imp λ{a b} o e=>o (by rw[e])
  refine(List.perm_ext_iff_of_nodup B x).mpr λq=>⟨λd=>?_,λd=>?_⟩
  ·obtain⟨z,_,h⟩:=paR m d;exact h.2
  ·obtain⟨z,n,h⟩:=paL k d;obtain⟨C,D,u⟩:=paL m (l.mem_iff.mpr n);have:(q.1.1:Int)=(C.1.1:Int):=by
    have:=congrArg Prod.fst u.1;exact h.1.symm.trans this
   rw[qC j d u.2 this];exact D
 ·have:=congrArg (List.map λp:Int×Addr=>V.ref p.2) r;rw[map_map,map_map]at this;exact this
 ·have E:(c.map λz:Tn=>z.1).Pairwise (·<=·):=pairwise_map.mpr hs;have v:=(E.and s).imp λ{a b}(h:a<=b/\a≠b)=>(by omega:a<b)
  rw[t,pairwise_map]at v;exact pairwise_map.mpr (v.imp λh=>by omega)
def Ez{H:Hp}{l:List E6}{es fl:List (E6×TD)}(m:∀q∈es,At6 H q.1 q.2/\q.1∈l)(v:(es.map λq=>aF q.1).Nodup)(y:(l.map (·.1)).Nodup)(hs:fl.Sublist es) :
  ∃d:List Tn,iP d=fl.map (λq=>V.ref q.2)/\NAt H d/\(d.map (·.1)).Nodup/\d.length<=es.length/\∀j,j.Perm d->j.Pairwise tln->∃out:List (E6×TD),out.Perm fl/\iP j=out.map (λq=>V.ref q.2)/\(out.map (·.1)).Pairwise (λa b=>a.1<b.1)/\Paired (At6 H) (out.map (·.1)) (out.map (·.2)):=by
 have n:∀q∈fl,At6 H q.1 q.2:=λq i=>(m q (hs.subset i)).1
 have B:(es.map λq=>(q.1.1:Int)).Nodup:=by
  refine pairwise_map.mpr ?_;refine(pairwise_map.mp v).imp_of_mem λ{a b} C D E e=>E ?_;rw[qC (f:=λx:E6=>x.1) y (m a C).2 (m b D).2 Zo]
 have r:(fl.map λq=>(q.1.1:Int)).Nodup:=List.Nodup.sublist (List.Sublist.map _ hs) B;obtain⟨d,k⟩:=jH (R:=λ(q:E6×TD) (z:Tn)=>(z.1=(q.1.1:Int)/\z.2.1=q.2)/\H z.2.1=some (.tup (.int z.1::z.2.2))) (xs:=fl) λq i=>by
  obtain⟨b,c,ge,_⟩:=n q i;exact⟨(_,_,_),⟨rfl,rfl⟩,ge⟩
 have s:=paM k (f:=λq=>((q.1.1:Int),q.2)) (g:=λz:Tn=>(z.1,z.2.1)) λq z h=>by rw[h.1.1,h.1.2]
 refine⟨d,?_,λz F=>?_,?_,?_,λj G I=>?_⟩
 ·have:=congrArg (List.map λp:Int×Addr=>V.ref p.2) s;rw[map_map,map_map]at this;exact this.symm
 ·obtain⟨N,_,h⟩:=paR k F;exact h.2
 ·have:=congrArg (List.map Prod.fst) s;rw[map_map,map_map]at this;rw[show d.map (·.1)=fl.map (λq=>(q.1.1:Int)) from this.symm];exact r
 ·rw[<- k.length];exact hs.length_le
 ·obtain⟨out,t,J,L⟩:=Pl (A:=At6) (H:=H) r (Paired.map' (λ_ _ h=>h.1) k) G I;refine⟨out,t,J,L,?_⟩;have:∀ {o:List (E6×TD)},(∀q∈o,q∈fl)->Paired (At6 H) (o.map (·.1)) (o.map (·.2)):=λ{o} u=>by
   induction o with
   | nil=>exact .nil
   | cons x o M=>exact .cons (n x (u x fY)) (M λq i=>u q (fR _ i))
  exact this λq i=>t.mem_iff.mp i
def Uw(l:List E6)(qs:List (Str×Str)):Prop:=l.length<=400/\qs.length<=43/\∀e∈l,aF e∈qs
def Cq{a:Type}[DecidableEq a]{xs:List a}:∀ {ys:List a},xs.Nodup->(∀x∈xs,x∈ys)->xs.length<=ys.length:=by
 induction xs with
 | nil=>exact λ_ _=>zero_le _
 | cons x xs f=>
  intro ys b h;have c:=h x fY;have g:=List.length_erase_of_mem c;have i:0<ys.length:=List.length_pos_of_mem c;have j:=f (ys:=ys.erase x) (nodup_cons.mp b).2 λy d=>(List.mem_erase_of_ne (show y≠x from λe=>(nodup_cons.mp b).1 (by rw[<- e];exact d))).mpr (h y (fR _ d))
  rw[yK];omega
def LastD.few{A:E6->TD->Prop}{l:List E6}{kvs:List (List aS×V)}{qs:List (Str×Str)}(h:LastD A l kvs)(b:Uw l qs):kvs.length<=43:=by
 have:=Cq (ys:=qs.map qB) h.nd λk d=>by
  obtain⟨c,f,rfl⟩:=Zmm.mp d;obtain⟨e,a,g,_,_,i⟩:=h.at_ c.1 c.2 f;rw[g];exact mem_map_of_mem (b.2.2 e (eE i).1)
 have:=b.2.1;simp only [aR]at *;omega
structure Ux(l:List E6)(lf tu:Nat)(out:List E6):Prop where
 asc:out.Pairwise λa b=>a.1<b.1
 iff:∀e,e∈out↔dL l (aF e)=some e/\tu<e.2.1+lf
def Fa:Sp:=λvs H Q _=>∃(b:TD)(ks:List TD)(l:List E6)(c d:Nat)(e:List (Str×Str)),vs=[.ref b,.int (c:Int),.int (d:Int)]/\H b=some (.lst (ks.map V.ref))/\Paired (At6 H) l ks/\Uw l e/\(l.map (·.1)).Nodup ∧
 ∀(p:TD)(os:List TD)(out:List E6)(a:Hp),H p=none->a p=some (.lst (os.map V.ref))->Paired (At6 a) out os->Ux l c d out->Same H a->Q (.ref p) a
def Pn(T:Txt K mg)(Q9:Callee P w K mg base 1 "is_alive" QZI xQ)(D:DefAt K mg "still_kept" eM QZp):Callee P w K mg base 2 "still_kept" QZp Fa:=by
 refine D.gg iU (λa1 cdv a2 outer s H vs a3 a4 Z h=>?_)
 ·revert h;refine yE6 λI ks l C E qs=>yA6 λζ gk pk YR ox q=>?_;subst ζ;have hl:=YR.1;have l8:=dE Z;have lk:=pk.length;refine⟨_,(lq (pv (i:=3) iU.nd R.de) (lq (vi PassesOwn.never rfl (ve (K:=K) (f8 0)) (pw (i:=4) iU.nd) (lu (wt (f8 4) (yp (f8 3) (vc wn (f8 4) (ux mo) (ux mo)) (yu l8))))) (lu (oe (uy (R.du (K:=K)) rfl T.b_sorted eB (lc (R.jg (vm rfl (js:=[none,some 1,some 2]) (N:=["entry","life","turn"]) (CompScope.by (aD eM) QZe rfl rfl Zk) (aV rfl) (R.iq (f8 3)) (λa5 s₂ H₂ fp=>⟨(pw (i:=0) (show(["entry","life","turn"]:List Str).Nodup by decide +kernel)),(wy (vk (px Q9 Z rfl (lc (oi K 0) (lc (f8 1) (lc (f8 2) li)))))),(f8 0)⟩))) li)))))),?_⟩;intro d YS;dsimp only [aJ];have M:=aG (o:=.dT []) YS;have g1:(aH H d (.dT [])) d=some (.dT []):=aA;generalize aH H d (.dT [])=H1 at M g1;refine cT (λu g=>∃(f:List (List aS×V))(v:Option V),u=[some (.ref I),some (.int (C:Int)),some (.int (E:Int)),some (.ref d),v]/\g d=some (.dT f)/\LastD (At6 g) l f/\Same H g) (λnx l7=>?_) ?_
  ·refine⟨I,rfl,⟨_,QYY (M _ _ gk)⟩,bU (bE K I (ks.map V.ref)) (λi u g=>∃(f:List (List aS×V))(v:Option V),u=[some (.ref I),some (.int (C:Int)),some (.int (E:Int)),some (.ref d),v]/\g d=some (.dT f)/\LastD (At6 g) (l.take i) f/\Same H g) (λi u g ⟨_,_,_,_,_,s'⟩=>QYY (s' _ _ gk)) ⟨[],_,rfl,g1,LastD.nil _,M⟩ ?_ ?_⟩
   ·refine λi a0 u r n=>yE2 λf v=>yA4 λζ g2 L2 x=>?_;subst ζ;rw[dW]at n;cases O:ks[i]? with
    | none=>rw[O]at n;cases n
    | some a=>
     rw[O]at n;cases n;obtain⟨hi,ei⟩:=Zgs.mp O;obtain⟨U6,Q⟩:=Paired.get' (j:=i) pk hi;rw[ei]at Q;have DY:l[i]?=some l[i]:=fX U6;generalize l[i]=e at Q DY;have YT:=Q.tk (Same.tk x);refine yE0 (id YT) (yE2 λb c=>yA3 λge gb gc=>?_);refine⟨_,ge,λtp H3 F g3=>⟨d,_,rfl,DPut.t (k:=qB (aF e)) (F _ _ g2) g3 ?_,?_⟩⟩
     ·have:=L2.len;rw[oX]at this;exact uD (m:=1000) Zo Zd
     have tk:TK H3 (aH H3 d (.dT (bQ f (qB (aF e)) (.ref a)))):=Wn (F _ _ g2);refine⟨_,_,rfl,aA,?_,lV YS (x.trans F)⟩;rw[aM DY];exact LastD.put (L2.mono λ_ _ z=>(z.tk (Same.tk F)).tk tk) ((YT.tk (Same.tk F)).tk tk)
   ·refine λu r=>yE2 λf v=>yA4 λζ g2 L2 x=>?_;subst ζ;rw[aR,<- lk,lJ (bA _)]at L2;exact l7 _ _ ⟨f,v,rfl,g2,L2,x⟩
  refine λu r=>yE2 λf v=>yA4 λζ g2 L2 x=>?_;subst ζ;refine yE0 L2.list (yE1 λes=>yA3 λS SO MF=>?_);have le:=S.length;have lkv:=L2.few YR;refine⟨_,g2,λo=>?_⟩;have OS:TK r (aH r d (.frz o (.dT f))):=Wn g2;have U:(aH r d (.frz o (.dT f))) d=some (.frz o (.dT f)):=aA;refine bF (aAq d o f) (by rw[aR];omega) (λj t g=>g=aH r d (.frz o (.dT f))/\t=((es.take j).filter λq=>decide ((E:Int)<(q.1.2.1:Int)+(C:Int))).map λq=>V.ref q.2) (λj t g ⟨y,e⟩=>⟨by rw[y];exact U,by rw[e,aR];exact fT (length_filter_le _ _) (by rw[oX];omega)⟩) ⟨rfl,rfl⟩ (?_) (?_)
  ·rintro j a0 t g n ⟨y,e⟩;subst y;rw[dW]at n;cases W:f[j]? with
   | none=>rw[W]at n;cases n
   | some kv=>
    rw[W]at n;injection n with n
    subst n;obtain⟨hj,ej⟩:=Zgs.mp W;have EZ:j<es.length:=by omega
    obtain⟨OT,A⟩:=Paired.get' (j:=j) S EZ;rw[ej]at A;have YU:es[j]?=some es[j]:=fX EZ;generalize es[j]=B at A YU;revert A;refine yA4 λJ G h3 h4=>?_;dsimp only;rw[G];refine yE0 (h3.tk OS) (yE2 λb c=>yA3 λge gb gc=>?_);refine⟨_,QYZ ge,_,rfl,_,_,_,rfl,?_⟩;have lx:=aM YU;show if decide ((E:Int)<(B.1.2.1:Int)+(C:Int))=true then _ else _
    refine dF (λh=>?_) (λh=>?_)
    ·refine⟨rfl,?_⟩;rw[lx,filter_append,filter_cons,O8 h,dN,e];rfl
    ·refine⟨rfl,?_⟩;rw[lx,filter_append,filter_cons,NE (by rw[h];exact V4),e];simp
  ·rintro t g ⟨y,e⟩;intro p A;subst y;rw[aR,le,lJ (bA _)]at e;have ndp:d≠p:=aE U A;refine⟨d,_,o,⟨_,g2⟩,cF U A,?_⟩;have L:Same r (aH (aH (aH r d (.frz o (.dT f))) p (.lst t)) d (.dT f)):=λc a0 e=>by
    by_cases z:c=d
    ·subst z;rw[g2]at e;cases e;exact aA
    ·rw[aB z];exact cF (by rw[aB z];exact e) A
   have gp:(aH (aH (aH r d (.frz o (.dT f))) p (.lst t)) d (.dT f)) p=some (.lst t):=by rw[aB ndp.symm];exact aA
   generalize aH (aH (aH r d (.frz o (.dT f))) p (.lst t)) d (.dT f)=H4 at L gp;generalize GI:(es.filter λq=>decide ((E:Int)<(q.1.2.1:Int)+(C:Int)))=fl at e;have YV:∀q,q∈fl↔q∈es/\E<q.1.2.1+C:=λq=>by
    rw[<- GI,mem_filter,decide_eq_true_iff];exact⟨λ⟨a,b⟩=>⟨a,Zo⟩,λ⟨a,b⟩=>⟨a,Zo⟩⟩
   refine yE0 (Ez (H:=H4) (l:=l) (es:=es) (fl:=fl) (λq hq=>by obtain⟨kv,_,h⟩:=paR S hq;exact⟨h.2.2.1.tk (Same.tk L),(eE h.2.2.2).1⟩) SO ox (by rw[<- GI];exact List.filter_sublist)) (yE1 λzs=>yA5 λc1 c2 c3 c4 cq=>?_);refine⟨zs,QYY (by rw[c1,<- e];exact gp),c2,c3,Zo,λl2 Q7 X AX AY=>?_⟩;obtain⟨out,AG,vo,ME,SR⟩:=cq Q7 AX AY;refine q l2 (out.map (·.2)) (out.map (·.1)) _ ((x.trans L).free X) (by rw[aA,vo,map_map];rfl) (Paired.map' (λ_ _ w=>w.tk (Same.tk (aG X))) SR) ⟨ME,λy=>⟨λhm=>?_,?_⟩⟩ ((x.trans L).trans (aG X))
   ·obtain⟨B,Y,rfl⟩:=Zmm.mp hm;obtain⟨J,G⟩:=(YV B).mp (AG.mem_iff.mp Y);exact⟨(MF _).mp (Zmm.mpr ⟨B,J,rfl⟩),G⟩
   ·rintro ⟨J,G⟩;obtain⟨B,Y,rfl⟩:=Zmm.mp ((MF y).mpr J);exact Zmm.mpr ⟨B,AG.mem_iff.mpr ((YV B).mpr ⟨Y,G⟩),rfl⟩
def hZ(rs:List RX)(a n:Nat):List RX:=match eT rs n with|some (p,k,x)=>.came n a p k x::(if kH "asked" rs (Sum.inl (n:Int))=true then [.asked n] else [])|none=>[]
def aZ(rs:List RX)(a:Nat)(b:List Nat):List RX:=b.flatMap (hZ rs a)
def Ir(rs:List RX)(a n:Nat):(hZ rs a n).length<=2:=by
 unfold hZ;cases eT rs n with
 | none=>exact zero_le _
 | some v=>
  dsimp only;split<;>simp
theorem qD(rs:List RX)(b:Nat):∀a:List Nat,(aZ rs b a).length<=2*a.length
 | []=>zero_le _
 | n::a=>by
  have d:=Ir rs b n;have c:=qD rs b a;unfold aZ at c ⊢;rw[AT,uC,yK];omega
def Uy{rs:List RX}{n:Nat}(h:n∈bS rs):∃t p k x,.came n t p k x∈rs:=by
 obtain⟨r,a,e⟩:=mem_filterMap.mp h;cases r<;>cases e;exact⟨_,_,_,_,a⟩
def oT{r:RX}(h:dR r="asked"):∃n,r=.asked n:=by
 cases r with
 | asked n=>exact⟨n,rfl⟩
 | has z m=>exact IN (show("has":Str)="asked" from h) Zk
 | next n t=>exact IN (show("next":Str)="asked" from h) Zk
 | kept n t p k x y=>exact IN (show("kept":Str)="asked" from h) Zk
 | came n t p k x=>exact IN (show("came":Str)="asked" from h) Zk
 | done n t y=>exact IN (show("done":Str)="asked" from h) Zk
def Po{H:Hp}{ra:TD}{rs:List RX}{c:List TD}(RR:RxsAt H ra rs c){n:Nat}(h:kH "asked" rs (Sum.inl (n:Int))=true):∃a,aY (aL [] (bI "asked" rs c rs.length)) (Sum.inl (n:Int))=some (.ref a)/\H a=some (.tup [.str "asked",.int (n:Int)]):=by
 obtain⟨r,k,e⟩:=any_eq_true.mp h;rw[Bool.and_eq_true]at e;obtain⟨m,rfl⟩:=oT (U3 e.1);have l:m=n:=by
  have:(Sum.inl (m:Int):aS)=Sum.inl (n:Int):=U3 e.2;injection this with this
  omega
 subst l;refine yE0 (tT RR.len k (wd:="asked") rfl) (yE3 λj y d=>yA5 λo p q s t=>?_);obtain⟨f,rfl⟩:=oT s;have u:m=f:=by
  have:(Sum.inl (m:Int):aS)=Sum.inl (f:Int):=t;injection this with this
  omega
 subst u;refine yE0 (RR.get (i:=j) (v:=.ref d) (by rw[dW,q];rfl)) (yE2 λz A=>yA4 λb B g x=>?_);injection b with b
 subst b;rw[p]at g;injection g with b
 subst b;exact⟨d,o,x⟩
def Ak:Sp:=λvs H Q _=>∃(d e:TD)(a:List RX)(g:List TD)(f:Nat)(b:List Nat),vs=[.ref d,.int (f:Int),.ref e]/\RxsAt H d a g/\a.length<=400/\RX.Whole a/\H e=some (.lst (nI b))/\(∀n∈b,n∈bS a)/\b.length<=400 ∧
 ∀(p:TD)(os:List TD)(c:Hp),H p=none->RxsAt c p (aZ a f b) os->Same H c->Q (.ref p) c
def Iu(T:Txt K mg)(Z:Callee P w K mg base 1 "by_numbers" QZy yC)(D:DefAt K mg "came_again" gK QZo):Callee P w K mg base 2 "came_again" QZo Ak:=by
 refine D.gg dI (λa5 cdv a6 outer s a0 vs a7 a8 M a2=>?_)
 ·revert a2;refine yE6 λv y b E c d=>yA8 λζ z hl hw gn LC OZ a3=>?_;subst ζ;have N:=dE M;have le:=z.len;refine⟨_,(lq (pv (i:=3) dI.nd (px Z M rfl (lc (f8 0) (lc oj li)))) (lq (pv (i:=4) dI.nd (px Z M rfl (lc (f8 0) (lc oj li)))) (lq (pv (i:=5) dI.nd (vf li)) (lq (vi PassesOwn.never rfl (ve (K:=K) (f8 2)) (pw (i:=6) dI.nd) (lq (uz (xg (K:=K) PySem.F.plainAttrs_list PySem.F.slot_list_append PySem.F.type_list_append R.cz (f8 5) (lc (oh yo (o0 (lc oj (lc (f8 6) (lc (f8 1) li)))) (vc wn (vn N (f8 3) (f8 6)) (ux mo) vj)) li))) (lu (qa (pi (R.fg N) (f8 6) (f8 4)) (lu (uz (xg (K:=K) PySem.F.plainAttrs_list PySem.F.slot_list_append PySem.F.type_list_append R.cz (f8 5) (lc (vn N (f8 4) (f8 6)) li)))) qb)))) (lu (oe (f8 5))))))),?_⟩;refine⟨v,"came",b,E,rfl,z,Zo,λA H1 OR gcd l=>?_⟩;refine⟨v,"asked",b,E,rfl,z.same l,Zo,λB q fak O h=>?_⟩;refine⟨sM rfl,λa Q=>?_⟩;dsimp only [aJ];have C:=aG (o:=.lst []) Q;have YW:(aH q a (.lst [])) a=some (.lst []):=aA;have ft0:a0 a=none:=(l.trans h).free Q;generalize aH q a (.lst [])=H3 at C YW;have sH:Same a0 H3:=(l.trans h).trans C;have ct':=C _ _ (h _ _ gcd);have LS:=C _ _ O;have YX:q a=none:=Q;refine cT (λe g=>∃(os:List TD)(p:Option V),e=[some (.ref v),some (.int (c:Int)),some (.ref y),some (.ref A),some (.ref B),some (.ref a),p]/\RxsAt g a (aZ b c d) os/\Same q g) (λnx l7=>?_) ?_
  ·refine⟨y,rfl,⟨_,QYY (sH _ _ gn)⟩,bU (bE K y (nI d)) (λi e g=>∃(os:List TD)(p:Option V),e=[some (.ref v),some (.int (c:Int)),some (.ref y),some (.ref A),some (.ref B),some (.ref a),p]/\RxsAt g a (aZ b c (d.take i)) os/\Same q g) (λi e g ⟨_,_,_,_,s'⟩=>QYY (s' _ _ ((l.trans h) _ _ gn))) ⟨[],_,rfl,RxsAt.nil YW,C⟩ ?_ ?_⟩
   ·refine λi x e F t=>yE2 λos p=>yA3 λζ f j=>?_;subst ζ;unfold nI at t;rw[dW]at t;cases G:d[i]? with
    | none=>rw[G]at t;cases t
    | some n=>
     rw[G]at t;cases t;refine yE0 (Uy (LC n (jJ G))) (yE4 λt0 a1 k x K6=>?_);have RB:=(z.same (l.trans h)).same j;refine yE0 (rP hw RB K6) (yE3 λca cb ct=>yA3 λhv GX GY=>?_);have CZ:=f.len;have DX:=qD b c (d.take i);have htk:(d.take i).length<=d.length:=by rw[oX];exact Nat.min_le_right _ _
     have AW:=j _ _ (h _ _ gcd);have cu':=j _ _ O;dsimp only [aJ];have e1:aZ b c (d.take (i+1))=aZ b c (d.take i)++hZ b c n:=by unfold aZ;rw[aM G,cH]
     have e2:hZ b c n=.came n c a1 k x::(if kH "asked" b (Sum.inl (n:Int))=true then [.asked n] else []):=by unfold hZ;rw[pY hw K6]
     have LO:∀S,Same F S->DGet S A (.int (n:Int)) (some (.ref ca)):=λS ss=>by rw[<- hv];exact DGet.k (k:=Sum.inl (n:Int)) (ss _ _ AW)
     refine cT (λe g=>∃(os:List TD),e=[some (.ref v),some (.int (c:Int)),some (.ref y),some (.ref A),some (.ref B),some (.ref a),some (.int (n:Int))]/\RxsAt g a (aZ b c (d.take i)++[.came n c a1 k x]) os/\Same q g) (λnx' HB=>?_) ?_
     ·refine⟨.inl ⟨rfl,_,QYY f.lst⟩,bM rfl,λt1 Ha H ga=>⟨A,_,rfl,LO Ha H,_,H _ _ GX,λt2 Hb U gb=>⟨_,_,U _ _ ga,gb,FS rfl,λt3 Hc sc gc=>⟨a,_,_,rfl,rfl,sc _ _ (U _ _ (H _ _ f.lst)),?_,?_⟩⟩⟩⟩
      ·rw[aR];exact uD (m:=1000) Zo Zd
      have I:=(H.trans U).trans sc;have tk:TK Hc (aH Hc a (.lst (os.map V.ref++[.ref t3]))):=Mn (I _ _ f.lst);exact HB _ _ ⟨os++[t3],rfl,f.snoc (λa9 xs a4=>tk _ _ (I _ _ a4)) ⟨cb,tk _ _ gc,tk _ _ (I _ _ GY)⟩ aA,lV YX (j.trans I)⟩
     rintro e W ⟨X,rfl,u,J⟩;have SV:=u.len;rw[uC,length_singleton]at SV;have Y:DGet W B (.int (n:Int)) (aY (aL [] (bI "asked" b E b.length)) (Sum.inl (n:Int))):=DGet.k (k:=Sum.inl (n:Int)) (J _ _ O);refine⟨_,Y,?_⟩;show if (aY (aL [] (bI "asked" b E b.length)) (Sum.inl (n:Int))).isSome=true then _ else _
     rw[pZ le];refine dF (λL=>?_) (λL=>?_)
     ·obtain⟨aa,ha,gaa⟩:=Po (z.same ((l.trans h).trans J)) L;rw[ha]at Y;refine⟨.inl ⟨rfl,_,QYY u.lst⟩,B,_,rfl,Y,a,_,_,rfl,rfl,u.lst,?_,?_⟩
      ·rw[aR];exact uD (m:=1000) Zo Zd
      have tk:TK W (aH W a (.lst (X.map V.ref++[.ref aa]))):=Mn u.lst;refine⟨X++[aa],_,rfl,?_,lV YX J⟩;rw[e1,e2,O8 L];have:=u.snoc tk (r:=.asked n) (tk _ _ gaa) aA;rw[append_assoc]at this;exact this
     ·refine⟨X,_,rfl,?_,J⟩;rw[e1,e2,NE (by rw[L];exact V4)];exact u
   ·refine λe F=>yE2 λos p=>yA3 λζ f j=>?_;subst ζ;rw[show(nI d).length=d.length by unfold nI;rw[aR],lJ (bA _)]at f;exact l7 _ _ ⟨os,p,rfl,f,j⟩
  refine λe F=>yE2 λos p=>yA3 λζ f j=>?_;subst ζ;exact a3 a os F ft0 f ((l.trans h).trans j)
def dM(e:E6):RX:=.kept e.1 e.2.1 e.2.2.1 e.2.2.2.1 e.2.2.2.2.1 e.2.2.2.2.2
def wG{rs:List RX}(h:RX.Whole rs){n t t':Nat}{p k d e:Str}{x f:Dd}{y:An}(b:.came n t p k x∈rs)(a:.kept n t' d e f y∈rs):False:=by
 induction h with
 | nil=>cases b
 | @snoc rs r i c g=>
  rcases cO b with b|b
  ·rcases cO a with a|a
   ·exact g b a
   ·rw[<- a]at c;exact IN (c.1 _ b) (by show ¬ (3<=2);decide)
  ·rcases cO a with a|a
   ·rw[<- b]at c;exact c.2.1 _ _ _ _ _ a
   ·rw[<- b]at a;cases a
theorem wH{a:List RX}(b:RX.Whole a):∀ {rs:List RX},(∀r∈rs,r∈a)->(rs.flatMap (hX a)).map (·.1)=Af rs
 | [],_=>rfl
 | r::rs,h=>by
  have c:=wH b (rs:=rs) λr d=>h r (fR _ d)
  unfold Af at c ⊢;rw[AT,CF,dN,c];cases r with
  | done n t y=>
   refine yE0 (eY b (h _ fY)) (yE4 λf p k x=>yA2 λe _=>?_);rw[jG b e];rfl
  | _=>rfl
def Pp{rs:List RX}(c:RX.Whole rs):((bT rs).map (·.1)).Nodup:=by
 have q:((rs.flatMap gC).map (·.1)).Nodup:=by
  induction c with
  | nil=>exact nodup_nil
  | @snoc rs r c l m=>
   rw[cH,dN];cases r with
   | kept n t p k x y=>
    refine nodup_append.mpr ⟨m,by simp[gC],λa f b g=>?_⟩;have s:b=n:=by simpa [gC]using g
    subst s;rintro rfl;obtain⟨e,i,rfl⟩:=Zmm.mp f;obtain⟨r,j,d⟩:=mem_flatMap.mp i
    cases r with
    | kept u v z A B C=>
     rw[Zms.mp d]at l;exact IN (l.2.2.1 _ _ _ _ _ _ j) (Nat.lt_irrefl _)
    | _=>cases d
   | _=>simpa [gC]using m
 unfold bT;rw[dN,wH c λ_ h=>h];refine nodup_append.mpr ⟨q,Ox c,λa f b g=>?_⟩;rintro rfl;obtain⟨e,i,rfl⟩:=Zmm.mp f;obtain⟨r,j,d⟩:=mem_flatMap.mp i;obtain⟨t,y,hd⟩:=wA g;obtain⟨D,p,k,x,o,_⟩:=eY c hd
 cases r with
 | kept u v z A B C=>
  rw[Zms.mp d]at o;exact wG c o j
 | _=>cases d
def Wo(rs:List RX)(n:Nat):List (Str×Str):=match eT rs n with|some (p,k,_)=>[(p,k)]|none=>[]
def nC(rs:List RX)(a:List Nat):List (Str×Str):=a.flatMap (Wo rs)
def Pq:RX->List (Str×Str)|.came _ _ p k _=>[(p,k)]|_=>[]
theorem tX(rs:List RX)(b:Nat):∀a:List Nat,(aZ rs b a).flatMap Pq=nC rs a
 | []=>rfl
 | n::a=>by
  have c:=tX rs b a;unfold aZ nC at c ⊢;rw[AT,flatMap_append,c,AT];congr 1;unfold hZ Wo;cases eT rs n with
  | none=>rfl
  | some v=>
   dsimp only;split<;>rfl
structure Cr(rs:List RX)(f:Str->Nat)(lf tu:Nat)(ns:List Nat)(out:List RX):Prop where
 ex:∃(m:Nat)(hs:List Str)(es:List E6),IsMax (dA rs) (m:Int)/\Uu f hs/\es.Pairwise (λa b=>a.1<b.1)/\(∀e,e∈es↔(dL (bT rs) (aF e)=some e/\tu<e.2.1+lf)/\aF e∉nC rs ns)/\hs.length<=43/\es.length<=(bT rs).length ∧
  out=.next m tu::(hs.map (λz=>.has z (f z))++(es.map dM++aZ rs tu ns))
def SpA(H:Hp)(s:Str×Str)(a:TD):Prop:=H a=some (.tup [.str s.1,.str s.2])
def SpA.all{H H':Hp}(s:TK H H'){sp:List (Str×Str)}{a:List TD}(p:Paired (SpA H) sp a):Paired (SpA H') sp a:=Paired.map' (λ_ _ w=>s _ _ w) p
def Cs(a b p k:Str):cZ [.str a,.str b] [.str p,.str k]=decide ((a,b)=(p,k)):=by
 have:cZ [.str a,.str b] [.str p,.str k]=((a==p)&&((b==k)&&true)&&true):=rfl;rw[this,Bool.and_true,Bool.and_true];by_cases c:a=p
 ·by_cases d:b=k
  ·rw[c,d];simp
  ·rw[beq_eq_false_iff_ne.mpr d,Bool.and_false];exact(T0 λe=>d (Prod.mk.inj e).2).symm
 ·rw[beq_eq_false_iff_ne.mpr c,Bool.false_and];exact(T0 λe=>c (Prod.mk.inj e).1).symm
def Ct{H:Hp}{sp:List (Str×Str)}{i:List TD}(p:Paired (SpA H) sp i):∃d:List (TD×List V),d.map (·.1)=i/\(∀z∈d,H z.1=some (.tup z.2))/\∀s,zS [.str s.1,.str s.2] d=decide (s∈sp)/\∀z∈d,kZ z.2 [.str s.1,.str s.2]:=by
 induction p with
 | nil=>exact⟨[],rfl,(λ_ h=>nomatch h),λs=>⟨rfl,λ_ h=>nomatch h⟩⟩
 | @cons s a sp i h t l=>
  obtain⟨d,m,n,k⟩:=l;refine⟨(a,[.str s.1,.str s.2])::d,by rw[map_cons,m],λz e=>?_,λb=>⟨?_,λz e=>?_⟩⟩
  ·rcases mem_cons.mp e with rfl|e
   ·exact h
   ·exact n z e
  ·have:zS [.str b.1,.str b.2] ((a,[.str s.1,.str s.2])::d)=(cZ [.str s.1,.str s.2] [.str b.1,.str b.2]||zS [.str b.1,.str b.2] d):=rfl;rw[this,Cs,(k b).1];by_cases c:s=b
   ·subst c;simp
   ·rw[T0 (show ¬ (s.1,s.2)=(b.1,b.2) from c),Bool.false_or];simp[mem_cons,Ne.symm c]
  ·rcases mem_cons.mp e with rfl|e
   ·intro j u v f g;match j,f,g with
    | 0,f,g=>cases f;cases g;exact⟨rfl,rfl⟩
    | 1,f,g=>cases f;cases g;exact⟨rfl,rfl⟩
    | j+2,f,_=>cases f
   ·exact(k b).2 z e
def Al:Sp:=λvs H Q _=>∃(d e:TD)(a:List RX)(i:List TD)(F:Nat->Str->Nat)(f:Str->Nat)(g h:Nat)(b:List Nat)(nm:List Str)(j:List (Str×Str)),vs=[.ref d,.int (g:Int),.int (h:Int),.ref e]/\RxsAt H d a i/\a.length<=400/\Pb a nm/\Uw (bT a) j/\RX.Whole a/\(∀r∈a,Oz r)/\RepF a F f ∧
 H e=some (.lst (nI b))/\(∀n∈b,n∈bS a)/\b.length<=100 ∧
 ∀(p:TD)(os:List TD)(out:List RX)(c:Hp),H p=none->RxsAt c p out os->Cr a f g h b out->Same H c->Q (.ref p) c
def Iv{rs:List RX}{m:Int}(h:IsMax (dA rs) m):∃n:Nat,m=(n:Int):=by
 have:=h.2 1 (by unfold dA;simp);exact⟨m.toNat,Zo⟩
def Iw(T:Txt K mg)(U8:Callee P w K mg base 5 "risen" zt rQ)(qr:Callee P w K mg base 2 "came_again" QZo Ak)(qt:Callee P w K mg base 2 "still_kept" QZp Fa)(D:DefAt K mg "folded" hV QZq):Callee P w K mg base 6 "folded" QZq Al:=by
 refine D.gg gX (λa7 cdv a8 outer s a9 vs b0 b2 W h=>?_)
 ·revert h;refine yE9 λG X l b F Y H q x=>yE2 λnm qs=>yA9 λζ RR I hc MG hw hok hF=>yA4 λgn LC OZ a4=>?_;subst ζ;have YY:=MG.1;have ki:=W.units;have le:=RR.len;refine⟨_,(lq (pv (i:=4) gX.nd (px U8 W rfl (lc (f8 0) li))) (lq (R.dm (i:=5) gX.nd rfl (Or.inl rfl) rfl (js:=[none]) (N:=["pair"]) (CompScope.by (aD hV) QZr rfl rfl Zk) (aV rfl) (ve (K:=K) (oi K 4)) (λa2 s₂ H₂ fp=>⟨(pw (i:=0) (show(["pair"]:List Str).Nodup by decide +kernel)),xf,(oh yo (o0 (lc oj li)) (f8 0))⟩) rfl) (lq (pv (i:=6) gX.nd (px qr W rfl (lc (f8 0) (lc (f8 2) (lc (f8 3) li))))) (lq (pv (i:=7) gX.nd (vm rfl (js:=[none]) (N:=QZZ) (CompScope.by (aD hV) QZr rfl rfl Zk) (aV rfl) (ve (K:=K) (f8 6)) (λa2 s₂ H₂ fp=>⟨(pw (i:=0) (show(QZZ:List Str).Nodup by decide +kernel)),(wy (pi vb (oi K 0) oj)),(vc wn (f8 0) (ux mo) (ux mo))⟩))) (lq (R.dm (i:=8) gX.nd rfl (Or.inl rfl) rfl (js:=[none,some 7]) (N:=["entry","busy"]) (CompScope.by (aD hV) QZr rfl rfl Zk) (aV rfl) (ve (K:=K) (px qt W rfl (lc (oi K 4) (lc (f8 1) (lc (f8 2) li))))) (λa2 s₂ H₂ fp=>⟨(pw (i:=0) (show(["entry","busy"]:List Str).Nodup by decide +kernel)),(wy (pi (R.ip ki) (vc wn (f8 0) (ux mo) (ux mo)) (f8 1))),(oh yo (o0 (lc oj li)) (f8 0))⟩) rfl) (lu (oe (oh xh (oh xh (oh xh (vf (lc (o0 (lc oj (lc (oi K 4) (lc (f8 2) li)))) li)) (f8 5)) (f8 8)) (f8 6))))))))),?_⟩;refine⟨G,l,b,F,Y,nm,rfl,RR,I,hc,hw,hok,hF,λtp kl ol H1 rd Z=>?_⟩;refine yE0 rd.ex (yE7 λbl m1 m2 ks oo zs B=>yA9 λMH CP pk _ _ AQ _ YZ=>yA4 λhz pR ez lh=>?_);obtain⟨a3,rfl⟩:=Iv AQ;have lz:zs.length=B.length:=by have:=congrArg length ez;simpa using this
  dsimp only [aJ];refine cT (λv c=>∃(I:TD)(has:List TD),v=[some (.ref G),some (.int (H:Int)),some (.int (q:Int)),some (.ref X),some (.ref tp),some (.ref I),none,none,none]/\RxsAt c I (B.map λz=>RX.has z (Y z)) has/\Same H1 c) (λnx J=>?_) ?_
  ·refine⟨_,QYZ MH,_,rfl,bl,rfl,⟨_,QYY YZ⟩,?_⟩;refine bF (bE K bl (cI zs)) (by unfold cI;rw[aR];omega) (λi ys c=>∃b:List TD,ys=b.map V.ref/\Paired (λr a=>RX.At c a r) ((B.take i).map λz=>RX.has z (Y z)) b/\Same H1 c/\b.length<=i) (λi ys c ⟨b,e,_,d,p⟩=>⟨QYY (d _ _ YZ),by rw[e,aR];exact p⟩) ⟨[],rfl,.nil,(λ_ _ e=>e),bA _⟩ (?_) (?_)
   ·refine λi a0 ys c u=>yE1 λb=>yA4 λe f d p=>?_;obtain⟨z,hn,rfl,gz⟩:=yB hz u;have AR:(zs.map (·.2))[i]?=some z.2:=by rw[dW,hn];rfl
    rw[ez,dW]at AR;obtain⟨nm,zi,enm⟩:=Option.map_eq_some_iff.mp AR;rw[<- enm]at gz;refine⟨bM rfl,λm Ha g L=>⟨_,_,L,g _ _ (d _ _ gz),FS rfl,λt2 Hb C gb=>⟨b++[t2],by rw[e,dN];rfl,?_,(d.trans g).trans C,by simp;omega⟩⟩⟩;rw[aM zi,dN];exact Paired.snoc (Paired.map' (λ_ _ w=>RX.At.tk (Same.tk (g.trans C)) w) f) gb
   ·refine λys c=>yE1 λb=>yA4 λe f d p=>?_;intro u6 Zg;have lz2:(cI zs).length=B.length:=by unfold cI;rw[aR];exact lz
    rw[lz2,lJ (bA _)]at f;exact J _ _ ⟨u6,b,rfl,⟨by rw[aA,e],Paired.map' (λ_ _ w=>RX.At.tk (Same.tk (aG Zg)) w) f⟩,d.trans (aG Zg)⟩
  refine λv H2=>yE2 λu6 has=>yA3 λζ R2 s2=>?_;subst ζ;refine⟨G,X,l,b,q,x,rfl,(RR.same Z).same s2,I,hw,s2 _ _ (Z _ _ gn),LC,fT OZ Zd,λcl cs H3 fcl M s3=>?_⟩;have lal:=qD l q x;have lcs:=M.len;have lhs:=R2.len;rw[aR]at lhs;dsimp only [aJ];refine cT (λv c=>∃(E:TD)(bs:List TD),v=[some (.ref G),some (.int (H:Int)),some (.int (q:Int)),some (.ref X),some (.ref tp),some (.ref u6),some (.ref cl),some (.ref E),none]/\c E=some (.lst (bs.map V.ref))/\Paired (SpA c) (nC l x) bs/\Same H3 c) (λnx J=>?_) ?_
  ·refine⟨cl,rfl,⟨_,QYY M.lst⟩,?_⟩;refine bF (bE K cl (cs.map V.ref)) (by rw[aR];omega) (λi ys c=>∃b:List TD,ys=b.map V.ref/\Paired (SpA c) (((aZ l q x).take i).flatMap Pq) b/\Same H3 c/\b.length<=i) (λi ys c ⟨b,e,_,d,p⟩=>⟨QYY (d _ _ M.lst),by rw[e,aR];exact p⟩) ⟨[],rfl,.nil,(λ_ _ e=>e),bA _⟩ (?_) (?_)
   ·refine λi a0 ys c u=>yE1 λb=>yA4 λe f d p=>?_;refine yE0 ((M.same d).get u) (yE2 λa r=>yA4 λζ ha oz oq=>?_);subst ζ;refine yE0 (qT oq) (yE1 λxs=>yA4 λa5 x0 x1 x2=>?_);have lx:=aM oz;refine⟨_,QYZ a5,_,x0,?_⟩;show if decide (dR r="came")=true then _ else _
    refine dF (λh=>?_) (λh=>?_)
    ·refine yE0 (rN (U3 h)) (yE5 λn t b3 k a0 ζ=>?_);subst ζ;obtain⟨b1,gx,OO⟩:=oq;refine⟨_,gx,λm Ha g L=>⟨b++[m],by rw[e,dN];rfl,?_,d.trans g,by simp;omega⟩⟩;rw[lx,cH];exact Paired.snoc (Paired.map' (λ_ _ w=>(Same.tk g) _ _ w) f) L
    ·refine⟨b,e,?_,d,Zo⟩;rw[lx,cH];have:Pq r=[]:=by cases r<;>first|rfl|exact IN rfl (UV h)
     rw[this,append_nil];exact f
   ·refine λys c=>yE1 λb=>yA4 λe f d p=>?_;intro E Zn;rw[aR,<- lcs,lJ (bA _),tX]at f;exact J _ _ ⟨E,b,rfl,by rw[aA,e],Paired.map' (λ_ _ w=>(Same.tk (aG Zn)) _ _ w) f,d.trans (aG Zn)⟩
  refine λv H4=>yE2 λE bs=>yA4 λζ gbz pb s4=>?_;subst ζ;have PB:=(s2.trans s3).trans s4;refine cT (λv c=>∃(O:TD)(y:List E6)(Q:List TD),v=[some (.ref G),some (.int (H:Int)),some (.int (q:Int)),some (.ref X),some (.ref tp),some (.ref u6),some (.ref cl),some (.ref E),some (.ref O)]/\RxsAt c O (y.map dM) Q/\y.length<=(bT l).length/\y.Pairwise (λa a1=>a.1<a1.1)/\(∀e,e∈y↔(dL (bT l) (aF e)=some e/\q<e.2.1+H)/\aF e∉nC l x)/\Same H4 c) (λnx J=>?_) ?_
  ·refine⟨_,QYZ (PB _ _ MH),_,rfl,kl,ks,bT l,H,q,qs,rfl,PB _ _ CP,Paired.map' (λ_ _ z=>z.tk (Same.tk PB)) pk,MG,Pp hw,λpl os out H5 fpl ZA po ze A=>?_⟩;have lo:=po.length;have KA:out.length<=(bT l).length:=(by
    have h1:(out.map (·.1)).Nodup:=pairwise_map.mpr (ze.asc.imp λh=>ne_of_lt h);have h2:=aAz h1 (ys:=(bT l).map (·.1)) λn hn=>by
     obtain⟨e,he,rfl⟩:=Zmm.mp hn;exact Zmm.mpr ⟨e,(eE ((ze.iff e).mp he).1).1,rfl⟩
    rw[aR,aR]at h2;exact h2)
   refine⟨pl,rfl,⟨_,QYY ZA⟩,?_⟩;refine bF (bE K pl (os.map V.ref)) (by rw[aR];omega) (λi ys c=>∃b:List TD,ys=b.map V.ref/\Paired (λr a=>RX.At c a r) (((out.take i).filter λe=>!decide (aF e∈nC l x)).map dM) b/\Same H5 c/\b.length<=i) (λi ys c ⟨b,e,_,d,p⟩=>⟨QYY (d _ _ ZA),by rw[e,aR];exact p⟩) ⟨[],rfl,.nil,(λ_ _ e=>e),bA _⟩ (?_) (?_)
   ·refine λi a0 ys c u=>yE1 λb=>yA4 λe f d p=>?_;rw[dW]at u;cases JD:os[i]? with
    | none=>rw[JD]at u;cases u
    | some a=>
     rw[JD]at u;cases u;obtain⟨hi,ei⟩:=Zgs.mp JD;obtain⟨U6,pa⟩:=Paired.get' (j:=i) po hi;rw[ei]at pa;have DY:out[i]?=some out[i]:=fX U6;generalize out[i]=S at pa DY;refine yE0 (pa.tk (Same.tk d)) (yE2 λa1 a6=>yA3 λge gb gc=>?_);refine⟨_,ge,λm Ha g L=>?_⟩;refine yE0 (Ct (SpA.all (Same.tk ((A.trans d).trans g)) pb)) (yE1 λzl=>yA3 λz1 z2 z3=>?_);refine⟨_,zl,L,by rw[(A.trans (d.trans g)) _ _ gbz,<- z1,map_map];rfl,λz hz=>⟨z2 z hz,(z3 (aF S)).2 z hz⟩,?_⟩;show if (!zS [.str (aF S).1,.str (aF S).2] zl)=true then _ else _
     rw[(z3 (aF S)).1];refine dF (λh=>?_) (λh=>?_)
     ·refine⟨bM rfl,λt2 Hb C JG=>⟨_,_,JG,C _ _ (g _ _ ge),FS rfl,λt3 Hc sc gc3=>⟨b++[t3],by rw[e,dN];rfl,?_,d.trans ((g.trans C).trans sc),by simp;omega⟩⟩⟩;rw[aM DY,filter_append,filter_cons,O8 h,dN];have AF:=(g.trans C).trans sc;exact Paired.snoc (Paired.map' (λ_ _ w=>RX.At.tk (Same.tk AF) w) f) ⟨a1,a6,gc3,AF _ _ gb,AF _ _ gc⟩
     ·refine⟨b,e,?_,d.trans g,Zo⟩;rw[aM DY,filter_append,filter_cons,NE (by rw[h];exact V4),List.filter_nil,append_nil];exact Paired.map' (λ_ _ w=>RX.At.tk (Same.tk g) w) f
   ·refine λys c=>yE1 λb=>yA4 λe f d p=>?_;intro O ZC;rw[aR,<- lo,lJ (bA _)]at f;refine J _ _ ⟨O,_,b,rfl,⟨by rw[aA,e],Paired.map' (λ_ _ w=>RX.At.tk (Same.tk (aG ZC)) w) f⟩,fT (length_filter_le _ _) KA,List.Pairwise.filter _ ze.asc,λS=>?_,A.trans (d.trans (aG ZC))⟩;rw[mem_filter,ze.iff];simp
  refine λv H5=>yE3 λO y Q=>yA6 λζ RK ZD he1 SX A=>?_;subst ζ;have lka:=RK.len;rw[aR]at lka;have HC:=PB.trans A;have ZE:=(R2.same (s3.trans s4)).same A;have ZF:=(M.same s4).same A;refine⟨_,QYZ (HC _ _ MH),_,rfl,bM rfl,λm H6 s6 g6=>⟨sM rfl,λp1 DR=>?_⟩⟩;have s7:=aG (o:=.lst [.ref m]) DR;have g7:(aH H6 p1 (.lst [.ref m])) p1=some (.lst [.ref m]):=aA;have ZG:=s7 _ _ g6;generalize aH H6 p1 (.lst [.ref m])=H7 at s7 g7 ZG;have U:=s6.trans s7;refine⟨_,_,g7,(ZE.same U).lst,by rw[aR];exact fJ (by simp;omega),λp2 mj=>?_⟩;refine⟨_,_,aA,cF (RK.same U).lst mj,by rw[uC,aR,aR];exact fJ (by simp;omega),λp3 DJ=>?_⟩;refine⟨_,_,aA,cF (cF (ZF.same U).lst mj) DJ,by rw[uC,uC,aR,aR,aR];exact fJ (by simp;omega),λp4 JF=>?_⟩;have ZH:Same H7 (aH (aH (aH H7 p2 (.lst ([V.ref m]++has.map V.ref))) p3 (.lst ([V.ref m]++has.map V.ref++Q.map V.ref))) p4 (.lst ([V.ref m]++has.map V.ref++Q.map V.ref++cs.map V.ref))):=((aG mj).trans (aG DJ)).trans (aG JF);have PD:=U.trans ZH;refine a4 p4 (m::(has++(Q++cs))) (.next a3 q::(B.map (λz=>.has z (Y z))++(y.map dM++aZ l q x))) _ (Z.free (HC.free (U.free (((aG mj).trans (aG DJ)).free JF)))) ⟨?_,?_⟩ ⟨a3,B,y,AQ,pR,he1,SX,lh,ZD,rfl⟩ (Z.trans (HC.trans PD))
  ·rw[aA];simp
  ·refine .cons (ZH _ _ ZG) ?_;exact Paired.append' (Paired.map' (λ_ _ w=>RX.At.tk (Same.tk PD) w) ZE.each) (Paired.append' (Paired.map' (λ_ _ w=>RX.At.tk (Same.tk PD) w) RK.each) (Paired.map' (λ_ _ w=>RX.At.tk (Same.tk PD) w) ZF.each))
def Cu(rs:List RX):RX->Option Nat|.came n _ _ _ _=>if kH "done" rs (Sum.inl (n:Int))=true then none else some n|_=>none
def Fb(rs:List RX):List Nat:=rs.filterMap (Cu rs)
def qE{rs:List RX}{n:Nat}:n∈Fb rs↔(∃t p k x,.came n t p k x∈rs)/\kH "done" rs (Sum.inl (n:Int))=false:=by
 refine⟨λh=>?_,?_⟩
 ·obtain⟨r,b,e⟩:=mem_filterMap.mp h
  cases r with
  | came m t p k x=>
   have a:(if kH "done" rs (Sum.inl (m:Int))=true then none else some m)=some n:=e;split at a
   ·cases a
   ·rename_i c;cases a;exact⟨⟨_,_,_,_,b⟩,Bool.eq_false_iff.mpr c⟩
  | _=>cases e
 ·rintro ⟨⟨t,p,k,x,h⟩,hd⟩;refine mem_filterMap.mpr ⟨_,h,?_⟩;show(if kH "done" rs (Sum.inl (n:Int))=true then none else some n)=some n;rw[NE (by rw[hd];exact V4)]
def Ix(rs:List RX):(Fb rs).Sublist (bS rs):=by
 have:∀a:List RX,(a.filterMap (Cu rs)).Sublist (bS a):=λa=>by
  induction a with
  | nil=>exact List.Sublist.refl _
  | cons r a b=>
   unfold bS at b ⊢;rw[CF,CF];cases r with
   | came n t p k x=>
    have e:Cu rs (.came n t p k x)=if kH "done" rs (Sum.inl (n:Int))=true then none else some n:=rfl
    rw[e];split
    ·rename_i h;split at h
     ·exact b.trans (List.sublist_cons_self _ _)
     ·cases h
    ·rename_i h;split at h
     ·cases h
     ·cases h;exact b.cons_cons _
   | _=>exact b
 exact this rs
def Iy{rs:List RX}{n t:Nat}{y:An}(h:.done n t y∈rs):kH "done" rs (Sum.inl (n:Int))=true:=any_eq_true.mpr ⟨_,h,by simp[dR,jD]⟩
def nE{rs:List RX}{n:Nat}:kH "asked" rs (Sum.inl (n:Int))=true↔.asked n∈rs:=by
 refine⟨λh=>?_,λh=>any_eq_true.mpr ⟨_,h,by simp[dR,jD]⟩⟩;obtain⟨r,a,e⟩:=any_eq_true.mp h;rw[Bool.and_eq_true]at e;obtain⟨m,rfl⟩:=oT (U3 e.1);have:(Sum.inl (m:Int):aS)=Sum.inl (n:Int):=U3 e.2;injection this with this
 rw[show n=m by omega];exact a
def Iz{rs:List RX}(h:RX.Whole rs){n:Nat}(a:.asked n∈rs):∃t p k x,.came n t p k x∈rs/\x.far=true:=by
 induction h with
 | nil=>cases a
 | snoc f d e=>
  rcases cO a with a|a
  ·refine yE0 (e a) (yE4 λt p k x=>yA2 λb c=>?_);exact⟨t,p,k,x,FM _ b,c⟩
  ·rw[<- a]at d;obtain⟨⟨t,p,k,x,b,c⟩,_⟩:=d;exact⟨t,p,k,x,FM _ b,c⟩
def Ja{rs:List RX}(h:RX.Whole rs){n t:Nat}{p k:Str}{x:Dd}{y:An}(a:.kept n t p k x y∈rs):An.Of x y/\∃b t0,.next b t0∈rs/\n<b/\t<=t0:=by
 induction h with
 | nil=>cases a
 | snoc i f g=>
  rcases cO a with a|a
  ·obtain⟨c,b,t0,d,e⟩:=g a;exact⟨c,b,t0,FM _ d,e⟩
  ·rw[<- a]at f;revert f;refine yA4 λ_ ζ _ e=>?_;obtain⟨b,t0,d,c⟩:=ζ;exact⟨e,b,t0,FM _ d,c⟩
structure Wp(rs:List RX)(e:E6):Prop where
 an:An.Of e.2.2.2.2.1 e.2.2.2.2.2
 num:∀m:Int,IsMax (dA rs) m->(e.1:Int)<m
 tn:∀t:Int,IsMax (turnL rs) t->(e.2.1:Int)<=t
 no:∀n∈Fb rs,e.1≠n
 dd:(∀r∈rs,Oz r)->(∀n t p k x y,.kept n t p k x y∈rs->x.Ok)->e.2.2.2.2.1.Ok
def aAC{rs:List RX}(f:RX.Whole rs){e:E6}(h:e∈bT rs):Wp rs e:=by
 unfold bT at h;rcases Zma.mp h with h|h
 ·obtain⟨r,a,c⟩:=mem_flatMap.mp h
  cases r with
  | kept n t p k x y=>
   rw[Zms.mp c];obtain⟨z,s,g,u,B,C⟩:=Ja f a;refine⟨z,λm i=>?_,λv j=>?_,λl o b=>?_,λ_ d=>d _ _ _ _ _ _ a⟩
   ·have:=i.2 (s:Int) (by unfold dA;simp only [cons_append,mem_cons,Zma,Zmm];exact .inr (.inl ⟨s,mem_filterMap.mpr ⟨_,u,rfl⟩,rfl⟩));show((n:Nat):Int)<m;omega
   ·have:=j.2 (g:Int) (by unfold turnL;exact fR _ (Zmm.mpr ⟨g,mem_filterMap.mpr ⟨_,u,rfl⟩,rfl⟩));show((t:Nat):Int)<=v;omega
   ·obtain⟨⟨D,E,F,G,d⟩,_⟩:=qE.mp o;have b:n=l:=b;subst b;exact wG f d a
  | _=>cases c
 ·obtain⟨r,a,c⟩:=mem_flatMap.mp h
  cases r with
  | done n t y=>
   obtain⟨g,p,k,x,q,A⟩:=eY f a;rw[jG f q]at c;rw[Zms.mp c];refine⟨A,λm i=>?_,λv j=>?_,λl o b=>?_,λd _=>d _ q⟩
   ·have:=i.2 ((n:Int)+1) (by unfold dA;simp only [cons_append,mem_cons,Zma,Zmm];exact .inr (.inr ⟨n,wB q,rfl⟩));show((n:Nat):Int)<m;omega
   ·exact j.2 (t:Int) (by unfold turnL;exact fR _ (Zmm.mpr ⟨t,mem_filterMap.mpr ⟨_,a,rfl⟩,rfl⟩))
   ·have b:n=l:=b;subst b;exact IN (qE.mp o).2 (by rw[Iy a];decide)
  | _=>cases c
def Pr:∀(l:List Int),0<l.length->∃m,IsMax l m
 | [a],_=>⟨a,Zms.mpr rfl,λb f=>by rw[Zms.mp f];exact Int.le_refl _⟩
 | a::b::l,_=>by
  obtain⟨m,g,e⟩:=Pr (b::l) Zs;by_cases h:a<=m
  ·exact⟨m,fR _ g,λc d=>by rcases mem_cons.mp d with rfl|d;exact h;exact e c d⟩
  ·exact⟨a,fY,λc d=>by rcases mem_cons.mp d with rfl|d;exact Int.le_refl _;have:=e c d;omega⟩
structure FoldC(rs:List RX)(f:Str->Nat)(tu:Nat)(ns:List Nat):Prop where
 hw:RX.Whole rs
 snd:∀r∈rs,Oz r
 kd:∀n t p k x y,.kept n t p k x y∈rs->x.Ok
 le:∀z,f z<=1000000000000
 sub:ns.Sublist (Fb rs)
 tn:∀t:Int,IsMax (turnL rs) t->t<=(tu:Int)
def FoldC.asc{rs:List RX}{f:Str->Nat}{b:Nat}{a:List Nat}(c:FoldC rs f b a):a.Pairwise (·<·):=List.Pairwise.sublist (c.sub.trans (Ix rs)) (wE c.hw)
def FoldC.came{rs:List RX}{f:Str->Nat}{a:Nat}{d:List Nat}(c:FoldC rs f a d){n:Nat}(h:n∈d):∃p k x,eT rs n=some (p,k,x)/\x.Ok/\hZ rs a n=.came n a p k x::(if kH "asked" rs (Sum.inl (n:Int))=true then [.asked n] else [])/\(∃t,.came n t p k x∈rs):=by
 obtain⟨⟨t,p,k,x,b⟩,_⟩:=qE.mp (c.sub.subset h);have e:=pY c.hw b;refine⟨p,k,x,e,c.snd _ b,?_,t,b⟩;unfold hZ;rw[e]
structure FoldX(rs:List RX)(f:Str->Nat)(lf tu:Nat)(ns:List Nat)(m:Nat)(hs:List Str)(es:List E6):Prop where
 mx:IsMax (dA rs) (m:Int)
 pos:Uu f hs
 asc:es.Pairwise λa b=>a.1<b.1
 iff:∀e,e∈es↔(dL (bT rs) (aF e)=some e/\tu<e.2.1+lf)/\aF e∉nC rs ns
def iA(rs:List RX)(f:Str->Nat)(a:Nat)(b:List Nat)(m:Nat)(hs:List Str)(es:List E6):List RX:=.next m a::(hs.map (λz=>.has z (f z))++(es.map dM++aZ rs a b))
section
variable {rs:List RX}{f:Str->Nat}{lf tu m:Nat}{ns:List Nat}{hs:List Str}{es:List E6}
def FoldX.ent(c:FoldC rs f tu ns)(x:FoldX rs f lf tu ns m hs es){e:E6}(h:e∈es):Wp rs e:=aAC c.hw (eE ((x.iff e).mp h).1.1).1
def jI(c:FoldC rs f tu ns){r:RX}(d:List Nat)(j:∀n∈d,n∈ns):r∈aZ rs tu d↔∃n∈d,(∃p k x,eT rs n=some (p,k,x)/\r=.came n tu p k x)∨(r=.asked n/\.asked n∈rs):=by
 unfold aZ;rw[mem_flatMap];refine⟨λ⟨n,a,h⟩=>⟨n,a,?_⟩,λ⟨n,a,h⟩=>⟨n,a,?_⟩⟩
 ·refine yE0 (c.came (j n a)) (yE3 λp k x=>yA4 λe _ g _=>?_);rw[g]at h;rcases mem_cons.mp h with h|h
  ·exact .inl ⟨p,k,x,e,h⟩
  ·split at h
   ·rename_i l;exact .inr ⟨Zms.mp h,nE.mp l⟩
   ·cases h
 ·refine yE0 (c.came (j n a)) (yE3 λp k x=>yA4 λe _ g _=>?_);rw[g];rcases h with⟨o,q,s,b,i⟩|⟨b,i⟩
  ·rw[e]at b;cases b;rw[i];exact fY
  ·rw[b,O8 (nE.mpr i)];exact fR _ fY
def rR{a:Type}{lt:a->a->Prop}{xs:List a}(h:xs.Pairwise lt){k:Nat}{x y:a}(c:xs[k]?=some x)(d:y∈xs.take k):lt y x:=by
 obtain⟨e,g⟩:=Zgs.mp c;obtain⟨j,i,b⟩:=getElem_of_mem d;rw[oX]at i;rw[List.getElem_take]at b;have:=(List.pairwise_iff_getElem.mp h) j k Zo e Zo;rw[b,g]at this;exact this
def yF{a:Type}{xs:List a}{k:Nat}(h:k<xs.length):∃x,xs[k]?=some x/\x∈xs/\xs.take (k+1)=xs.take k++[x]:=⟨xs[k],fX h,getElem_mem h,aM (fX h)⟩
def Jb(c:FoldC rs f tu ns)(x:FoldX rs f lf tu ns m hs es):RX.Whole (iA rs f tu ns m hs es):=by
 have U:RX.Whole [.next m tu]:=.snoc .nil rfl;have V:∀k,k<=hs.length->RX.Whole (.next m tu::(hs.take k).map λz=>RX.has z (f z)):=by
  intro k;induction k with
  | zero=>exact λ_=>U
  | succ k i=>
   intro F;obtain⟨z,W,LI,X⟩:=yF (xs:=hs) (k:=k) Zo;rw[X,dN];refine .snoc (i Zo) ⟨λq a=>?_,⟨m,tu,fY⟩,λz' m' a=>?_⟩
   ·rcases mem_cons.mp a with rfl|a
    ·exact zero_le _
    ·obtain⟨y,_,rfl⟩:=Zmm.mp a;exact bA _
   ·rcases mem_cons.mp a with a|a
    ·cases a
    ·obtain⟨y,j,e⟩:=Zmm.mp a;cases e;exact rR x.pos.asc W j
 have G:=V hs.length (bA _);rw[lJ (bA _)]at G;have Y:∀k,k<=es.length->RX.Whole ((.next m tu::hs.map λz=>RX.has z (f z))++(es.take k).map dM):=by
  intro k;induction k with
  | zero=>intro _;rw[show(es.take 0).map dM=[] from rfl,append_nil];exact G
  | succ k i=>
   intro F;obtain⟨e,Z,T,ee⟩:=yF (xs:=es) (k:=k) Zo;have u:=x.ent c T;rw[ee,dN,<- append_assoc];refine .snoc (i Zo) ⟨λq a=>?_,⟨m,tu,FM _ fY,?_,?_⟩,λb v A B C H a=>?_,u.an⟩
   ·rcases Zma.mp a with a|a
    ·rcases mem_cons.mp a with rfl|a
     ·exact zero_le _
     ·obtain⟨y,_,rfl⟩:=Zmm.mp a;exact le_succ _
    ·obtain⟨y,_,rfl⟩:=Zmm.mp a;exact bA _
   ·have:=u.num _ x.mx;omega
   ·obtain⟨t,I⟩:=Pr (turnL rs) (by unfold turnL;simp);have:=u.tn t I;have:=c.tn t I;omega
   ·rcases Zma.mp a with a|a
    ·rcases mem_cons.mp a with a|a
     ·cases a
     ·obtain⟨y,_,e⟩:=Zmm.mp a;cases e
    ·obtain⟨y,j,e⟩:=Zmm.mp a;have J:dM y=.kept b v A B C H:=e;unfold dM at J;injection J with L
     rw[<- L];exact rR x.asc Z j
 have M:=Y es.length (bA _);rw[lJ (bA _)]at M;have w3:∀k,k<=ns.length->RX.Whole (((.next m tu::hs.map λz=>RX.has z (f z))++es.map dM)++aZ rs tu (ns.take k)):=by
  intro k;induction k with
  | zero=>intro _;rw[show aZ rs tu (ns.take 0)=[] from rfl,append_nil];exact M
  | succ k i=>
   intro F;obtain⟨n,N,O,en⟩:=yF (xs:=ns) (k:=k) Zo;refine yE0 (c.came O) (yE3 λp Q d=>yA4 λL hd e2=>yE1 λt0 K6=>?_);have MI:∀b∈ns.take k,b∈ns:=λb a0=>mem_of_mem_take a0
   have e3:aZ rs tu (ns.take (k+1))=aZ rs tu (ns.take k)++hZ rs tu n:=by unfold aZ;rw[en,cH]
   have h:∀ {q:RX},q∈((.next m tu::hs.map λz=>RX.has z (f z))++es.map dM)++aZ rs tu (ns.take k)->q=.next m tu∨(∃z,q=.has z (f z))∨(∃e∈es,q=dM e)∨∃b∈ns.take k,(∃p k x,eT rs b=some (p,k,x)/\q=.came b tu p k x)∨(q=.asked b/\.asked b∈rs):=λ{q} a=>by
    rcases Zma.mp a with a|a
    ·rcases Zma.mp a with a|a
     ·rcases mem_cons.mp a with a|a
      ·exact .inl a
      ·obtain⟨y,_,e⟩:=Zmm.mp a;exact .inr (.inl ⟨y,e.symm⟩)
     ·obtain⟨y,j,e⟩:=Zmm.mp a;exact .inr (.inr (.inl ⟨y,j,e.symm⟩))
    ·exact .inr (.inr (.inr ((jI c _ MI).mp a)))
   rw[e3,e2];have R:RX.Whole (((.next m tu::hs.map λz=>RX.has z (f z))++es.map dM)++aZ rs tu (ns.take k)++[.came n tu p Q d]):=by
    refine .snoc (i Zo) ⟨λb v A B C a=>?_,λv A B C H a=>?_,λq a=>?_⟩
    ·rcases h a with e|⟨z,e⟩|⟨l,_,e⟩|⟨o,g,⟨_,_,_,_,e⟩|⟨e,_⟩⟩
     ·cases e
     ·cases e
     ·cases e
     ·cases e;exact rR c.asc N g
     ·cases e
    ·rcases h a with e|⟨z,e⟩|⟨l,s,e⟩|⟨o,g,⟨_,_,_,_,e⟩|⟨e,_⟩⟩
     ·cases e
     ·cases e
     ·unfold dM at e;injection e with D;exact(x.ent c s).no n (c.sub.subset O) D.symm
     ·cases e
     ·cases e
    ·rcases h a with e|⟨z,e⟩|⟨l,s,e⟩|⟨o,g,⟨_,_,_,_,e⟩|⟨e,_⟩⟩<;>rw[e]
     ·exact bA _
     ·exact zero_le _
     ·exact zero_le _
     ·exact bA _
     ·exact zero_le _
   by_cases E:kH "asked" rs (Sum.inl (n:Int))=true
   ·rw[O8 E];have:=RX.Whole.snoc (r:=.asked n) R ⟨⟨tu,p,Q,d,EQ _ fY,?_⟩,λa=>?_,λt y a=>?_⟩
    ·simpa using this
    ·obtain⟨t1,p1,k1,x1,h1,h2⟩:=Iz c.hw (nE.mp E);have:=lW c.hw K6 h1;injection this with _ _ _ _ D
     rw[D];exact h2
    ·rcases cO a with a|a
     ·rcases h a with e|⟨z,e⟩|⟨l,s,e⟩|⟨o,g,⟨_,_,_,_,e⟩|⟨e,_⟩⟩
      ·cases e
      ·cases e
      ·cases e
      ·cases e
      ·cases e;exact IN (rR c.asc N g) (Nat.lt_irrefl _)
     ·cases a
    ·rcases cO a with a|a
     ·rcases h a with e|⟨z,e⟩|⟨l,s,e⟩|⟨o,g,⟨_,_,_,_,e⟩|⟨e,_⟩⟩<;>cases e
     ·cases a
   ·rw[NE E,<- append_assoc];exact R
 have S:=w3 ns.length (bA _);rw[lJ (bA _)]at S;unfold iA;simpa using S
end
section
variable {rs:List RX}{f:Str->Nat}{lf tu m:Nat}{ns:List Nat}{hs:List Str}{es:List E6}
def lX(c:FoldC rs f tu ns){q:RX}:q∈iA rs f tu ns m hs es↔q=.next m tu∨(∃z∈hs,q=.has z (f z))∨(∃e∈es,q=dM e)∨∃n∈ns,(∃p k x,eT rs n=some (p,k,x)/\q=.came n tu p k x)∨(q=.asked n/\.asked n∈rs):=by
 unfold iA;rw[mem_cons,Zma,Zma,jI c ns λ_ h=>h,Zmm,Zmm];constructor
 ·rintro(h|⟨z,a,b⟩|⟨e,a,b⟩|h)
  ·exact .inl h
  ·exact .inr (.inl ⟨z,a,b.symm⟩)
  ·exact .inr (.inr (.inl ⟨e,a,b.symm⟩))
  ·exact .inr (.inr (.inr h))
 ·rintro(h|⟨z,a,b⟩|⟨e,a,b⟩|h)
  ·exact .inl h
  ·exact .inr (.inl ⟨z,a,b.symm⟩)
  ·exact .inr (.inr (.inl ⟨e,a,b.symm⟩))
  ·exact .inr (.inr (.inr h))
def Fc{a c:Type}{g:a->Option c}{xs:List a}(h:∀x,g x=none):xs.filterMap g=[]:=by
 induction xs with
 | nil=>rfl
 | cons x xs b=>rw[CF,h,b]
def Cv{c:Type}(g:RX->Option c)(a:∀z m,g (.has z m)=none)(b:∀e,g (dM e)=none):(iA rs f tu ns m hs es).filterMap g=(g (.next m tu)).toList++(aZ rs tu ns).filterMap g:=by
 unfold iA;rw[CF,CG,CG,filterMap_map,filterMap_map,Fc (g:=g∘λz=>RX.has z (f z)) λz=>a z (f z),Fc (g:=g∘dM) b];cases g (.next m tu)<;>rfl
def Am{b:Type}(g:RX->Option b)(c:FoldC rs f tu ns){v:Nat->b}(d:∀n p k x,g (.came n tu p k x)=some (v n))(e:∀n,g (.asked n)=none):(aZ rs tu ns).filterMap g=ns.map v:=by
 have:∀a:List Nat,(∀n∈a,n∈ns)->(aZ rs tu a).filterMap g=a.map v:=λa=>by
  induction a with
  | nil=>exact λ_=>rfl
  | cons n a i=>
   intro h;refine yE0 (c.came (h n fY)) (yE3 λp k x=>yA4 λ_ _ j _=>?_);have l:aZ rs tu (n::a)=hZ rs tu n++aZ rs tu a:=by unfold aZ;rw[AT]
   have o:(if kH "asked" rs (Sum.inl (n:Int))=true then [RX.asked n] else []).filterMap g=[]:=by split<;>simp[e]
   rw[l,j,cons_append,List.filterMap_cons_some (d n p k x),CG,i λn q=>h n (fR _ q),o];rfl
 exact this ns λ_ h=>h
def Jc(c:FoldC rs f tu ns):bS (iA rs f tu ns m hs es)=ns:=by
 refine(Cv _ (λ_ _=>rfl) (λ_=>rfl)).trans ?_;refine(List.nil_append _).trans ((Am _ c (v:=λn=>n) (λ_ _ _ _=>rfl) (λ_=>rfl)).trans Zs)
def Ao(c:FoldC rs f tu ns){n t:Nat}{y:An}:.done n t y∉iA rs f tu ns m hs es:=λh=>by
 rcases(lX c).mp h with e|⟨z,_,e⟩|⟨a,_,e⟩|⟨b,_,⟨_,_,_,_,e⟩|⟨e,_⟩⟩<;>cases e
def qF{a b:Type}{g:a->List b}{xs:List a}(h:∀x∈xs,g x=[]):xs.flatMap g=[]:=List.flatMap_eq_nil_iff.mpr h
def Ps(c:FoldC rs f tu ns):bT (iA rs f tu ns m hs es)=es:=by
 unfold bT;have b:(iA rs f tu ns m hs es).flatMap (hX (iA rs f tu ns m hs es))=[]:=qF λr a=>Ah λe=>by
  obtain⟨n,t,y,rfl⟩:=rO e;exact Ao c a
 have d:(aZ rs tu ns).flatMap gC=[]:=qF λr a=>by
  rcases(jI c ns λ_ h=>h).mp a with⟨k,_,⟨_,_,_,_,e⟩|⟨e,_⟩⟩<;>rw[e]<;>rfl
 have g:(hs.map λz=>RX.has z (f z)).flatMap gC=[]:=qF λr a=>by
  obtain⟨z,_,rfl⟩:=Zmm.mp a;rfl
 have i:(es.map dM).flatMap gC=es:=by
  clear b d g c;induction es with
  | nil=>rfl
  | cons e es j=>rw[map_cons,AT,j];rfl
 rw[b,append_nil];unfold iA;rw[AT,flatMap_append,flatMap_append,d,g,i];simp[gC]
def Pu(c:FoldC rs f tu ns)(x:FoldX rs f lf tu ns m hs es):IsMax (dA (iA rs f tu ns m hs es)) (m:Int):=by
 have g:bR (iA rs f tu ns m hs es)=[m]:=by
  refine(Cv _ (λ_ _=>rfl) (λ_=>rfl)).trans ?_;have:(aZ rs tu ns).filterMap (λr=>match r with|.next n _=>some n|_=>none)=[]:=by
   rw[List.filterMap_eq_nil_iff];intro r i;rcases(jI c ns λ_ h=>h).mp i with⟨q,_,⟨_,_,_,_,e⟩|⟨e,_⟩⟩<;>rw[e]
  exact congrArg (λl=>[m]++l) this
 unfold dA;rw[g,Jc c];refine⟨Zs,λa b=>?_⟩;simp only [map_cons,map_nil,cons_append,List.nil_append,mem_cons,Zmm]at b;rcases b with rfl|rfl|⟨n,j,rfl⟩
 ·exact x.mx.2 1 (by unfold dA;simp)
 ·exact Int.le_refl _
 ·refine yE0 (c.came j) (yE3 λp k d=>yA4 λ_ _ _=>yE1 λt o=>?_);exact x.mx.2 _ (by unfold dA;simp only [cons_append,mem_cons,Zma,Zmm];exact .inr (.inr ⟨n,wB o,rfl⟩))
def Pw(c:FoldC rs f tu ns):IsMax (turnL (iA rs f tu ns m hs es)) (tu:Int):=by
 have d:cQ (iA rs f tu ns m hs es)=tu::ns.map λ_=>tu:=by
  refine(Cv _ (λ_ _=>rfl) (λ_=>rfl)).trans ?_;exact congrArg (λl=>[tu]++l) (Am _ c (v:=λ_=>tu) (λ_ _ _ _=>rfl) (λ_=>rfl))
 unfold turnL;rw[d];refine⟨Zs,λa b=>?_⟩;simp only [map_cons,map_map,mem_cons,Zmm]at b;rcases b with rfl|rfl|⟨n,e,rfl⟩
 ·omega
 ·exact Int.le_refl _
 ·exact Int.le_refl _
def aAD(f:Str->Nat)(r:RX):Str->Nat:=match r with|.has z m=>dB f z m|_=>f
theorem Px:∀(l:List RX)(g:Str->Nat),(∀r∈l,dR r≠"has")->l.foldl aAD g=g
 | [],_,_=>rfl
 | r::l,g,h=>by
  rw[foldl_cons];have a:=Px l g λr b=>h r (fR _ b)
  cases r with
  | has z m=>exact IN rfl (h _ fY)
  | _=>exact a
theorem Fd:∀(l:List Str)(g:Str->Nat)(z:Str),(l.map λz=>RX.has z (f z)).foldl aAD g z=if z∈l then f z else g z
 | [],g,z=>by rw[NE (λh=>nomatch h)];rfl
 | y::l,g,z=>by
  rw[map_cons,foldl_cons,Fd l];by_cases b:z∈l
  ·rw[O8 b,O8 (fR _ b)]
  ·rw[NE b];show dB g y (f y) z=_;unfold dB;by_cases a:z=y
   ·rw[O8 a,O8 (by rw[a];exact fY),a]
   ·rw[NE a,NE (λh=>by rcases mem_cons.mp h with e|e;exact a e;exact b e)]
def Jd(c:FoldC rs f tu ns)(x:FoldX rs f lf tu ns m hs es):mY (iA rs f tu ns m hs es)=f:=by
 show(iA rs f tu ns m hs es).foldl aAD (λ_=>0)=f;unfold iA;rw[foldl_cons,foldl_append,Px (es.map dM++aZ rs tu ns) _ λr a=>?_]
 ·funext z
  rw[Fd];by_cases h:z∈hs
  ·rw[O8 h]
  ·rw[NE h];have b:¬ 0<f z:=λb=>h ((x.pos.iff z).mpr b)
   show 0=f z;omega
 ·rcases Zma.mp a with a|a
  ·obtain⟨e,_,rfl⟩:=Zmm.mp a;exact show("kept":Str)≠"has" by decide +kernel
  ·rcases(jI c ns λ_ h=>h).mp a with⟨d,_,⟨_,_,_,_,e⟩|⟨e,_⟩⟩<;>rw[e]
   ·exact show("came":Str)≠"has" by decide +kernel
   ·exact show("asked":Str)≠"has" by decide +kernel
def Uz(c:FoldC rs f tu ns)(x:FoldX rs f lf tu ns m hs es):RepF (iA rs f tu ns m hs es) (λ_=>f) f:=
 ⟨(Jd c x).symm,λi n t y e=>IN (jJ e) (Ao c),λ_ _ _ _=>rfl,rfl⟩
def Va(c:FoldC rs f tu ns):∀r∈iA rs f tu ns m hs es,Oz r:=λr b=>by
 rcases(lX c).mp b with e|⟨z,_,e⟩|⟨i,_,e⟩|⟨j,g,⟨p,k,d,h,e⟩|⟨e,_⟩⟩<;>rw[e]
 ·trivial
 ·exact c.le z
 ·trivial
 ·refine yE0 (c.came g) (yE3 λl n o=>yA3 λa hd _=>?_);rw[h]at a;cases a;exact hd
 ·trivial
def aAE(c:FoldC rs f tu ns)(x:FoldX rs f lf tu ns m hs es):∀n t p k d y,.kept n t p k d y∈iA rs f tu ns m hs es->d.Ok:=λn t p k d y b=>by
 rcases(lX c).mp b with e|⟨z,_,e⟩|⟨h,a,e⟩|⟨i,a,⟨p,k,d,j,e⟩|⟨e,_⟩⟩
 ·cases e
 ·cases e
 ·have:=(x.ent c a).dd c.snd c.kd;unfold dM at e;injection e with _ _ _ _ g _
  rw[g];exact this
 ·cases e
 ·cases e
end
def Fe{g:TG}{tb:TS}{D:kN}{c:St}{H:Hp}{a:TD}(e:SqL K H a [])(h:D.nx c H) :
  ∃W:Nat->Nat->St->Hp->Prop,(∃m,W 0 m c H)/\∀i m c H,W i m c H →
   ((Vp K a).stop i H/\D.nx c H)∨((Vp K a).go i H/\∃N:St->Hp->Prop,(∀ b H',N b H'->∃m',m'<m/\W (i+1) m' b H')/\∀x H',(Vp K a).yld i H x H'->g x c H' λf H2=>tb {D with nx:=N,ct:=N,bk:=D.nx } f H2):=
 bU (bE K a []) (λi b H'=>H'=H/\b=c) (λi b H' ⟨d,_⟩=>by rw[d];exact e) ⟨rfl,rfl⟩ (λi x b H' j _=>by simp at j) (λb H' ⟨d,k⟩=>by subst d;subst k;exact h)
structure JT(K:W.Frag)(C:TD):Prop where
 cl:Cls K C
 nW:NoAttr K C "written"
 nS:NoAttr K C "safe_count"
def wI:Sp:=λvs H Q _=>vs=[.str ("":Str)]/\∀l a,H l=none->a l=some (.lst [])->Same H a->Q (.ref l) a
def Ap(T:Txt K mg)(D:DefAt K mg "rows_of" lU ["text"]):Callee P w K mg base 1 "rows_of" ["text"] wI:=by
 refine D.gg jZ (λf I A G s H vs Q E J h=>?_)
 ·obtain⟨rfl,q⟩:=h;refine⟨_,(lq (pv (i:=1) jZ.nd (vf li)) (lq (vi PassesOwn.never rfl (R.ig (K:=K) rfl T.b_enumerate (vc (R.cr (K:=K)) (xg (K:=K) PySem.F.plainAttrs_str PySem.F.slot_str_split PySem.F.type_str_split R.ib (f8 0) (lc oj li)) vj (ux (vd mo)))) (ww (K:=K) (n:=2) rfl (qe (pw (i:=2) jZ.nd) (qe (pw (i:=3) jZ.nd) wx))) (lu va)) (lu (oe (f8 1))))),?_⟩;refine⟨sM rfl,λl j=>?_⟩;dsimp only [aJ];have k:=aG (o:=.lst []) j;have g1:(aH H l (.lst [])) l=some (.lst []):=aA;generalize aH H l (.lst [])=m at k g1 ⊢;refine⟨rfl,Zk,Zk,λe p=>?_⟩;have C:(Txt.split ("":Str) ("\n":Str)).map V.str=[V.str ("":Str)]:=by kernel_rfl
  rw[C];have r:=k.trans (aG (o:=.lst [V.str ("":Str)]) p);have g2:=aG (o:=.lst [V.str ("":Str)]) p _ _ g1;have u:(aH m e (.lst [V.str ("":Str)])) e=some (.lst [V.str ("":Str)]):=aA;generalize aH m e (.lst [V.str ("":Str)])=v at r g2 u ⊢;refine⟨_,QYY u,λb y=>?_⟩;rw[show iB [V.str ("":Str)] none (some (-1))=[] by kernel_rfl];have z:=r.trans (aG (o:=.lst []) y);have g3:=aG (o:=.lst []) y _ _ g2;have g:(aH v b (.lst [])) b=some (.lst []):=aA;generalize aH v b (.lst [])=B at z g3 g ⊢;refine⟨_,QYY g,?_⟩;refine Na (K:=K) (a:=b) (xs:=[]) (tb:=λ_ _ _=>False) (λi d c=>c=B/\d=[some (.str ("":Str)),some (.ref l),none,none]) (λi d c h=>by rw[h.1];exact QYY g) ⟨rfl,rfl⟩ (λi x d c t F=>by simp at F) λd c h=>?_;rw[h.1,h.2];exact q l B j g3 z
def Py(C:TD):Sp:=λvs H Q _=>∃p d,vs=[.ref p,.str ("":Str)]/\H p=some (.ins C d [])/\∀a b,H b=none->a p=some (.ins C d (jf b 0))->a b=some (.lst [])->(∀c o,H c=some o->c≠p->a c=some o)->Q .non a
def Je{C:TD}(T:Txt K mg)(B:JT K C)(t:Callee P w K mg base 1 "rows_of" ["text"] wI)(D:ClsAt K mg "Journal" C "Journal.__init__" bL QZO [[],[.str ("":Str)]]):∀d∈([[],[.str ("":Str)]]:List (List V)),Mkr P w K mg base 2 "Journal" C QZO d (Py C):=by
 refine D.gg lZ (λf x A v s H vs Q E u h=>?_)
 ·revert h;refine yE2 λp a=>yA3 λζ j q=>?_;subst ζ;refine⟨_,(lq (tz (K:=K) (f8 0) (px t u rfl (lc (f8 1) li))) (lu (tz (K:=K) (f8 0) (uy (xz (K:=K)) rfl T.b_len dQ (lc (og (K:=K) (f8 0)) li))))),?_⟩;refine⟨rfl,λl b k g1 m=>?_⟩;have n:p≠l:=aE j k;refine⟨C,a,[],m _ _ j,B.cl,B.nW,(by show 0<1000;decide),?_⟩;dsimp only;rw[show bK "written" (.ref l) []=([("written",.ref l)]:List (Str×V)) from rfl];have g2:(aH b p (.ins C a [("written",.ref l)])) p=some (.ins C a [("written",.ref l)]):=aA;have i:(aH b p (.ins C a [("written",.ref l)])) l=some (.lst []):=by rw[aB n.symm];exact g1
  have r:∀c o,b c=some o->c≠p->(aH b p (.ins C a [("written",.ref l)])) c=some o:=λc o e g=>by rw[aB g];exact e
  generalize aH b p (.ins C a [("written",.ref l)])=y at g2 i r ⊢;refine⟨C,a,_,.ref l,g2,B.cl,B.nW,by kernel_rfl,_,.inl (QYY i),?_⟩;refine⟨C,a,_,g2,B.cl,B.nS,(by show 1<1000;decide),?_⟩;refine q _ l k (by rw[aA];congr 1) (by rw[aB n.symm];exact i) λc o e g=>?_;rw[aB g];exact r _ _ (m _ _ e) g
def oU(C:TD):Sp:=λvs H Q _=>∃(x a c:TD)(n:Int)(b:List V)(v:V),vs=[.ref x,v]/\H x=some (.ins C c (jf a n))/\H a=some (.lst b)/\b.length<=1000/\Q .non (aH H a (.lst (b++[v])))
def oV(C:TD):Sp:=λvs H Q _=>∃(x a b:TD)(n:Int)(c:List V),vs=[.ref x]/\H x=some (.ins C b (jf a n))/\H a=some (.lst c)/\Q .non (aH H x (.ins C b (jf a c.length)))
def rS(C:TD):Sp:=λvs H Q _=>∃(x a c:TD)(n:Int)(b:List V),vs=[.ref x]/\H x=some (.ins C c (jf a n))/\H a=some (.lst b)/\∀l,H l=none->Q (.ref l) (aH H l (.lst b))
def yG(C:TD):Sp:=λvs H Q _=>∃(x a b:TD)(n:Int),vs=[.ref x]/\H x=some (.ins C b (jf a n))/\Q (.int n) H
def Jf{C:TD}(B:JT K C)(D:MethAt K C "write" "Journal.write" dO QZN):cC P w K mg base 1 C "write" QZN (oU C):=by
 refine D.gg pS (λf j A i s H vs Q E k h=>?_)
 ·revert h;refine yE6 λx a c n d v=>yA5 λζ e b g q=>?_;subst ζ;refine⟨_,(lu (uz (xg (K:=K) PySem.F.plainAttrs_list PySem.F.slot_list_append PySem.F.type_list_append R.cz (og (K:=K) (f8 0)) (lc (f8 1) li)))),?_⟩;exact⟨C,c,_,.ref a,e,B.cl,B.nW,by kernel_rfl,.inl ⟨rfl,_,QYY b⟩,a,d,v,rfl,rfl,b,uD g Zd,q⟩
def Jg{C:TD}(T:Txt K mg)(B:JT K C)(D:MethAt K C "force" "Journal.force" dP AC):cC P w K mg base 1 C "force" AC (oV C):=by
 refine D.gg pT (λf i A g s H vs Q E j h=>?_)
 ·revert h;refine yE5 λx a b n c=>yA4 λζ d e q=>?_;subst ζ;refine⟨_,(lu (tz (K:=K) (f8 0) (uy (xz (K:=K)) rfl T.b_len dQ (lc (og (K:=K) (f8 0)) li)))),?_⟩;refine⟨C,b,_,.ref a,d,B.cl,B.nW,by kernel_rfl,_,.inl (QYY e),?_⟩;refine⟨C,b,_,d,B.cl,B.nS,(by show 2<1000;decide),?_⟩;dsimp only;rw[show bK "safe_count" (.int c.length) (jf a n)=jf a c.length by kernel_rfl];exact q
def Pz{C:TD}(T:Txt K mg)(B:JT K C)(D:MethAt K C "rows" "Journal.rows" eP AC):cC P w K mg base 1 C "rows" AC (rS C):=by
 refine D.gg rA (λf g A e s H vs Q E i h=>?_)
 ·revert h;refine yE5 λx a b n j=>yA4 λζ c d q=>?_;subst ζ;refine⟨_,(lu (oe (R.da (R.jd (K:=K)) rfl T.b_list xG (lc (og (K:=K) (f8 0)) li)))),?_⟩;exact⟨C,b,_,.ref a,c,B.cl,B.nW,by kernel_rfl,_,.inl (QYY d),q⟩
def Qa{C:TD}(B:JT K C)(D:MethAt K C "safe" "Journal.safe" eQ AC):cC P w K mg base 1 C "safe" AC (yG C):=by
 refine D.gg rB (λf d A c s H vs Q E e h=>?_)
 ·revert h;refine yE4 λx g a n=>yA3 λζ b q=>?_;subst ζ;refine⟨_,(lu (oe (og (K:=K) (f8 0)))),?_⟩;exact⟨C,a,_,.int n,b,B.cl,B.nS,by kernel_rfl,q⟩
def Ff(C:TD):Sp:=λvs H Q _=>∃(x e f:TD)(m:Int)(a:List V),vs=[.ref x,.int m]/\H x=some (.ins C f (jf e a.length))/\H e=some (.lst a)/\∀d b,H d=none->b x=some (.ins C f (jf d a.length))->b d=some (.lst a)->(∀c o,H c=some o->c≠x->b c=some o)->Q .non b
def Qb{C:TD}(B:JT K C)(z:cC P w K mg base 1 C "force" AC (oV C))(D:MethAt K C "fall" "Journal.fall" eN QZW):cC P w K mg base 2 C "fall" QZW (Ff C):=by
 refine D.gg fV (λf L A J s H vs Q E F h=>?_)
 ·revert h;refine yE5 λx l d m a=>yA4 λζ j u q=>?_;subst ζ;refine⟨_,(lq (pv (i:=2) fV.nd (og (K:=K) (f8 0))) (lq (vi PassesOwn.never rfl (ve (K:=K) (vc (R.cr (K:=K)) (og (K:=K) (f8 0)) (ux (og (K:=K) (f8 0))) vj)) (pw (i:=3) fV.nd) (lq va (lq va (lu va)))) (lq (tz (K:=K) (f8 0) (vc (R.cr (K:=K)) (og (K:=K) (f8 0)) vj (ux (f8 2)))) (lu (uz (vg z F (f8 0))))))),?_⟩;refine⟨C,d,_,.int a.length,j,B.cl,B.nS,by kernel_rfl,?_⟩;refine⟨C,d,_,.ref l,j,B.cl,B.nW,by kernel_rfl,C,d,_,.int a.length,j,B.cl,B.nS,by kernel_rfl,_,QYY u,λk G=>?_⟩;rw[zA,drop_length];have g:=aG (o:=.lst []) G;have g2:(aH H k (.lst [])) k=some (.lst []):=aA;generalize aH H k (.lst [])=v at g g2 ⊢;refine⟨k,rfl,⟨_,QYY g2⟩,Fe (tb:=λ_ _ _=>False) (QYY g2) ?_⟩;have n:=g _ _ j;have I:=g _ _ u;refine⟨C,d,_,.ref l,n,B.cl,B.nW,by kernel_rfl,_,QYY I,λc p=>?_⟩;rw[sO,take_length];have r:=aG (o:=.lst a) p;have g3:(aH v c (.lst a)) c=some (.lst a):=aA;have t:x≠c:=aE n p;generalize aH v c (.lst a)=M at r g3 ⊢;refine⟨C,d,_,r _ _ n,B.cl,B.nW,(by show 2<1000;decide),?_⟩;dsimp only;rw[show bK "written" (.ref c) (jf l a.length)=jf c a.length by kernel_rfl];refine⟨d,_,aA,by kernel_rfl,x,c,d,a.length,a,rfl,aA,by rw[aB t.symm];exact g3,?_⟩;refine q c _ (g.free p) (by rw[aA]) (by rw[aB t.symm,aB t.symm];exact g3) λb o e y=>?_;rw[aB y,aB y];exact r _ _ (g _ _ e)
structure Wq(K:W.Frag)(C:TD):Prop where
 cl:Cls K C
 nN:NoAttr K C "number"
 nA:NoAttr K C "asker"
 nK:NoAttr K C "key"
 nD:NoAttr K C "deed"
 nS:NoAttr K C "stage"
 nP:NoAttr K C "place"
 nU:NoAttr K C "undos"
structure Fg(K:W.Frag)(C:TD):Prop where
 cl:Cls K C
 nT:NoAttr K C "turn"
 nB:NoAttr K C "book"
 nS:NoAttr K C "standing"
 nR:NoAttr K C "runs"
 nN:NoAttr K C "next_number"
def Qc(C:TD):Sp:=λvs H Q _=>∃r:Rn,vs=[.ref r.p,.int r.n,.str r.q.1,.str r.q.2,.ref r.d,.str r.st]/\r.pl=0/\r.un=0/\H r.p=some (.ins C r.dx [])/\Q .non (aH H r.p (.ins C r.dx r.fs))
def Vb{C:TD}(B:Wq K C)(D:ClsAt K mg "Run" C "Run.__init__" cG QZY [[]]):∀d∈([[]]:List (List V)),Mkr P w K mg base 1 "Run" C QZY d (Qc C):=by
 refine D.gg rC (λf g A e s H vs Q E i h=>?_)
 ·obtain⟨⟨p,a,n,q,d,x,st,j,un⟩,rfl,rfl,rfl,b,c⟩:=h;refine⟨_,(lq (tz (K:=K) (f8 0) (f8 1)) (lq (tz (K:=K) (f8 0) (f8 2)) (lq (tz (K:=K) (f8 0) (f8 3)) (lq (tz (K:=K) (f8 0) (f8 4)) (lq (tz (K:=K) (f8 0) (f8 5)) (lq (tz (K:=K) (f8 0) mo) (lu (tz (K:=K) (f8 0) mo)))))))),?_⟩;refine⟨C,a,[],b,B.cl,B.nN,(by show 0<1000;decide),?_⟩;dsimp only;rw[show bK "number" (.int n) []=([("number",.int n)]:List (Str×V)) by kernel_rfl];refine⟨C,a,_,aA,B.cl,B.nA,(by show 1<1000;decide),?_⟩;dsimp only;rw[jK,show bK "asker" (.str q.1) ([("number",.int n)]:List (Str×V))=([("number",.int n),("asker",.str q.1)]:List (Str×V)) by kernel_rfl];refine⟨C,a,_,aA,B.cl,B.nK,(by show 2<1000;decide),?_⟩;dsimp only;rw[jK,show bK "key" (.str q.2) ([("number",.int n),("asker",.str q.1)]:List (Str×V))=([("number",.int n),("asker",.str q.1),("key",.str q.2)]:List (Str×V)) by kernel_rfl];refine⟨C,a,_,aA,B.cl,B.nD,(by show 3<1000;decide),?_⟩;dsimp only;rw[jK,show bK "deed" (.ref d) ([("number",.int n),("asker",.str q.1),("key",.str q.2)]:List (Str×V))=([("number",.int n),("asker",.str q.1),("key",.str q.2),("deed",.ref d)]:List (Str×V)) by kernel_rfl];refine⟨C,a,_,aA,B.cl,B.nS,(by show 4<1000;decide),?_⟩;dsimp only;rw[jK,show bK "stage" (.str st) ([("number",.int n),("asker",.str q.1),("key",.str q.2),("deed",.ref d)]:List (Str×V))=([("number",.int n),("asker",.str q.1),("key",.str q.2),("deed",.ref d),("stage",.str st)]:List (Str×V)) by kernel_rfl];refine⟨C,a,_,aA,B.cl,B.nP,(by show 5<1000;decide),?_⟩;dsimp only;rw[jK,show bK "place" (.int 0) ([("number",.int n),("asker",.str q.1),("key",.str q.2),("deed",.ref d),("stage",.str st)]:List (Str×V))=([("number",.int n),("asker",.str q.1),("key",.str q.2),("deed",.ref d),("stage",.str st),("place",.int 0)]:List (Str×V)) by kernel_rfl];refine⟨C,a,_,aA,B.cl,B.nU,(by show 6<1000;decide),?_⟩;dsimp only;rw[jK,show bK "undos" (.int 0) ([("number",.int n),("asker",.str q.1),("key",.str q.2),("deed",.ref d),("stage",.str st),("place",.int 0)]:List (Str×V))=([("number",.int n),("asker",.str q.1),("key",.str q.2),("deed",.ref d),("stage",.str st),("place",.int 0),("undos",.int 0)]:List (Str×V)) by kernel_rfl];exact c
def Fh(C:TD):Sp:=λvs H Q _=>∃(v:V)(r:Rn),vs=[v,.ref r.p]/\H r.p=some (.ins C r.dx r.fs)/\r.st="new"/\Q (.bl false) H
def Qd{C:TD}(B:Wq K C)(D:MethAt K C "is_held_up_by" "Run.is_held_up_by" cD QZx):cC P w K mg base 1 C "is_held_up_by" QZx (Fh C):=by
 refine D.gg lC (λf d A c s H vs Q E e h=>?_)
 ·revert h;refine yE2 λv r=>yA4 λζ a b q=>?_;subst ζ;refine⟨_,(lq (qa (pi vb (og (K:=K) (f8 1)) oj) (lu (oe yt)) qb) (lu va)),?_⟩;refine⟨C,_,_,.str r.st,a,B.cl,B.nS,by kernel_rfl,?_⟩;rw[b];exact q
def tY{rs:List Rn}(b:rs.Pairwise λr r'=>r.n<r'.n){r:Rn}(a:r∈rs):aY (bG rs) (Sum.inl (r.n:Int))=some (.ref r.p):=by
 induction rs with
 | nil=>cases a
 | cons z g c=>
  obtain⟨d,f⟩:=pairwise_cons.mp b;unfold bG;rw[map_cons];rcases mem_cons.mp a with rfl|m
  ·exact bY rfl
  ·have h:=d r m;rw[bZ (λe=>by have i:(z.n:Int)=(r.n:Int):=Sum.inl.inj e;omega)];exact c f m
def Jh{rs:List Rn}{n:Nat}(h:∀r∈rs,r.n<n):aY (bG rs) (Sum.inl (n:Int))=none:=by
 cases e:aY (bG rs) (Sum.inl (n:Int)) with
 | none=>rfl
 | some v=>
  have:=kY e;unfold bG at this;obtain⟨r,a,b⟩:=Zmm.mp this;have c:(r.n:Int)=(n:Int):=Sum.inl.inj (congrArg Prod.fst b);have:=h r a;omega
def Ji{pre post:List Rn}{r:Rn}(d:(pre++r::post).Pairwise λr r'=>r.n<r'.n):cE (bG (pre++r::post)) (Sum.inl (r.n:Int))=bG (pre++post):=by
 have c:=List.pairwise_append.mp d;have f:=pairwise_cons.mp c.2.1;unfold bG cE;rw[dN,map_cons,filter_append,filter_cons,NE Zs,dN]
 congr 1
 ·rw[filter_eq_self];intro g a;obtain⟨z,b,rfl⟩:=Zmm.mp a;have:=c.2.2 z b r fY;exact UF λe=>by have h:(z.n:Int)=(r.n:Int):=Sum.inl.inj e;omega
 ·rw[filter_eq_self];intro g a;obtain⟨z,b,rfl⟩:=Zmm.mp a;have:=f.1 z b;exact UF λe=>by have h:(z.n:Int)=(r.n:Int):=Sum.inl.inj e;omega
section
variable {c:CK}{H H':Hp}{a:DA}{s s':DS}
def DAt.radd(h:DAt c H a s){r:Rn}(g:H r.p=none)(i:H r.dx=none)(G:r.dx≠r.p)(hd:H r.d=some (.tup r.x.vs))(u:∀r'∈s.runs,r'.n<r.n) :
  DAt c (aH (aH (aH H r.dx (.own r.p)) r.p (.ins c.R r.dx r.fs)) a.rn (.dK (bG (s.runs++[r])))) a {s with runs:=s.runs++[r] }/\Mv a s {s with runs:=s.runs++[r] } H (aH (aH (aH H r.dx (.own r.p)) r.p (.ins c.R r.dx r.fs)) a.rn (.dK (bG (s.runs++[r])))):=by
 have d:Same H (aH (aH H r.dx (.own r.p)) r.p (.ins c.R r.dx r.fs)):=λb o e=>by rw[aB (aE e g),aB (aE e i)];exact e
 have g1:(aH (aH H r.dx (.own r.p)) r.p (.ins c.R r.dx r.fs)) r.p=some (.ins c.R r.dx r.fs):=aA;generalize aH (aH H r.dx (.own r.p)) r.p (.ins c.R r.dx r.fs)=v at d g1 ⊢;refine yE0 h.own (yE2 λbs f=>yA3 λj A B=>?_);have l:=j.get 10 rfl;have n:r.p≠a.rn:=(aE l g).symm;have t:TK H (aH v a.rn (.dK (bG (s.runs++[r])))):=λb I e=>by rw[aB (aK e l λz=>nomatch z)];exact d _ _ e
 have C:=(j.same d).set 10 rfl (.dK (bG (s.runs++[r])));have D:r.p∉((a.all c s bs f).set 10 (a.rn,.dK (bG (s.runs++[r])))).map (·.1):=by
  rw[map_set];intro m;rcases mem_or_eq_of_mem_set m with z|z
  ·exact j.keys g z
  ·exact n z
 have p:=C.snoc D (o:=.ins c.R r.dx r.fs) (by rw[aB n];exact g1);have e:(a.all c s bs f).set 10 (a.rn,.dK (bG (s.runs++[r])))++[(r.p,.ins c.R r.dx r.fs)]=a.all c {s with runs:=s.runs++[r] } bs f:=by
  unfold DA.all;show _=a.objs c {s with runs:=s.runs++[r] } bs f++(s.runs++[r]).map (rE c);rw[dN,<- append_assoc];rfl
 rw[e]at p;refine⟨⟨⟨bs,f,p,A.keep t,B.keep t⟩,h.nd,?_,λq k=>?_⟩,⟨λb o z E=>?_,λq k=>?_,λb z=>?_⟩⟩
 ·exact List.pairwise_append.mpr ⟨h.up,Zs,λx i y F=>by rw[Zms.mp F];exact u x i⟩
 ·rcases Zma.mp k with m|m
  ·exact t _ _ (h.dd q m)
  ·rw[Zms.mp m];exact t _ _ hd
 ·rw[aB λw=>E (by rw[w];simp[DA.fix])];exact d _ _ z
 ·rcases Zma.mp k with m|m
  ·exact .inl (mem_map_of_mem m)
  ·rw[Zms.mp m];exact .inr g
 ·by_cases q:b=a.rn
  ·rw[q,aA]at z;cases z
  ·rw[aB q]at z;exact Same.gr d b z
def DAt.rdrop{pre post:List Rn}{r:Rn}(h:DAt c H a s)(hs:s.runs=pre++r::post):DAt c (aH H a.rn (.dK (bG (pre++post)))) a {s with runs:=pre++post }/\Mv a s {s with runs:=pre++post } H (aH H a.rn (.dK (bG (pre++post)))):=by
 refine yE0 h.own (yE2 λbs d=>yA3 λg j k=>?_);have l:=g.get 10 rfl;have t:TK H (aH H a.rn (.dK (bG (pre++post)))):=fW l λ_ z=>nomatch z
 have i:=g.set 10 rfl (.dK (bG (pre++post)));have sub:(pre++post).Sublist s.runs:=by rw[hs];exact List.Sublist.append_left (List.sublist_cons_self _ _) _
 have e:(a.all c s bs d).set 10 (a.rn,.dK (bG (pre++post)))=a.objs c {s with runs:=pre++post } bs d++s.runs.map (rE c):=rfl;rw[e]at i;have m:Own _ (a.all c {s with runs:=pre++post } bs d):=i.sub (List.Sublist.append_left (sub.map _) _);refine⟨⟨⟨bs,d,m,j.keep t,k.keep t⟩,h.nd,h.up.sublist sub,λq f=>t _ _ (h.dd q (sub.subset f))⟩,⟨λb o z n=>?_,λq f=>.inl (mem_map_of_mem (sub.subset f)),λb z=>?_⟩⟩
 ·rw[aB λw=>n (by rw[w];simp[DA.fix])];exact z
 ·by_cases q:b=a.rn
  ·rw[q,aA]at z;cases z
  ·rw[aB q]at z;exact z
end
def gW(p dx:TD)(n:Nat)(q:Str×Str)(d:TD)(x:Dd)(st:Str):Rn:=⟨p,dx,n,q,d,x,st,0,0⟩
def Wr(c:CK):Sp:=λvs H Q _=>∃(a:DA)(s:DS)(n:Nat)(q:Str×Str)(d:TD)(x:Dd)(st:Str),vs=[.ref a.me,.int n,.str q.1,.str q.2,.ref d,.str st]/\DAt c H a s/\s.L<=500/\(∀f g,s.m q≠some (.busy f g))/\H d=some (.tup x.vs)/\(∀r∈s.runs,r.n<n)/\s.runs.length<=500 ∧
 ∀p e b,DAt c b a {s with m:=s.m.set q (some (.busy n d)),L:=s.L+1,runs:=s.runs++[gW p e n q d x st] }->Mv a s {s with m:=s.m.set q (some (.busy n d)),L:=s.L+1,runs:=s.runs++[gW p e n q d x st] } H b->Q .non b
def aAF{c:CK}(i:Fg K c.M)(y:cC P w K mg base 1 c.Ks "begin" QZC (xR c.Ks))(z:Mkr P w K mg base 1 "Run" c.R QZY [] (Qc c.R))(D:MethAt K c.M "put" "Memory.put" gL QZY) :
  cC P w K mg base 3 c.M "put" QZY (Wr c):=by
 refine D.gg uN (λf T A S s H vs Q E j h=>?_)
 ·revert h;refine yE7 λa s n q d x st=>yA8 λζ h B C hd t F G=>?_;subst ζ;have I:=dE j;refine⟨_,(lq (uz (re y j (og (K:=K) (f8 0)) (lc (f8 2) (lc (f8 3) (lc (f8 1) (lc (f8 4) li)))))) (lu (wt (R.cu z j rfl (lc (f8 1) (lc (f8 2) (lc (f8 3) (lc (f8 4) (lc (f8 5) li)))))) (yp (og (K:=K) (f8 0)) (f8 1) (yu I))))),?_⟩;refine⟨c.M,_,_,.ref a.ks,h.me,i.cl,i.nS,by kernel_rfl,a.kf.dx,_,h.ks,vU _ _ Zk Zk Zk,a.ks,a.kf,s.life,s.m,s.L,q,n,d,rfl,h.ky,B,C,λl J f1=>?_⟩;obtain⟨g,u⟩:=h.keys J f1;dsimp only [aJ];intro p b m o L;refine⟨gW p b n q d x st,rfl,rfl,rfl,aA,rfl,?_⟩;obtain⟨M,N⟩:=g.radd (r:=gW p b n q d x st) m o L (u.tk h _ _ hd) t;show Xp _ _ _ _ _ (aH (aH (aH l b (.own p)) p (.ins c.R b [])) p (.ins c.R b (gW p b n q d x st).fs)) _;rw[jK];have v:(aH (aH l b (.own p)) p (.ins c.R b (gW p b n q d x st).fs)) a.me=some (.ins c.M a.mx (mf a s.turn s.next)):=by rw[aB (aE g.me m),aB (aE g.me o)];exact g.me
  have O:(aH (aH l b (.own p)) p (.ins c.R b (gW p b n q d x st).fs)) a.rn=some (.dK (bG s.runs)):=by rw[aB (aE g.rn m),aB (aE g.rn o)];exact g.rn
  refine⟨c.M,_,_,.ref a.rn,v,i.cl,i.nR,by kernel_rfl,a.rn,_,rfl,DPut.k (k:=Sum.inl (n:Int)) O (by unfold bG;rw[aR];exact uD F Zd),?_⟩;rw[iY _ (Jh t)];have e:bG s.runs++[(Sum.inl (n:Int),V.ref p)]=bG (s.runs++[gW p b n q d x st]):=by unfold bG;rw[dN];rfl
  rw[e];exact G p b _ M (u.trans N)
def Aq(c:CK):Sp:=λvs H Q _=>∃(a:DA)(s:DS)(q:Str×Str)(d:TD)(x:Dd),vs=[.ref a.me,.str q.1,.str q.2,.ref d]/\DAt c H a s/\s.L<=500/\(∀f g,s.m q≠some (.busy f g))/\H d=some (.tup x.vs)/\(∀r∈s.runs,r.n<s.next)/\s.runs.length<=500 ∧
 ∀p e b,DAt c b a {s with m:=s.m.set q (some (.busy s.next d)),L:=s.L+1,runs:=s.runs++[gW p e s.next q d x "new"],next:=s.next+1 }->Mv a s {s with m:=s.m.set q (some (.busy s.next d)),L:=s.L+1,runs:=s.runs++[gW p e s.next q d x "new"],next:=s.next+1 } H b->Q (.int s.next) b
def Jj{c:CK}(g:Fg K c.M)(l:cC P w K mg base 3 c.M "put" QZY (Wr c))(D:MethAt K c.M "begin" "Memory.begin" eS QZn):cC P w K mg base 4 c.M "begin" QZn (Aq c):=by
 refine D.gg kM (λf I A G s H vs Q E m h=>?_)
 ·revert h;refine yE5 λa s q d x=>yA8 λζ h n o hd r t v=>?_;subst ζ;refine⟨_,(lq (pv (i:=4) kM.nd (og (K:=K) (f8 0))) (lq (tz (K:=K) (f8 0) (oh qd (f8 4) mo)) (lq (uz (re l m (f8 0) (lc (f8 4) (lc (f8 1) (lc (f8 2) (lc (f8 3) (lc oj li))))))) (lu (oe (f8 4)))))),?_⟩;refine⟨c.M,_,_,.int s.next,h.me,g.cl,g.nN,by kernel_rfl,?_⟩;refine⟨c.M,a.mx,_,h.me,g.cl,g.nN,(by show 5<1000;decide),?_⟩;dsimp only;rw[show bK "next_number" (.int (s.next+1)) (mf a s.turn s.next)=mf a s.turn ((s.next+1:Nat):Int) by kernel_rfl];obtain⟨j,k⟩:=h.put (H':=aH H a.me (.ins c.M a.mx (mf a s.turn ((s.next+1:Nat):Int)))) 4 {s with next:=s.next+1 } (λ_ _=>rfl) (λ_ _=>rfl) aA (λb u e y=>by rw[aB y];exact e) rfl rfl h.nd rfl;generalize aH H a.me (.ins c.M a.mx (mf a s.turn ((s.next+1:Nat):Int)))=J at j k ⊢;refine⟨a.mx,_,j.me,by kernel_rfl,a,_,s.next,q,d,x,"new",rfl,j,n,o,k.tk h _ _ hd,r,t,λp z B C F=>?_⟩;exact v p z B C (k.trans F)
def Fi(c:CK):Sp:=λvs H Q _=>∃(a:DA)(s:DS)(e d:List Rn)(r:Rn),vs=[.ref a.me,.ref r.p]/\DAt c H a s/\s.runs=e++r::d/\(∀r∈s.runs,r.st="new")/\s.runs.length<64 ∧
 ∀t b,DAt c b a {s with runs:=e++{r with st:="held" }::d }->Mv a s {s with runs:=e++{r with st:="held" }::d } H b->b t=some (.tup [.str "holds"])->Q (.ref t) b
def Qe{c:CK}(T:Txt K mg)(g:Fg K c.M)(x:Wq K c.R)(J:cC P w K mg base 1 c.R "is_held_up_by" QZx (Fh c.R))(D:MethAt K c.M "hold" "Memory.hold" dH QZR):cC P w K mg base 2 c.M "hold" QZR (Fi c):=by
 refine D.gg lD (λa0 cdv a1 outer s H vs a2 a3 y h=>?_)
 ·revert h;refine yE5 λa s pre post r=>yA6 λζ h z L M O=>?_;subst ζ;have Q:=dE y;have A:r∈s.runs:=by rw[z];simp
  refine⟨_,(lq (R.dm (i:=2) lD.nd rfl (Or.inl rfl) rfl (js:=[none,some 0,some 1]) (N:=["other","self","run"]) (CompScope.by (aD dH) ["self","run","holders"] rfl rfl Zk) (aV rfl) (ve (K:=K) (uy (R.dw rfl) rfl T.b_sorted eB (lc (og (K:=K) (f8 0)) li))) (λa4 s₂ H₂ fp=>⟨(pw (i:=0) (show(["other","self","run"]:List Str).Nodup by decide +kernel)),(wy (vk (re J y (f8 2) (lc (vn Q (og (K:=K) (f8 1)) (f8 0)) li)))),(f8 0)⟩) rfl) (lq (qa (pi yn (uy (xz (K:=K)) rfl T.b_len dQ (lc (f8 2) li)) mo) (lu va) qb) (lq (tz (K:=K) (f8 1) oj) (lu (oe (o0 (lc oj li))))))),?_⟩;refine⟨c.M,_,_,.ref a.rn,h.me,g.cl,g.nR,by kernel_rfl,s.runs.map λr=>(r.n:Int),_,.inl h.rn,by unfold bG;rw[map_map,map_map];rfl,by rw[aR];exact M,λl d S B HA=>⟨l,rfl,⟨_,QYY aA⟩,?_⟩⟩;have p:=aG (o:=.lst (d.map V.int)) S;have C:(aH H l (.lst (d.map V.int))) l=some (.lst (d.map V.int)):=aA;generalize aH H l (.lst (d.map V.int))=U at p C ⊢;have j:=h.same p;refine bF (bE K l (d.map V.int)) (by rw[aR,B.length_eq,aR];omega) (λi m b=>b=U/\m=[]) (λi m b ⟨e,f⟩=>⟨by rw[e];exact QYY C,by rw[f];simp⟩) ⟨rfl,rfl⟩ (?_) (?_)
  ·rintro i a5 m b E ⟨e,f⟩;subst e;subst f;rw[dW]at E;obtain⟨n,W,rfl⟩:=Option.map_eq_some_iff.mp E;have X:=B.mem_iff.mp (jJ W);obtain⟨r',q,rfl⟩:=Zmm.mp X;refine⟨r.dx,_,j.run A,by kernel_rfl,c.M,_,_,.ref a.rn,j.me,g.cl,g.nR,by kernel_rfl,a.rn,.ref r'.p,rfl,?_,.ref r.p,r',rfl,j.run q,L r' q,?_⟩
   ·have:=DGet.k (k:=Sum.inl (r'.n:Int)) j.rn;rw[tY h.up q]at this;exact this
   ·exact⟨rfl,rfl⟩
  ·rintro m b ⟨e,f⟩;subst e;subst f;intro u Y;dsimp only [aJ];have v:=p.trans (aG (o:=.lst []) Y);have F:(aH b u (.lst [])) u=some (.lst []):=aA;generalize aH b u (.lst [])=H2 at v F ⊢;have G:=h.same v;refine⟨_,.inl (QYY F),?_⟩;refine⟨c.R,r.dx,_,G.run A,x.cl,x.nS,(by show 7<1000;decide),?_⟩;dsimp only;rw[show bK "stage" (.str "held") r.fs={r with st:="held" }.fs by kernel_rfl];obtain⟨Z,v3⟩:=G.rput (r':={r with st:="held" }) z rfl rfl rfl rfl;exact⟨bM rfl,λt H3 I gt=>O t H3 (Z.same I) (((Mv.same v).trans v3).trans (.same I)) gt⟩
def Qg(c:CK):Sp:=λvs H Q _=>∃(a:DA)(s:DS)(e d:List Rn)(r:Rn)(w:Int)(z:TD)(y:An),vs=[.ref a.me,.int r.n,.int w,.ref z]/\DAt c H a s/\s.runs=e++r::d/\H z=some (.tup y.vs)/\An.Of r.x y/\(∀q∈uQ r.x y,Eu s.prs q)/\s.prs.length<=90/\s.L<=500/\s.m r.q=some (.busy r.n r.d) ∧
 ∀t b,DAt c b a {s with runs:=e++d,prs:=kD s.prs (uQ r.x y),m:=s.m.set r.q (some (.kept r.n w r.d z)),L:=s.L+1 }->Mv a s {s with runs:=e++d,prs:=kD s.prs (uQ r.x y),m:=s.m.set r.q (some (.kept r.n w r.d z)),L:=s.L+1 } H b->b t=some (.tup [.int r.n,.str r.q.1,.str r.q.2,.ref z])->Q (.ref t) b
def Vc{c:CK}(d:Fg K c.M)(b:Wq K c.R)(BB:We K c.B)(L:Callee P w K mg base 2 "changes_of" QZL Os)(M:cC P w K mg base 2 c.B "change" QZz (pX c.B))(N:cC P w K mg base 2 c.Ks "settle" QZB (sZ c.Ks))(D:MethAt K c.M "end" "Memory.end" gM QZm) :
  cC P w K mg base 3 c.M "end" QZm (Qg c):=by
 refine D.gg mJ (λa0 cdv a1 outer s H vs a2 a3 v h=>?_)
 ·revert h;refine yE8 λa s u q r O z y=>yA9 λζ h j Q S T DZ U=>yA2 λV W=>?_;subst ζ;have k:r∈s.runs:=by rw[j];simp
  refine⟨_,(lq (pv (i:=4) mJ.nd (R.ir (og (K:=K) (f8 0)) (f8 1))) (lq (uz (re M v (og (K:=K) (f8 0)) (lc (px L v rfl (lc (og (K:=K) (f8 4)) (lc (f8 3) li))) li))) (lq (uz (re N v (og (K:=K) (f8 0)) (lc (og (K:=K) (f8 4)) (lc (og (K:=K) (f8 4)) (lc (f8 2) (lc (f8 3) li)))))) (lu (oe (o0 (lc (f8 1) (lc (og (K:=K) (f8 4)) (lc (og (K:=K) (f8 4)) (lc (f8 3) li)))))))))),?_⟩;refine⟨c.M,_,_,.ref a.rn,h.me,d.cl,d.nR,by kernel_rfl,a.rn,rfl,.inl ⟨_,.inl h.rn⟩,_,Sum.inl (r.n:Int),.ref r.p,h.rn,rfl,tY h.up k,?_⟩;rw[j,Ji (by rw[<- j];exact h.up)];obtain⟨l,m⟩:=h.rdrop j;have J:r.p≠a.rn:=aK (h.run k) h.rn λz=>nomatch z
  have n:(aH H a.rn (.dK (bG (u++q)))) r.p=some (.ins c.R r.dx r.fs):=by rw[aB J];exact h.run k
  have A:=m.tk h _ _ Q;have B:=m.tk h _ _ (h.dd r k);generalize aH H a.rn (.dK (bG (u++q)))=H1 at l m n A B ⊢;refine⟨c.M,_,_,.ref a.bk,l.me,d.cl,d.nB,by kernel_rfl,a.bx,_,l.bk,by kernel_rfl,c.R,_,_,.ref r.d,n,b.cl,b.nD,by kernel_rfl,r.d,z,r.x,y,rfl,B,A,S,λtp C H2 o X Y x=>?_⟩;have p:=l.same o;have DP:C.length<=2:=by
   have:=congrArg length x;rw[aR]at this;rw[this];cases r.x<;>cases y<;>simp[uQ]
  refine⟨a.bk,a.bx,a.bd,tp,s.prs,C,rfl,p.bk,p.bd,h.nd,X,Y,Zo,by rw[x];exact T,λZ g3 E=>?_⟩;rw[x]at g3;obtain⟨f,v3⟩:=p.put (H':=Z) 6 {s with runs:=u++q,prs:=kD s.prs (uQ r.x y) } (λ_ _=>rfl) (λ_ _=>rfl) g3 E rfl rfl (rM _ _ h.nd) rfl;have g:=E _ _ (o _ _ n) (aK (o _ _ n) p.bd λz=>nomatch z);refine⟨c.M,_,_,.ref a.ks,f.me,d.cl,d.nS,by kernel_rfl,a.kf.dx,_,f.ks,vU _ _ Zk Zk Zk,c.R,_,_,.str r.q.1,g,b.cl,b.nA,by kernel_rfl,c.R,_,_,.str r.q.2,g,b.cl,b.nK,by kernel_rfl,a.ks,a.kf,s.life,s.m,s.L,r.q,r.n,r.d,O,z,rfl,f.ky,U,V,λH4 k4 F=>?_⟩;obtain⟨h4,v4⟩:=f.keys k4 F;have G:H4 r.p=some (.ins c.R r.dx r.fs):=by
   have e:=f.ky;obtain⟨b1,e1,_⟩:=e.hb;obtain⟨b2,e2,_⟩:=e.hs;exact F _ _ g (aK g e1 λz=>nomatch z) (aK g e2 λz=>nomatch z)
  refine⟨c.R,_,_,.str r.q.1,G,b.cl,b.nA,by kernel_rfl,c.R,_,_,.str r.q.2,G,b.cl,b.nK,by kernel_rfl,bM rfl,λt H5 I gt=>W t H5 (h4.same I) ((((m.trans (.same o)).trans v3).trans v4).trans (.same I)) gt⟩
def Own.rev{H:Hp}{L:List (TD×HO)}(h:Own H L):Own H L.reverse:=⟨by rw[List.map_reverse];exact List.pairwise_reverse.mpr (h.1.imp λz=>Ne.symm z),λq a=>h.2 q (mem_reverse.mp a)⟩
structure Gw(p:TD)(H0:Hp)(L:List (TD×HO))(H:Hp):Prop where
 own:Own H L
 fr:∀c o,H0 c=some o->c≠p->H c=some o
 nw:∀q∈L,q.1=p∨H0 q.1=none
 hp:∃o,H p=some o
section
variable {p:TD}{H0 H H':Hp}{L:List (TD×HO)}
def Gw.free(g:Gw p H0 L H){b:TD}(a:H b=none):H0 b=none:=by
 obtain⟨o,e⟩:=g.hp
 cases z:H0 b with
 | none=>rfl
 | some u=>rw[g.fr b u z (λw=>by rw[w,e]at a;cases a)]at a;cases a
def Gw.same(g:Gw p H0 L H)(k:Same H H'):Gw p H0 L H':=⟨g.own.same k,λc o e n=>k _ _ (g.fr c o e n),g.nw,let ⟨o,e⟩:=g.hp;⟨o,k _ _ e⟩⟩
def Gw.set(g:Gw p H0 L H)(i:Nat){o:HO}(e:L[i]?=some (p,o))(o':HO):Gw p H0 (L.set i (p,o')) (aH H p o'):=
 ⟨g.own.set i e o',λc u z n=>by rw[aB n];exact g.fr c u z n,λq a=>(mem_or_eq_of_mem_set a).elim (g.nw q) λz=>.inl (by rw[z]),⟨o',aA⟩⟩
def Gw.add(g:Gw p H0 L H)(M:List (TD×HO))(k:Same H H')(d:(M.map (·.1)).Nodup)(b:∀q∈M,H q.1=none/\H' q.1=some q.2):Gw p H0 (M++L) H':=by
 have c:=g.same k;refine⟨⟨?_,λq a=>(Zma.mp a).elim (λm=>(b q m).2) (c.own.2 q)⟩,c.fr,λq a=>(Zma.mp a).elim (λm=>.inr (g.free (b q m).1)) (g.nw q),c.hp⟩;rw[dN];refine nodup_append.mpr ⟨d,g.own.1,λx f y h e=>?_⟩;obtain⟨q,a,rfl⟩:=Zmm.mp f;exact g.own.keys (b q a).1 (by rw[e];exact h)
def Gw.add1(g:Gw p H0 L H){b:TD}(o:HO)(a:H b=none):Gw p H0 ((b,o)::L) (aH H b o):=g.add [(b,o)] (aG a) Zs (λq c=>by rw[Zms.mp c];exact⟨a,aA⟩)
end
def Gw.keys{p:TD}{h H H':Hp}{d:KF}{x:TD×HO}{i j k l:HO}{R:List (TD×HO)}(g:Gw p h (x::(d.ds,i)::(d.db,j)::R) H)(fr:FrK H H' d)(g1:H' d.ds=some k)(g2:H' d.db=some l)(s:∃o,(p,o)∈R):Gw p h (x::(d.ds,k)::(d.db,l)::R) H':=by
 have f:=g.own.1;simp only [map_cons,nodup_cons,mem_cons,not_or]at f;have m:∀q∈R,H' q.1=some q.2:=λq a=>fr _ _ (g.own.2 q (by simp[a])) (λe=>f.2.2.1 (e▸mem_map_of_mem a)) (λe=>f.2.1.2 (e▸mem_map_of_mem a))
 have r:∀b,(b=d.ds∨b=d.db)->b=p∨h b=none:=λb t=>by
  rcases t with rfl|rfl
  ·exact g.nw (d.ds,i) Zs
  ·exact g.nw (d.db,j) Zs
 refine⟨⟨g.own.1,λq a=>?_⟩,λc o e n=>fr _ _ (g.fr c o e n) (λz=>?_) (λz=>?_),λq a=>?_,?_⟩
 ·rcases mem_cons.mp a with rfl|a
  ·exact fr _ _ (g.own.2 q Zs) (λe=>f.1.2.1 e) (λe=>f.1.1 e)
  rcases mem_cons.mp a with rfl|a
  ·exact g1
  rcases mem_cons.mp a with rfl|a
  ·exact g2
  ·exact m q a
 ·rcases r c (.inr z) with w|w
  ·exact n w
  ·rw[w]at e;cases e
 ·rcases r c (.inl z) with w|w
  ·exact n w
  ·rw[w]at e;cases e
 ·rcases mem_cons.mp a with rfl|a
  ·exact g.nw q Zs
  rcases mem_cons.mp a with rfl|a
  ·exact g.nw (d.ds,i) Zs
  rcases mem_cons.mp a with rfl|a
  ·exact g.nw (d.db,j) Zs
  ·exact g.nw q (by simp[a])
 ·obtain⟨o,u⟩:=s;exact⟨o,m _ u⟩
def KmOf(H:Hp)(es:List E6)(m:KM):Prop:=∀q,(dL es q=none->m q=none)/\∀e,dL es q=some e->∃d y,m q=some (.kept (e.1:Int) (e.2.1:Int) d y)/\H d=some (.tup e.2.2.2.2.1.vs)/\H y=some (.tup e.2.2.2.2.2.vs)
def KmOf.tk{H H':Hp}{es:List E6}{m:KM}(h:KmOf H es m)(t:TK H H'):KmOf H' es m:=λq=>⟨(h q).1,λe f=>let ⟨d,y,a,b,c⟩:=(h q).2 e f;⟨d,y,a,t _ _ b,t _ _ c⟩⟩
def KmOf.nb{H:Hp}{es:List E6}{m:KM}(h:KmOf H es m)(q:Str×Str)(n:Int)(d:TD):m q≠some (.busy n d):=λe=>by
 cases z:dL es q with
 | none=>rw[(h q).1 z]at e;cases e
 | some x=>obtain⟨d,y,a,_⟩:=(h q).2 x z;rw[a]at e;cases e
def KmOf.snoc{H:Hp}{es:List E6}{m:KM}(h:KmOf H es m)(e:E6){d y:TD}(gd:H d=some (.tup e.2.2.2.2.1.vs))(a:H y=some (.tup e.2.2.2.2.2.vs)){n:Int}:KmOf H (es++[e]) ((m.set (aF e) (some (.busy n d))).set (aF e) (some (.kept (e.1:Int) (e.2.1:Int) d y))):=λq=>by
 rw[eZ];by_cases c:aF e=q
 ·rw[O8 c,<- c,KM.set_same];exact⟨nofun,λx b=>by cases b;exact⟨d,y,rfl,gd,a⟩⟩
 ·rw[NE c,KM.set_ne (Ne.symm c),KM.set_ne (Ne.symm c)];exact h q
def Qh(c:CK):Sp:=λvs H Q _=>∃(p h:TD)(g i j m2:Int)(t b l o:TD)(a:List Z)(k:List TD)(e:List E6),vs=[.ref p,.int g,.int i,.ref t]/\H p=some (.ins c.M h [])/\H t=some (.tup [.ref b,.ref l,.ref o,.int j,.int m2])/\H b=some (.lst (cI a))/\ZAt H a/\((a.map (·.2)).map (·.1)).Nodup/\a.length<=43/\H l=some (.lst (k.map V.ref))/\Paired (At6 H) e k/\e.length<=240/\H o=some (.lst []) ∧
 ∀(bk q bd ks rn:TD)(f:KF)(bs n:List (List aS×V))(m:KM)(L:Nat)(d:Hp),Gw p H [(rn,.dK []),(f.ds,.dT n),(f.db,.dT bs),(ks,.ins c.Ks f.dx (vT f g)),(bd,.dK (kJ (a.map (·.2)))),(bk,.ins c.B q [("amounts",.ref bd)]),(p,.ins c.M h [("turn",.int i),("book",.ref bk),("standing",.ref ks),("runs",.ref rn),("next_number",.int j)])] d →
  Dic d bs m fB L->Dic d n m fS L->KmOf d e m->L<=2*e.length->Q .non d
def aAG{c:CK}(l:Fg K c.M)(xp:Mkr P w K mg base 1 "Book" c.B QZP [] (xO c.B))(F0:cC P w K mg base 1 c.Ks "begin" QZC (xR c.Ks))(A8:cC P w K mg base 2 c.Ks "settle" QZB (sZ c.Ks))(HD:Mkr P w K mg base 1 "Keys" c.Ks QZK [] (Ep c.Ks))(D:ClsAt K mg "Memory" c.M "Memory.__init__" bP QZS [[]]) :
  ∀d∈([[]]:List (List V)),Mkr P w K mg base 3 "Memory" c.M QZS d (Qh c):=by
 refine D.gg aO (λa4 cdv a5 outer s H vs a6 a7 T a0=>?_)
 ·revert a0;refine yE9 λp f x a A m2 t b a1=>yE4 λo B as U=>yA9 λζ u I hb hz ox MO hl=>yA4 λJ hel ho q=>?_;subst ζ;refine⟨_,(lq (tz (K:=K) (f8 0) (f8 2)) (lq (tz (K:=K) (f8 0) (R.cu xp T rfl (lc (oi K 3) li))) (lq (tz (K:=K) (f8 0) (R.cu HD T rfl (lc (f8 1) li))) (lq (tz (K:=K) (f8 0) R.fw) (lq (tz (K:=K) (f8 0) (oi K 3)) (lq (vi PassesOwn.never rfl (ve (K:=K) (oi K 3)) (ww (K:=K) (n:=6) rfl (qe (pw (i:=4) aO.nd) (qe (pw (i:=5) aO.nd) (qe (pw (i:=6) aO.nd) (qe (pw (i:=7) aO.nd) (qe (pw (i:=8) aO.nd) (qe (pw (i:=9) aO.nd) wx))))))) (lq (uz (re F0 T (og (K:=K) (f8 0)) (lc (f8 6) (lc (f8 7) (lc (f8 4) (lc (f8 8) li)))))) (lu (uz (re A8 T (og (K:=K) (f8 0)) (lc (f8 6) (lc (f8 7) (lc (f8 5) (lc (f8 9) li))))))))) (lu (vi PassesOwn.never rfl (ve (K:=K) (oi K 3)) (ww (K:=K) (n:=4) rfl (qe (pw (i:=4) aO.nd) (qe (pw (i:=6) aO.nd) (qe (pw (i:=7) aO.nd) (qe (pw (i:=8) aO.nd) wx))))) (lu va))))))))),?_⟩;have g0:Gw p H [(p,.ins c.M f [])] H:=⟨⟨Zs,λq v=>by rw[Zms.mp v];exact u⟩,λ_ _ e _=>e,λq v=>.inl (by rw[Zms.mp v]),⟨_,u⟩⟩;have W:t≠p:=aK I u λz=>nomatch z
  have nbp:b≠p:=aK hb u λz=>nomatch z
  have PK:a1≠p:=aK hl u λz=>nomatch z
  have ZP:o≠p:=aK ho u λz=>nomatch z
  refine⟨c.M,f,[],u,l.cl,l.nT,(by show 0<1000;decide),?_⟩;dsimp only;rw[show bK "turn" (.int a) []=([("turn",.int a)]:List (Str×V)) by kernel_rfl];have g1:=g0.set 0 rfl (.ins c.M f [("turn",.int a)]);generalize aH H p (.ins c.M f [("turn",.int a)])=M at g1 ⊢;refine⟨_,QYZ (g1.fr _ _ I W),_,rfl,λbk C E X E7=>?_⟩;have nb:M b=some (.lst (cI B)):=g1.fr _ _ hb nbp;have nz:ZAt (aH (aH M C (.own bk)) bk (.ins c.B C [])) B:=λz xj=>by
   have e:=g1.fr _ _ (hz z xj) (aK (hz z xj) u λz=>nomatch z);rw[aB (aE e E),aB (aE e X)];exact e
  refine⟨bk,C,_,B.map (·.2),rfl,aA,.inr ⟨b,B,rfl,by rw[aB (aE nb E),aB (aE nb X)];exact nb,nz,rfl⟩,ox,by rw[aR];omega,λH2 bd ZQ ZR ZS k2=>⟨rfl,?_⟩⟩;have s2:Same M H2:=λc o e=>k2 _ _ (by rw[aB (aE e E),aB (aE e X)];exact e) (aE e E)
  have TC:M bd=none:=by
   cases e:M bd with
   | none=>rfl
   | some a2=>rw[aB (aE e E),aB (aE e X),e]at ZQ;cases ZQ
  have nbk:bd≠bk:=aK ZS ZR λz=>nomatch z
  have g2:=g1.add [(bd,.dK (kJ (B.map (·.2)))),(bk,.ins c.B C [("amounts",.ref bd)])] s2 (by simp [nbk]) (λq v=>by
   simp only [mem_cons,EJ,or_false]at v;rcases v with rfl|rfl
   ·exact⟨TC,ZS⟩
   ·exact⟨E,ZR⟩)
  refine⟨c.M,f,_,g2.own.get 2 rfl,l.cl,l.nB,(by show 1<1000;decide),?_⟩;dsimp only;rw[show bK "book" (.ref bk) ([("turn",.int a)]:List (Str×V))=([("turn",.int a),("book",.ref bk)]:List (Str×V)) by kernel_rfl];have g3:=g2.set 2 rfl (.ins c.M f [("turn",.int a),("book",.ref bk)]);generalize aH H2 p (.ins c.M f [("turn",.int a),("book",.ref bk)])=Y at g3 ⊢;intro ks kx Z ZT hnk;refine⟨ks,kx,x,rfl,aA,λH4 h fdb fds ky k4=>⟨rfl,?_⟩⟩;have s4:Same Y H4:=λc o e=>k4 _ _ (by rw[aB (aE e Z),aB (aE e ZT)];exact e) (aE e Z)
  have EN:∀d,(aH (aH Y kx (.own ks)) ks (.ins c.Ks kx [])) d=none->Y d=none:=λd hd=>by
   cases e:Y d with
   | none=>rfl
   | some a2=>rw[aB (aE e Z),aB (aE e ZT),e]at hd;cases hd
  obtain⟨bs,ZU,db⟩:=ky.hb;obtain⟨y,ZV,ds⟩:=ky.hs;have n1:h.ds≠h.db:=ky.ne.symm;have n2:h.ds≠ks:=aK ZV ky.hp λz=>nomatch z
  have n3:h.db≠ks:=aK ZU ky.hp λz=>nomatch z
  have g4:=g3.add [(h.ds,.dT y),(h.db,.dT bs),(ks,.ins c.Ks h.dx (vT h x))] s4 (by simp [n1,n2,n3]) (λq v=>by
   simp only [mem_cons,EJ,or_false]at v;rcases v with rfl|rfl|rfl
   ·exact⟨EN _ fds,ZV⟩
   ·exact⟨EN _ fdb,ZU⟩
   ·exact⟨Z,ky.hp⟩)
  refine⟨c.M,f,_,g4.own.get 5 rfl,l.cl,l.nS,(by show 2<1000;decide),?_⟩;dsimp only;rw[show bK "standing" (.ref ks) ([("turn",.int a),("book",.ref bk)]:List (Str×V))=([("turn",.int a),("book",.ref bk),("standing",.ref ks)]:List (Str×V)) by kernel_rfl];have g5:=g4.set 5 rfl (.ins c.M f [("turn",.int a),("book",.ref bk),("standing",.ref ks)]);have t5:TK H4 (aH H4 p (.ins c.M f [("turn",.int a),("book",.ref bk),("standing",.ref ks)])):=fW (g4.own.get 5 rfl) λ_ z=>nomatch z
  generalize aH H4 p (.ins c.M f [("turn",.int a),("book",.ref bk),("standing",.ref ks)])=H5 at g5 t5 ⊢;intro rn AI;have g6:=g5.add1 (.dK []) AI;have t6:=t5.trans (TK.of (aG (o:=.dK []) AI));generalize aH H5 rn (.dK [])=H6 at g6 t6 ⊢;refine⟨c.M,f,_,g6.own.get 6 rfl,l.cl,l.nR,(by show 3<1000;decide),?_⟩;dsimp only;rw[show bK "runs" (.ref rn) ([("turn",.int a),("book",.ref bk),("standing",.ref ks)]:List (Str×V))=([("turn",.int a),("book",.ref bk),("standing",.ref ks),("runs",.ref rn)]:List (Str×V)) by kernel_rfl];have N:=g6.set 6 rfl (.ins c.M f [("turn",.int a),("book",.ref bk),("standing",.ref ks),("runs",.ref rn)]);have t7:=t6.trans (fW (g6.own.get 6 rfl) (o':=.ins c.M f [("turn",.int a),("book",.ref bk),("standing",.ref ks),("runs",.ref rn)]) λ_ z=>nomatch z);generalize aH H6 p (.ins c.M f [("turn",.int a),("book",.ref bk),("standing",.ref ks),("runs",.ref rn)])=H7 at N t7 ⊢;refine⟨_,QYZ (N.fr _ _ I W),_,rfl,?_⟩;refine⟨c.M,f,_,N.own.get 6 rfl,l.cl,l.nN,(by show 4<1000;decide),?_⟩;dsimp only;rw[show bK "next_number" (.int A) ([("turn",.int a),("book",.ref bk),("standing",.ref ks),("runs",.ref rn)]:List (Str×V))=([("turn",.int a),("book",.ref bk),("standing",.ref ks),("runs",.ref rn),("next_number",.int A)]:List (Str×V)) by kernel_rfl];have O:=N.set 6 rfl (.ins c.M f [("turn",.int a),("book",.ref bk),("standing",.ref ks),("runs",.ref rn),("next_number",.int A)]);have t8:=t7.trans (fW (N.own.get 6 rfl) (o':=.ins c.M f [("turn",.int a),("book",.ref bk),("standing",.ref ks),("runs",.ref rn),("next_number",.int A)]) λ_ z=>nomatch z);generalize aH H7 p (.ins c.M f [("turn",.int a),("book",.ref bk),("standing",.ref ks),("runs",.ref rn),("next_number",.int A)])=H8 at O t8 ⊢;have gl8:=O.fr _ _ hl PK;have go8:=O.fr _ _ ho ZP;have dK:=db.keep t8;have dS:=ds.keep t8;have MP:∀ {bs y:List (List aS×V)}{m:KM}{L:Nat}{k:Hp},Gw p H [(rn,.dK []),(h.ds,.dT y),(h.db,.dT bs),(ks,.ins c.Ks h.dx (vT h x)),(bd,.dK (kJ (B.map (·.2)))),(bk,.ins c.B C [("amounts",.ref bd)]),(p,.ins c.M f [("turn",.int a),("book",.ref bk),("standing",.ref ks),("runs",.ref rn),("next_number",.int A)])] k->Dic k bs m fB L->Dic k y m fS L->KyAt c.Ks k ks h x m L:=λg Q S=>⟨g.own.get 3 rfl,⟨_,g.own.get 2 rfl,Q⟩,⟨_,g.own.get 1 rfl,S⟩,g.own.ne (i:=2) (j:=1) rfl rfl Zd⟩
  refine⟨_,QYZ (O.fr _ _ I W),_,rfl,a1,rfl,⟨_,QYY gl8⟩,?_⟩;refine bU (bE K a1 (as.map V.ref)) (λi σ k=>∃(o4 o5 o6 o7 o8 o9:Option V)(bs y:List (List aS×V))(m:KM)(L:Nat),σ=[some (.ref p),some (.int x),some (.int a),some (.ref t),o4,o5,o6,o7,o8,o9]/\Gw p H [(rn,.dK []),(h.ds,.dT y),(h.db,.dT bs),(ks,.ins c.Ks h.dx (vT h x)),(bd,.dK (kJ (B.map (·.2)))),(bk,.ins c.B C [("amounts",.ref bd)]),(p,.ins c.M f [("turn",.int a),("book",.ref bk),("standing",.ref ks),("runs",.ref rn),("next_number",.int A)])] k/\Dic k bs m fB L/\Dic k y m fS L/\KmOf k (U.take i) m/\L<=2*i)
   (λi σ k ⟨_,_,_,_,_,_,_,_,_,_,_,g,_⟩=>QYY (g.fr _ _ hl PK)) ⟨_,_,_,_,_,_,bs,y,_,0,rfl,O,dK,dS,(λq=>⟨λ_=>rfl,λe a0=>nomatch a0⟩),bA _⟩ ?_ ?_
  ·refine λi a8 σ k hx=>yE9 λo4 o5 o6 o7 o8 o9 ZW GK m=>yE1 λL=>yA6 λζ r Q S F hL=>?_;subst ζ;rw[dW]at hx;obtain⟨a3,ha,rfl⟩:=Option.map_eq_some_iff.mp hx;obtain⟨hi,ei⟩:=Zgs.mp ha;obtain⟨U6,pa⟩:=Paired.get' (j:=i) J hi;rw[ei]at pa;have DY:U[i]?=some U[i]:=fX U6;generalize U[i]=e at pa DY;have tk0:TK H k:=λb xs z=>r.fr _ _ z (aK z u λw=>nomatch w)
   refine yE0 (pa.tk tk0) (yE2 λb1 c1=>yA3 λge gb gc=>?_);refine⟨a3,_,rfl,QYZ ge,rfl,_,_,rfl,_,_,rfl,_,_,rfl,_,_,rfl,_,_,rfl,_,_,rfl,rfl,?_⟩;refine⟨c.M,f,_,.ref ks,r.own.get 6 rfl,l.cl,l.nS,by kernel_rfl,_,_,r.own.get 3 rfl,by kernel_rfl,ks,h,x,m,L,aF e,_,b1,rfl,MP r Q S,(by have:=J.length;omega),(λn d=>F.nb _ n d),λHa ka fa=>?_⟩;obtain⟨b2,JG,e1⟩:=ka.hb;obtain⟨s2,RM,e2⟩:=ka.hs;have G:=r.keys fa RM JG ⟨_,.tail _ (.tail _ (.tail _ (.head _)))⟩;refine⟨c.M,f,_,.ref ks,G.own.get 6 rfl,l.cl,l.nS,by kernel_rfl,_,_,G.own.get 3 rfl,by kernel_rfl,ks,h,x,_,L+1,aF e,_,b1,_,c1,rfl,MP G e1 e2,(by have:=J.length;omega),KM.set_same,λHb kb fb=>?_⟩;obtain⟨b3,FK,f1⟩:=kb.hb;obtain⟨s3,gs3,f2⟩:=kb.hs;have gB:=G.keys fb gs3 FK ⟨_,.tail _ (.tail _ (.tail _ (.head _)))⟩;have ta:TK k Ha:=λb xs z=>fa _ _ z (aK z (r.own.get 2 rfl) λw=>nomatch w) (aK z (r.own.get 1 rfl) λw=>nomatch w)
   have tb:TK Ha Hb:=λb xs z=>fb _ _ z (aK z (G.own.get 2 rfl) λw=>nomatch w) (aK z (G.own.get 1 rfl) λw=>nomatch w)
   refine⟨_,_,_,_,_,_,b3,s3,_,L+1+1,rfl,gB,f1,f2,?_,Zo⟩;rw[aM DY];exact(F.tk (ta.trans tb)).snoc e (tb _ _ (ta _ _ gb)) (tb _ _ (ta _ _ gc))
  ·refine λσ k=>yE9 λo4 o5 o6 o7 o8 o9 ZW GK m=>yE1 λL=>yA6 λζ r Q S F hL=>?_;subst ζ;have ZX:=r.fr _ _ ho ZP;rw[aR]at F hL;rw[<- J.length,lJ (bA _)]at F;refine⟨_,QYZ (r.fr _ _ I W),_,rfl,o,rfl,⟨_,QYY ZX⟩,?_⟩;exact Fe (tb:=λ_ _ _=>False) (QYY ZX) (q bk C bd ks rn h ZW GK m L k r Q S F (by rw[J.length];exact hL))
def Callee.imp{n:Nat}{x:Str}{ps:List Str}{sp a:Sp}(c:Callee P w K mg base n x ps sp)(h:∀vs H Q E,a vs H Q E->sp vs H Q E):Callee P w K mg base n x ps a:=
 let ⟨f,b,F,r⟩:=c.ex
 ⟨f,b,F.imp h,r⟩
def Mkr.imp{n:Nat}{x:Str}{C:TD}{ps:List Str}{dvs:List V}{sp d:Sp}(c:Mkr P w K mg base n x C ps dvs sp)(h:∀vs H Q E,d vs H Q E->sp vs H Q E):Mkr P w K mg base n x C ps dvs d:=
 let ⟨f,e,g,a,b,F,r⟩:=c.ex
 ⟨f,e,g,a,b,F.imp h,r⟩
def Qi:Sp:=λvs H Q _=>∃c:TD,vs=[.ref c]/\H c=some (.lst [])/\∀t b l o a,Same H a->a t=some (.tup [.ref b,.ref l,.ref o,.int 1,.int 0])->a b=some (.lst [])->a l=some (.lst [])->a o=some (.lst [])->Q (.ref t) a
def Ws(c:CK):Sp:=λvs H Q _=>∃(p f:TD)(e:Int)(t b l o:TD),vs=[.ref p,.int e,.int 0,.ref t]/\H p=some (.ins c.M f [])/\H t=some (.tup [.ref b,.ref l,.ref o,.int 1,.int 0])/\H b=some (.lst [])/\H l=some (.lst [])/\H o=some (.lst []) ∧
 ∀(bk h bd ks rn:TD)(a:KF)(bs g:List (List aS×V))(d:Hp),Gw p H [(rn,.dK []),(a.ds,.dT g),(a.db,.dT bs),(ks,.ins c.Ks a.dx (vT a e)),(bd,.dK (kJ [])),(bk,.ins c.B h [("amounts",.ref bd)]),(p,.ins c.M f [("turn",.int 0),("book",.ref bk),("standing",.ref ks),("runs",.ref rn),("next_number",.int 1)])] d →
  Dic d bs (λ_=>none) fB 0->Dic d g (λ_=>none) fS 0->Q .non d
def Vd(c:Callee P w K mg base 5 "risen" zt rQ):Callee P w K mg base 5 "risen" zt Qi:=Callee.imp c λvs H Q E h=>by
 obtain⟨e,rfl,g,q⟩:=h;refine⟨e,[],[],λ_ _=>0,λ_=>0,[],rfl,⟨g,.nil⟩,Zd,⟨Zd,(λ_ _ h=>nomatch h),(λ_ _ _ _ _ _ _ h=>nomatch h)⟩,.nil,(λ_ h=>nomatch h),⟨rfl,(λ_ _ _ _ h=>nomatch h),(λ_ _ h=>nomatch h),rfl⟩,λtp f i j R s=>?_⟩;refine yE0 R.ex (yE7 λbl k m2 ks os a b=>yA9 λg1 g2 l g3 m n o p=>yA4 λA t d _=>?_);cases l;cases m;have u:k=1:=by simpa [dA,bR,bS]using n.1
 have v:m2=0:=by simpa [turnL,cQ]using o.1
 have x:b=[]:=by
  cases b with
  | nil=>rfl
  | cons z r=>exact IN ((t.iff z).mp Zs) Zs
 rw[x]at d;have y:a=[]:=by cases a with
  | nil=>rfl
  | cons z r=>cases d
 subst u v y;exact q tp bl f i j s g1 p g2 g3
def aAH{c:CK}(h:Mkr P w K mg base 3 "Memory" c.M QZS [] (Qh c)):Mkr P w K mg base 3 "Memory" c.M QZS [] (Ws c):=Mkr.imp h λvs H Q E h=>by
 revert h;refine yE7 λp d a t b l o=>yA7 λζ e f g i j q=>?_;subst ζ;refine⟨p,d,a,0,1,0,t,b,l,o,[],[],[],rfl,e,f,g,(λ_ h=>nomatch h),nodup_nil,Zd,i,.nil,Zd,j,λbk k bd ks rn n bs r m L s G u v x y=>?_⟩;have z:m=λ_=>none:=funext λq=>(x q).1 rfl
 have A:L=0:=by simpa using y
 subst z A;exact q bk k bd ks rn n bs r s G u v
def Qj{z a:Str}{n:Int}(hz:z="add"∨z="take")(b:isNm a)(c:1<=n)(d:n<=1000000000000):mD [.str z,.str a,.int n]=true:=(DeedIs.one z a n hz b c d).ok
def Qk{z a b:Str}{n:Int}(hz:z="send"∨z="fetch")(c:isNm a)(d:isNm b)(f:1<=n)(g:n<=1000000000000):mD [.str z,.str a,.str b,.int n]=true:=by
 show(fL (.str z) [.str a,.str b]&&zC 1 1000000000000 (.int n))=true;have e:fL (.str z) [.str a,.str b]=true:=by
  rcases hz with rfl|rfl
  all_goals
   show(true&&(vL (.str a)&&(vL (.str b)&&true))&&(true||_))=true;rw[hJ c,hJ d];rfl
 rw[e];show(decide (1<=n)&&decide (n<=1000000000000))=true;rw[UF f,UF g];rfl
def Ve{x:Dd}(h:x.Ok):mD x.vs=true:=by
 cases x with
 | add a n=>exact Qj (.inl rfl) h.1 (by have:=h.2.1;omega) (by have:=h.2.2;omega)
 | take a n=>exact Qj (.inr rfl) h.1 (by have:=h.2.1;omega) (by have:=h.2.2;omega)
 | move a b n=>exact(DeedIs.two "move" a b n (.inl rfl) h.1 h.2.1 h.2.2.1 (by have:=h.2.2.2.1;omega) (by have:=h.2.2.2.2;omega)).ok
 | send g a n=>exact Qk (.inl rfl) h.1 h.2.1 (by have:=h.2.2.1;omega) (by have:=h.2.2.2;omega)
 | fetch g a n=>exact Qk (.inr rfl) h.1 h.2.1 (by have:=h.2.2.1;omega) (by have:=h.2.2.2;omega)
 | pass g c a n=>exact(DeedIs.three g c a n h.1 h.2.1 h.2.2.1 h.2.2.2.1 (by have:=h.2.2.2.2.1;omega) (by have:=h.2.2.2.2.2;omega)).ok
def aB6{z:Str}(h:isKy z):eU (.str z) (LET++FIG) 12=true:=by
 rw[gZ,UF (by have:=h.1;omega),UF (by have:=h.2.1;omega),all_eq_true.mpr λc a=>UF (show c∈LET++FIG from h.2.2 c a)];rfl
def cW{H:Hp}{z:Str}(h:z.length<=1000):Pt H (.str z):=⟨.str,trivial,λy e=>by cases e;exact h⟩
def qG{H:Hp}{n:Int}:Pt H (.int n):=⟨.int,trivial,λy e=>nomatch e⟩
def aB7{H:Hp}{d:TD}{x:Dd}(h:x.Ok)(g:H d=some (.tup x.vs)):Th H (.ref d):=by
 refine⟨⟨.tup,⟨_,g⟩,λy e=>nomatch e⟩,λa xs e g' y hy=>?_⟩;cases e;rw[g]at g';cases g';refine yE0 Mi (yA6 λw1 w2 w3 w4 w5 w6=>?_);cases x<;>simp only [Dd.vs,mem_cons,EJ,or_false]at hy
 case add=>rcases hy with rfl|rfl|rfl<;>first|exact qG|exact cW w1|exact cW h.1.len
 case take=>rcases hy with rfl|rfl|rfl<;>first|exact qG|exact cW w2|exact cW h.1.len
 case move=>rcases hy with rfl|rfl|rfl|rfl<;>first|exact qG|exact cW w3|exact cW h.1.len|exact cW h.2.1.len
 case send=>rcases hy with rfl|rfl|rfl|rfl<;>first|exact qG|exact cW w4|exact cW h.1.len|exact cW h.2.1.len
 case fetch=>rcases hy with rfl|rfl|rfl|rfl<;>first|exact qG|exact cW w5|exact cW h.1.len|exact cW h.2.1.len
 case pass=>rcases hy with rfl|rfl|rfl|rfl|rfl<;>first|exact qG|exact cW w6|exact cW h.1.len|exact cW h.2.1.len|exact cW h.2.2.1.len
structure Rg(K:W.Frag)(C:TD):Prop where
 cl:Cls K C
 nN:NoAttr K C "name"
 nL:NoAttr K C "life"
 nH:NoAttr K C "houses"
 nJ:NoAttr K C "journal"
 nM:NoAttr K C "memory"
def ds0(name:Str)(a:Int)(hs:List (aS×V)):DS:=⟨name,a,0,1,hs,[],λ_=>none,0,[],[],0⟩
def Fj(c:CK):Sp:=λvs H Q _=>∃(p h l:TD)(d:Str)(g:Int)(e:List W),vs=[.ref p,.str d,.int g,.ref l]/\H p=some (.ins c.D h [])/\isNm d/\d.length<=5/\H l=some (.lst (e.map λz=>V.ref z.1))/\WAt H e/\e.length<=6 ∧
 ∀(a:DA)(f:Hp),a.dr=p->DAt c f a (ds0 d g (aL [] (e.map (·.2))))->(∀b∈a.fix,b=p∨H b=none)->(∀b o,H b=some o->b≠p->f b=some o)->Q .non f
def Ql{c:CK}(T:Txt K mg)(k:Rg K c.D)(C8:Callee P w K mg base 2 "is_name" zv (pG LET 8))(R0:Mkr P w K mg base 2 "Journal" c.J QZO [.str ("":Str)] (Py c.J))(U8:Callee P w K mg base 5 "risen" zt Qi)(mw:Mkr P w K mg base 3 "Memory" c.M QZS [] (Ws c))(D:ClsAt K mg "Door" c.D "Door.__init__" bX QZG [[]]):∀d∈([[]]:List (List V)),Mkr P w K mg base 6 "Door" c.D QZG d (Fj c):=by
 refine D.gg pU (λa3 cdv a4 outer s a0 vs a5 a6 m a1=>?_)
 ·revert a1;refine yE6 λp g a2 a f C=>yA8 λζ x E hn5 M N DP q=>?_;subst ζ;refine⟨_,(lq (qa (wl (xa (wr (vk (px C8 m rfl (lc (f8 1) li)))) (xc (pi yn (uy R.di rfl T.b_len dQ (lc (f8 1) li)) (R.gI rfl T.g_LONGEST_DOOR_NAME))))) (lu va) qb) (lq (tz (K:=K) (f8 0) (f8 1)) (lq (tz (K:=K) (f8 0) (f8 2)) (lq (tz (K:=K) (f8 0) (R.da (R.eu (K:=K) rfl) rfl T.b_dict Eb (lc (f8 3) li))) (lq (tz (K:=K) (f8 0) (R.jh R0 m rfl)) (lu (tz (K:=K) (f8 0) (R.cu mw m rfl (lc (f8 2) (lc mo (lc (px U8 m rfl (lc (vf li) li)) li))))))))))),?_⟩;refine⟨.str a,.str,rfl,trivial,λz e=>by cases e;exact E.len,λO y=>?_⟩;rw[show eU (.str a) LET 8=true from hJ E];refine⟨fJ E.len,?_⟩;refine yZ (by rw[T0];omega) ?_;have g0:Gw p a0 [(p,.ins c.D g [])] O:=⟨⟨Zs,λq l=>by rw[Zms.mp l];exact y _ _ x⟩,λ_ _ e _=>y _ _ e,λq l=>.inl (by rw[Zms.mp l]),⟨_,y _ _ x⟩⟩;refine⟨c.D,g,_,y _ _ x,k.cl,k.nN,(by show 0<1000;decide),?_⟩;dsimp only;rw[show bK "name" (.str a) []=([("name",.str a)]:List (Str×V)) by kernel_rfl];have g1:=g0.set 0 rfl (.ins c.D g [("name",.str a)]);generalize aH O p (.ins c.D g [("name",.str a)])=H2 at g1 ⊢;refine⟨c.D,g,_,g1.own.get 0 rfl,k.cl,k.nL,(by show 1<1000;decide),?_⟩;dsimp only;rw[show bK "life" (.int f) ([("name",.str a)]:List (Str×V))=([("name",.str a),("life",.int f)]:List (Str×V)) by kernel_rfl];have g2:=g1.set 0 rfl (.ins c.D g [("name",.str a),("life",.int f)]);generalize aH H2 p (.ins c.D g [("name",.str a),("life",.int f)])=H3 at g2 ⊢;have PK:a2≠p:=aK M x λz=>nomatch z
  refine⟨C,QYY (g2.fr _ _ M PK),λz Q=>g2.fr _ _ (N z Q) (aK (N z Q) x λz=>nomatch z),Zo,λhd hhd=>?_⟩;have g3:=g2.add1 (.dK (aL [] (C.map (·.2)))) hhd;generalize aH H3 hd (.dK (aL [] (C.map (·.2))))=H4 at g3 ⊢;refine⟨c.D,g,_,g3.own.get 1 rfl,k.cl,k.nH,(by show 2<1000;decide),?_⟩;dsimp only;rw[show bK "houses" (.ref hd) ([("name",.str a),("life",.int f)]:List (Str×V))=([("name",.str a),("life",.int f),("houses",.ref hd)]:List (Str×V)) by kernel_rfl];have S:=g3.set 1 rfl (.ins c.D g [("name",.str a),("life",.int f),("houses",.ref hd)]);generalize aH H4 p (.ins c.D g [("name",.str a),("life",.int f),("houses",.ref hd)])=F at S ⊢;intro j H A U hjn;refine⟨j,H,rfl,aA,λW jl X Y Z k6=>⟨rfl,?_⟩⟩;have s6:Same F W:=λc o e=>k6 _ _ (by rw[aB (aE e A),aB (aE e U)];exact e) (aE e A)
  have TF:F jl=none:=by
   cases e:F jl with
   | none=>rfl
   | some u=>rw[aB (aE e A),aB (aE e U),e]at X;cases X
  have TH:jl≠j:=aK Z Y λz=>nomatch z
  have g5:=S.add [(jl,.lst []),(j,.ins c.J H (jf jl 0))] s6 (by simp [TH]) (λq l=>by
   simp only [mem_cons,EJ,or_false]at l;rcases l with rfl|rfl
   ·exact⟨TF,Z⟩
   ·exact⟨A,Y⟩)
  refine⟨c.D,g,_,g5.own.get 3 rfl,k.cl,k.nJ,(by show 3<1000;decide),?_⟩;dsimp only;rw[show bK "journal" (.ref j) ([("name",.str a),("life",.int f),("houses",.ref hd)]:List (Str×V))=([("name",.str a),("life",.int f),("houses",.ref hd),("journal",.ref j)]:List (Str×V)) by kernel_rfl];have g6:=g5.set 3 rfl (.ins c.D g [("name",.str a),("life",.int f),("houses",.ref hd),("journal",.ref j)]);generalize aH W p (.ins c.D g [("name",.str a),("life",.int f),("houses",.ref hd),("journal",.ref j)])=H7 at g6 ⊢;refine⟨sM rfl,λe he=>?_⟩;have g7:=g6.same (aG (o:=.lst []) he);refine⟨e,rfl,aA,λt b kl ol n s8 gt gb CP JE=>?_⟩;have g8:=g7.same s8;intro me r I IU LP;have v:∀ {b u},n b=some u->(aH (aH n r (.own me)) me (.ins c.M r [])) b=some u:=λe=>by rw[aB (aE e I),aB (aE e IU)];exact e
  refine⟨me,r,f,t,b,kl,ol,rfl,aA,v gt,v gb,v CP,v JE,λbk bx bd ks rn kf bs ss B G db ds=>⟨rfl,?_⟩⟩;have s9:Same n B:=λb u e=>G.fr _ _ (v e) (aE e I)
  have fr8:∀b,(aH (aH n r (.own me)) me (.ins c.M r [])) b=none->n b=none:=λb e=>by
   cases z:n b with
   | none=>rfl
   | some u=>rw[v z]at e;cases e
  have J:=g8.add _ s9 G.own.1 λq l=>⟨(G.nw q l).elim (λe=>by rw[e];exact I) (fr8 _),G.own.2 q l⟩
  refine⟨c.D,g,_,J.own.get 10 rfl,k.cl,k.nM,(by show 4<1000;decide),?_⟩;dsimp only;rw[show bK "memory" (.ref me) ([("name",.str a),("life",.int f),("houses",.ref hd),("journal",.ref j)]:List (Str×V))=([("name",.str a),("life",.int f),("houses",.ref hd),("journal",.ref j),("memory",.ref me)]:List (Str×V)) by kernel_rfl];have L:TK B (aH B p (.ins c.D g [("name",.str a),("life",.int f),("houses",.ref hd),("journal",.ref j),("memory",.ref me)])):=fW (J.own.get 10 rfl) λ_ z=>nomatch z
  have h:=J.set 10 rfl (.ins c.D g [("name",.str a),("life",.int f),("houses",.ref hd),("journal",.ref j),("memory",.ref me)]);generalize aH B p (.ins c.D g [("name",.str a),("life",.int f),("houses",.ref hd),("journal",.ref j),("memory",.ref me)])=FL at L h ⊢;refine q ⟨p,g,hd,j,H,jl,me,r,bk,bx,bd,ks,rn,kf⟩ FL rfl ⟨⟨bs,ss,h.own.rev,db.keep L,ds.keep L⟩,nodup_nil,List.Pairwise.nil,λa7 m=>nomatch m⟩ (λb hb=>?_) h.fr;simp only [DA.fix,mem_cons,EJ,or_false]at hb;rcases hb with rfl|rfl|rfl|rfl|rfl|rfl|rfl|rfl|rfl|rfl|rfl
  ·exact .inl rfl
  ·exact h.nw _ (jJ (i:=9) rfl)
  ·exact h.nw _ (jJ (i:=8) rfl)
  ·exact h.nw _ (jJ (i:=7) rfl)
  ·exact h.nw _ (jJ (i:=6) rfl)
  ·exact h.nw _ (jJ (i:=5) rfl)
  ·exact h.nw _ (jJ (i:=4) rfl)
  ·exact h.nw _ (jJ (i:=3) rfl)
  ·exact h.nw _ (jJ (i:=2) rfl)
  ·exact h.nw _ (jJ (i:=1) rfl)
  ·exact h.nw _ (jJ (i:=0) rfl)
def iN(c:CK):Sp:=λvs H Q _=>∃(a:DA)(s:DS),vs=[.ref a.dr]/\DAt c H a s/\Q (.ref a.me) H
def Qm{c:CK}(b:Rg K c.D)(D:MethAt K c.D "known" "Door.known" gO AC):cC P w K mg base 1 c.D "known" AC (iN c):=by
 refine D.gg uO (λf e A d s H vs Q E g h=>?_)
 ·obtain⟨a,s,rfl,h,q⟩:=h;refine⟨_,(lq (qa (pi R.ji (og (K:=K) (f8 0)) wu) (lu va) qb) (lu (oe (og (K:=K) (f8 0))))),?_⟩;exact⟨c.D,_,_,.ref a.me,h.dr,b.cl,b.nM,by kernel_rfl,c.D,_,_,.ref a.me,h.dr,b.cl,b.nM,by kernel_rfl,q⟩
def Qn{x y:Dd}:∀(j:Nat)(u v:V),x.vs[j]?=some u->y.vs[j]?=some v->gY u=true/\gY v=true:=λj u v b c=>
 have z:∀(d:Dd)(u:V),u∈d.vs->gY u=true:=λd u a=>by
  cases d<;>simp only [Dd.vs,mem_cons,EJ,or_false]at a<;>rcases a with rfl|rfl|rfl|rfl|rfl<;>rfl
 ⟨z _ _ (jJ b),z _ _ (jJ c)⟩
def Wt(same:Bool):KE->List V
 | .busy n _=>if same=true then [.str "busy",.int n] else [.str "other"]
 | .kept _ _ _ z=>if same=true then [.str "kept",.ref z] else [.str "other"]
def keV:KE->List V
 | .busy n d=>[.str "busy",.int n,.ref d]
 | .kept n _ d z=>[.str "kept",.int n,.ref d,.ref z]
def KE.dd:KE->Addr
 | .busy _ d=>d
 | .kept _ _ d _=>d
def Fk:Sp:=λvs H Q _=>∃(b d:TD)(e:KE)(x0 x:Dd),vs=[.ref b,.ref d]/\H b=some (.tup (keV e))/\H (KE.dd e)=some (.tup x0.vs)/\H d=some (.tup x.vs)/\∀t a,Same H a->a t=some (.tup (Wt (cZ x0.vs x.vs) e))->Q (.ref t) a
def Qo(D:DefAt K mg "told_again" gP QZu):Callee P w K mg base 1 "told_again" QZu Fk:=by
 refine D.gg uP (λf p A o s H vs Q E k h=>?_)
 ·revert h;refine yE5 λr d e x0 x=>yA5 λζ c j gd q=>?_;subst ζ;have l:=k.units;refine⟨_,(lq (qa (pi (R.ie l) (oi K 0) (f8 1)) (lu (oe (o0 (lc oj li)))) qb) (lq (qa (pi vb (oi K 0) oj) (lu (oe (o0 (lc oj (lc (oi K 0) li))))) qb) (lu (oe (o0 (lc oj (lc (oi K 0) li))))))),?_⟩
  cases e with
  | busy n m=>
   refine⟨_,QYZ c,_,rfl,_,_,j,gd,Qn,?_⟩;show if (!cZ x0.vs x.vs)=true then _ else _
   cases i:cZ x0.vs x.vs with
   | false=>
    rw[i]at q;exact⟨bM rfl,λt a b g=>q t a b g⟩
   | true=>
    rw[i]at q;exact⟨_,QYZ c,_,rfl,_,QYZ c,_,rfl,bM rfl,λt a b g=>q t a b g⟩
  | kept n u m z=>
   refine⟨_,QYZ c,_,rfl,_,_,j,gd,Qn,?_⟩;show if (!cZ x0.vs x.vs)=true then _ else _
   cases i:cZ x0.vs x.vs with
   | false=>
    rw[i]at q;exact⟨bM rfl,λt a b g=>q t a b g⟩
   | true=>
    rw[i]at q;exact⟨_,QYZ c,_,rfl,_,QYZ c,_,rfl,bM rfl,λt a b g=>q t a b g⟩
def lH(a turn:Int):Option KE->Bool
 | none=>true
 | some (.busy _ _)=>false
 | some (.kept _ w _ _)=>!decide (w+a>turn)
def Jk{a turn:Int}{o:Option KE}(h:lH a turn o=true):Nh a turn o=[.str "free"]:=by
 match o,h with
 | none,_=>rfl
 | some (.kept n w d z),h=>
  have b:¬ w+a>turn:=by simpa [lH]using h
  show(if w+a>turn then _ else _)=_;rw[NE b]
def Qp{a turn:Int}{o:Option KE}(h:lH a turn o=false):∃e,o=some e/\Nh a turn o=keV e:=by
 match o,h with
 | some (.busy n d),_=>exact⟨_,rfl,rfl⟩
 | some (.kept n w d z),h=>
  have b:w+a>turn:=by simpa [lH]using h
  refine⟨_,rfl,?_⟩;show(if w+a>turn then _ else _)=_;rw[O8 b];rfl
def Own.app{H:Hp}{L M:List (TD×HO)}(a:Own H L)(b:Own H M)(d:∀x∈L.map (·.1),x∉M.map (·.1)):Own H (L++M):=
 ⟨by rw[dN];exact nodup_append.mpr ⟨a.1,b.1,λx c y f e=>d x c (e▸f)⟩,λq g=>(Zma.mp g).elim (a.2 q) (b.2 q)⟩
def Vf(a:DA)(s:DS):List (Str×V):=[("name",.str s.name),("life",.int s.life),("houses",.ref a.hd),("journal",.ref a.j),("memory",.non)]
def DA.low(c:CK)(a:DA)(s:DS)(fs:List (Str×V)):List (TD×HO):=[(a.dr,.ins c.D a.dx fs),(a.hd,.dK s.hs),(a.j,.ins c.J a.jx (jf a.jl s.safe)),(a.jl,.lst s.rows)]
def aB8(c:CK)(H:Hp)(a:DA)(s:DS):Prop:=Own H (a.low c s (Vf a s))
def wJ(c:CK):Sp:=λvs H Q _=>∃(a:DA)(s:DS)(z:Str),vs=[.ref a.dr,.str z]/\DAt c H a s/\Q (.int (cA s.prs z)) H
def Cw{c:CK}(b:Fg K c.M)(e:cC P w K mg base 1 c.D "known" AC (iN c))(g:cC P w K mg base 1 c.B "amount" zr (hU c.B))(D:MethAt K c.D "amount" "Door.amount" fH zr):cC P w K mg base 2 c.D "amount" zr (wJ c):=by
 refine D.gg tK (λf j A i s H vs Q E d h=>?_)
 ·revert h;refine yE3 λa s z=>yA3 λζ h q=>?_;subst ζ;refine⟨_,(lu (oe (re g d (og (K:=K) (vg e d (f8 0))) (lc (f8 1) li)))),?_⟩;refine⟨_,_,h.dr,by kernel_rfl,a,s,rfl,h,?_⟩;refine⟨c.M,_,_,.ref a.bk,h.me,b.cl,b.nB,by kernel_rfl,_,_,h.bk,by kernel_rfl,a.bk,z,s.prs,rfl,h.book,q⟩
def DAt.low{c:CK}{H:Hp}{a:DA}{s:DS}(h:DAt c H a s){qs:List (Str×Str)}(g:∀q e,s.m q=some e->q∈qs):DAt c H a {s with L:=qs.length }:=by
 obtain⟨bs,i,j,l,m⟩:=h.own;have k:∀ {b:List (List aS×V)}{f:KE->Option (List V)},Dic H b s.m f s.L->Dic H b s.m f qs.length:=λ{b f} d=>by
  refine⟨d.nd,d.all,d.has,?_⟩;have:=Cq (ys:=qs.map pk) d.nd λk n=>by
   obtain⟨o,p,rfl⟩:=Zmm.mp n;refine yE0 (d.all o p) (yE4 λq e v t=>yA3 λr u _=>?_);rw[r];exact mem_map_of_mem (g q e u)
  simpa using this
 exact⟨⟨bs,i,j,k l,k m⟩,h.nd,h.up,h.dd⟩
def Fl(c:CK):Sp:=λvs H Q _=>∃(a:DA)(s:DS)(f:List (Str×Str)),vs=[.ref a.dr]/\DAt c H a s/\(∀q e,s.m q=some e->q∈f)/\f.length<64/\aAt s.m ∧
 ∀l b d,Same H d->H l=none->d l=some (.lst (iP b))->NAt d b->b.Pairwise tln->(b.map (·.1)).Nodup->Oe s.m s.life s.turn (Cj b)->b.length<64->Q (.ref l) d
def Qq{c:CK}(b:Fg K c.M)(e:cC P w K mg base 1 c.D "known" AC (iN c))(g:cC P w K mg base 3 c.Ks "kept" QZU (Og c.Ks))(D:MethAt K c.D "kept" "Door.kept" iM AC):cC P w K mg base 4 c.D "kept" AC (Fl c):=by
 refine D.gg oQ (λf o A n s H vs Q E d h=>?_)
 ·revert h;refine yE3 λa s j=>yA6 λζ h k l m q=>?_;subst ζ;refine⟨_,(lq (pv (i:=1) oQ.nd (vg e d (f8 0))) (lu (oe (re g d (og (K:=K) (f8 1)) (lc (og (K:=K) (f8 1)) li))))),?_⟩;refine⟨_,_,h.dr,by kernel_rfl,a,s,rfl,h,?_⟩;refine⟨c.M,_,_,.ref a.ks,h.me,b.cl,b.nS,by kernel_rfl,_,_,h.ks,by kernel_rfl,c.M,_,_,.int s.turn,h.me,b.cl,b.nT,by kernel_rfl,a.ks,a.kf,s.life,s.turn,s.m,j.length,rfl,(h.low k).ky,l,m,q⟩
def Fm(c:CK):Sp:=λvs H Q _=>∃(a:DA)(s:DS)(m:Int),vs=[.ref a.dr,.int m]/\DAt c H a s/\s.safe=s.rows.length/\∀e d,H e=none->aB8 c d {a with jl:=e } s->(∀b o,H b=some o->b≠a.dr->b≠a.j->d b=some o)->Q .non d
def Qr{c:CK}(g:Rg K c.D)(F:cC P w K mg base 1 c.D "known" AC (iN c))(G:cC P w K mg base 2 c.J "fall" QZW (Ff c.J))(D:MethAt K c.D "fall" "Door.fall" iI QZW):cC P w K mg base 3 c.D "fall" QZW (Fm c):=by
 refine D.gg xY (λf O A N s H vs Q E t h=>?_)
 ·revert h;refine yE3 λa s m=>yA4 λζ h u q=>?_;subst ζ;refine⟨_,(lq (uz (vg F t (f8 0))) (lq (uz (re G t (og (K:=K) (f8 0)) (lc (f8 1) li))) (lu (tz (K:=K) (f8 0) wu)))),?_⟩;refine yE0 h.own (yE2 λbs R=>yA3 λl _ _=>?_);have v:=h.j;rw[u]at v;refine⟨_,_,h.dr,by kernel_rfl,a,s,rfl,h,?_⟩;refine⟨c.D,_,_,.ref a.j,h.dr,g.cl,g.nJ,by kernel_rfl,_,_,h.j,by kernel_rfl,a.j,a.jl,a.jx,m,s.rows,rfl,v,h.jl,λd S k g1 C n=>?_⟩;have r:a.dr≠a.j:=l.ne (i:=0) (j:=2) rfl rfl Zd;have x:a.dr≠a.hd:=l.ne (i:=0) (j:=1) rfl rfl Zd;have y:a.hd≠a.j:=l.ne (i:=1) (j:=2) rfl rfl Zd;have z:a.dr≠d:=aE h.dr k;have I:a.hd≠d:=aE h.hd k;have J:a.j≠d:=aE h.j k;refine⟨c.D,_,_,n _ _ h.dr r,g.cl,g.nM,(by show 5<1000;decide),?_⟩;dsimp only;rw[show bK "memory" .non (df a s)=Vf a s by kernel_rfl];refine q d _ k ⟨?_,λp B=>?_⟩ λb o e L M=>by rw[aB L];exact n _ _ e M
  ·simp[DA.low,r,x,y,z,I,J]
  ·simp only [DA.low,mem_cons,EJ,or_false]at B;rcases B with rfl|rfl|rfl|rfl
   ·exact aA
   ·show(aH _ _ _) a.hd=_;rw[aB x.symm];exact n _ _ h.hd y
   ·show(aH _ _ _) a.j=_;rw[aB r.symm,u];exact g1
   ·show(aH _ _ _) d=_;rw[aB z.symm];exact C
def lI(s:DS)(turn:Int)(q:Str×Str)(d:TD)(x:Dd)(p dx ra:TD):DS:={s with turn:=turn,m:=s.m.set q (some (.busy s.next d)),L:=s.L+1,runs:=s.runs++[gW p dx s.next q d x "new"],next:=s.next+1,rows:=s.rows++[.ref ra] }
def Cy(c:CK):Sp:=λvs H Q _=>∃(a:DA)(s:DS)(turn:Int)(q:Str×Str)(d:TD)(x x0:Dd),vs=[.ref a.dr,.int turn,.str q.1,.str q.2,.ref d]/\DAt c H a s/\isNm q.1/\isKy q.2/\x.Ok/\x.far=false/\H d=some (.tup x.vs)/\(∀e,s.m q=some e->H (KE.dd e)=some (.tup x0.vs))/\s.L<=500/\(∀r∈s.runs,r.n<s.next)/\s.runs.length<=500/\s.rows.length<=1000 ∧
 s.turn<=turn ∧
 (s.turn<=turn->∀e,s.m q=some e->lH s.life turn (s.m q)=false->∀t b,DAt c b a {s with turn:=turn }->Mv a s {s with turn:=turn } H b->b t=some (.tup (Wt (cZ x0.vs x.vs) e))->Q (.ref t) b) ∧
 (s.turn<=turn->lH s.life turn (s.m q)=true->∀t p g f b,DAt c b a (lI s turn q d x p g f)->Mv a s (lI s turn q d x p g f) H b->b f=some (.tup [.str "came",.int s.next,.int turn,.str q.1,.str q.2,.ref d])->b t=some (.tup [.str "begun",.int s.next])->Q (.ref t) b)
def Vg{c:CK}(T:Txt K mg)(I:Rg K c.D)(f:Fg K c.M)(b4:cC P w K mg base 1 c.D "known" AC (iN c))(C8:Callee P w K mg base 2 "is_name" zv (pG LET 8))(AZ:Callee P w K mg base 2 "is_key" zv (pG (LET++FIG) 12))(zo:Callee P w K mg base 4 "is_deed" zv zD)(W0:Callee P w K mg base 1 "asks_of" zu By)(wa:cC P w K mg base 3 c.Ks "look" QZs (Ni c.Ks))(qv:Callee P w K mg base 1 "told_again" QZu Fk)(mz:cC P w K mg base 4 c.M "begin" QZn (Aq c))(c7:cC P w K mg base 1 c.J "write" QZN (oU c.J))(D:MethAt K c.D "come" "Door.come" iH QZw):cC P w K mg base 5 c.D "come" QZw (Cy c):=by
 refine D.gg cY (λa4 cdv a5 outer s a6 vs a7 a8 b h=>?_)
 ·revert h;refine yE7 λa s turn q d x x0=>yA9 λζ h J L o xq hd hkd=>yA7 λhL AI BA EA F QT QB=>?_;subst ζ;refine⟨_,(lq (pv (i:=5) cY.nd (vg b4 b (f8 0))) (lq (qa (wl (xa (wr (vk (px C8 b rfl (lc (f8 2) li)))) (xc (wr (vk (px AZ b rfl (lc (f8 3) li))))))) (lu va) qb) (lq (qa (wr (vk (px zo b rfl (lc (f8 4) li)))) (lu va) qb) (lq (vi PassesOwn.never rfl (R.cw (K:=K) (px W0 b rfl (lc (f8 4) li))) (ww (K:=K) (n:=2) rfl (qe (pw (i:=6) cY.nd) (qe (pw (i:=7) cY.nd) wx))) (lu va)) (lq (qa (pi R.lt (f8 1) (og (K:=K) (f8 5))) (lu va) qb) (lq (tz (K:=K) (f8 5) (f8 1)) (lq (pv (i:=8) cY.nd (re wa b (og (K:=K) (f8 5)) (lc (f8 2) (lc (f8 3) (lc (f8 1) li))))) (lq (qa (pi R.ne (oi K 8) oj) (lu (oe (px qv b rfl (lc (f8 8) (lc (f8 4) li))))) qb) (lq (pv (i:=9) cY.nd (re mz b (f8 5) (lc (f8 2) (lc (f8 3) (lc (f8 4) li))))) (lq (uz (re c7 b (og (K:=K) (f8 0)) (lc (o0 (lc oj (lc (f8 9) (lc (f8 1) (lc (f8 2) (lc (f8 3) (lc (f8 4) li))))))) li))) (lu (oe (o0 (lc oj (lc (f8 9) li))))))))))))))),?_⟩;refine⟨_,_,h.dr,by kernel_rfl,a,s,rfl,h,?_⟩;refine⟨.str q.1,.str,rfl,trivial,λz e=>by cases e;exact J.len,λH1 s1=>?_⟩;rw[show eU (.str q.1) LET 8=true from hJ J];refine⟨.str q.2,.str,rfl,trivial,λz e=>by cases e;exact L.len,λH2 s2=>?_⟩;rw[aB6 L];have p:=s1.trans s2;refine⟨.ref d,rfl,aB7 o (p _ _ hd),λa0 xs e a1=>?_,λH3 s3=>?_⟩
  ·cases e;rw[p _ _ hd]at a1;cases a1;cases x<;>exact bM rfl
  have M:=p.trans s3;rw[show sQ H2 (.ref d)=true by unfold sQ;simp only [p _ _ hd];exact Ve o];refine⟨d,x.wd,x.vs,tM x,Ab x,rfl,M _ _ hd,Ov x,λN us H4 s4 G H=>?_⟩;have eus:us=[]:=by
   have:Ab x=[]:=by cases x<;>first|rfl|cases xq
   rw[this]at H;cases H;rfl
  subst eus;have O:=M.trans s4;have y:=h.same O;refine⟨N,rfl,⟨_,QYZ G⟩,bU (lO K N []) (tb:=λ_ _ _=>False) (λi v H'=>H'=H4/\v=[some (.ref a.dr),some (.int turn),some (.str q.1),some (.str q.2),some (.ref d),some (.ref a.me),none,none,none,none]) (λi v H' e=>by rw[e.1];exact QYZ G) ⟨rfl,rfl⟩ (λi x v H' o=>by simp at o) λv H' e=>?_⟩;obtain⟨rfl,rfl⟩:=e;refine⟨c.M,_,_,.int s.turn,y.me,f.cl,f.nT,by kernel_rfl,?_⟩;show if decide (turn<s.turn)=true then _ else _
  refine yZ (T0 Zo) ?_;refine⟨c.M,a.mx,_,y.me,f.cl,f.nT,(by show 5<1000;decide),?_⟩;dsimp only;rw[show bK "turn" (.int turn) (mf a s.turn s.next)=mf a turn s.next by kernel_rfl];obtain⟨k,Q⟩:=y.put (H':=aH H' a.me (.ins c.M a.mx (mf a turn s.next))) 4 {s with turn:=turn } (λ_ _=>rfl) (λ_ _=>rfl) aA (λa0 a3 e A=>by rw[aB A];exact e) rfl rfl h.nd rfl;have S:=(Mv.same (a:=a) (s:=s) O).trans Q;generalize aH H' a.me (.ins c.M a.mx (mf a turn s.next))=H5 at k Q S ⊢;refine⟨c.M,_,_,.ref a.ks,k.me,f.cl,f.nS,by kernel_rfl,a.kf.dx,_,k.ks,vU _ _ Zk Zk Zk,a.ks,a.kf,s.life,s.m,s.L,q,turn,rfl,k.ky,λsn H6 U l=>?_⟩;dsimp only [aJ];have B:=k.same U;have r:=S.trans (.same U);have W:=r.tk h _ _ hd
  cases g:lH s.life turn (s.m q) with
  | false=>
   obtain⟨e,X,hlk⟩:=Qp g;rw[hlk]at l;have h0:=r.tk h _ _ (hkd e X);have z:∃j vr,keV e=.str j::vr/\j≠"free":=by
    cases e with
    | busy n d0=>exact⟨_,_,rfl,Zk⟩
    | kept n w0 d0 z0=>exact⟨_,_,rfl,Zk⟩
   revert z;refine yE2 λj vr'=>yA2 λhv0 E7=>?_;refine⟨_,QYZ l,.str j,by rw[hv0];exact nQ (show(V.str j::vr')[0]?=some _ from rfl),?_⟩;show if (!decide (j="free"))=true then _ else _
   refine Zq (by rw[T0 E7];rfl) ?_;exact⟨sn,d,e,x0,x,rfl,l,h0,W,λt Y Z gt=>QT F e X g t Y (B.same Z) (r.trans (.same Z)) gt⟩
  | true=>
   rw[Jk g]at l;refine⟨_,QYZ l,_,rfl,?_⟩;dsimp only [iW];have hnb:∀n' d',s.m q≠some (.busy n' d'):=λn' d' e=>by rw[e]at g;cases g
   refine⟨_,_,B.me,by kernel_rfl,a,_,q,d,x,rfl,B,hL,hnb,W,AI,BA,λa2 dx Y C v7=>?_⟩;dsimp only [aJ];have w7:=r.trans v7;refine⟨c.D,_,_,.ref a.j,C.dr,I.cl,I.nJ,by kernel_rfl,_,_,C.j,by kernel_rfl,bM rfl,λm H8 s8 FN=>?_⟩;have u:=C.same s8;refine⟨a.j,a.jl,a.jx,s.safe,s.rows,.ref m,rfl,u.j,u.jl,EA,?_⟩;obtain⟨h9,v9⟩:=u.put (H':=aH H8 a.jl (.lst (s.rows++[.ref m]))) 3 (lI s turn q d x a2 dx m) (λ_ _=>rfl) (λ_ _=>rfl) aA (λa0 a3 e A=>by rw[aB A];exact e) rfl rfl h.nd rfl;have g9:=v9.tk u _ _ FN;have w9:=(w7.trans (.same s8)).trans v9;generalize aH H8 a.jl (.lst (s.rows++[.ref m]))=H9 at h9 g9 w9 ⊢;exact⟨bM rfl,λt FL E gt=>QB F g t a2 dx m FL (h9.same E) (w9.trans (.same E)) (E _ _ g9) gt⟩
def qX(s:DS)(pre post:List Rn)(r:Rn)(st:Str):DS:={s with runs:=pre++{r with st:=st }::post }
def Fn(c:CK):Sp:=λvs H Q _=>∃(a:DA)(s:DS)(e d:List Rn)(r:Rn)(z:TD),vs=[.ref a.dr,.ref r.p,.ref z]/\DAt c H a s/\s.runs=e++r::d/\s.rows.length<=1000 ∧
 ∀t f b,DAt c b a {qX s e d r "written" with rows:=s.rows++[.ref f] }->Mv a s {qX s e d r "written" with rows:=s.rows++[.ref f] } H b->b f=some (.tup [.str "done",.int r.n,.int s.turn,.ref z])->b t=some (.tup [.str "writes",.str "done"])->Q (.ref t) b
def Qs{c:CK}(g:Rg K c.D)(n:Fg K c.M)(i:Wq K c.R)(B:cC P w K mg base 1 c.J "write" QZN (oU c.J))(D:MethAt K c.D "write_done" "Door.write_done" cR QZF):cC P w K mg base 2 c.D "write_done" QZF (Fn c):=by
 refine D.gg mW (λf O A M s H vs Q E C h=>?_)
 ·revert h;refine yE6 λa s R N r z=>yA5 λζ h o F q=>?_;subst ζ;have p:r∈s.runs:=by rw[o];simp
  refine⟨_,(lq (uz (re B C (og (K:=K) (f8 0)) (lc (o0 (lc oj (lc (og (K:=K) (f8 1)) (lc (og (K:=K) (og (K:=K) (f8 0))) (lc (f8 2) li))))) li))) (lq (tz (K:=K) (f8 1) oj) (lu (oe (o0 (lc oj (lc oj li))))))),?_⟩;refine⟨c.D,_,_,.ref a.j,h.dr,g.cl,g.nJ,by kernel_rfl,_,_,h.j,by kernel_rfl,c.R,_,_,.int r.n,h.run p,i.cl,i.nN,by kernel_rfl,c.D,_,_,.ref a.me,h.dr,g.cl,g.nM,by kernel_rfl,c.M,_,_,.int s.turn,h.me,n.cl,n.nT,by kernel_rfl,bM rfl,λd v x G=>?_⟩;have j:=h.same x;refine⟨a.j,a.jl,a.jx,s.safe,s.rows,.ref d,rfl,j.j,j.jl,F,?_⟩;obtain⟨k,l⟩:=j.put (H':=aH v a.jl (.lst (s.rows++[.ref d]))) 3 {s with rows:=s.rows++[.ref d] } (λ_ _=>rfl) (λ_ _=>rfl) aA (λb u e I=>by rw[aB I];exact e) rfl rfl h.nd rfl;have g2:=l.tk j _ _ G;generalize aH v a.jl (.lst (s.rows++[.ref d]))=S at k l g2 ⊢;dsimp only;refine⟨c.R,r.dx,_,k.run p,i.cl,i.nS,(by show 7<1000;decide),?_⟩;dsimp only;rw[show bK "stage" (.str "written") r.fs={r with st:="written" }.fs by kernel_rfl];obtain⟨J,y⟩:=k.rput (r':={r with st:="written" }) o rfl rfl rfl rfl;have g3:=y.tk k _ _ g2;exact⟨bM rfl,λt L m gt=>q t d L (J.same m) ((((Mv.same x).trans l).trans y).trans (.same m)) (m _ _ g3) gt⟩
def Cz{f:Str->Nat}{x:Dd}(c:x.far=false):∃y,bB f x=some y:=by
 cases x with
 | add a n=>simp only [bB];split<;>exact⟨_,rfl⟩
 | take a n=>simp only [bB];split<;>exact⟨_,rfl⟩
 | move a b n=>
  simp only [bB];split
  ·exact⟨_,rfl⟩
  ·split<;>exact⟨_,rfl⟩
 | send g a n=>cases c
 | fetch g a n=>cases c
 | pass g d a n=>cases c
def aAI{H:Hp}{y:An}{v:V}(h:RepT H 1 (RX.tvs y.vs) v):∃z,v=.ref z/\H z=some (.tup y.vs):=by
 obtain⟨z,a,rfl,g,p⟩:=h;refine⟨z,rfl,?_⟩;have:∀ {b:List V}{a:List V},Paired (RepT H 0) (b.map TV.sc) a->a=b:=by
  intro b;induction b with
  | nil=>intro a h;cases h;rfl
  | cons t b c=>
   intro a h;cases h with
   | cons d e=>rw[c e,d.1]
 rw[g,this p]
def Ar(c:CK):Sp:=λvs H Q _=>∃(a:DA)(s:DS)(e d:List Rn)(r:Rn)(f:Str->Nat)(y:An),vs=[.ref a.dr,.ref r.p]/\DAt c H a s/\s.runs=e++r::d/\r.x.Ok/\(∀z,cA s.prs z=(f z:Int))/\bB f r.x=some y/\s.rows.length<=1000 ∧
 ∀t g z b,DAt c b a {qX s e d r "written" with rows:=s.rows++[.ref g] }->Mv a s {qX s e d r "written" with rows:=s.rows++[.ref g] } H b->b g=some (.tup [.str "done",.int r.n,.int s.turn,.ref z])->b z=some (.tup y.vs)->b t=some (.tup [.str "writes",.str "done"])->Q (.ref t) b
def Jl{c:CK}(d:Rg K c.D)(e:Fg K c.M)(g:Wq K c.R)(x:Callee P w K mg base 3 "early" QZX (Ek c.B))(B:cC P w K mg base 2 c.D "write_done" QZF (Fn c))(D:MethAt K c.D "write_first" "Door.write_first" cK QZR):cC P w K mg base 4 c.D "write_first" QZR (Ar c):=by
 refine D.gg fZ (λf T A S s H vs Q E j h=>?_)
 ·revert h;refine yE7 λa s u p r f y=>yA8 λζ h k C F G I q=>?_;subst ζ;have l:r∈s.runs:=by rw[k];simp
  refine⟨_,(lq (pv (i:=2) fZ.nd (px x j rfl (lc (og (K:=K) (og (K:=K) (f8 0))) (lc (og (K:=K) (f8 1)) li)))) (lq (qa (pi R.gm (f8 2) wu) (lu (oe (re B j (f8 0) (lc (f8 1) (lc (f8 2) li))))) qb) (lq va (lq va (lu va))))),?_⟩;refine⟨c.D,_,_,.ref a.me,h.dr,d.cl,d.nM,by kernel_rfl,c.M,_,_,.ref a.bk,h.me,e.cl,e.nB,by kernel_rfl,c.R,_,_,.ref r.d,h.run l,g.cl,g.nD,by kernel_rfl,a.bk,r.d,r.x.wd,r.x.vs,tM r.x,Ab r.x,s.prs,rfl,h.book,h.dd r l,Ov r.x,λv U m n=>?_⟩;rw[Cn F C,G]at n;obtain⟨z,rfl,J⟩:=aAI n;have b:=h.same m;refine⟨_,_,b.dr,by kernel_rfl,a,s,u,p,r,z,rfl,b,k,I,λt L M N o O gt=>q t L z M N ((Mv.same m).trans o) O (o.tk b _ _ J) gt⟩
def Qt(c:CK):Sp:=λvs H Q _=>∃(a:DA)(s:DS)(e d:List Rn)(r:Rn),vs=[.ref a.dr,.int r.n,.str "through"]/\DAt c H a s/\s.runs=e++r::d/\s.runs.length<64 ∧
  ((r.st="new"/\(∀r∈s.runs,r.st="new")/\∀t b,DAt c b a (qX s e d r "held")->Mv a s (qX s e d r "held") H b->b t=some (.tup [.str "holds"])->Q (.ref t) b)∨
   (r.st="held"/\r.x.Ok/\s.rows.length<=1000/\∃f y,(∀z,cA s.prs z=((f:Str->Nat) z:Int))/\bB f r.x=some y ∧
     ∀t g z b,DAt c b a {qX s e d r "written" with rows:=s.rows++[.ref g] }->Mv a s {qX s e d r "written" with rows:=s.rows++[.ref g] } H b->b g=some (.tup [.str "done",.int r.n,.int s.turn,.ref z])->b z=some (.tup y.vs)->b t=some (.tup [.str "writes",.str "done"])->Q (.ref t) b)∨
   (r.st="written"/\∀t b,Same H b->b t=some (.tup [.str "unsafe"])->Q (.ref t) b))
def Vh{c:CK}(U:Top w.params K mg)(l:Fg K c.M)(b:Wq K c.R)(x:cC P w K mg base 1 c.D "known" AC (iN c))(z:cC P w K mg base 2 c.M "hold" QZR (Fi c))(B:cC P w K mg base 4 c.D "write_first" QZR (Ar c))(D:MethAtD K c.D "work" "Door.work" eC QZv [[],[.str ("through":Str)]]) :
  ∀d∈([[],[.str ("through":Str)]]:List (List V)),Nw P w K mg base 5 c.D "work" QZv d (Qt c):=by
 refine MethAtD.go D kA (λvs H Q E h=>?_) (λf Y A X s H vs Q E m h=>?_)
 ·revert h;refine yE5 λa s o n r=>yA2 λζ _=>?_;subst ζ;rfl
 ·revert h;refine yE5 λa s o n r=>yA5 λζ h p C F=>?_;subst ζ;have v:=dE m;obtain⟨G,I,J⟩:=U.g_WAYS;have j:r∈s.runs:=by rw[p];simp
  refine⟨_,(lq (pv (i:=3) kA.nd (vg x m (f8 0))) (lq (qa (pi (R.fh v) (f8 1) (og (K:=K) (f8 3))) (lu va) qb) (lq (qa (pi (R.ja (K:=K)) (f8 2) (R.gR rfl I)) (lu va) qb) (lq (pv (i:=4) kA.nd (vn v (og (K:=K) (f8 3)) (f8 1))) (lq (qa (pi vb (og (K:=K) (f8 4)) oj) (lu (oe (re z m (f8 3) (lc (f8 4) li)))) qb) (lq (qa (pi vb (og (K:=K) (f8 4)) oj) (lu (oe (re B m (f8 0) (lc (f8 4) li)))) qb) (lq (qa (pi vb (og (K:=K) (f8 4)) oj) (lu va) qb) (lq (qa (pi vb (og (K:=K) (f8 4)) oj) (lu va) qb) (lq (qa (pi vb (og (K:=K) (f8 4)) oj) (lu va) qb) (lu (oe (o0 (lc oj li))))))))))))),?_⟩;refine⟨_,_,h.dr,by kernel_rfl,a,s,rfl,h,?_⟩;dsimp only [aJ];have u:=DGet.k (k:=Sum.inl (r.n:Int)) h.rn;rw[tY h.up j]at u;refine⟨c.M,_,_,.ref a.rn,h.me,l.cl,l.nR,by kernel_rfl,_,u,?_⟩;refine⟨G,_,rfl,.inr (J _),by kernel_rfl,by kernel_rfl,?_⟩;refine⟨c.M,_,_,.ref a.rn,h.me,l.cl,l.nR,by kernel_rfl,a.rn,.ref r.p,rfl,u,?_⟩;dsimp only [aJ];rcases F with⟨e,L,q⟩|⟨e,M,N,f,y,O,S,q⟩|⟨e,q⟩
  ·refine⟨c.R,_,_,.str r.st,h.run j,b.cl,b.nS,by kernel_rfl,?_⟩;rw[e];exact⟨_,_,h.me,by kernel_rfl,a,s,o,n,r,rfl,h,p,L,C,q⟩
  ·refine⟨c.R,_,_,.str r.st,h.run j,b.cl,b.nS,by kernel_rfl,?_⟩;rw[e];refine⟨c.R,_,_,.str r.st,h.run j,b.cl,b.nS,by kernel_rfl,?_⟩;rw[e];exact⟨_,_,h.dr,by kernel_rfl,a,s,o,n,r,f,y,rfl,h,p,M,O,S,N,q⟩
  ·refine⟨c.R,_,_,.str r.st,h.run j,b.cl,b.nS,by kernel_rfl,?_⟩;rw[e];refine⟨c.R,_,_,.str r.st,h.run j,b.cl,b.nS,by kernel_rfl,?_⟩;rw[e];refine⟨c.R,_,_,.str r.st,h.run j,b.cl,b.nS,by kernel_rfl,?_⟩;rw[e];refine⟨c.R,_,_,.str r.st,h.run j,b.cl,b.nS,by kernel_rfl,?_⟩;rw[e];refine⟨c.R,_,_,.str r.st,h.run j,b.cl,b.nS,by kernel_rfl,?_⟩;rw[e];exact⟨bM rfl,λt T W g=>q t T W g⟩
def DAt.outside(h:DAt c H a s){b:TD}{o:HO}(f:b∉a.fix++s.runs.map (·.p))(g:H b=some o)(i:∀xs,o≠.tup xs)(o':HO):DAt c (aH H b o') a s:=
 h.keep (λd u e hd=>by rw[aB (λ(z:d=b)=>f (z▸hd))];exact e) (fW g i)
def Mv.out(m:Mv a s f H H'){b:TD}(c:H b=none)(o':HO):Mv a s f H (aH H' b o'):=
 ⟨λd u e hd=>by rw[aB (aE e c)];exact m.fr d u e hd,m.nw,λd e=>by
  by_cases z:d=b
  ·rw[z];exact c
  ·rw[aB z]at e;exact m.gr d e⟩
def Mv.stay(m:Mv a s d H H'){b:TD}{o:HO}(c:b∉a.fix++s.runs.map (·.p))(g:H b=some o):b∉a.fix++d.runs.map (·.p):=λz=>by
 rcases Zma.mp z with z|z
 ·exact c (FM _ z)
 ·obtain⟨r,f,e⟩:=Zmm.mp z;rcases m.nw r f with w|w
  ·exact c (EQ _ (e▸w))
  ·rw[e,g]at w;cases w
inductive kN(H:Hp):DS->List V->DS->List (Rn×TD)->Prop
 | nil {s:DS}:kN H s [] s []
 | skip {s s':DS}{t:TD}{wd:Str}{xs:List V}{vs:List V}{ts:List (Rn×TD)}:H t=some (.tup (.str wd::xs))->wd≠"done"->kN H s vs s' ts->kN H s (.ref t::vs) s' ts
 | done {s s':DS}{t z:TD}{pre post:List Rn}{r:Rn}{w:Int}{y:An}{vs:List V}{ts:List (Rn×TD)}:H t=some (.tup [.str "done",.int r.n,.int w,.ref z])->s.runs=pre++r::post->H z=some (.tup y.vs)->An.Of r.x y->(∀q∈uQ r.x y,Eu s.prs q)->s.prs.length<=90->s.L<=500->s.m r.q=some (.busy r.n r.d) →
   kN H {s with runs:=pre++post,prs:=kD s.prs (uQ r.x y),m:=s.m.set r.q (some (.kept r.n w r.d z)),L:=s.L+1 } vs s' ts->kN H s (.ref t::vs) s' ((r,z)::ts)
def Qu(H:Hp)(q:Rn×TD)(v:V):Prop:=∃t,v=.ref t/\H t=some (.tup [.int q.1.n,.str q.1.q.1,.str q.1.q.2,.ref q.2])
def rT(c:CK):Sp:=λvs H Q _=>∃(a:DA)(s d:DS)(g f:List V)(e:List (Rn×TD)),vs=[.ref a.dr]/\DAt c H a s/\s.rows=g++f/\s.safe=(g.length:Int)/\s.rows.length<=1000/\kN H {s with safe:=s.rows.length } f d e/\e.length<=500 ∧
 ∀l h b,DAt c b a d->Mv a s d H b->H l=none->b l=some (.lst h)->Paired (Qu b) e h->l∉a.fix++d.runs.map (·.p)->Q (.ref l) b
def Qv{c:CK}(j:Rg K c.D)(b4:cC P w K mg base 1 c.D "known" AC (iN c))(u9:cC P w K mg base 1 c.J "safe" AC (yG c.J))(c6:cC P w K mg base 1 c.J "force" AC (oV c.J))(d5:cC P w K mg base 1 c.J "rows" AC (rS c.J))(qw:cC P w K mg base 3 c.M "end" QZm (Qg c))(D:MethAt K c.D "force" "Door.force" gN AC):cC P w K mg base 4 c.D "force" AC (rT c):=by
 refine D.gg dJ (λa4 cdv a5 outer s H vs a6 a7 q h=>?_)
 ·revert h;refine yE6 λa s s' old f ts=>yA8 λζ h BC BE EA hE GS a1=>?_;subst ζ;refine⟨_,(lq (pv (i:=1) dJ.nd (vg b4 q (f8 0))) (lq (pv (i:=2) dJ.nd (vg u9 q (og (K:=K) (f8 0)))) (lq (uz (vg c6 q (og (K:=K) (f8 0)))) (lq (pv (i:=3) dJ.nd (vf li)) (lq (vi PassesOwn.never rfl (ve (K:=K) (vc (R.cr (K:=K)) (vg d5 q (og (K:=K) (f8 0))) (ux (f8 2)) vj)) (pw (i:=4) dJ.nd) (lu (qa (pi vb (oi K 4) oj) (lu (uz (xg (K:=K) PySem.F.plainAttrs_list PySem.F.slot_list_append PySem.F.type_list_append R.cz (f8 3) (lc (re qw q (f8 1) (lc (oi K 4) (lc (oi K 4) (lc (oi K 4) li)))) li)))) qb))) (lu (oe (f8 3)))))))),?_⟩;refine⟨_,_,h.dr,by kernel_rfl,a,s,rfl,h,?_⟩;refine⟨c.D,_,_,.ref a.j,h.dr,j.cl,j.nJ,by kernel_rfl,_,_,h.j,by kernel_rfl,a.j,a.jl,a.jx,s.safe,rfl,h.j,?_⟩;refine⟨c.D,_,_,.ref a.j,h.dr,j.cl,j.nJ,by kernel_rfl,_,_,h.j,by kernel_rfl,a.j,a.jl,a.jx,s.safe,s.rows,rfl,h.j,h.jl,?_⟩;obtain⟨r,B⟩:=h.put (H':=aH H a.j (.ins c.J a.jx (jf a.jl s.rows.length))) 2 {s with safe:=s.rows.length } (λ_ _=>rfl) (λ_ _=>rfl) aA (λa8 a9 e hb=>by rw[aB hb];exact e) rfl rfl h.nd rfl;generalize aH H a.j (.ins c.J a.jx (jf a.jl s.rows.length))=L at r B ⊢;refine⟨sM rfl,λlt M=>?_⟩;dsimp only [aJ];have C:=aG (o:=.lst []) M;have N:(aH L lt (.lst [])) lt=some (.lst []):=aA;generalize aH L lt (.lst [])=H2 at C N ⊢;have E:=r.same C;refine⟨c.D,_,_,.ref a.j,E.dr,j.cl,j.nJ,by kernel_rfl,_,_,E.j,by kernel_rfl,a.j,a.jl,a.jx,_,s.rows,rfl,E.j,E.jl,λO MT=>?_⟩;have u:=aG (o:=.lst s.rows) MT;have Z:(aH H2 O (.lst s.rows)) O=some (.lst s.rows):=aA;generalize aH H2 O (.lst s.rows)=H3 at u Z ⊢;refine⟨_,QYY Z,λls Q=>?_⟩;have TN:iB s.rows (some s.safe) none=f:=by
   rw[BE,zA,BC,List.drop_left]
  rw[TN];have S:=aG (o:=.lst f) Q;have T:(aH H3 ls (.lst f)) ls=some (.lst f):=aA;have U:=(C.trans u).trans S;have MV:L ls=none:=C.free (u.free Q);have TR:lt≠ls:=aE (u _ _ N) Q;generalize aH H3 ls (.lst f)=H4 at S T U ⊢;have h4:=r.same U;have w4:=B.trans (.same U);have TU:=S _ _ (u _ _ N);have olt:lt∉a.fix++s.runs.map (·.p):=r.fresh M;have ols:ls∉a.fix++s.runs.map (·.p):=r.fresh MV;have MW:H lt=none:=B.gr _ M;have cY':H ls=none:=B.gr _ MV;refine⟨ls,rfl,⟨_,QYY T⟩,bU (bE K ls f) (λi J H'=>∃(o:Option V)(d:DS)(k v:List (Rn × Addr))(b:List V),J=[some (.ref a.dr),some (.ref a.me),some (.int s.safe),some (.ref lt),o]/\H' ls=some (.lst f)/\H' lt=some (.lst b)/\k++v=ts/\Paired (Qu H') k b/\kN H d (f.drop i) s' v/\DAt c H' a d/\Mv a s d H H'/\lt∉a.fix++d.runs.map (·.p)/\ls∉a.fix++d.runs.map (·.p))
   (λi J H' ⟨_,_,_,_,_,_,e,_⟩=>QYY e) ⟨_,_,[],ts,[],rfl,T,TU,rfl,.nil,hE,h4,w4,olt,ols⟩ ?_ ?_⟩
  ·refine λi b0 J H' hx=>yE5 λo d k v b=>yA9 λζ F gt l x y m g=>yA2 λA G=>?_;subst ζ;obtain⟨YC,ex⟩:=Zgs.mp hx;rw[List.drop_eq_getElem_cons YC,ex]at y;dsimp only [aJ];cases y with
   | @skip _ _ t wd xs _ _ W E7 X=>
    have n:=g.tk h _ _ W;refine⟨_,QYZ n,.str wd,nQ (show(V.str wd::xs)[0]?=some _ from rfl),?_⟩;show if decide (wd="done")=true then _ else _
    refine yZ (T0 E7) ?_;exact⟨_,d,k,v,b,rfl,F,gt,l,x,X,m,g,A,G⟩
   | @done _ _ t z pre post a0 w' a2 _ ts' W hs hz DV hg DZ hL hm X=>
    have n:=g.tk h _ _ W;have ul:b.length<=500:=by
     rw[<- x.length];have:=congrArg length l;rw[uC]at this;omega
    refine⟨_,QYZ n,_,rfl,?_⟩;refine⟨.inl ⟨rfl,_,QYY gt⟩,_,_,m.me,by kernel_rfl,_,QYZ n,_,rfl,_,QYZ n,_,rfl,_,QYZ n,_,rfl,a,d,pre,post,a0,w',z,a2,rfl,m,hs,g.tk h _ _ hz,DV,hg,DZ,hL,hm,λI H5 h5 p gtt=>?_⟩;have Y:=p.fr _ _ gt A;have gl5:=p.fr _ _ F G;have MZ:=p.stay A gt;have TZ:=p.stay G F;refine⟨lt,b,.ref I,rfl,rfl,Y,uD ul Zd,?_⟩;have kt:TK H5 (aH H5 lt (.lst (b++[.ref I]))):=fW Y λ_ z=>nomatch z
    refine⟨_,_,k++[(a0,z)],ts',b++[.ref I],rfl,by rw[aB TR.symm];exact gl5,aA,by rw[<- l,append_assoc];rfl,Paired.snoc (Paired.map' (λ_ _ ⟨t,e,a3⟩=>⟨t,e,kt _ _ (p.tk m _ _ a3)⟩) x) ⟨I,rfl,kt _ _ gtt⟩,X,h5.outside MZ Y (λ_ z=>nomatch z) _,(g.trans p).out MW _,MZ,TZ⟩
  ·refine λJ H'=>yE5 λo d k v b=>yA9 λζ F gt l x y m g=>yA2 λA G=>?_;subst ζ;rw[drop_length]at y;cases y;rw[append_nil]at l;subst l;exact a1 lt b H' m g MW gt x A
def Vi(f:Str->Nat)(hs:List Str)(a:((hs.map λz=>(z,(f z:Int))).map (·.1)).Nodup)(h:∀z,z∈hs↔0<f z)(z:Str):cA (hs.map λz=>(z,(f z:Int))) z=(f z:Int):=by
 by_cases c:z∈hs
 ·exact Tr a (Zmm.mpr ⟨z,c,rfl⟩)
 ·have:=mt (h z).mpr c;rw[Pi λm=>c (by obtain⟨q,b,e⟩:=Zmm.mp m;obtain⟨y,d,rfl⟩:=Zmm.mp b;rw[<- e];exact d)];omega
def upG(s:DS)(turn:Int)(n:Nat)(prs:List (Str×Int))(m:KM)(L:Nat):DS:={s with turn:=turn,next:=n,prs:=prs,m:=m,L:=L,runs:=[] }
structure Fo(H:Hp)(rows:List V)(C:List RX)(as:List TD)(F:Nat->Str->Nat)(f:Str->Nat)(nm:List Str)(qs:List (Str×Str))(n:Nat)(tu:Int):Prop where
 rw:rows=as.map V.ref
 each:Paired (λr a=>RX.At H a r) C as
 len:C.length<=400
 nm:Pb C nm
 w:RX.Whole C
 sn:∀r∈C,Oz r
 rep:RepF C F f
 op:lG C=[]
 kp:Uw (bT C) qs
 k2:(bT C).length<=240
 nx:IsMax (dA C) (n:Int)
 tn:∀t∈turnL C,t<=tu
def Fp(c:CK):Sp:=λvs H Q _=>∃(a:DA)(s:DS)(turn:Int)(C:List RX)(h:List TD)(F:Nat->Str->Nat)(f:Str->Nat)(nm:List Str)(i:List (Str×Str))(n:Nat),vs=[.ref a.dr,.int turn]/\aB8 c H a s/\Fo H s.rows C h F f nm i n turn ∧
 ∀l g e m L d,g.dr=a.dr->DAt c d g (upG s turn n e m L)->(∀x∈e.map (·.1),0<f x)->(∀z,cA e z=(f z:Int))->KmOf d (bT C) m->L<=480->(∀b∈g.fix,b∈[a.dr,a.hd,a.j,a.jl]∨H b=none)->(∀b o,H b=some o->b≠a.dr->d b=some o)->Q (.ref l) d
def Qw{c:CK}(T:Txt K mg)(d:Rg K c.D)(BM:Fg K c.M)(d5:cC P w K mg base 1 c.J "rows" AC (rS c.J))(U8:Callee P w K mg base 5 "risen" zt rQ)(mw:Mkr P w K mg base 3 "Memory" c.M QZS [] (Qh c))(D:MethAt K c.D "rise" "Door.rise" iJ QZU):cC P w K mg base 6 c.D "rise" QZU (Fp c):=by
 refine D.gg oP (λa0 cdv a7 outer s H vs a8 a9 q h=>?_)
 ·revert h;refine yE9 λa s turn a1 as F a0 nm qs=>yE1 λn=>yA4 λζ h rc a4=>?_;subst ζ;have hr1:=q;refine⟨_,(lq (qa (pi R.gm (og (K:=K) (f8 0)) wu) (lu va) qb) (lq (pv (i:=2) oP.nd (px U8 q rfl (lc (vg d5 q (og (K:=K) (f8 0))) li))) (lq (qa (pi R.lt (f8 1) (oi K 2)) (lu va) qb) (lq (tz (K:=K) (f8 0) (R.cu mw q rfl (lc (og (K:=K) (f8 0)) (lc (f8 1) (lc (f8 2) li))))) (lu (oe (uy (R.dw rfl) rfl T.b_sorted eB (lc (og (K:=K) (og (K:=K) (f8 0))) li)))))))),?_⟩;have gd:=h.get 0 rfl;have gh:=h.get 1 rfl;have gj:=h.get 2 rfl;have HE:=h.get 3 rfl;refine⟨c.D,_,_,.non,gd,d.cl,d.nM,by kernel_rfl,?_⟩;refine⟨c.D,_,_,.ref a.j,gd,d.cl,d.nJ,by kernel_rfl,_,_,gj,by kernel_rfl,a.j,a.jl,a.jx,s.safe,s.rows,rfl,gj,HE,λy MT=>?_⟩;have L:=aG (o:=.lst s.rows) MT;have g1:(aH H y (.lst s.rows)) y=some (.lst (as.map V.ref)):=by rw[aA,rc.rw]
  generalize aH H y (.lst s.rows)=H1 at L g1 ⊢;refine⟨y,a1,as,F,a0,nm,rfl,⟨g1,Paired.map' (λ_ _ w=>w.tk (Same.tk L)) rc.each⟩,rc.len,rc.nm,rc.w,rc.sn,rc.rep,λt kl ol l R s2'=>?_⟩;refine yE0 R.ex (yE7 λb m1 m2 ka oa r hs=>yA9 λgt CP pk JE po AQ LF gb=>yA4 λhz M A lh=>?_);have B:=L.trans s2';obtain rfl:=IsMax.uniq AQ rc.nx;have hm:=rc.tn _ LF.1;rw[rc.op]at po;cases po;have N:((r.map (·.2)).map (·.1)).Nodup:=by
   rw[A,map_map];exact pairwise_map.mpr (M.asc.imp λh e=>by have e':_=_:=e;simp only [Function.comp]at e';rw[e']at h;exact IN h (List.lt_irrefl _))
  have MO:r.length<=43:=by
   have:=congrArg length A;simp only [aR]at this;omega
  refine⟨_,QYZ gt,_,rfl,?_⟩;show if decide (turn<m2)=true then _ else _
  refine yZ (T0 Zo) ?_;dsimp only [iW];have DT:=B _ _ gd;refine⟨c.D,_,_,.int s.life,DT,d.cl,d.nL,by kernel_rfl,λme g O IU LP=>?_⟩;have j:∀ {b u},l b=some u->(aH (aH l g (.own me)) me (.ins c.M g [])) b=some u:=λe=>by rw[aB (aE e O),aB (aE e IU)];exact e
  refine⟨me,g,s.life,turn,n,m2,t,b,kl,ol,r,ka,bT a1,rfl,aA,j gt,j gb,(λz xj=>j (hz z xj)),N,MO,j CP,Paired.map' (λ_ _ w=>w.tk (λb xs e=>j e)) pk,rc.k2,j JE,λbk C bd ks rn f bs Q a2 a3 m G db ds km hL=>⟨rfl,?_⟩⟩;have s3:Same l m:=λb u e=>G.fr _ _ (j e) (aE e O)
  have fr2:∀b,(aH (aH l g (.own me)) me (.ins c.M g [])) b=none->l b=none:=λb e=>by
   cases z:l b with
   | none=>rfl
   | some u=>rw[j z]at e;cases e
  have S:∀p∈([(rn,HO.dK []),(f.ds,.dT Q),(f.db,.dT bs),(ks,.ins c.Ks f.dx (vT f s.life)),(bd,.dK (kJ (r.map (·.2)))),(bk,.ins c.B C [("amounts",.ref bd)]),(me,.ins c.M g [("turn",.int turn),("book",.ref bk),("standing",.ref ks),("runs",.ref rn),("next_number",.int n)])]:List (TD×HO)),l p.1=none:=λp k=>(G.nw p k).elim (λe=>by rw[e];exact O) (fr2 _)
  have s03:=B.trans s3;have U:Own m (a.low c s (Vf a s)):=Own.same s03 h;refine⟨c.D,_,_,U.get 0 rfl,d.cl,d.nM,(by show 5<1000;decide),?_⟩;dsimp only;have W:Own (aH m a.dr (.ins c.D a.dx (bK "memory" (.ref me) (Vf a s)))) _:=⟨G.own.rev.1,λp k=>by
   have E:=S p (mem_reverse.mp k);rw[aB (λe=>by rw[e,DT]at E;cases E)];exact G.own.rev.2 p k⟩
  have X:=Own.set U 0 rfl (.ins c.D a.dx (bK "memory" (.ref me) (Vf a s)));have Y:=Own.app X W λa5 I za=>by
   obtain⟨p,k,rfl⟩:=Zmm.mp za;have E:=S p (mem_reverse.mp k);have MK:p.1∈(a.low c s (Vf a s)).map (·.1):=I;obtain⟨p',qg,e⟩:=Zmm.mp MK;have:=B _ _ (h.2 p' qg);rw[e,E]at this;cases this
  have x:TK m (aH m a.dr (.ins c.D a.dx (bK "memory" (.ref me) (Vf a s)))):=fW (U.get 0 rfl) λ_ z=>nomatch z
  have Z:∀b o,H b=some o->b≠a.dr->(aH m a.dr (.ins c.D a.dx (bK "memory" (.ref me) (Vf a s)))) b=some o:=λb o e v=>by rw[aB v];exact s03 _ _ e
  rw[show bK "memory" (.ref me) (Vf a s)=df {a with me:=me } s by kernel_rfl]at W X Y x Z ⊢;generalize aH m a.dr (.ins c.D a.dx (df {a with me:=me } s))=H4 at W X Y x Z ⊢;have J:DAt c H4 ⟨a.dr,a.dx,a.hd,a.j,a.jx,a.jl,me,g,bk,C,bd,ks,rn,f⟩ (upG s turn n (r.map (·.2)) a2 a3):=⟨⟨bs,Q,Y,db.keep x,ds.keep x⟩,N,List.Pairwise.nil,λb0 q=>nomatch q⟩;refine⟨c.D,_,_,.ref me,J.dr,d.cl,d.nM,by kernel_rfl,c.M,_,_,.ref rn,J.me,BM.cl,BM.nR,by kernel_rfl,?_⟩;refine⟨[],_,.inl J.rn,rfl,Zd,λa6 ns u6 k HA=>?_⟩;have ens:ns=[]:=perm_nil.mp k;subst ens;have s5:=aG (o:=.lst (([]:List Int).map V.int)) u6;have hk2:=rc.k2;refine a4 a6 ⟨a.dr,a.dx,a.hd,a.j,a.jx,a.jl,me,g,bk,C,bd,ks,rn,f⟩ _ a2 a3 _ rfl (J.same s5) (λa5 I=>by rw[A]at I;obtain⟨b1,hy,e⟩:=Zmm.mp I;obtain⟨w,hw,rfl⟩:=Zmm.mp hy;rw[<- e];exact(M.iff w).mp hw) (by have NA:=N;rw[A]at NA ⊢;exact Vi a0 hs NA M.iff) ((km.tk x).tk (Same.tk s5)) Zo (λb v=>?_) (λb o e v=>s5 _ _ (Z b o e v));have fr:∀(i:Nat)(p:TD×HO),[(rn,HO.dK []),(f.ds,.dT Q),(f.db,.dT bs),(ks,.ins c.Ks f.dx (vT f s.life)),(bd,.dK (kJ (r.map (·.2)))),(bk,.ins c.B C [("amounts",.ref bd)]),(me,.ins c.M g [("turn",.int turn),("book",.ref bk),("standing",.ref ks),("runs",.ref rn),("next_number",.int n)])][i]?=some p->H p.1=none:=λi p e=>B.free (S p (jJ e))
  simp only [DA.fix,mem_cons,EJ,or_false]at v;rcases v with rfl|rfl|rfl|rfl|rfl|rfl|rfl|rfl|rfl|rfl|rfl
  ·exact .inl Zs
  ·exact .inl Zs
  ·exact .inl Zs
  ·exact .inl Zs
  ·exact .inr (fr 6 _ rfl)
  ·exact .inr (fr 5 _ rfl)
  ·exact .inr (fr 4 _ rfl)
  ·exact .inr (fr 3 _ rfl)
  ·exact .inr (fr 2 _ rfl)
  ·exact .inr (fr 1 _ rfl)
  ·exact .inr (fr 0 _ rfl)
def tZ(a:DA)(j jx jl:TD):DA:={a with j:=j,jx:=jx,jl:=jl }
def DAt.newj{c:CK}{H H':Hp}{a:DA}{s:DS}(h:DAt c H a s){j d jl:TD}(l:H j=none)(p:H jl=none)(n:j≠jl)(k:∀b o,H b=some o->b≠a.dr->H' b=some o)(gd:H' a.dr=some (.ins c.D a.dx (df (tZ a j d jl) s)))(u:H' j=some (.ins c.J d (jf jl 0)))(v:H' jl=some (.lst [])) :
  DAt c H' (tZ a j d jl) {s with rows:=[],safe:=0 }:=by
 obtain⟨bs,f,g,x,y⟩:=h.own;have t:TK H H':=λb I e=>k _ _ e (aK e h.dr λz=>nomatch z)
 have A:Own H' ((a.all c s bs f).set 0 (a.dr,.ins c.D a.dx (df (tZ a j d jl) s))):=g.at 0 rfl gd k;have B:∀ {i:Nat}{L:List (TD×HO)}{q:TD×HO},(L.set i q).map (·.1)=(L.map (·.1)).set i q.1:=λ{i L q}=>map_set
 have C:j∉(a.all c s bs f).map (·.1):=g.keys l;have D:jl∉(a.all c s bs f).map (·.1):=g.keys p;have E:=A.swap 2 (b:=j) (λm=>C m) u;have F:=E.swap 3 (b:=jl) (λm=>by
  rw[B]at m;rcases mem_or_eq_of_mem_set m with m|m
  ·exact D m
  ·exact n m.symm) v
 exact⟨⟨bs,f,F,x.keep t,y.keep t⟩,h.nd,h.up,λr G=>t _ _ (h.dd r G)⟩
def Fq(c:CK):Sp:=λvs H Q _=>∃(a:DA)(s:DS)(C:List RX)(i:List TD)(F:Nat->Str->Nat)(f:Str->Nat)(nm:List Str)(j:List (Str×Str))(n h e:Nat),vs=[.ref a.dr]/\DAt c H a s/\s.runs=[]/\s.safe=s.rows.length/\s.life=(h:Int)/\s.turn=(e:Int)/\Fo H s.rows C i F f nm j n e ∧
 ∀g out os d,g.dr=a.dr->DAt c d g {s with rows:=os.map V.ref,safe:=(os.length:Int) }->Paired (λr a=>RX.At d a r) out os->Cr C f h e [] out->(∀b∈g.fix,b∈a.fix∨H b=none)->(∀b o,H b=some o->b∉a.fix->d b=some o)->Q .non d
def Qx{c:CK}(T:Txt K mg)(l:Rg K c.D)(B:Fg K c.M)(b4:cC P w K mg base 1 c.D "known" AC (iN c))(d5:cC P w K mg base 1 c.J "rows" AC (rS c.J))(u9:cC P w K mg base 1 c.J "safe" AC (yG c.J))(R0:Mkr P w K mg base 2 "Journal" c.J QZO [.str ("":Str)] (Py c.J))(c7:cC P w K mg base 1 c.J "write" QZN (oU c.J))(c6:cC P w K mg base 1 c.J "force" AC (oV c.J))(BF:Callee P w K mg base 6 "folded" QZq Al)(D:MethAt K c.D "fold" "Door.fold" iK AC):cC P w K mg base 7 c.D "fold" AC (Fq c):=by
 refine D.gg gV (λa0 cdv a4 outer s H vs a5 a6 q h=>?_)
 ·revert h;refine yE9 λa s a2 as F a0 nm qs n=>yE2 λlf tu=>yA8 λζ h AI JM MM UA rc a3=>?_;subst ζ;have hr1:=q;refine⟨_,(lq (pv (i:=1) gV.nd (vg b4 q (f8 0))) (lq (pv (i:=2) gV.nd (vg d5 q (og (K:=K) (f8 0)))) (lq (qa (pi R.lt (vg u9 q (og (K:=K) (f8 0))) (uy (xz (K:=K)) rfl T.b_len dQ (lc (f8 2) li))) (lu va) qb) (lq (tz (K:=K) (f8 0) (R.jh R0 q rfl)) (lq (vi PassesOwn.never rfl (ve (K:=K) (px BF q rfl (lc (f8 2) (lc (og (K:=K) (f8 0)) (lc (og (K:=K) (f8 1)) (lc (uy (R.dw rfl) rfl T.b_sorted eB (lc (og (K:=K) (f8 1)) li)) li)))))) (pw (i:=3) gV.nd) (lu (uz (re c7 q (og (K:=K) (f8 0)) (lc (f8 3) li))))) (lu (uz (vg c6 q (og (K:=K) (f8 0)))))))))),?_⟩;refine⟨_,_,h.dr,by kernel_rfl,a,s,rfl,h,?_⟩;refine⟨c.D,_,_,.ref a.j,h.dr,l.cl,l.nJ,by kernel_rfl,_,_,h.j,by kernel_rfl,a.j,a.jl,a.jx,s.safe,s.rows,rfl,h.j,h.jl,λu MT=>?_⟩;dsimp only [aJ];have v:=aG (o:=.lst s.rows) MT;have g1:(aH H u (.lst s.rows)) u=some (.lst s.rows):=aA;generalize aH H u (.lst s.rows)=x at v g1 ⊢;have m:=h.same v;refine⟨c.D,_,_,.ref a.j,m.dr,l.cl,l.nJ,by kernel_rfl,_,_,m.j,by kernel_rfl,a.j,a.jl,a.jx,s.safe,rfl,m.j,?_⟩;refine⟨_,.inl (QYY g1),?_⟩;show if decide (s.safe<(s.rows.length:Int))=true then _ else _
  refine yZ (T0 Zo) ?_;dsimp only [iW];intro j g r W hjn;refine⟨j,g,rfl,aA,λC jl X Y Z k2=>⟨rfl,?_⟩⟩;have O:Same x C:=λc o e=>k2 _ _ (by rw[aB (aE e r),aB (aE e W)];exact e) (aE e r)
  have E:x jl=none:=by
   cases e:x jl with
   | none=>rfl
   | some a1=>rw[aB (aE e r),aB (aE e W),e]at X;cases X
  have TH:j≠jl:=aK Y Z λz=>nomatch z
  refine⟨c.D,a.dx,_,O _ _ m.dr,l.cl,l.nJ,(by show 5<1000;decide),?_⟩;dsimp only;rw[show bK "journal" (.ref j) (df a s)=df (tZ a j g jl) s by kernel_rfl];have nd1:j≠a.dr:=λe=>by rw[e,m.dr]at r;cases r
  have AU:jl≠a.dr:=λe=>by rw[e,m.dr]at E;cases E
  have t:=m.newj (H':=aH C a.dr (.ins c.D a.dx (df (tZ a j g jl) s))) r E TH (λb o e d=>by rw[aB d];exact O _ _ e) aA (by rw[aB nd1];exact Y) (by rw[aB AU];exact Z);have G:∀b o,x b=some o->b≠a.dr->(aH C a.dr (.ins c.D a.dx (df (tZ a j g jl) s))) b=some o:=λb o e d=>by rw[aB d];exact O _ _ e
  generalize aH C a.dr (.ins c.D a.dx (df (tZ a j g jl) s))=I at t G ⊢;have nlr:u≠a.dr:=aK g1 m.dr λz=>nomatch z
  have t13:TK x I:=λb xs e=>G _ _ e (aK e m.dr λz=>nomatch z)
  have hrk:I a.rn=some (.dK []):=by have:=t.rn;rw[show({s with rows:=[],safe:=0 }:DS).runs=[] from AI]at this;exact this
  refine⟨c.D,_,_,.int s.life,t.dr,l.cl,l.nL,by kernel_rfl,c.M,_,_,.int s.turn,t.me,B.cl,B.nT,by kernel_rfl,c.M,_,_,.ref a.rn,t.me,B.cl,B.nR,by kernel_rfl,[],_,.inl hrk,rfl,Zd,λJ ns OZ hp HA=>?_⟩;obtain rfl:ns=[]:=perm_nil.mp hp;have y:=aG (o:=.lst (([]:List Int).map V.int)) OZ;have U:(aH I J (.lst (([]:List Int).map V.int))) J=some (.lst (nI [])):=aA;generalize aH I J (.lst (([]:List Int).map V.int))=H4 at y U ⊢;have t14:TK x H4:=t13.trans (TK.of y);have t04:TK H H4:=(TK.of v).trans t14;refine⟨u,J,a2,as,F,a0,lf,tu,[],nm,qs,by rw[MM,UA],⟨by rw[<- rc.rw];exact y _ _ (G _ _ g1 nlr),Paired.map' (λ_ _ w=>w.tk t04) rc.each⟩,rc.len,rc.nm,rc.kp,rc.w,rc.sn,rc.rep,U,(λ_ h=>nomatch h),Zd,λp os out H5 fp L FI s5=>?_⟩;have Q:=(t.same y).same s5;have PF:p≠jl:=λe=>by
   have:=(t.same y).jl;rw[show(tZ a j g jl).jl=jl from rfl,<- e,fp]at this;cases this
  have CZ:os.length<=1000:=by
   have m:=L.len;refine yE0 FI.ex (yE3 λa7 hs es=>yA7 λ_ _ _ _ lh ZD e=>?_);have h2:=rc.kp.1;rw[e]at m;simp[aZ]at m;omega
  refine⟨p,rfl,⟨_,QYY L.lst⟩,bU (bE K p (os.map V.ref)) (λi N H'=>∃S:Option V,N=[some (.ref a.dr),some (.ref a.me),some (.ref u),S]/\DAt c H' (tZ a j g jl) {s with rows:=(os.take i).map V.ref,safe:=0 }/\∀b o,H5 b=some o->b≠jl->H' b=some o) (λi N H' ⟨_,_,_,k⟩=>QYY (k _ _ L.lst PF)) ⟨_,rfl,Q,λ_ _ e _=>e⟩ ?_ ?_⟩
  ·refine λi a8 N A hx=>yE1 λS=>yA3 λζ f M=>?_;subst ζ;rw[dW]at hx;obtain⟨b,d,rfl⟩:=Option.map_eq_some_iff.mp hx;refine⟨c.D,_,_,.ref j,f.dr,l.cl,l.nJ,by kernel_rfl,_,_,f.j,by kernel_rfl,j,jl,g,0,_,.ref b,rfl,f.j,f.jl,?_,_,rfl,?_⟩
   ·rw[aR,oX];omega
   have er:(os.take (i+1)).map V.ref=(os.take i).map V.ref++[.ref b]:=by rw[aM d,dN];rfl
   rw[er];exact⟨(f.put (H':=aH A jl (.lst ((os.take i).map V.ref++[.ref b]))) 3 {s with rows:=(os.take i).map V.ref++[.ref b],safe:=0 } (λ_ _=>rfl) (λ_ _=>rfl) aA (λb a1 e d=>(aB d).trans e) rfl rfl f.nd rfl).1,λb o e d=>by rw[aB d];exact M _ _ e d⟩
  ·rintro N A ⟨S,rfl,f,M⟩;rw[aR,lJ (bA _)]at f;refine⟨c.D,_,_,.ref j,f.dr,l.cl,l.nJ,by kernel_rfl,_,_,f.j,by kernel_rfl,j,jl,g,0,_,rfl,f.j,f.jl,?_⟩;have h7:=(f.put (H':=aH A j (.ins c.J g (jf jl (os.map V.ref).length))) 2 {s with rows:=os.map V.ref,safe:=((os.map V.ref).length:Int) } (λ_ _=>rfl) (λ_ _=>rfl) aA (λb a1 e d=>(aB d).trans e) rfl rfl f.nd rfl).1;rw[show((os.map V.ref).length:Int)=(os.length:Int) by rw[aR]]at h7 ⊢;have fj:H j=none:=v.free r;have fl:H jl=none:=v.free E;have kk:∀b o,H b=some o->b≠a.dr->(aH A j (.ins c.J g (jf jl os.length))) b=some o:=λb o e d=>by
    rw[aB (aE e fj)];exact M _ _ (s5 _ _ (y _ _ (G _ _ (v _ _ e) d))) (aE e fl)
   have t56:TK H5 (aH A j (.ins c.J g (jf jl os.length))):=λb xs e=>by
    rw[aB (show b≠j from aK e Q.j λz=>nomatch z)];exact M _ _ e (aK e Q.jl λz=>nomatch z)
   refine a3 (tZ a j g jl) out os _ rfl h7 (Paired.map' (λ_ _ w=>w.tk t56) L.each) FI (λb d=>?_) (λb o e d=>kk b o e λz=>d (by rw[z];simp[DA.fix]));simp only [DA.fix,tZ,mem_cons,EJ,or_false]at d ⊢;rcases d with rfl|rfl|rfl|rfl|rfl|rfl|rfl|rfl|rfl|rfl|rfl<;>first|exact .inr fj|exact .inr fl|exact .inl Zs
def wK(s:DS)(r:Rn)(rd z:TD)(y:An):DS:={s with rows:=s.rows++[.ref rd],safe:=((s.rows++[V.ref rd]).length:Int),runs:=[],prs:=kD s.prs (uQ r.x y),m:=s.m.set r.q (some (.kept r.n s.turn r.d z)),L:=s.L+1 }
def uA(c:CK):Sp:=λvs H Q _=>∃(a:DA)(s:DS)(d:List V)(r:Rn)(e:TD)(g:List V)(f:Str->Nat),vs=[.ref a.dr,.int r.n]/\DAt c H a s/\s.rows=d++[.ref e]/\H e=some (.tup (.str "came"::g))/\s.safe=(d.length:Int)/\s.rows.length<=900/\s.runs=[r]/\r.st="new"/\r.x.Ok/\r.x.far=false/\(∀z,cA s.prs z=(f z:Int))/\(∀z,f z<=1000000000000)/\s.prs.length<=90/\s.L<=400/\s.m r.q=some (.busy r.n r.d) ∧
 ∀rd z y b,lF f r.x false y->DAt c b a (wK s r rd z y)->Mv a s (wK s r rd z y) H b->b rd=some (.tup [.str "done",.int r.n,.int s.turn,.ref z])->b z=some (.tup y.vs)->Q (.bl true) b
def Jm{c:CK}(T:Txt K mg)(O:Nw P w K mg base 5 c.D "work" QZv [.str ("through":Str)] (Qt c))(j0:cC P w K mg base 4 c.D "force" AC (rT c))(D:DefAt K mg "_law_done" jW QZt):Callee P w K mg base 6 "_law_done" QZt (uA c):=by
 refine D.gg qR (λf cdv a5 outer s a6 vs a7 a8 C h=>?_)
 ·revert h;refine yE7 λa s old r ra xs f=>yA9 λζ h BC UB BE EA E Q=>yA8 λF xq S U DZ hL hm a0=>?_;subst ζ;have ki:=C.units;have V:=C;have ow:∀r∈s.runs,r.st="new":=λr' W=>by rw[E]at W;rw[Zms.mp W];exact Q
  obtain⟨y,X⟩:=Cz (f:=f) xq;have G:lF f r.x false y:=.inl ⟨rfl,X⟩;have DV:=(Om U F G nofun).1;refine⟨_,(lq (pv (i:=2) qR.nd (vf (lc (R.fm O V (f8 0) (lc (f8 1) li)) (lc (R.fm O V (f8 0) (lc (f8 1) li)) (lc (vg j0 C (f8 0)) li))))) (lu (oe (R.jb (R.cp (R.ia ki) (vc (R.cr (K:=K)) (f8 2) vj (ux mo)) (vf (lc (o0 (lc oj li)) (lc (o0 (lc oj (lc oj li))) li)))) (R.fq (R.cp vb (uy (xz (K:=K)) rfl T.b_len dQ (lc (yr K 2) li)) mo)))))),?_⟩;refine⟨_,_,h.dr,by kernel_rfl,a,s,[],[],r,rfl,h,E,by rw[E];exact FS rfl,.inl ⟨Q,ow,λb H1 H g g1=>?_⟩⟩;refine⟨_,_,H.dr,by kernel_rfl,a,_,[],[],{r with st:="held" },rfl,H,rfl,FS rfl,.inr (.inl ⟨rfl,F,by show s.rows.length<=1000;omega,f,y,S,X,λd rd z H2 j e Y Z g2=>?_⟩)⟩;have w2:=g.trans e;refine⟨_,_,j.dr,by kernel_rfl,a,_,wK s r rd z y,old,[.ref ra,.ref rd],[({r with st:="written" },z)],rfl,j,by show s.rows++[_]=_;rw[BC,append_assoc];rfl,BE,by show(s.rows++[_]).length<=1000;simp;omega,.skip (w2.tk h _ _ UB) Zk (.done (pre:=[]) (post:=[]) (r:={r with st:="written" }) Y rfl Z DV (λc hc=>?_) DZ (by show s.L<=500;omega) hm .nil),FS rfl,λl us H3 h3 k HH MJ pt _=>?_⟩
  ·have:=Aa U F G c hc;show 0<=cA s.prs c.1+c.2/\cA s.prs c.1+c.2<=1000000000000;rw[S];exact this
  have w3:=w2.trans k;obtain⟨v1',I,e0,pt1,e0'⟩:∃v I,us=v::I/\True/\I=[]:=by
   cases pt with
   | cons a a3=>cases a3;exact⟨_,_,rfl,trivial,rfl⟩
  subst e0';subst e0;refine⟨sM rfl,λls MU=>?_⟩;dsimp only [aJ];have t:=aG (o:=.lst [.ref b,.ref d,.ref l]) MU;have J:(aH H3 ls (.lst [.ref b,.ref d,.ref l])) ls=some (.lst [.ref b,.ref d,.ref l]):=aA;generalize aH H3 ls (.lst [.ref b,.ref d,.ref l])=H4 at t J ⊢;have L:=t _ _ ((e.trans k).tk H _ _ g1);have M:=t _ _ (k.tk j _ _ g2);refine⟨_,QYY J,λsl JC=>?_⟩;have s5:=aG (o:=.lst (iB [.ref b,.ref d,.ref l] none (some 2))) JC;have g5:(aH H4 sl (.lst (iB [.ref b,.ref d,.ref l] none (some 2)))) sl=some (.lst [.ref b,.ref d]):=aA;generalize aH H4 sl (.lst (iB [.ref b,.ref d,.ref l] none (some 2)))=H5 at s5 g5 ⊢;refine⟨bM rfl,λm H6 s6 e1=>⟨bM rfl,λn H7 s7 e2=>⟨sM rfl,λu u6=>?_⟩⟩⟩;have x:=aG (o:=.lst [.ref m,.ref n]) u6;have g8:(aH H7 u (.lst [.ref m,.ref n])) u=some (.lst [.ref m,.ref n]):=aA;generalize aH H7 u (.lst [.ref m,.ref n])=p at x g8 ⊢;have N:=(s6.trans s7).trans x;have A:=s5.trans N;have rp:∀(g e:TD)(B:TD),p B=some (.lst [.ref g,.ref e])->p g=some (.tup [.str "holds"])->p e=some (.tup [.str "writes",.str "done"])->Hk p 2 (.ls [.tp [.sc (.str "holds")],.tp [.sc (.str "writes"),.sc (.str "done")]]) (.ref B):=λg e B a4 L M=>
   ⟨B,_,rfl,a4,.cons ⟨g,_,rfl,L,.cons ⟨rfl,rfl⟩ .nil⟩ (.cons ⟨e,_,rfl,M,.cons ⟨rfl,rfl⟩ (.cons ⟨rfl,rfl⟩ .nil)⟩ .nil)⟩
  refine⟨2,_,Zd,rp b d sl (N _ _ g5) (A _ _ L) (A _ _ M),rp m n u g8 (x _ _ (s7 _ _ e1)) (x _ _ e2),?_⟩;have q:=t.trans A;refine⟨_,QYY (A _ _ J),_,rfl,_,.inl (QYY (q _ _ MJ)),?_⟩;exact a0 rd z y p G (h3.same q) (w3.trans (.same q)) (q _ _ (k.tk j _ _ Y)) (q _ _ (k.tk j _ _ Z))
def fA(z:Str)(A:Nat):Str->Nat:=λx=>if x=z then A else 0
structure PC(C:List RX)(z:Str)(A n lf tn:Nat)(T:List E6):Prop where
 w:RX.Whole C
 sn:∀r∈C,Oz r
 kd:∀n t p k x y,.kept n t p k x y∈C->x.Ok
 nm:Pb C [z]
 rep:∃F,RepF C F (fA z A)
 na:∀n,RX.asked n∉C
 nx:IsMax (dA C) (n:Int)
 tt:∀t∈turnL C,t<=(tn:Int)
 l1:∀q e,dL (bT C) q=some e->e∈T
 l2:∀e∈T,tn<e.2.1+lf->dL (bT C) (aF e)=some e
 len:C.length<=2*n+10
 kl:(bT C).length<=n+6
 ks:∀e∈bT C,aF e∈T.map aF
def Jn{C:List RX}(b:∀n,RX.asked n∉C):lG C=[]:=by
 unfold lG;rw[List.flatMap_eq_nil_iff];intro r a;cases r with
 | came n t p k x=>
  have:kH "asked" C (Sum.inl (n:Int))=false:=by
   cases h:kH "asked" C (Sum.inl (n:Int)) with
   | false=>rfl
   | true=>
    obtain⟨r,a,e⟩:=any_eq_true.mp h;obtain⟨m,rfl⟩:=oT (U3 (Bool.and_eq_true _ _▸e:_/\_).1);exact IN a (b m)
  simp[mK,kI,this]
 | _=>rfl
def PC.nil(z:Str)(b c:Nat):PC [] z 0 1 b c [] where
 w:=.nil
 sn:=λ_ h=>nomatch h
 kd:=λ_ _ _ _ _ _ h=>nomatch h
 nm:=⟨FS rfl,(λ_ _ h=>nomatch h),λ_ _ _ _ _ _ _ h=>nomatch h⟩
 rep:=⟨λ_ _=>0,funext λx=>rfl,(λ_ _ _ _ h=>nomatch h),(λ_ _ h=>nomatch h),funext λx=>by unfold fA;split<;>rfl⟩
 na:=λ_ h=>nomatch h
 nx:=⟨by simp[dA],λa h=>by simp[dA,bR,bS]at h;omega⟩
 tt:=λt h=>by simp[turnL,cQ]at h;omega
 l1:=λ_ _ h=>nomatch h
 l2:=λ_ h=>nomatch h
 len:=by simp
 kl:=by simp[bT]
 ks:=λ_ h=>nomatch h
def PC.later{C:List RX}{z:Str}{A n b c a:Nat}{T:List E6}(h:PC C z A n b c T)(le:c<=a):PC C z A n b a T:=
 {h with tt:=λt d=>by have:=h.tt t d;omega,l2:=λe f g=>h.l2 e f Zo }
def Qy{C:List RX}{q:RX}(a:q∈C):(RX.turn q:Int)∈turnL C:=by
 unfold turnL cQ;cases q with
 | next n t=>exact fR _ (Zmm.mpr ⟨t,mem_filterMap.mpr ⟨_,a,rfl⟩,rfl⟩)
 | came n t p k x=>exact fR _ (Zmm.mpr ⟨t,mem_filterMap.mpr ⟨_,a,rfl⟩,rfl⟩)
 | done n t y=>exact fR _ (Zmm.mpr ⟨t,mem_filterMap.mpr ⟨_,a,rfl⟩,rfl⟩)
 | _=>exact fY
def PC.turn{C:List RX}{z:Str}{A n b a:Nat}{T:List E6}(h:PC C z A n b a T){q:RX}(c:q∈C):RX.turn q<=a:=by
 have:=h.tt _ (Qy c);omega
def PC.num{C:List RX}{z:Str}{A n a b:Nat}{T:List E6}(h:PC C z A n a b T){m t:Nat}{p k:Str}{x:Dd}(c:.came m t p k x∈C):m<n:=by
 have:=h.nx.2 ((m:Int)+1) (EQ _ (Zmm.mpr ⟨m,mem_filterMap.mpr ⟨_,c,rfl⟩,rfl⟩));omega
def Vj{C:List RX}(e:RX.Whole C){m t:Nat}{p k:Str}{x:Dd}{y:An}(a:.kept m t p k x y∈C):∃b t0,.next b t0∈C/\m<b:=by
 induction e with
 | nil=>cases a
 | @snoc h r e f g=>
  rcases Zma.mp a with a|a
  ·obtain⟨b,t0,c,d⟩:=g a;exact⟨b,t0,FM _ c,d⟩
  ·cases Zms.mp a;obtain⟨_,⟨b,t0,c,d,_⟩,_⟩:=f;exact⟨b,t0,FM _ c,d⟩
def PC.knum{C:List RX}{z:Str}{A n b c:Nat}{T:List E6}(h:PC C z A n b c T){m t:Nat}{p k:Str}{x:Dd}{y:An}(d:.kept m t p k x y∈C):m<n:=by
 obtain⟨a,f,e,g⟩:=Vj h.w d;have:=h.nx.2 (a:Int) (FM _ (fR _ (Zmm.mpr ⟨a,mem_filterMap.mpr ⟨_,e,rfl⟩,rfl⟩)));omega
def Jo{C D:List RX}{r:RX}(a:RX.Whole C)(d:r∈C)(c:RX.Whole (C++D)):hX (C++D) r=hX C r:=by
 cases r with
 | done n t y=>
  refine yE0 (eY a d) (yE4 λe p k x=>yA2 λb _=>?_);rw[jG a b,jG c (FM _ b)]
 | _=>rfl
theorem uB{a c:Type}{f g:a->List c}:∀ {xs:List a},(∀x∈xs,f x=g x)->xs.flatMap f=xs.flatMap g
 | [],_=>rfl
 | x::xs,h=>by rw[AT,AT,h x fY,uB λy b=>h y (fR _ b)]
def iC(C:List RX)(z:Str)(A n a d:Nat)(p k:Str):List RX:=(C++[.came n a p k (.add z d)])++[.done n a (.is1 (A+d))]
def PC.whole2{C:List RX}{z:Str}{A n g b:Nat}{T:List E6}(h:PC C z A n g b T){p k:Str}{d:Nat}(o:1<=d)(i:A+d<=1000000000000):RX.Whole (C++[.came n b p k (.add z d)])/\RX.Whole (iC C z A n b d p k):=by
 have c:RX.Whole (C++[.came n b p k (.add z d)]):=.snoc h.w ⟨λr j e f l hm=>h.num hm,λj e f l s hm=>Nat.lt_irrefl _ (h.knum hm),λq a=>h.turn a⟩;refine⟨c,.snoc c ⟨λq a=>?_,λt y hm=>?_,b,p,k,.add z d,Zs,?_,λz=>nomatch z⟩⟩
 ·rcases Zma.mp a with a|a
  ·exact h.turn a
  ·rw[Zms.mp a];exact bA _
 ·rcases Zma.mp hm with hm|hm
  ·obtain⟨u,e,f,v,m,_⟩:=eY h.w hm;exact Nat.lt_irrefl _ (h.num m)
  ·cases Zms.mp hm
 ·exact⟨Zo,i⟩
def oW{a:Type}{xs:List a}{x y:a}{i:Nat}(h:(xs++[x])[i]?=some y):(i<xs.length/\xs[i]?=some y)∨(i=xs.length/\y=x):=by
 rcases Nat.lt_or_ge i xs.length with z|z
 ·rw[List.getElem?_append_left z]at h;exact .inl ⟨z,h⟩
 ·rw[List.getElem?_append_right z]at h;rcases Nat.eq_or_lt_of_le z with e|e
  ·refine .inr ⟨e.symm,?_⟩;rw[e,sub_self]at h;simpa using h.symm
  ·have:([x]:List a)[i-xs.length]?=none:=List.getElem?_eq_none (by simp;omega);rw[this]at h;cases h
def Qz{C:List RX}{z:Str}{A n e a:Nat}{T:List E6}(h:PC C z A n e a T){p k:Str}{d:Nat}(f:1<=d)(g:A+d<=1000000000000):bT (iC C z A n a d p k)=bT C++[(n,a,p,k,.add z d,.is1 (A+d))]:=by
 obtain⟨q,c⟩:=h.whole2 (p:=p) (k:=k) f g;have b:iC C z A n a d p k=C++([.came n a p k (.add z d)]++[.done n a (.is1 (A+d))]):=by unfold iC;rw[append_assoc]
 have i:C.flatMap (hX (iC C z A n a d p k))=C.flatMap (hX C):=uB λr j=>by
  have:=c;rw[b]at this ⊢;exact Jo h.w j this
 have l:hX (iC C z A n a d p k) (.done n a (.is1 (A+d)))=[(n,a,p,k,.add z d,.is1 (A+d))]:=jG c (t0:=a) (by unfold iC;simp);have m:(iC C z A n a d p k).flatMap (hX (iC C z A n a d p k))=C.flatMap (hX C)++[(n,a,p,k,.add z d,.is1 (A+d))]:=by
  conv=>lhs;arg 2;rw[b]
  rw[flatMap_append,i];congr 1;show hX _ (.came n a p k (.add z d))++(hX _ (.done n a (.is1 (A+d)))++[])=_;rw[l];rfl
 have o:(iC C z A n a d p k).flatMap gC=C.flatMap gC:=by
  rw[b,flatMap_append];show _++[]=_;rw[append_nil]
 unfold bT;rw[m,o,append_assoc]
def PC.add{C:List RX}{z:Str}{A n I a:Nat}{T:List E6}(h:PC C z A n I a T){p k:Str}{d:Nat}(x:1<=d)(J:A+d<=1000000000000)(hz:isNm z){T':List E6}(t0:(n,a,p,k,.add z d,.is1 (A+d))∈T')(M:∀e∈T',e=(n,a,p,k,.add z d,.is1 (A+d))∨(e∈T/\aF e≠(p,k)))(L:∀e∈T,aF e≠(p,k)->e∈T') :
  PC (iC C z A n a d p k) z (A+d) (n+1) I a T':=by
 obtain⟨w1,N⟩:=h.whole2 (p:=p) (k:=k) x J;have s:=Qz h (p:=p) (k:=k) x J;have g:∀ {r:RX},r∈iC C z A n a d p k↔r∈C∨r=.came n a p k (.add z d)∨r=.done n a (.is1 (A+d)):=λ{r}=>by unfold iC;simp[or_assoc]
 have O:∀q∈T.map aF,q∈T'.map aF:=λq Q=>by
  obtain⟨e,he,rfl⟩:=Zmm.mp Q;by_cases c:aF e=(p,k)
  ·rw[c];exact Zmm.mpr ⟨_,t0,rfl⟩
  ·exact mem_map_of_mem (L e he c)
 refine⟨N,λr j=>?_,λy B D E G u hm=>?_,⟨FS rfl,λz' m hm=>?_,λy B D E G u c hm l=>?_⟩,?_,λm hm=>?_,?_,?_,λq e he=>?_,λe he b=>?_,?_,?_,λe he=>?_⟩
 ·rcases g.mp j with j|rfl|rfl
  ·exact h.sn r j
  ·exact⟨hz,x,Zo⟩
  ·trivial
 ·rcases g.mp hm with hm|hm|hm
  ·exact h.kd _ _ _ _ _ _ hm
  ·cases hm
  ·cases hm
 ·rcases g.mp hm with hm|hm|hm
  ·exact h.nm.2.1 _ _ hm
  ·cases hm
  ·cases hm
 ·rcases g.mp hm with hm|hm|hm
  ·exact h.nm.2.2 _ _ _ _ _ _ _ hm l
  ·cases hm;cases u<;>simp[uQ]at l;rw[l];simp
  ·cases hm
 ·obtain⟨F,v⟩:=h.rep;have R:(C++[RX.came n a p k (.add z d)]).length=C.length+1:=by simp
  have S:mY (iC C z A n a d p k)=mY C:=by
   unfold iC mY;rw[foldl_append,foldl_append];rfl
  refine⟨λi=>if i<=C.length then F i else if i=C.length+1 then fA z A else fA z (A+d),?_,λi y B u f=>?_,λi r f j=>?_,?_⟩
  ·rw[S,<- v.z];simp
  ·rcases oW f with⟨b,f⟩|⟨b,e⟩
   ·rcases oW f with⟨b,f⟩|⟨b,e⟩
    ·refine yE0 (v.done i y B u f) (yE5 λU D E G V=>yA3 λl W X=>?_);refine⟨U,D,E,G,V,g.mpr (.inl l),?_,?_⟩
     ·rw[O8 Zo];exact W
     ·rw[O8 Zo,O8 Zo];exact X
    ·cases e
   ·cases e;rw[R]at b;subst b;refine⟨a,p,k,.add z d,false,g.mpr (.inr (.inl rfl)),?_,?_⟩
    ·rw[NE Zo,O8 rfl];refine .inl ⟨rfl,?_⟩;show(if 1000000000000<fA z A z+d then some (An.full (fA z A z)) else some (An.is1 (fA z A z+d)))=_;rw[show fA z A z=A from O8 rfl,NE Zo]
    ·rw[NE Zo,NE Zo,NE Zo,O8 rfl]
     funext a0
     unfold after dB fA;by_cases c:a0=z
     ·simp[c]
     ·simp[c]
  ·rcases oW f with⟨b,f⟩|⟨b,e⟩
   ·rcases oW f with⟨b,f⟩|⟨b,e⟩
    ·rw[O8 Zo,O8 Zo];exact v.rest i r f j
    ·subst b;rw[NE Zo,O8 rfl,O8 (bA _),v.last]
   ·rw[e]at j;exact IN rfl j
  ·have:(iC C z A n a d p k).length=C.length+2:=by unfold iC;simp
   rw[this];rw[NE Zo,NE Zo]
 ·rcases g.mp hm with hm|hm|hm
  ·exact h.na _ hm
  ·cases hm
  ·cases hm
 ·have H:dA (iC C z A n a d p k)=(1::(bR C).map λn:Nat=>(n:Int))++((bS C).map (λn:Nat=>(n:Int)+1)++[(n:Int)+1]):=by
   unfold dA iC bR bS;simp[CG]
  rw[H];refine⟨Zs,λa1 ha=>?_⟩;rw[<- append_assoc]at ha;rcases Zma.mp ha with ha|ha
  ·have:=h.nx.2 a1 ha;omega
  ·rw[Zms.mp ha];omega
 ·have H:turnL (iC C z A n a d p k)=turnL C++[(a:Int),(a:Int)]:=by
   unfold turnL iC cQ;simp[CG]
  rw[H];intro t o;rcases Zma.mp o with o|o
  ·exact h.tt t o
  ·simp at o;omega
 ·rw[s,eZ]at he;by_cases c:aF (n,a,p,k,.add z d,.is1 (A+d))=q
  ·rw[O8 c]at he;cases he;exact t0
  ·rw[NE c]at he;exact L e (h.l1 q e he) (by rw[(eE he).2];exact λz=>c z.symm)
 ·rw[s,eZ];rcases M e he with rfl|⟨Y,Z⟩
  ·rw[O8 rfl]
  ·rw[NE (λz=>Z z.symm)];exact h.l2 e Y b
 ·have:=h.len;unfold iC;simp;omega
 ·have:=h.kl;rw[s];simp;omega
 ·rw[s]at he;rcases Zma.mp he with he|he
  ·exact O _ (h.ks e he)
  ·rw[Zms.mp he];exact Zmm.mpr ⟨_,t0,rfl⟩
def PC.fold{C:List RX}{z:Str}{A n k d:Nat}{T:List E6}(h:PC C z A n k d T)(hA:A<=1000000000000){out:List RX}(W:Cr C (fA z A) k d [] out):PC out z A n k d T:=by
 refine yE0 W.ex (yE3 λm hs es=>yA7 λB j asc s lh le ζ=>?_);subst ζ;have c:FoldC C (fA z A) d []:=⟨h.w,h.sn,h.kd,λx=>by unfold fA;split<;>omega,List.nil_sublist _,λt u=>h.tt t u.1⟩;have x:FoldX C (fA z A) k d [] m hs es:=⟨B,j,asc,s⟩;have D:RX.next m d::(hs.map (λf=>RX.has f (fA z A f))++(es.map dM++aZ C d []))=iA C (fA z A) d [] m hs es:=rfl;rw[D];have b:m=n:=by have:=IsMax.uniq B h.nx;omega
 subst b;have p:=Ps (m:=m) (hs:=hs) (es:=es) c;have r:∀e∈es,dL (bT C) (aF e)=some e:=λe a=>((s e).mp a).1.1
 have V:∀q e,e∈es->aF e=q->dL es q=some e:=λq e a E=>by
  cases F:dL es q with
  | none=>
   exfalso;have:∀(l:List E6)(o:Option E6),o≠none∨(∃x∈l,aF x=q)->l.foldl (λo e=>if aF e=q then some e else o) o≠none:=by
    intro l;induction l with
    | nil=>rintro o (h|⟨x,g,_⟩);exact h;cases g
    | cons a0 l X=>
     rintro o h;rw[foldl_cons];refine X _ ?_;by_cases v:aF a0=q
     ·exact .inl (by rw[O8 v];exact λz=>nomatch z)
     ·rw[NE v];rcases h with h|⟨x,g,e⟩
      ·exact .inl h
      ·rcases mem_cons.mp g with rfl|g
       ·exact IN e v
       ·exact .inr ⟨x,g,e⟩
   exact this es none (.inr ⟨e,a,E⟩) F
  | some Y=>
   obtain⟨G,Z⟩:=eE F;have H:=r e a;have I:=r Y G;rw[Z]at I;rw[E]at H;rw[<- H,<- I]
 refine⟨Jb c x,Va c,λJ L M N O Q b=>aAE c x J L M N O Q b,⟨FS rfl,λf m' b=>?_,λJ L M N O Q cc b hc=>?_⟩,⟨_,Uz c x⟩,λm' b=>?_,Pu c x,λt u=>(Pw (m:=m) (hs:=hs) (es:=es) c).2 t u,λq e a=>?_,λe a R=>?_,?_,?_,λe a=>?_⟩
 ·rcases(lX c).mp b with e|⟨S,y,e⟩|⟨U,_,e⟩|⟨_,i,_⟩
  ·cases e
  ·cases e;have:=(j.iff f).mp y;unfold fA at this;split at this
   ·rename_i e;rw[e];simp
   ·omega
  ·cases e
  ·cases i
 ·rcases(lX c).mp b with e|⟨S,y,e⟩|⟨U,_,e⟩|⟨_,i,_⟩
  ·cases e
  ·cases e
  ·cases e
  ·cases i
 ·rcases(lX c).mp b with e|⟨S,y,e⟩|⟨U,_,e⟩|⟨_,i,_⟩
  ·cases e
  ·cases e
  ·cases e
  ·cases i
 ·rw[p]at a;exact h.l1 _ e (r e (eE a).1)
 ·rw[p];exact V _ e ((s e).mpr ⟨⟨h.l2 e a R,R⟩,λb=>nomatch b⟩) rfl
 ·have G:hs.length<=1:=Cq (ys:=[z]) (j.asc.imp λh e=>by rw[e]at h;exact IN h (List.lt_irrefl _)) λf LJ=>by
   have:=(j.iff f).mp LJ;unfold fA at this;split at this
   ·rename_i e;rw[e];simp
   ·omega
  have:=h.kl;rw[<- D];simp[aZ];omega
 ·rw[p];have:=h.kl;omega
 ·rw[p]at a;exact mem_map_of_mem (h.l1 _ e (r e a))
structure EOk(z:Str)(n tu:Nat)(e:E6):Prop where
 a:isNm e.2.2.1
 k:isKy e.2.2.2.1
 num:e.1<n
 tu:e.2.1<=tu
 dd:∃d m,e.2.2.2.2.1=.add z d/\e.2.2.2.2.2=.is1 m/\1<=d/\d<=1000000
def EOk.mono{z:Str}{n a b tu':Nat}{e:E6}(h:EOk z n b e)(c:n<=a)(d:b<=tu'):EOk z a tu' e:=⟨h.a,h.k,by have:=h.num;omega,by have:=h.tu;omega,h.dd⟩
def uE(T:List E6)(e0:E6):List E6:=if aF e0∈T.map aF then T.map (λe=>if aF e=aF e0 then e0 else e) else T++[e0]
def Fs(T:List E6)(e0:E6):e0∈uE T e0:=by
 unfold uE;split
 ·rename_i h;obtain⟨e,a,b⟩:=Zmm.mp h;exact Zmm.mpr ⟨e,a,O8 b⟩
 ·simp
def yH{T:List E6}{e0 e:E6}(h:e∈uE T e0):e=e0∨(e∈T/\aF e≠aF e0):=by
 unfold uE at h;split at h
 ·obtain⟨x,a,rfl⟩:=Zmm.mp h;by_cases c:aF x=aF e0
  ·rw[O8 c];exact .inl rfl
  ·rw[NE c];exact .inr ⟨a,c⟩
 ·rename_i b;rcases Zma.mp h with h|h
  ·exact .inr ⟨h,λc=>b (c▸mem_map_of_mem h)⟩
  ·exact .inl (Zms.mp h)
def Ft{T:List E6}{e0 e:E6}(h:e∈T)(hs:aF e≠aF e0):e∈uE T e0:=by
 unfold uE;split
 ·exact Zmm.mpr ⟨e,h,NE hs⟩
 ·exact FM _ h
def qH(T:List E6)(e0:E6):(uE T e0).map aF=if aF e0∈T.map aF then T.map aF else T.map aF++[aF e0]:=by
 unfold uE;split
 ·rw[map_map];refine map_congr_left λe _=>?_
  show aF (if aF e=aF e0 then e0 else e)=aF e;split
  ·rename_i h;exact h.symm
  ·rfl
 ·rw[dN];rfl
def aAJ{T:List E6}(h:(T.map aF).Nodup)(e0:E6):((uE T e0).map aF).Nodup:=by
 rw[qH];split
 ·exact h
 ·rename_i a;exact lK h a
def Ra{T:List E6}(h:(T.map aF).Nodup)(d:(T.map (·.1)).Nodup){e0:E6}(c:∀e∈T,e.1<e0.1):((uE T e0).map (·.1)).Nodup:=by
 unfold uE;split
 ·rw[map_map];refine pairwise_map.mpr (((pairwise_map.mp h).and (pairwise_map.mp d)).imp_of_mem λ{a b} g i f=>?_);show(if aF a=aF e0 then e0 else a).1≠(if aF b=aF e0 then e0 else b).1;have:=c a g;have:=c b i;split<;>split
  ·rename_i j k;exact IN (j.trans k.symm) f.1
  ·omega
  ·omega
  ·exact f.2
 ·rw[dN];exact lK d λl=>by
   obtain⟨e,m,n⟩:=Zmm.mp l;have:=c e m;have o:e.1=e0.1:=n;omega
def Fu(T:List E6)(e0:E6):(uE T e0).length=if aF e0∈T.map aF then T.length else T.length+1:=by
 have:=congrArg length (qH T e0);rw[aR]at this;rw[this];split<;>simp
structure LvA(c:CK)(H:Hp)(a:DA)(s:DS)(z:Str)(lf A n tu:Nat)(T:List E6):Prop where
 dat:DAt c H a s
 life:s.life=(lf:Int)
 runs:s.runs=[]
 safe:s.safe=s.rows.length
 next:s.next=n
 turn:s.turn=(tu:Int)
 pa:∀x,cA s.prs x=(fA z A x:Int)
 pz:∀x∈s.prs.map (·.1),x=z
 L:s.L<=300
 rows:∃C as,s.rows=as.map V.ref/\Paired (λr a=>RX.At H a r) C as/\PC C z A n lf tu T
 mt1:∀q ke,s.m q=some ke->∃e∈T,aF e=q/\∃d y,ke=.kept (e.1:Int) (e.2.1:Int) d y/\H d=some (.tup e.2.2.2.2.1.vs)/\H y=some (.tup e.2.2.2.2.2.vs)
 mt2:∀e∈T,tu<e.2.1+lf->∃ke,s.m (aF e)=some ke
 tnd:(T.map aF).Nodup
 nnd:(T.map (·.1)).Nodup
 t6:T.length<=6
 eok:∀e∈T,EOk z n tu e
 n2:n<=180
 hA:A<=n*1000000
 zn:isNm z
def qI{T:List E6}(h:(T.map aF).Nodup){e a:E6}(b:e∈T)(c:a∈T)(hs:aF e=aF a):e=a:=qC h b c hs
section
variable {c:CK}{H H':Hp}{a:DA}{s:DS}{z:Str}{lf A n tu:Nat}{T:List E6}
def LvA.keep(h:LvA c H a s z lf A n tu T)(k:∀b o,H b=some o->b∈a.fix->H' b=some o)(t:TK H H'):LvA c H' a s z lf A n tu T:=
 {h with dat:=h.dat.keep (λb o e f=>k b o e (by rw[h.runs]at f;simpa using f)) t,rows:=let ⟨C,g,e,p,r⟩:=h.rows;⟨C,g,e,Paired.map' (λ_ _ w=>w.tk t) p,r⟩,mt1:=λq i j=>let ⟨e,l,m,d,y,u,v,x⟩:=h.mt1 q i j;⟨e,l,m,d,y,u,t _ _ v,t _ _ x⟩ }
def LvA.same(h:LvA c H a s z lf A n tu T)(k:Same H H'):LvA c H' a s z lf A n tu T:=h.keep (λb o e _=>k b o e) (TK.of k)
def LvA.numU(h:LvA c H a s z lf A n tu T):aAt s.m:=λq g u t d v y B C i j=>by
 obtain⟨x,k,l,D,E,m,_⟩:=h.mt1 q _ i;obtain⟨o,p,r,F,G,b,_⟩:=h.mt1 g _ j;cases m;injection b with b _
 have:x=o:=qC (f:=λe:E6=>e.1) h.nnd k p Zo;rw[<- l,<- r,this]
def LvA.at(h:LvA c H a s z lf A n tu T){e:E6}(b:e∈T)(g:tu<e.2.1+lf):∃d y,s.m (aF e)=some (.kept (e.1:Int) (e.2.1:Int) d y)/\H d=some (.tup e.2.2.2.2.1.vs)/\H y=some (.tup e.2.2.2.2.2.vs):=by
 obtain⟨i,f⟩:=h.mt2 e b g;refine yE0 (h.mt1 _ i f) (yE1 λp=>yA3 λj k=>yE2 λd y=>yA3 λl m o=>?_);have:=qI h.tnd b j k.symm;subst this;exact⟨d,y,by rw[f,l],m,o⟩
def LvA.sup(h:LvA c H a s z lf A n tu T):∀q e,s.m q=some e->q∈T.map aF:=λq b d=>by
 obtain⟨e,f,g,_⟩:=h.mt1 q b d;rw[<- g];exact mem_map_of_mem f
def LvA.p90(h:LvA c H a s z lf A n tu T):s.prs.length<=1:=by
 have:=Oy (ys:=[z]) h.dat.nd λx b=>by rw[h.pz x b];simp
 simpa using this
def LvA.rc(h:LvA c H a s z lf A n tu T):∃C b F,Fo H s.rows C b F (fA z A) [z] (T.map aF) n (tu:Int)/\PC C z A n lf tu T:=by
 refine yE0 h.rows (yE2 λC b=>yA3 λe p r=>?_);obtain⟨F,d⟩:=r.rep;have:=r.len;have:=r.kl;have:=h.n2;have:=h.t6;exact⟨C,b,F,⟨e,p,Zo,r.nm,r.w,r.sn,d,Jn r.na,⟨Zo,by rw[aR];omega,r.ks⟩,Zo,r.nx,r.tt⟩,r⟩
def LvA.ended(h:LvA c H a s z lf A n tu T){tu' d:Nat}{q:Str×Str}(D:tu<=tu')(R:isNm q.1)(S:isKy q.2)(v:1<=d)(N:d<=1000000)(U:n+1<=180){H2:Hp}{dd p dx ra rd z':TD}{y:An}(F:(uE T (n,tu',q.1,q.2,.add z d,.is1 (A+d))).length<=6)(G:lF (fA z A) (.add z d) false y)(W:DAt c H2 a (wK (lI s (tu':Int) q dd (.add z d) p dx ra) (gW p dx s.next q dd (.add z d) "new") rd z' y))(t:TK H H2)(g1:H2 ra=some (.tup [.str "came",.int s.next,.int (tu':Int),.str q.1,.str q.2,.ref dd]))(g2:H2 rd=some (.tup [.str "done",.int s.next,.int (tu':Int),.ref z']))(g3:H2 dd=some (.tup (Dd.add z d).vs))(I:H2 z'=some (.tup y.vs)) :
  y=.is1 (A+d)/\∃X,LvA c H2 a X z lf (A+d) (n+1) tu' (uE T (n,tu',q.1,q.2,.add z d,.is1 (A+d))):=by
 have hA:=h.hA;have Y:A+d<=1000000000000:=by have:=h.n2;omega
 have Z:y=.is1 (A+d):=by
  rcases G with⟨_,e⟩|⟨e,_⟩
  ·have J:(if 1000000000000<fA z A z+d then some (An.full (fA z A z)) else some (An.is1 (fA z A z+d)))=some y:=e;rw[show fA z A z=A from O8 rfl,NE Zo]at J;exact(Option.some.inj J).symm
  ·cases e
 subst Z;refine⟨rfl,?_⟩;have l:aF (n,tu',q.1,q.2,.add z d,.is1 (A+d))=q:=rfl;generalize m:((n,tu',q.1,q.2,.add z d,.is1 (A+d)):E6)=o at F l ⊢;have u:=h.next;have B:∀r g,(wK (lI s (tu':Int) q dd (.add z d) p dx ra) (gW p dx s.next q dd (.add z d) "new") rd z' (.is1 (A+d))).m r=some g->(r=q/\g=.kept (n:Int) (tu':Int) dd z')∨(r≠q/\s.m r=some g):=λr g j=>by
  by_cases c:r=q
  ·have:((s.m.set q (some (.busy s.next dd))).set q (some (.kept s.next (tu':Int) dd z'))) r=some g:=j;rw[c,KM.set_same]at this;rw[u]at this;exact .inl ⟨c,(Option.some.inj this).symm⟩
  ·have:((s.m.set q (some (.busy s.next dd))).set q (some (.kept s.next (tu':Int) dd z'))) r=some g:=j;rw[KM.set_ne c,KM.set_ne c]at this;exact .inr ⟨c,this⟩
 have E:∀r g,(wK (lI s (tu':Int) q dd (.add z d) p dx ra) (gW p dx s.next q dd (.add z d) "new") rd z' (.is1 (A+d))).m r=some g->∃e∈uE T o,aF e=r/\∃d y,g=.kept (e.1:Int) (e.2.1:Int) d y/\H2 d=some (.tup e.2.2.2.2.1.vs)/\H2 y=some (.tup e.2.2.2.2.2.vs):=λr g j=>by
  rcases B r g j with⟨rfl,rfl⟩|⟨E7,j⟩
  ·refine⟨o,Fs _ _,l,dd,z',?_,?_,?_⟩
   ·rw[<- m]
   ·rw[<- m];exact g3
   ·rw[<- m];exact I
  ·refine yE0 (h.mt1 r g j) (yE1 λe=>yA3 λb i=>yE2 λd1 y1=>yA3 λk1 k2 k3=>?_);exact⟨e,Ft b (by rw[i,l];exact E7),i,d1,y1,k1,t _ _ k2,t _ _ k3⟩
 obtain⟨a1,as,er,pr,pc⟩:=h.rows;have O:=(pc.later D).add (p:=q.1) (k:=q.2) v Y h.zn (T':=uE T o) (by rw[m];exact Fs _ _) (λe b=>by rw[m];rcases yH b with C|⟨C,L⟩;exact .inl C;exact .inr ⟨C,by rw[l]at L;exact L⟩) (λe b i=>Ft b (by rw[l];exact i));have UE:=W.low (qs:=(uE T o).map aF) λr g j=>by
  obtain⟨e,b,i,_⟩:=E r g j;rw[<- i];exact mem_map_of_mem b
 have Q:∀x,fA z (A+d) x=after (fA z A) (.add z d) (.is1 (A+d)) x:=λx=>by
  show _=dB (fA z A) z (fA z A z+d) x;unfold dB fA;by_cases c:x=z<;>simp[c]
 obtain⟨ea,hG⟩:=qS (f:=fA z A) (x:=.add z d) ⟨h.zn,v,Zo⟩ G;refine⟨_,⟨UE,h.life,rfl,rfl,by show s.next+1=n+1;rw[u],rfl,λx=>?_,λx hx=>?_,?_,⟨_,as++[ra]++[rd],?_,?_,O⟩,E,λe b hl=>?_,aAJ h.tnd o,Ra h.tnd h.nnd (λe b=>by rw[<- m];exact(h.eok e b).num),F,λe b=>?_,U,Zo,h.zn⟩⟩
 ·show cA (kD s.prs (uQ (.add z d) (.is1 (A+d)))) x=_;rw[tO _ _ _ hG h.pa,ea,Q]
 ·have:=yD (zn:=[z]) (uQ (.add z d) (.is1 (A+d))) s.prs (λa0 B=>by rw[h.pz a0 B];simp) (λc M=>by simp[uQ]at M;rw[M];simp) x hx;simpa using this
 ·show((uE T o).map aF).length<=300;rw[aR];omega
 ·show s.rows++[V.ref ra]++[V.ref rd]=_;rw[er];simp
 ·refine Paired.snoc (Paired.snoc (Paired.map' (λ_ _ w=>w.tk t) pr) ?_) ?_
  ·rw[u]at g1;exact⟨dd,g1,g3⟩
  ·rw[u]at g2;exact⟨z',g2,I⟩
 ·show ∃g,((s.m.set q (some (.busy s.next dd))).set q (some (.kept s.next (tu':Int) dd z'))) (aF e)=some g;rcases yH b with rfl|⟨b,i⟩
  ·exact⟨_,by rw[l];exact KM.set_same⟩
  ·rw[l]at i;rw[KM.set_ne i,KM.set_ne i];exact h.mt2 e b Zo
 ·rcases yH b with rfl|⟨b,i⟩
  ·rw[<- m];exact⟨R,S,lt_succ_self _,bA _,d,A+d,rfl,rfl,v,N⟩
  ·exact(h.eok e b).mono Zo D
end
def Fv{H H':Hp}{d b:TD}(h:Dk H d b)(a:∀o,H d=some o->H' d=some o)(c:∀o,H b=some o->H' b=some o):Dk H' d b:=by
 refine yE0 h.ex (yE3 λe f k=>yA3 λg i j=>?_);exact⟨e,f,k,a _ g,c _ i,j⟩
def Fw{H:Hp}{d b x:TD}(h:Dk H d b)(e:x=d∨x=b):H x≠none:=by
 refine yE0 h.ex (yE3 λf g k=>yA3 λa c i=>?_);rcases e with rfl|rfl
 ·rw[a];exact λz=>nomatch z
 ·rw[c];exact λz=>nomatch z
structure SW(c:CK)(H:Hp)(d b:TD)(a:DA)(s:DS)(z:Str)(lf A n tu:Nat)(T:List E6):Prop where
 dk:Dk H d b
 lv:LvA c H a s z lf A n tu T
 nd:d∉a.fix
 nb:b∉a.fix
structure Nx(a a':DA)(d b:TD)(H H':Hp):Prop where
 dr:a'.dr=a.dr
 fx:∀x∈a'.fix,x∈a.fix∨H x=none
 fr:∀x o,H x=some o->x∉a.fix->x≠d->x≠b->H' x=some o
section
variable {c:CK}{H H1 H2:Hp}{d b:TD}{a a1 a2:DA}{s:DS}{z:Str}{lf A n tu:Nat}{T:List E6}
def Nx.trans(x:Nx a a1 d b H H1)(y:Nx a1 a2 d b H1 H2)(k:Dk H1 d b):Nx a a2 d b H H2:=by
 refine⟨y.dr.trans x.dr,λp f=>?_,λp o e f hd i=>y.fr p o (x.fr p o e f hd i) (λm=>?_) hd i⟩
 ·rcases y.fx p f with h|h
  ·exact x.fx p h
  ·by_cases j:p∈a.fix
   ·exact .inl j
   ·right
    cases e:H p with
    | none=>rfl
    | some o=>
     by_cases g:p=d∨p=b
     ·exact IN h (Fw k g)
     ·rw[x.fr p o e j (λz=>g (.inl z)) (λz=>g (.inr z))]at h;cases h
 ·rcases x.fx p m with h|h
  ·exact f h
  ·rw[e]at h;cases h
def SW.same(h:SW c H d b a s z lf A n tu T)(k:Same H H1):SW c H1 d b a s z lf A n tu T:=⟨h.dk.same k,h.lv.same k,h.nd,h.nb⟩
def SW.draw(h:SW c H d b a s z lf A n tu T)(D:Dk H1 d b)(k:Kp d b H H1):SW c H1 d b a s z lf A n tu T/\Nx a a d b H H1:=
 ⟨⟨D,h.lv.keep (λx o e f=>k x o e (λz=>h.nd (z▸f)) (λz=>h.nb (z▸f))) (Kp.tk h.dk k),h.nd,h.nb⟩,⟨rfl,λ_ h=>.inl h,λx o e _ g i=>k x o e g i⟩⟩
def SW.step(h:SW c H d b a s z lf A n tu T){a':DA}{i:DS}{j k tu':Nat}{T':List E6}(dr:a'.dr=a.dr)(l:∀x∈a'.fix,x∈a.fix∨H x=none)(fr:∀x o,H x=some o->x∉a.fix->H1 x=some o)(p:LvA c H1 a' i z lf j k tu' T'):SW c H1 d b a' i z lf j k tu' T'/\Nx a a' d b H H1:=by
 have out:∀x,(x=d∨x=b)->x∉a'.fix:=λx f m=>by
  rcases l x m with g|g
  ·rcases f with rfl|rfl
   ·exact h.nd g
   ·exact h.nb g
  ·exact Fw h.dk f g
 exact⟨⟨Fv h.dk (λo e=>fr d o e h.nd) (λo e=>fr b o e h.nb),p,out d (.inl rfl),out b (.inr rfl)⟩,⟨dr,l,λx o e f _ _=>fr x o e f⟩⟩
end
def Rb(c:CK):Sp:=λvs H Q _=>∃(d b:TD)(a:DA)(s:DS)(z:Str)(g A n h e:Nat)(T:List E6),vs=[.ref d,.ref a.dr,.int (e:Int)]/\SW c H d b a s z g A n h T/\h<=e ∧
 ∀i k j f,SW c f d b i k z g A n j T->Nx a i d b H f->j<=e->Q .non f
def Vk{c:CK}(b9:Callee P w K mg base 1 "_law_draw" QZE rL)(wb:cC P w K mg base 3 c.D "fall" QZW (Fm c))(we:cC P w K mg base 6 c.D "rise" QZU (Fp c))(j0:cC P w K mg base 4 c.D "force" AC (rT c))(wg:cC P w K mg base 7 c.D "fold" AC (Fq c))(D:DefAt K mg "_law_stirred" fI QZj):Callee P w K mg base 8 "_law_stirred" QZj (Rb c):=by
 refine D.gg lE (λa5 cdv A outer s a1 vs a6 a7 I h=>?_)
 ·revert h;refine yE9 λd b a s z N A n tu=>yE2 λG T=>yA4 λζ h hle q=>?_;subst ζ;refine⟨_,(lq (pv (i:=3) lE.nd (px b9 I rfl (lc (f8 0) (lc mo li)))) (lq (qa (pi vb (f8 3) mo) (lq (uz (re wb I (f8 1) (lc (px b9 I rfl (lc (f8 0) (lc mo li))) li))) (lu (uz (re we I (f8 1) (lc (f8 2) li))))) qb) (lu (qa (pi vb (f8 3) mo) (lq (uz (vg j0 I (f8 1))) (lu (uz (vg wg I (f8 1))))) qb)))),?_⟩;refine⟨d,b,5,rfl,h.dk,Zd,Zd,λr H1 r0 r5 D1 k1=>?_⟩;obtain⟨p,x1⟩:=h.draw D1 k1;dsimp only [aJ];refine cT (λσ H'=>∃a' s' AJ,σ=[some (.ref d),some (.ref a.dr),some (.int (G:Int)),some (.int r)]/\SW c H' d b a' s' z N A n AJ T/\Nx a a' d b a1 H'/\AJ<=G/\a'.dr=a.dr) (λnx l7=>?_) ?_
  ·show if decide (r=0)=true then _ else _
   refine dF (λhb=>?_) (λ_=>l7 _ _ ⟨a,s,tu,rfl,p,x1,hle,rfl⟩);refine⟨_,_,p.lv.dat.dr,by kernel_rfl,d,b,50,rfl,p.dk,Zd,Zd,λr2 U _ _ D2 k2=>?_⟩;obtain⟨f,W⟩:=p.draw D2 k2;have x02:=x1.trans W p.dk;refine⟨a,s,r2,rfl,f.lv.dat,f.lv.safe,λCS H CQ DN k3=>?_⟩;refine yE0 f.lv.rc (yE3 λC E F=>yA2 λrc J=>?_);have gdr:=f.lv.dat.dr;have gj:=f.lv.dat.j;have M:TK U H:=λx xs e=>k3 x _ e (aK e gdr λz=>nomatch z) (aK e gj λz=>nomatch z)
   have rc3:Fo H s.rows C E F (fA z A) [z] (T.map aF) n (G:Int):={rc with each:=Paired.map' (λ_ _ w=>w.tk M) rc.each,tn:=λt ht=>by have:=rc.tn t ht;omega };refine⟨_,_,Own.get DN 0 rfl,by kernel_rfl,{a with jl:=CS },s,(G:Int),C,E,F,fA z A,[z],T.map aF,n,rfl,DN,rc3,λa3 a' prs a0 L l X D4 pp pa km hL fx fr=>?_⟩;have Y:TK H l:=λx xs e=>fr x _ e (aK e (Own.get DN 0 rfl) λz=>nomatch z)
   have mt1:∀q u,a0 q=some u->∃e∈T,aF e=q/\∃d y,u=.kept (e.1:Int) (e.2.1:Int) d y/\l d=some (.tup e.2.2.2.2.1.vs)/\l y=some (.tup e.2.2.2.2.2.vs):=λq u m=>by
    cases O:dL (bT C) q with
    | none=>rw[(km q).1 O]at m;cases m
    | some e=>
     refine yE0 ((km q).2 e O) (yE2 λd1 y1=>yA3 λg1 g2 g3=>?_);rw[g1]at m;exact⟨e,J.l1 q e O,(eE O).2,d1,y1,(Option.some.inj m).symm,g2,g3⟩
   have D5:=D4.low (qs:=T.map aF) λq u m=>by
    obtain⟨e,v,Q,_⟩:=mt1 q u m;rw[<- Q];exact mem_map_of_mem v
   have UG:LvA c l a' {upG s (G:Int) n prs a0 L with L:=(T.map aF).length } z N A n G T:=
    {f.lv with
     dat:=D5,runs:=rfl,next:=rfl,turn:=rfl,pa:=pa
     pz:=λx g=>by
      have:=pp x g;unfold fA at this;split at this
      ·assumption
      ·omega
     L:=by show(T.map aF).length<=300;rw[aR];have:=f.lv.t6;omega
     rows:=⟨C,E,rc.rw,Paired.map' (λ_ _ w=>(w.tk M).tk Y) rc.each,J.later hle⟩
     mt1:=mt1
     mt2:=λe v O=>by
      obtain⟨d1,y1,g1,_⟩:=(km (aF e)).2 e (J.l2 e v Zo);exact⟨_,g1⟩
     eok:=λe v=>(f.lv.eok e v).mono (bA _) hle }
   have B:∀ {x},x=a.dr∨x=a.hd∨x=a.j∨x=a.jl->x∈a.fix:=λ{x} g=>by simp only [DA.fix,mem_cons];rcases g with h|h|h|h<;>simp[h]
   obtain⟨h5,x5⟩:=f.step (H1:=l) (a':=a') X (λx g=>by
    rcases fx x g with g|g
    ·simp only [mem_cons,EJ,or_false]at g;rcases g with e|e|e|e
     ·exact .inl (B (.inl e))
     ·exact .inl (B (.inr (.inl e)))
     ·exact .inl (B (.inr (.inr (.inl e))))
     ·exact .inr (by rw[e];exact CQ)
    ·by_cases c1:x∈a.fix
     ·exact .inl c1
     ·right
      cases e:U x with
      | none=>rfl
      | some o=>rw[k3 x o e (λz=>c1 (B (.inl z))) (λz=>c1 (B (.inr (.inr (.inl z)))))]at g;cases g) (λx o e g=>fr x o (k3 x o e (λz=>g (B (.inl z))) (λz=>g (B (.inr (.inr (.inl z)))))) (λz=>g (B (.inl z)))) UG
   exact l7 _ _ ⟨a',_,G,rfl,h5,x02.trans x5 f.dk,bA _,X⟩
  refine λσ U=>yE3 λR k S=>yA5 λζ f W GU Z=>?_;subst ζ;show if decide (r=1)=true then _ else _
  refine dF (λhb=>?_) (λ_=>q R k S U f W GU);refine yE0 f.lv.rc (yE3 λC E F=>yA2 λrc J=>?_);have JM:=f.lv.safe;have es:({k with safe:=(k.rows.length:Int) }:DS)=k:=by rw[<- JM]
  have BA:k.rows.length<=1000:=by
   rw[rc.rw,aR,<- rc.each.length];have:=rc.len;omega
  refine⟨_,_,by rw[<- Z];exact f.lv.dat.dr,by kernel_rfl,R,k,k,k.rows,[],[],by rw[Z],f.lv.dat,Zs,JM,BA,by rw[es];exact .nil,Zd,λa3 us H D3 v3 _ _ _ _=>?_⟩;have M:=v3.tk f.lv.dat;have lv3:LvA c H R k z N A n S T:={f.lv with dat:=D3,rows:=let ⟨C,E,e,a4,r⟩:=f.lv.rows;⟨C,E,e,Paired.map' (λ_ _ w=>w.tk M) a4,r⟩,mt1:=λq u m=>let ⟨e,v,Q,d,y,p,f,j⟩:=f.lv.mt1 q u m;⟨e,v,Q,d,y,p,M _ _ f,M _ _ j⟩ };obtain⟨j,x3⟩:=f.step (H1:=H) (a':=R) rfl (λx g=>.inl g) (λx o e g=>v3.fr x o e (by rw[f.lv.runs];simpa using g)) lv3;refine yE0 j.lv.rc (yE3 λC E F=>yA2 λrc J=>?_);refine⟨_,_,by rw[<- Z];exact j.lv.dat.dr,by kernel_rfl,R,k,C,E,F,fA z A,[z],T.map aF,n,N,S,by rw[Z],j.lv.dat,j.lv.runs,j.lv.safe,j.lv.life,j.lv.turn,rc,λa' out os l X D4 po fi fx fr=>?_⟩;have Y:TK H l:=λx xs e=>fr x _ e λg=>j.lv.dat.out e ⟨xs,rfl⟩ (FM _ g)
  have BG:A<=1000000000000:=by have:=j.lv.hA;have:=j.lv.n2;omega
  have UG:LvA c l a' {k with rows:=os.map V.ref,safe:=(os.length:Int) } z N A n S T:=
   {j.lv with
    dat:=D4
    safe:=by show(os.length:Int)=((os.map V.ref).length:Int);rw[aR]
    rows:=⟨out,os,rfl,po,J.fold BG fi⟩
    mt1:=λq u m=>let ⟨e,v,Q,d,y,p,f,j⟩:=j.lv.mt1 q u m;⟨e,v,Q,d,y,p,Y _ _ f,Y _ _ j⟩ }
  obtain⟨h4,x4⟩:=j.step (H1:=l) (a':=a') X fx fr UG;exact q a' _ S l h4 (W.trans (x3.trans x4 j.dk) f.dk) GU
def TE(H:Hp)(e:E6)(a:List aS×V):Prop:=a.1=pk (aF e)/\∃t d y,a.2=.ref t/\H t=some (.tup [.int (e.1:Int),.int (e.2.1:Int),.ref d,.ref y])/\H d=some (.tup e.2.2.2.2.1.vs)/\H y=some (.tup e.2.2.2.2.2.vs)
def TE.tk{H H':Hp}(t:TK H H'){e:E6}{b:List aS×V}(h:TE H e b):TE H' e b:=let ⟨c,a,d,y,f,g,i,j⟩:=h;⟨c,a,d,y,f,t _ _ g,t _ _ i,t _ _ j⟩
def As{H:Hp}{T:List E6}{a:List (List aS×V)}(p:Paired (TE H) T a):a.map (·.1)=T.map λe=>pk (aF e):=(paM p (f:=λe=>pk (aF e)) (g:=λb:List aS×V=>b.1) λx y h=>h.1.symm).symm
def aAK{H:Hp}{T:List E6}{a:List (List aS×V)}(p:Paired (TE H) T a)(b:(T.map aF).Nodup):(a.map (·.1)).Nodup:=by
 rw[As p];exact pairwise_map.mpr ((pairwise_map.mp b).imp λh e=>h (mU e))
def yI{H:Hp}{T:List E6}{a:List (List aS×V)}(p:Paired (TE H) T a)(i:(T.map aF).Nodup){e:E6}(j:e∈T):∃t d y,aY a (pk (aF e))=some (.ref t)/\H t=some (.tup [.int (e.1:Int),.int (e.2.1:Int),.ref d,.ref y])/\H d=some (.tup e.2.2.2.2.1.vs)/\H y=some (.tup e.2.2.2.2.2.vs):=by
 refine yE0 (paL p j) (yE1 λb=>yA3 λc g=>yE3 λt d y=>yA4 λk l m n=>?_);refine⟨t,d,y,?_,l,m,n⟩
 cases h:aY a (pk (aF e)) with
 | none=>exact IN (g▸mem_map_of_mem c) (iZ h)
 | some v=>
  have:=kY h;have o:=qC (f:=λb:List aS×V=>b.1) (aAK p i) this c g.symm;rw[<- k,<- o]
def Au:Sp:=λvs H Q _=>∃(f:TD)(d:List (List aS×V))(T:List E6)(g h:Nat),vs=[.ref f,.int (g:Int),.int (h:Int)]/\H f=some (.dT d)/\Paired (TE H) T d/\(T.map aF).Nodup/\(T.map (·.1)).Nodup/\T.length<=6 ∧
 ∀l ks out c,Same H c->c l=some (.lst (ks.map V.ref))->Paired (At6 c) out ks->out.Pairwise (λa b=>a.1<b.1)->(∀e,e∈out↔e∈T/\g<e.2.1+h)->Q (.ref l) c
def Jp(T:Txt K mg)(D:DefAt K mg "_law_kept" jX QZi):Callee P w K mg base 1 "_law_kept" QZi Au:=by
 refine D.gg cJ (λa2 cdv a3 outer s H vs a4 a5 hr h=>?_)
 ·revert h;refine yE5 λa f TT F I=>yA7 λζ gt pt nd nn h6 q=>?_;subst ζ;have l8:=dE hr;refine⟨_,(lq (pv (i:=3) cJ.nd (vf li)) (lq (R.jc (vi PassesOwn.never rfl (R.ft (f8 0)) (ww (K:=K) (n:=2) rfl (qe (pw (i:=4) cJ.nd) (qe (pw (i:=5) cJ.nd) wx))) (lq (wt (vn l8 (f8 0) (o0 (lc (f8 4) (lc (f8 5) li)))) (ww (K:=K) (n:=4) rfl (qe (pw (i:=6) cJ.nd) (qe (pw (i:=7) cJ.nd) (qe (pw (i:=8) cJ.nd) (qe (pw (i:=9) cJ.nd) wx)))))) (lu (qa (pi yn (oh qd (f8 7) (f8 2)) (f8 1)) (lu (uz (xg (K:=K) PySem.F.plainAttrs_list PySem.F.slot_list_append PySem.F.type_list_append R.cz (f8 3) (lc (o0 (lc (f8 6) (lc (f8 7) (lc (f8 4) (lc (f8 5) (lc (f8 8) (lc (f8 9) li))))))) li)))) qb))))) (lu (oe (uy (R.du (K:=K)) rfl T.b_sorted eB (lc (f8 3) li)))))),?_⟩;refine⟨sM rfl,λl hl=>?_⟩;dsimp only [aJ];have J:=aG (o:=.lst []) hl;have g1:(aH H l (.lst [])) l=some (.lst []):=aA;generalize aH H l (.lst [])=G at J g1 ⊢;have A:=J _ _ gt;have ps:=Paired.map' (λ_ _ w=>TE.tk (Same.tk J) w) pt;refine⟨f,A,λo bs CO GR=>?_⟩;have u:l≠a:=aK g1 A nofun;have L:∀c v,G c=some v->c≠a->(aH G a (.frz o (.dT f))) c=some v:=λc v e m=>by rw[aB m];exact e
  have B:(aH G a (.frz o (.dT f))) a=some (.frz o (.dT f)):=aA;generalize aH G a (.frz o (.dT f))=G2 at L B ⊢;have lT:=ps.length;refine bU (Cb a o f bs) (λi W g=>∃(fl:List (E6×TD))(X Y Z o7 o8 o9:Option V),W=[some (.ref a),some (.int (F:Int)),some (.int (I:Int)),some (.ref l),X,Y,Z,o7,o8,o9]/\g l=some (.lst (fl.map λq=>V.ref q.2))/\(∀q∈fl,At6 g q.1 q.2)/\fl.map (·.1)=(TT.take i).filter (λe=>decide (F<e.2.1+I))/\(∀c v,G2 c=some v->c≠l->g c=some v))
   (λi W g ⟨_,_,_,_,_,_,_,_,_,_,_,k⟩=>k _ _ B u.symm) ⟨[],none,none,none,none,none,none,rfl,L _ _ g1 u,(λz y=>nomatch y),rfl,λc v e _=>e⟩ ?_ ?_
  ·refine λi x W g d=>yE7 λfl X Y Z o7 o8 o9=>yA5 λζ C y p k=>?_;subst ζ;rw[dW]at d;obtain⟨b,hb,rfl⟩:=Option.map_eq_some_iff.mp d;obtain⟨pp,zc,gb⟩:=GR i b hb;obtain⟨hi,ei⟩:=Zgs.mp zc;obtain⟨U6,te⟩:=Paired.get' (j:=i) ps hi;rw[ei]at te;have M:TT[i]?=some TT[i]:=fX U6;generalize TT[i]=e at te M;have ek:=te.1;refine yE0 (yI ps nd (jJ M)) (yE3 λt a0 a1=>yA4 λhv ht hd hy=>?_);have N:TK G g:=λc xs e=>k _ _ (L _ _ e (aK e A nofun)) (aK e g1 nofun)
   have zf:g b=some (.tup [.str e.2.2.1,.str e.2.2.2.1]):=by have:=N _ _ gb;rw[ek]at this;exact this
   have FE:Rd g a (.dT f):=.inr ⟨o,k _ _ B u.symm⟩;have hlen:fl.length<=6:=by
    have:=congrArg length p;rw[aR]at this;rw[this];exact fT (length_filter_le _ _) (by rw[oX];omega)
   refine⟨b,_,rfl,QYZ zf,rfl,_,_,rfl,_,_,rfl,rfl,?_⟩;refine⟨bM rfl,λkt H1 r gk=>?_⟩;have gs1:Rd H1 a (.dT f):=.inr ⟨o,r _ _ (k _ _ B u.symm)⟩;have dg:=DGet.rd gs1 (eF (q:=aF e) gk);rw[hv]at dg;refine⟨a,.ref t,rfl,dg,?_⟩;have V5:=r _ _ (N _ _ ht);refine⟨t,_,rfl,QYZ V5,rfl,_,_,rfl,_,_,rfl,_,_,rfl,_,_,rfl,rfl,?_⟩;dsimp only [aJ];show if decide ((F:Int)<(e.2.1:Int)+(I:Int))=true then _ else _
   refine dF (λh=>?_) (λh=>?_)
   ·refine⟨.inl ⟨rfl,_,QYY (r _ _ C)⟩,bM rfl,λO Q s2 g2=>?_⟩;have E:=r.trans s2;have S:=E _ _ C;have n2:O≠l:=aK g2 S nofun;have tU:TK Q (aH Q l (.lst ((fl++[(e,O)]).map λq=>V.ref q.2))):=λc xs z=>by rw[aB (aK z S λw=>nomatch w)];exact z
    refine⟨l,_,_,rfl,rfl,S,by rw[aR];exact uD hlen Zd,fl++[(e,O)],_,_,_,_,_,_,rfl,by rw[aA,dN];rfl,λx d=>?_,?_,λc v z m=>by rw[aB m];exact E _ _ (k _ _ z m)⟩
    ·have U:TK Q (aH Q l (.lst (List.map (λq=>V.ref q.2) fl++[.ref O]))):=λc xs z=>by rw[aB (aK z S λw=>nomatch w)];exact z
     rcases Zma.mp d with d|d
     ·exact((y x d).tk (Same.tk E)).tk U
     ·rw[Zms.mp d];exact⟨a0,a1,U _ _ g2,U _ _ (E _ _ (N _ _ hd)),U _ _ (E _ _ (N _ _ hy))⟩
    ·rw[dN,p,aM M,filter_append];congr 1;rw[filter_cons,O8 (UF (by have:=U3 h;omega))];rfl
   ·refine⟨fl,_,_,_,_,_,_,rfl,r _ _ C,λx d=>(y x d).tk (Same.tk r),?_,λc v z m=>r _ _ (k _ _ z m)⟩;rw[p,aM M,filter_append,filter_cons,NE (by have:=UV h;simp;omega)];simp
  ·refine λW g=>yE7 λfl X Y Z o7 o8 o9=>yA5 λζ C y p k=>?_;subst ζ;rw[aR,CO,<- lT,lJ (bA _)]at p;have zd:=k _ _ B u.symm;refine⟨a,f,o,⟨f,A⟩,zd,?_⟩;have kU:∀c v,G c=some v->c≠l->(aH g a (.dT f)) c=some v:=λc v e m=>by
    by_cases z:c=a
    ·rw[z]at e ⊢;rw[A]at e;cases e;exact aA
    ·rw[aB z];exact k _ _ (L _ _ e z) m
   have gU:(aH g a (.dT f)) l=some (.lst (fl.map λq=>V.ref q.2)):=by rw[aB u];exact C
   have IY:∀x∈fl,At6 (aH g a (.dT f)) x.1 x.2:=λx d=>(y x d).tk λb xs e=>by rw[aB (aK e zd nofun)];exact e
   generalize aH g a (.dT f)=V9 at kU gU IY ⊢;have zg:∀x,x∈fl.map (·.1)↔x∈TT/\F<x.2.1+I:=λx=>by rw[p,mem_filter,decide_eq_true_iff]
   have NF:(fl.map (·.1)).Sublist TT:=by rw[p];exact List.filter_sublist
   obtain⟨zs,c1,c2,c3,c4,cq⟩:=Ez (H:=V9) (l:=TT) (es:=fl) (fl:=fl) (λx d=>⟨IY x d,((zg x.1).mp (mem_map_of_mem d)).1⟩) (by
    have:=nd.sublist (NF.map aF)
    rwa [map_map]at this) nn (List.Sublist.refl _)
   have PV:fl.length<=6:=by
    have:=NF.length_le;rw[aR]at this;omega
   refine⟨zs,QYY (by rw[c1];exact gU),c2,c3,Zo,λl2 Q7 u6 AX AY=>?_⟩;obtain⟨out,AG,vo,ME,SR⟩:=cq Q7 AX AY;have s0:Same H V9:=λc v e=>kU _ _ (J _ _ e) (aE e hl)
   refine q l2 (out.map (·.2)) (out.map (·.1)) _ (s0.trans (aG u6)) (by rw[aA,vo,map_map];rfl) (Paired.map' (λ_ _ w=>w.tk (Same.tk (aG u6))) SR) ME λe=>?_;rw[<- zg e];exact(AG.map (·.1)).mem_iff
def tv6(e:E6):TV:=.tp [.sc (.int (e.1:Int)),.sc (.int (e.2.1:Int)),.sc (.str e.2.2.1),.sc (.str e.2.2.2.1),RX.tvs e.2.2.2.2.1.vs,RX.tvs e.2.2.2.2.2.vs]
def aCa{H:Hp}{e:E6}{t b c:TD}(h:H t=some (.tup [.int (e.1:Int),.int (e.2.1:Int),.str e.2.2.1,.str e.2.2.2.1,.ref b,.ref c]))(a:H b=some (.tup e.2.2.2.2.1.vs))(d:H c=some (.tup e.2.2.2.2.2.vs)):Hk H 2 (tv6 e) (.ref t):=
 ⟨t,_,rfl,h,.cons ⟨rfl,rfl⟩ (.cons ⟨rfl,rfl⟩ (.cons ⟨rfl,rfl⟩ (.cons ⟨rfl,rfl⟩ (.cons (RX.rep_flat a (RX.sc_dd _)) (.cons (RX.rep_flat d (RX.sc_an _)) .nil)))))⟩
def Rc{H:Hp}{l:TD}{ks:List TD}{out:List E6}(g:H l=some (.lst (ks.map V.ref)))(p:Paired (At6 H) out ks):Hk H 3 (.ls (out.map tv6)) (.ref l):=by
 refine⟨l,_,rfl,g,?_⟩;clear g;induction p with
 | nil=>exact .nil
 | cons h t a=>revert h;refine yE2 λb c=>yA3 λd e f=>?_;exact .cons (aCa d e f) a
def Re{c:CK}{H H':Hp}{a:DA}{s:DS}{z:Str}{q A n r:Nat}{T:List E6}(h:LvA c H a s z q A n r T)(t:TK H H'){l:TD}{i:List Tn}{out:List E6}(I:H' l=some (.lst (iP i)))(hz:NAt H' i)(hs:i.Pairwise tln)(J:(i.map (·.1)).Nodup)(E:Oe s.m s.life s.turn (Cj i))(L:out.Pairwise λa b=>a.1<b.1)(M:∀e,e∈out↔e∈T/\r<e.2.1+q):Hk H' 3 (.ls (out.map tv6)) (.ref l):=by
 obtain⟨v,u⟩:=jH (R:=λ(z:Tn) (e:E6)=>z.1=(e.1:Int)/\(e∈T/\r<e.2.1+q)/\∃d y,z.2.2=oR (e.2.1:Int) (aF e) d y/\H' d=some (.tup e.2.2.2.2.1.vs)/\H' y=some (.tup e.2.2.2.2.2.vs)) (xs:=i) λz x=>by
  refine yE0 ((E z.1 z.2.2).mp (Zmm.mpr ⟨z,x,rfl⟩)) (yE4 λa0 t1 d y=>yA3 λj k m=>?_);refine yE0 (h.mt1 a0 _ j) (yE1 λe=>yA3 λo hs=>yE2 λd' y'=>yA3 λB N O=>?_);injection B with B Q S U
  subst Q S U hs;refine⟨e,B,⟨o,?_⟩,d,y,m,t _ _ N,t _ _ O⟩;rw[h.life,h.turn]at k;omega
 have V:=paM u (f:=λz:Tn=>z.1) (g:=λe:E6=>(e.1:Int)) λz e h=>h.1
 have asc:v.Pairwise λa b=>a.1<b.1:=by
  have k:(i.map λz:Tn=>z.1).Pairwise (·<=·):=pairwise_map.mpr hs;have m:=(k.and J).imp λ{a b}(h:a<=b/\a≠b)=>(by omega:a<b)
  rw[V,pairwise_map]at m;exact m.imp λh=>by omega
 have G:∀e,e∈v↔e∈out:=λe=>by
  rw[M e];refine⟨λo=>?_,?_⟩
  ·refine yE0 (paR u o) (yE1 λz=>yA4 λ_ _ k _=>?_);exact k
  ·rintro ⟨o,W⟩;obtain⟨d,y,j,_⟩:=h.at o W;have X:=(E (e.1:Int) (oR (e.2.1:Int) (aF e) d y)).mpr ⟨aF e,(e.2.1:Int),d,y,j,by rw[h.life,h.turn];omega,rfl⟩;obtain⟨z,x,Y⟩:=Zmm.mp X;obtain⟨F,Z,m,C,_⟩:=paL u x;have e3:z.1=(e.1:Int):=congrArg Prod.fst Y;have:F=e:=qC (f:=λe:E6=>e.1) h.nnd C.1 o (by show F.1=e.1;omega);rw[<- this];exact Z
 have eo:v=out:=Aj (lt:=λa b:E6=>a.1<b.1) (λa=>Nat.lt_irrefl _) (λa b j k=>Nat.lt_asymm j k) asc L G;subst eo;refine⟨l,_,rfl,I,?_⟩;have all:∀ {i:List Tn}{D:List E6},(∀z∈i,H' z.2.1=some (.tup (.int z.1::z.2.2)))->Paired (λ(z:Tn) (e:E6)=>z.1=(e.1:Int)/\(e∈T/\r<e.2.1+q)/\∃d y,z.2.2=oR (e.2.1:Int) (aF e) d y/\H' d=some (.tup e.2.2.2.2.1.vs)/\H' y=some (.tup e.2.2.2.2.2.vs)) i D->Paired (Hk H' 2) (D.map tv6) (iP i):=λhz p=>by
  induction p with
  | nil=>exact .nil
  | @cons z e i D a1 p ih=>
   revert a1;refine yA3 λj _=>yE2 λd y=>yA3 λm C h5=>?_;refine .cons ?_ (ih λz LJ=>hz z (fR _ LJ));have:=hz z fY;rw[j,m]at this;exact aCa this C h5
 exact all hz u
section
variable {c:CK}{H H':Hp}{a:DA}{s:DS}{z:Str}{lf A n tu tu':Nat}{T:List E6}
def LvA.later(h:LvA c H a s z lf A n tu T)(f:tu<=tu')(D:DAt c H' a {s with turn:=(tu':Int) })(t:TK H H'):LvA c H' a {s with turn:=(tu':Int) } z lf A n tu' T:=
 ⟨D,h.life,h.runs,h.safe,h.next,rfl,h.pa,h.pz,h.L,(let ⟨C,g,e,p,r⟩:=h.rows;⟨C,g,e,Paired.map' (λ_ _ w=>w.tk t) p,r.later f⟩),(λq i j=>let ⟨e,b,k,d,y,l,m,o⟩:=h.mt1 q i j;⟨e,b,k,d,y,l,t _ _ m,t _ _ o⟩),(λe b u=>h.mt2 e b Zo),h.tnd,h.nnd,h.t6,(λe b=>(h.eok e b).mono (bA _) f),h.n2,h.hA,h.zn⟩
def SW.mv{d b:TD}(h:SW c H d b a s z lf A n tu T){g:DS}{i j tu':Nat}{T':List E6}{k:DS}(m:Mv a s k H H')(l:LvA c H' a g z lf i j tu' T'):SW c H' d b a g z lf i j tu' T'/\Nx a a d b H H':=
 h.step rfl (λx f=>.inl f) (λx o e f=>m.fr x o e (by rw[h.lv.runs];simpa using f)) l
def LvA.x0(h:LvA c H a s z lf A n tu T){e:E6}(f:e∈T):∀b,s.m (aF e)=some b->H (KE.dd b)=some (.tup e.2.2.2.2.1.vs):=λb g=>by
 refine yE0 (h.mt1 _ b g) (yE1 λm=>yA3 λi j=>yE2 λd y=>yA3 λk l o=>?_);have:=qI h.tnd f i j.symm;subst this;rw[k];exact l
def LvA.r1000(h:LvA c H a s z lf A n tu T):s.rows.length<=400:=by
 obtain⟨C,b,e,p,r⟩:=h.rows;have:=r.len;have:=h.n2;have:=p.length;rw[e,aR];omega
def Jq{lf:Int}{tu':Int}{b t:Int}{d y:TD}(h:tu'<t+lf):lH lf tu' (some (.kept b t d y))=false:=by
 show(!decide (t+lf>tu'))=false;rw[UF h];rfl
def LvA.free(h:LvA c H a s z lf A n tu T){q:Str×Str}(b:∀e∈T,aF e=q->e.2.1+lf<=tu'):lH s.life (tu':Int) (s.m q)=true:=by
 cases f:s.m q with
 | none=>rfl
 | some g=>
  obtain⟨e,i,j,d,y,k,_⟩:=h.mt1 q g f;rw[k];show(!decide ((e.2.1:Int)+s.life>(tu':Int)))=true;rw[T0]
  ·rfl
  ·rw[h.life];have:=b e i j;omega
end
def aAL{z:Str}{d:Nat}(a:1<=d)(b:d<=1000000):cZ (Dd.add z d).vs (Dd.add z (1+d%1000000)).vs=false:=by
 have:¬ ((d:Int)=((1+d%1000000:Nat):Int)):=by omega
 have e:wX (.int (d:Int)) (.int ((1+d%1000000:Nat):Int))=false:=T0 this;show(wX (.str "add") (.str "add")&&(wX (.str z) (.str z)&&(wX (.int (d:Int)) (.int ((1+d%1000000:Nat):Int))&&true))&&_)=false;rw[e];simp
def Vl{z:Str}{d:Nat}:cZ (Dd.add z d).vs (Dd.add z d).vs=true:=tG λj u v a b=>Qn (x:=.add z d) (y:=.add z d) j u v a b
def Db{a b d e:Type}{R:a->b->Prop}{c:d->e->Prop}{f:a->d}{g:b->e}{xs:List a}{ys:List b}(p:Paired R xs ys)(h:∀x y,x∈xs->R x y->c (f x) (g y)):Paired c (xs.map f) (ys.map g):=by
 induction p with
 | nil=>exact .nil
 | cons r t i=>exact .cons (h _ _ fY r) (i λx y j=>h x y (fR _ j))
def Fx{H:Hp}{T:List E6}{f:List (List aS×V)}(p:Paired (TE H) T f){e0:E6}{t d y:TD}(g1:H t=some (.tup [.int (e0.1:Int),.int (e0.2.1:Int),.ref d,.ref y]))(g2:H d=some (.tup e0.2.2.2.2.1.vs))(g3:H y=some (.tup e0.2.2.2.2.2.vs)):Paired (TE H) (uE T e0) (bQ f (pk (aF e0)) (.ref t)):=by
 have l:=As p;have j:(f.any λa=>decide (a.1=pk (aF e0)))=true↔aF e0∈T.map aF:=by
  rw[any_eq_true];constructor
  ·rintro⟨a,g,e⟩;have e:=U3 e;obtain⟨x,i,h⟩:=paR p g;rw[h.1]at e;rw[<- mU e];exact mem_map_of_mem i
  ·intro h;obtain⟨x,i,e⟩:=Zmm.mp h;obtain⟨a,g,k⟩:=paL p i;exact⟨a,g,UF (by rw[k.1,e])⟩
 unfold uE bQ;by_cases c:aF e0∈T.map aF
 ·rw[O8 c,O8 (j.mpr c)];refine Db p λx a _ h=>?_
  by_cases b:aF x=aF e0
  ·rw[O8 b,O8 (by rw[h.1,b])];exact⟨by rw[h.1,b],t,d,y,rfl,g1,g2,g3⟩
  ·rw[NE b,NE (λe=>b (mU (h.1.symm.trans e)))];exact h
 ·rw[NE c,NE (λz=>c (j.mp z))];exact Paired.snoc p ⟨rfl,t,d,y,rfl,g1,g2,g3⟩
def yJ{H:Hp}{T:List E6}{a:List (List aS×V)}(p:Paired (TE H) T a):a.length=T.length:=p.length.symm
section
variable {c:CK}{H H':Hp}{a:DA}{s:DS}{z:Str}{lf A n tu:Nat}{T:List E6}{d b:TD}
def SW.put(h:SW c H d b a s z lf A n tu T){x:TD}{o:HO}(g:H x=some o)(f:∀xs,o≠.tup xs)(i:x∉a.fix)(hd:x≠d)(j:x≠b)(o':HO):SW c (aH H x o') d b a s z lf A n tu T:=
 ⟨Fv h.dk (λ_ e=>by rw[aB hd.symm];exact e) (λ_ e=>by rw[aB j.symm];exact e),h.lv.keep (λy o e k=>by rw[aB (show y≠x from λw=>i (by rw[<- w];exact k))];exact e) (fW g f),h.nd,h.nb⟩
end
def Av(c:CK):Sp:=λvs H Q _=>∃(d b:TD)(a:DA)(s:DS)(z:Str)(h A n l g:Nat)(T:List E6)(e m:TD)(k:List (List aS×V)),vs=[.ref d,.ref a.dr,.ref e,.int (g:Int),.int (h:Int),.ref m]/\H m=some (.tup [.str z,.int (A:Int),.int (n:Int)])/\SW c H d b a s z h A n l T/\l<=g/\H e=some (.dT k)/\Paired (TE H) T k/\e∉a.fix/\e≠d/\e≠b/\n+T.length<=180/\1<=T.length ∧
 ∀t p i j q r f,SW c f d b a t z h p i g j->(∀x o,H x=some o->x∉a.fix->x≠d->x≠b->x≠e->f x=some o)->f e=some (.dT q)->Paired (TE f) j q->j.map aF=T.map aF->i<=n+T.length->f r=some (.tup [.str z,.int (p:Int),.int (i:Int)])->Q (.ref r) f
def Jr{c:CK}(T:Txt K mg)(m5:cC P w K mg base 5 c.D "come" QZw (Cy c))(xr:Callee P w K mg base 6 "_law_done" QZt (uA c))(wj:cC P w K mg base 4 c.D "kept" AC (Fl c))(HN:Callee P w K mg base 1 "_law_kept" QZi Au)(pf:cC P w K mg base 2 c.D "amount" zr (wJ c))(D:DefAt K mg "_law_looked" gQ QZh):Callee P w K mg base 7 "_law_looked" QZh (Av c):=by
 refine D.gg bC (λa5 cdv a2 outer s a1 vs a6 a7 G h=>?_)
 ·revert h;refine yE9 λd a0 a s z L a2 n tu=>yE5 λtu' TT H bt tkv=>yA9 λζ UH h hle gt pt NG RZ=>yA4 λUI hn h1 q=>?_;subst ζ;have ki:=G.units;have l8:=dE G;refine⟨_,(lq (wt (f8 5) (ww (K:=K) (n:=3) rfl (qe (pw (i:=6) bC.nd) (qe (pw (i:=7) bC.nd) (qe (pw (i:=8) bC.nd) wx))))) (lq (vi PassesOwn.never rfl (ve (K:=K) (R.da (R.iu rfl) rfl T.b_list xG (lc (f8 2) li))) (pw (i:=9) bC.nd) (lq (wt (vn l8 (f8 2) (f8 9)) (ww (K:=K) (n:=4) rfl (qe (pw (i:=10) bC.nd) (qe (pw (i:=11) bC.nd) (qe (pw (i:=12) bC.nd) (qe (pw (i:=13) bC.nd) wx)))))) (lq (pv (i:=14) bC.nd (o0 (lc oj (lc (oi K 12) (lc (oh qd mo (oh yq (oi K 12) (oh R.eh mo mo))) li))))) (lu (qa (pi yn (oh qd (f8 11) (f8 4)) (f8 3)) (lq (qa (pi (R.cv ki) (re m5 G (f8 1) (lc (f8 3) (lc (oi K 9) (lc (oi K 9) (lc (f8 14) li))))) (o0 (lc oj li))) (lu (oe wu)) qb) (lu (qa (pi (R.cv ki) (re m5 G (f8 1) (lc (f8 3) (lc (oi K 9) (lc (oi K 9) (lc (f8 12) li))))) (o0 (lc oj (lc (f8 13) li)))) (lu (oe wu)) qb))) (lq (qa (wl (xa (pi (R.cv ki) (re m5 G (f8 1) (lc (f8 3) (lc (oi K 9) (lc (oi K 9) (lc (f8 12) li))))) (o0 (lc oj (lc (f8 8) li)))) (xc (wr (vk (px xr G rfl (lc (f8 1) (lc (f8 8) li)))))))) (lu (oe wu)) qb) (lq (pv (i:=7) bC.nd (oh qd (f8 7) (oi K 12))) (lq (wt (o0 (lc (f8 8) (lc (f8 3) (lc (f8 12) (lc (o0 (lc oj (lc (f8 7) li))) li))))) (yp (f8 2) (f8 9) (yu l8))) (lu (pv (i:=8) bC.nd (oh qd (f8 8) mo))))))))))) (lq (qa (wl (xa (pi (R.cv ki) (vg wj G (f8 1)) (px HN G rfl (lc (f8 2) (lc (f8 3) (lc (f8 4) li))))) (xc (pi R.ne (re pf G (f8 1) (lc (f8 6) li)) (f8 7))))) (lu (oe wu)) qb) (lu (oe (o0 (lc (f8 6) (lc (f8 7) (lc (f8 8) li))))))))),?_⟩;refine⟨bt,_,rfl,QYZ UH,rfl,_,_,rfl,_,_,rfl,_,_,rfl,rfl,?_⟩;dsimp only [aJ];refine cT (λσ I=>∃(f:DS)(B A:Nat)(g:List E6)(E:List (List aS×V))(o9 ng V1 U7 xt qh:Option V),σ=[some (.ref d),some (.ref a.dr),some (.ref H),some (.int (tu':Int)),some (.int (L:Int)),some (.ref bt),some (.str z),some (.int (B:Int)),some (.int (A:Int)),o9,ng,V1,U7,xt,qh]/\SW c I d a0 a f z L B A tu' g/\(∀x o,a1 x=some o->x∉a.fix->x≠d->x≠a0->x≠H->I x=some o)/\I H=some (.dT E)/\Paired (TE I) g E/\g.map aF=TT.map aF/\A<=n+TT.length) (λnx l7=>?_) ?_
  ·refine⟨tkv,gt,λl bs hl CO GR=>?_⟩;have J:=aG (o:=.lst (bs.map V.ref)) hl;have g1:(aH a1 l (.lst (bs.map V.ref))) l=some (.lst (bs.map V.ref)):=aA;generalize aH a1 l (.lst (bs.map V.ref))=a3 at J g1 ⊢;have TR:l≠H:=aK g1 (J _ _ gt) λz=>nomatch z
   have nlf:l∉a.fix:=λm=>by
    have:=h.lv.dat.fresh hl;exact this (FM _ m)
   have nld:=h.dk.ne hl;have lT:=pt.length;refine⟨l,rfl,⟨_,QYY g1⟩,bU (bE K l (bs.map V.ref)) (λi σ I=>∃(f:DS)(B A AJ:Nat)(g:List E6)(E:List (List aS × V))(o9 ng V1 U7 xt qh:Option V),σ=[some (.ref d),some (.ref a.dr),some (.ref H),some (.int (tu':Int)),some (.int (L:Int)),some (.ref bt),some (.str z),some (.int (B:Int)),some (.int (A:Int)),o9,ng,V1,U7,xt,qh]/\SW c I d a0 a f z L B A AJ g/\AJ<=tu'/\(0<i->AJ=tu')/\(∀x o,a3 x=some o->x∉a.fix->x≠d->x≠a0->x≠H->I x=some o)/\I H=some (.dT E)/\Paired (TE I) g E/\g.map aF=TT.map aF/\A<=n+i)
    (λi σ I ⟨_,_,_,_,_,_,_,_,_,_,_,_,_,_,_,_,k,_⟩=>QYY (k _ _ g1 nlf nld.1 nld.2 TR)) ⟨s,a2,n,tu,TT,tkv,_,_,_,_,_,_,rfl,h.same J,hle,(λz=>IN z (Nat.lt_irrefl _)),(λ_ _ e _ _ _ _=>e),J _ _ gt,Paired.map' (λ_ _ w=>w.tk (Same.tk J)) pt,rfl,bA _⟩ ?_ ?_⟩
   ·refine λi x σ H2 u=>yE9 λf B A AJ g E o9 ng V1=>yE3 λU7 xt qh=>yA9 λζ r EY _ U W X N CN=>?_;subst ζ;rw[dW]at u;obtain⟨b0,IZ,rfl⟩:=Option.map_eq_some_iff.mp u;obtain⟨pp,zc,gb⟩:=GR i b0 IZ;obtain⟨hi,ei⟩:=Zgs.mp zc;have hT':g.length=TT.length:=by have:=congrArg length N;simpa using this
    have U6:i<g.length:=by rw[hT',lT];exact hi
    have FQ:g[i]?=some g[i]:=fX U6;have xl:pp.1=pk (aF g[i]):=by
     obtain⟨hi2,te⟩:=Paired.get' (j:=i) pt hi;rw[ei]at te;have e1:(g.map aF)[i]?=(TT.map aF)[i]?:=by rw[N]
     rw[dW,dW,FQ,fX hi2]at e1;have e2:aF g[i]=aF TT[i]:=Option.some.inj e1;rw[te.1,e2]
    generalize g[i]=e at FQ xl;have O:e∈g:=jJ FQ;have JG:H2 b0=some (.tup [.str e.2.2.1,.str e.2.2.2.1]):=by
     have g0:=J _ _ gb;have out:b0∉a.fix:=λm=>(h.same J).lv.dat.out g0 ⟨_,rfl⟩ (FM _ m)
     have nd:=(h.same J).dk.tup_ne g0;have:=U _ _ g0 out nd.1 nd.2 (aK g0 (J _ _ gt) λz=>nomatch z);rw[xl]at this;exact this
    refine yE0 (yI X r.lv.tnd O) (yE3 λt dd y=>yA4 λhv ht hd hy=>?_);have M:=r.lv.eok e O;refine yE0 M.dd (yE2 λv m=>yA4 λex ey mq hd2=>?_);rw[ex]at hd;rw[ey]at hy;dsimp only [aJ];have dg:=DGet.rd (.inl W) (eF (q:=aF e) JG);rw[hv]at dg;refine⟨H,.ref t,rfl,dg,t,_,rfl,QYZ ht,rfl,_,_,rfl,_,_,rfl,_,_,rfl,_,_,rfl,rfl,?_⟩;dsimp only [aJ];have e6:(10:Int)^(6:Int).toNat=1000000:=by decide
    refine⟨_,QYZ hd,_,rfl,_,QYZ hd,_,rfl,⟨Zd,Zd,Zd⟩,(by show(0:Int)<10^(6:Int).toNat;decide),bM rfl,λot Q F g3=>?_⟩;dsimp only [aJ];replace g3:Q ot=some (.tup (Dd.add z (1+v%1000000)).vs):=by
     rw[g3];show some (HO.tup [.str "add",.str z,.int (1+(v:Int)%10^(6:Int).toNat)])=some (HO.tup [.str "add",.str z,.int ((1+v%1000000:Nat):Int)]);rw[e6];congr 5
    have b:=r.same F;have IS:=F _ _ hd;have hy3:=F _ _ hy;have gt3:=F _ _ W;have FK:=F _ _ JG;have pt3:=Paired.map' (λ_ _ w=>TE.tk (Same.tk F) w) X;have AI:∀a4∈f.runs,a4.n<f.next:=by rw[b.lv.runs];exact(λ_ G=>nomatch G)
    have BA:f.runs.length<=500:=by rw[b.lv.runs];exact zero_le _
    have NH:f.L<=500:=by have:=b.lv.L;omega
    have FJ:f.turn<=(tu':Int):=by rw[b.lv.turn];omega
    have HR:f.rows.length<=1000:=by have:=b.lv.r1000;omega
    have hr4:=b.lv.r1000;show if decide ((tu':Int)<(e.2.1:Int)+(L:Int))=true then _ else _
    refine dF (λUJ=>?_) (λUJ=>?_)
    ·have al:tu'<e.2.1+L:=by have:=U3 UJ;omega
     refine yE0 (b.lv.at O Zo) (yE2 λd1 y1=>yA3 λAQ hD1 hY1=>?_);have JN:lH f.life (tu':Int) (f.m (aF e))=false:=by rw[AQ,b.lv.life];exact Jq Zo
     have FF:=b.lv.x0 O;rw[ex]at FF;refine⟨_,_,b.lv.dat.dr,by kernel_rfl,_,QYZ FK,_,rfl,_,QYZ FK,_,rfl,a,f,(tu':Int),aF e,ot,.add z (1+v%1000000),.add z v,rfl,b.lv.dat,M.a,M.k,⟨b.lv.zn,Zo,Zo⟩,rfl,g3,FF,NH,AI,BA,HR,FJ,λ_ ke NI _ t4 H4 D4 Y g4=>?_,(λ_ Z=>by rw[JN]at Z;cases Z)⟩;rw[AQ]at NI;cases NI;rw[aAL mq hd2]at g4;have UK:=Y.tk b.lv.dat;obtain⟨h4,x4⟩:=b.mv Y (b.lv.later EY D4 UK);have s4t:TK Q H4:=UK;refine⟨bM rfl,λut H5 C g5=>⟨1,.tp [.sc (.str "other")],Zd,⟨t4,_,rfl,C _ _ g4,.cons ⟨rfl,rfl⟩ .nil⟩,⟨ut,_,rfl,g5,.cons ⟨rfl,rfl⟩ .nil⟩,?_⟩⟩;dsimp only [iW];have h5:=h4.same C;have NJ:TK Q H5:=UK.trans (TK.of C);have gb5:=NJ _ _ FK;have hd5:=NJ _ _ IS;have hy5:=NJ _ _ hy3;have hm5:({f with turn:=(tu':Int) }:DS).m (aF e)=some (.kept (e.1:Int) (e.2.1:Int) d1 y1):=AQ;have NK:=h5.lv.x0 O;rw[ex]at NK;refine⟨_,_,h5.lv.dat.dr,by kernel_rfl,_,QYZ gb5,_,rfl,_,QYZ gb5,_,rfl,a,{f with turn:=(tu':Int) },(tu':Int),aF e,dd,.add z v,.add z v,rfl,h5.lv.dat,M.a,M.k,⟨b.lv.zn,Zo,Zo⟩,rfl,hd5,NK,NH,AI,BA,HR,Int.le_refl _,λ_ ke NI _ t6 H6 D6 v6 g6=>?_,(λ_ Z=>by have FC:lH f.life (tu':Int) (f.m (aF e))=true:=Z;rw[JN]at FC;cases FC)⟩;rw[hm5]at NI;cases NI;rw[Vl]at g6;have PX:=v6.tk h5.lv.dat;obtain⟨h6,x6⟩:=h5.mv v6 (h5.lv.later (bA _) D6 PX);have hY6:=PX _ _ (NJ _ _ hY1);rw[ey]at hY6;refine⟨bM rfl,λvt H7 S g7=>⟨2,.tp [.sc (.str "kept"),RX.tvs (An.is1 m).vs],Zd,⟨t6,_,rfl,S _ _ g6,.cons ⟨rfl,rfl⟩ (.cons (RX.rep_flat (S _ _ hY6) (RX.sc_an _)) .nil)⟩,⟨vt,_,rfl,g7,.cons ⟨rfl,rfl⟩ (.cons (RX.rep_flat (S _ _ (PX _ _ hy5)) (RX.sc_an _)) .nil)⟩,?_⟩⟩;dsimp only [iW];have x37:∀x o,Q x=some o->x∉a.fix->H7 x=some o:=λx o z u=>S _ _ (v6.fr x o (C _ _ (Y.fr x o z (by rw[b.lv.runs];simpa using u))) (by show x∉a.fix++f.runs.map (·.p);rw[b.lv.runs];simpa using u))
     refine⟨_,B,A,tu',g,E,_,_,_,_,_,_,rfl,h6.same S,bA _,(λ_=>rfl),λx o z u h1 r b=>x37 x o (F _ _ (U x o z u h1 r b)) u,x37 _ _ gt3 NG,Paired.map' (λ_ _ w=>TE.tk ((NJ.trans PX).trans (TK.of S)) w) pt3,N,Zo⟩
    ·have dead:e.2.1+L<=tu':=by have:=UV UJ;omega
     have zd:∀e2∈g,aF e2=aF e->e2.2.1+L<=tu':=λe2 SX hs=>by rw[qI b.lv.tnd SX O hs];exact dead
     have JN:=b.lv.free (tu':=tu') zd;have FF:=b.lv.x0 O;rw[ex]at FF;have l7:=b.lv.next;have hiT:i<TT.length:=by rw[<- hT'];exact U6
     refine⟨_,_,b.lv.dat.dr,by kernel_rfl,_,QYZ FK,_,rfl,_,QYZ FK,_,rfl,a,f,(tu':Int),aF e,dd,.add z v,.add z v,rfl,b.lv.dat,M.a,M.k,⟨b.lv.zn,Zo,Zo⟩,rfl,IS,FF,NH,AI,BA,HR,FJ,(λ_ ke _ Z=>by rw[JN]at Z;cases Z),λ_ _ t4 p dx ra H4 D4 Y g4 UL=>?_⟩;refine⟨bM rfl,λut H5 C g5=>⟨1,.tp [.sc (.str "begun"),.sc (.int (A:Int))],Zd,⟨t4,_,rfl,C _ _ UL,.cons ⟨rfl,rfl⟩ (.cons ⟨by rw[l7],rfl⟩ .nil)⟩,⟨ut,_,rfl,g5,.cons ⟨rfl,rfl⟩ (.cons ⟨rfl,rfl⟩ .nil)⟩,?_⟩⟩;have NL:=Y.tk b.lv.dat;have BG:B<=1000000000000:=by have:=b.lv.hA;have:=b.lv.n2;omega
     refine⟨a,lI f (tu':Int) (aF e) dd (.add z v) p dx ra,f.rows,gW p dx f.next (aF e) dd (.add z v) "new",ra,_,fA z B,by rw[show(gW p dx f.next (aF e) dd (.add z v) "new").n=A from l7],D4.same C,rfl,C _ _ g4,b.lv.safe,?_,?_,rfl,⟨b.lv.zn,Zo,Zo⟩,rfl,b.lv.pa,?_,?_,?_,KM.set_same,λrd z' y' H6 hR D6 v6 g6 UM=>?_⟩
     ·show(f.rows++[V.ref ra]).length<=900;simp;omega
     ·show f.runs++[_]=[_];rw[b.lv.runs];rfl
     ·intro x;unfold fA;split<;>omega
     ·show f.prs.length<=90;have:=b.lv.p90;omega
     ·show f.L+1<=400;have:=b.lv.L;omega
     have NM:=v6.tk (D4.same C);have FT:TK Q H6:=(NL.trans (TK.of C)).trans NM;have NN:aF e∈g.map aF:=mem_map_of_mem O;have MD:A+1<=180:=by omega
     obtain⟨UN,s6,UO⟩:=b.lv.ended (tu':=tu') (d:=v) (q:=aF e) EY M.a M.k mq hd2 MD (H2:=H6) (dd:=dd) (p:=p) (dx:=dx) (ra:=ra) (rd:=rd) (z':=z') (y:=y') (by rw[Fu];split;exact b.lv.t6;rename_i w;exact IN NN w) hR D6 FT (NM _ _ (C _ _ g4)) g6 (FT _ _ IS) UM;subst UN;dsimp only [iW];have MS:=FT _ _ IS;have gb6:=FT _ _ FK;have NO:∀x o,Q x=some o->x∉a.fix->H6 x=some o:=λx o w u=>v6.fr x o (C _ _ (Y.fr x o w (by rw[b.lv.runs];simpa using u))) (λm=>by
      rcases Zma.mp m with m|m
      ·exact u m
      ·have m':x∈(f.runs++[gW p dx f.next (aF e) dd (.add z v) "new"]).map (·.p):=m;rw[b.lv.runs]at m';have ep:x=p:=show x=(gW p dx f.next (aF e) dd (.add z v) "new").p by simpa using m'
       rcases Y.nw (gW p dx f.next (aF e) dd (.add z v) "new") (by show _∈f.runs++[_];simp) with w1|w1
       ·rw[b.lv.runs]at w1;cases w1
       ·have JH:Q p=none:=w1;rw[ep,JH]at w;cases w)
     obtain⟨h6,_⟩:=b.step (H1:=H6) (a':=a) rfl (λx u=>.inl u) NO UO;have gt6:=NO _ _ gt3 NG;have pt6:=Paired.map' (λ_ _ w=>TE.tk FT w) pt3;refine⟨_,QYZ MS,_,rfl,?_⟩;refine⟨bM rfl,λit H7 S g7=>⟨bM rfl,λnt H8 s8 g8=>?_⟩⟩;have JO:=S.trans s8;have UP:=JO _ _ gt6;have PY:=Paired.map' (λ_ _ w=>TE.tk (Same.tk JO) w) pt6;have h8:=h6.same JO;refine⟨H,_,rfl,DPut.t (k:=pk (aF e)) UP (JO _ _ gb6) ?_,?_⟩
     ·rw[yJ PY];have:=b.lv.t6;exact uD this Zd
     have h9:=h8.put UP (λ_ w=>nomatch w) NG RZ UI (.dT (bQ E (pk (aF e)) (.ref nt)));have tk9:TK H8 (aH H8 H (.dT (bQ E (pk (aF e)) (.ref nt)))):=fW UP λ_ w=>nomatch w
     have UQ:=Fx (e0:=(A,tu',e.2.2.1,e.2.2.2.1,.add z v,.is1 (B+v))) PY (t:=nt) (d:=dd) (y:=it) g8 (JO _ _ MS) (s8 _ _ g7);refine⟨s6,B+v,A+1,tu',_,_,_,_,_,_,_,_,rfl,h9,bA _,(λ_=>rfl),λx o w u h1 r h3'=>?_,aA,Paired.map' (λ_ _ w=>TE.tk tk9 w) UQ,?_,Zo⟩
     ·rw[aB h3'];exact JO _ _ (NO x o (F _ _ (U x o w u h1 r h3')) u)
     ·rw[qH];split
      ·exact N
      ·rename_i w;exact IN NN w
   ·refine λσ H2=>yE9 λf B A AJ g E o9 ng V1=>yE3 λU7 xt qh=>yA9 λζ r EY UA U W X N CN=>?_;subst ζ;have:AJ=tu':=UA (by rw[aR,CO,<- lT];omega);subst this;rw[aR,CO,<- lT]at CN;exact l7 _ _ ⟨f,B,A,g,E,_,_,_,_,_,_,rfl,r,λx o e u hd hb ht=>U x o (J _ _ e) u hd hb ht,W,X,N,CN⟩
  refine λσ H2=>yE9 λf B A g E o9 ng V1 U7=>yE2 λxt qh=>yA7 λζ r U W X N CN=>?_;subst ζ;refine⟨_,_,r.lv.dat.dr,by kernel_rfl,a,f,g.map aF,rfl,r.lv.dat,r.lv.sup,by rw[aR];have:=r.lv.t6;omega,r.lv.numU,λl zs Q F fl gl nz HA ox hk Q8=>?_⟩;refine⟨H,E,g,tu',L,rfl,F _ _ W,Paired.map' (λ_ _ w=>TE.tk (Same.tk F) w) X,r.lv.tnd,r.lv.nnd,r.lv.t6,λl2 ks out H4 s4 xk po UR hm=>?_⟩;have FU:=F.trans s4;have h4:=r.same FU;refine⟨3,.ls (out.map tv6),Zd,Re r.lv (TK.of FU) (s4 _ _ gl) (λx u=>s4 _ _ (nz x u)) HA ox hk UR hm,Rc xk po,?_⟩;refine⟨_,_,h4.lv.dat.dr,by kernel_rfl,a,f,z,rfl,h4.lv.dat,?_⟩;have ea:cA f.prs z=(B:Int):=by rw[r.lv.pa z];unfold fA;rw[O8 rfl]
  show if (!decide (cA f.prs z=(B:Int)))=true then _ else _
  refine yZ (by rw[UF ea];rfl) ?_;refine⟨bM rfl,λED H5 C g5=>q f B A g E ED H5 (h4.same C) (λx o e u h1 r b=>C _ _ (FU _ _ (U x o e u h1 r b))) (C _ _ (FU _ _ W)) (Paired.map' (λ_ _ w=>TE.tk (Same.tk (FU.trans C)) w) X) N CN g5⟩
def Aw{r:Int}(h:0<=r):∃z:Nat,r=z:=⟨r.toNat,Zo⟩
def aAM:("abcdefghijklmnopqrstuvwxyz":Str)=tx LET:=by rw[sP ("abcdefghijklmnopqrstuvwxyz":Str),xH]
def Vm:("abcdefghijklmnopqrstuvwxyz":Str)++("0123456789":Str)=tx KLET:=by rw[sP ("abcdefghijklmnopqrstuvwxyz":Str),xH,sP ("0123456789":Str),Md,xD];rfl
def aCW:LET.Nodup:=by decide
def aCb:KLET.Nodup:=by decide
def WordsOf.nm{a:List Str}(h:WordsOf LET 8 a):∀z∈a,isNm z:=λz b=>h.of z b
def WordsOf.ky{a:List Str}(h:WordsOf KLET 12 a):∀z∈a,isKy z:=λz b=>h.of z b
def aCc{z:Str}(h:isNm z):isNm (tx (iB z.cps.toList none (some 5)))/\(tx (iB z.cps.toList none (some 5))).length<=5:=by
 have b:z.cps.toList.length=z.length:=by simp[Str.length]
 rw[show(5:Int)=((5:Nat):Int) from rfl,sO];have e:(tx (z.cps.toList.take 5)).length=min 5 z.length:=by rw[fU,oX,b]
 obtain⟨f,g,d⟩:=h;refine⟨⟨Zo,Zo,λc a=>?_⟩,Zo⟩;rw[aAj]at a;exact d c (mem_of_mem_take a)
def Fy(K:W.Frag):Sp:=λvs H Q _=>∃(a:TD)(b:List Int),vs=[.ref a]/\SqL K H a (b.map V.int)/\b.length<=63/\∀c,Q (.bl true) c
structure LL(c:CK)(H:Hp)(d b lw lk tb bt:TD)(ws ks:List Str)(a:DA)(s:DS)(z:Str)(lf A n tu:Nat)(T:List E6)(tkv:List (List aS×V)):Prop where
 sw:SW c H d b a s z lf A n tu T
 gt:H tb=some (.dT tkv)
 pt:Paired (TE H) T tkv
 gw:H lw=some (.lst (ws.map V.str))
 gk:H lk=some (.lst (ks.map V.str))
 gb:H bt=some (.tup [.str z,.int (A:Int),.int (n:Int)])
 o1:tb∉a.fix/\tb≠d/\tb≠b
 o2:lw∉a.fix/\lw≠d/\lw≠b
 o3:lk∉a.fix/\lk≠d/\lk≠b
section
variable {c:CK}{H H':Hp}{d b lw lk tb bt:TD}{ws ks:List Str}{a a':DA}{s s':DS}{z:Str}{lf A n tu A' n' tu':Nat}{T T':List E6}{tkv C9:List (List aS×V)}
def LL.same(h:LL c H d b lw lk tb bt ws ks a s z lf A n tu T tkv)(k:Same H H'):LL c H' d b lw lk tb bt ws ks a s z lf A n tu T tkv:=
 ⟨h.sw.same k,k _ _ h.gt,Paired.map' (λ_ _ w=>TE.tk (Same.tk k) w) h.pt,k _ _ h.gw,k _ _ h.gk,k _ _ h.gb,h.o1,h.o2,h.o3⟩
def LL.draw(h:LL c H d b lw lk tb bt ws ks a s z lf A n tu T tkv)(D:Dk H' d b)(k:Kp d b H H'):LL c H' d b lw lk tb bt ws ks a s z lf A n tu T tkv:=
 ⟨(h.sw.draw D k).1,k _ _ h.gt h.o1.2.1 h.o1.2.2,Paired.map' (λ_ _ w=>TE.tk (Kp.tk h.sw.dk k) w) h.pt,k _ _ h.gw h.o2.2.1 h.o2.2.2,k _ _ h.gk h.o3.2.1 h.o3.2.2,Kp.tk h.sw.dk k _ _ h.gb,h.o1,h.o2,h.o3⟩
def SW.tkN(h:SW c H d b a s z lf A n tu T)(x:Nx a a' d b H H'):TK H H':=λp f e=>x.fr p _ e (λm=>h.lv.dat.out e ⟨f,rfl⟩ (FM _ m)) (h.dk.tup_ne e).1 (h.dk.tup_ne e).2
def Nx.out(x:Nx a a' d b H H'){p:TD}{o:HO}(g:H p=some o)(e:p∉a.fix):p∉a'.fix:=λm=>by
 rcases x.fx p m with h|h
 ·exact e h
 ·rw[g]at h;cases h
def LL.step(h:LL c H d b lw lk tb bt ws ks a s z lf A n tu T tkv)(e:SW c H' d b a' s' z lf A n tu' T)(x:Nx a a' d b H H'):LL c H' d b lw lk tb bt ws ks a' s' z lf A n tu' T tkv:=by
 have t:=h.sw.tkN x;exact⟨e,x.fr _ _ h.gt h.o1.1 h.o1.2.1 h.o1.2.2,Paired.map' (λ_ _ w=>TE.tk t w) h.pt,x.fr _ _ h.gw h.o2.1 h.o2.2.1 h.o2.2.2,x.fr _ _ h.gk h.o3.1 h.o3.2.1 h.o3.2.2,t _ _ h.gb,⟨x.out h.gt h.o1.1,h.o1.2⟩,⟨x.out h.gw h.o2.1,h.o2.2⟩,⟨x.out h.gk h.o3.1,h.o3.2⟩⟩
end
def aAN{c:CK}(T:Txt K mg)(HS:Callee P w K mg base 1 "_law_deck" QZV (Ma K))(b9:Callee P w K mg base 1 "_law_draw" QZE rL)(wm:Callee P w K mg base 2 "_law_unlike" QZk vX)(HU:Mkr P w K mg base 6 "Door" c.D QZG [] (Fj c))(m5:cC P w K mg base 5 c.D "come" QZw (Cy c))(xr:Callee P w K mg base 6 "_law_done" QZt (uA c))(qi:Callee P w K mg base 8 "_law_stirred" QZj (Rb c))(BH:Callee P w K mg base 7 "_law_looked" QZh (Av c))(j0:cC P w K mg base 4 c.D "force" AC (rT c)){f:TD}{fd:FuncData}(F:Fun K "law" "law" mF f fd):FnOk P w K mg base sC 9 f fd QZV (Fy K):=by
 refine F.gg cB (λcdv A outer s a5 vs a6 a7 H h=>?_)
 ·revert h;refine yE2 λsa ns=>yA4 λζ hS hlen Q0=>?_;subst ζ;have hu:=uD (Nat.le_add_right _ 64) H.units;have l8:=dE H;have ki:=H.units;refine⟨_,(lq (pv (i:=1) cB.nd (px HS H rfl (lc (f8 0) li))) (lq (pv (i:=2) cB.nd oj) (lq (pv (i:=3) cB.nd (px wm H rfl (lc (f8 1) (lc (f8 2) (lc mo (lc mo li)))))) (lq (pv (i:=4) cB.nd (px wm H rfl (lc (f8 1) (lc (oh R.dy (f8 2) oj) (lc mo (lc (oh qd mo (px b9 H rfl (lc (f8 1) (lc mo li)))) li)))))) (lq (pv (i:=5) cB.nd (u8 (R.kiL (K:=K)) (vf (lc (oh qd mo (px b9 H rfl (lc (f8 1) (lc mo li)))) (lc (oh qd mo (px b9 H rfl (lc (f8 1) (lc mo li)))) (lc (oh qd mo (px b9 H rfl (lc (f8 1) (lc (oh R.eh mo mo) li)))) li)))) (px b9 H rfl (lc (f8 1) (lc mo li))))) (lq (pv (i:=6) cB.nd (R.cu HU H rfl (lc (vc R.sS (yr K 3) vj (ux mo)) (lc (f8 5) (lc (vf li) li))))) (lq (pv (i:=7) cB.nd (o0 (lc (yr K 3) (lc mo (lc mo li))))) (lq (pv (i:=8) cB.nd R.de) (lq (pv (i:=9) cB.nd mo) (lq (vi PassesOwn.never rfl (R.dl rfl T.b_range (lc (uy (xz (K:=K)) rfl T.b_len dQ (lc (f8 4) li)) li)) (pw (i:=10) cB.nd) (lq (pv (i:=9) cB.nd (oh qd (f8 9) (u8 (R.kiL (K:=K)) (vf (lc mo (lc mo (lc (oh R.gq (f8 5) mo) (lc (px b9 H rfl (lc (f8 1) (lc (f8 5) li))) li))))) (px b9 H rfl (lc (f8 1) (lc mo li)))))) (lq (pv (i:=11) cB.nd (o0 (lc (u8 (R.kiL (K:=K)) (f8 3) (px b9 H rfl (lc (f8 1) (lc mo li)))) (lc (u8 (R.kiL (K:=K)) (f8 4) (f8 10)) li)))) (lq (pv (i:=12) cB.nd (o0 (lc oj (lc (oi K 7) (lc (oh qd mo (px b9 H rfl (lc (f8 1) (lc (oh R.eh mo mo) li)))) li))))) (lq (qa (wl (xa (pi (R.cv ki) (re m5 H (f8 6) (lc (f8 9) (lc (oi K 11) (lc (oi K 11) (lc (f8 12) li))))) (o0 (lc oj (lc (oi K 7) li)))) (xc (wr (vk (px xr H rfl (lc (f8 6) (lc (oi K 7) li)))))))) (lu (oe yt)) qb) (lq (pv (i:=7) cB.nd (o0 (lc (oi K 7) (lc (oh qd (oi K 7) (oi K 12)) (lc (oh qd (oi K 7) mo) li))))) (lu (wt (o0 (lc (oh R.gq (oi K 7) mo) (lc (f8 9) (lc (f8 12) (lc (o0 (lc oj (lc (oi K 7) li))) li))))) (yp (f8 8) (f8 11) (yu l8)))))))))) (lq (vi PassesOwn.never rfl (R.dl rfl T.b_range (lc (oh qd mo (px b9 H rfl (lc (f8 1) (lc mo li)))) li)) (pw (i:=10) cB.nd) (lq (pv (i:=13) cB.nd (vf (lc (f8 9) li))) (lq (vi PassesOwn.never rfl (ve (K:=K) (uy (R.im (K:=K)) rfl T.b_sorted eB (lc (R.jg (vm rfl (js:=[none,some 5,some 8]) (N:=QZa) (CompScope.by (aD mF) QZd rfl rfl Zk) (aV rfl) (R.ft (f8 8)) (λa8 s₂ H₂ fp=>⟨(pw (i:=0) (show(QZa:List Str).Nodup by decide +kernel)),xf,(oh qd (u8 (vh (K:=K)) (vn l8 (f8 2) (f8 0)) mo) (f8 1))⟩))) li))) (pw (i:=14) cB.nd) (lu (pv (i:=13) cB.nd (oh xh (f8 13) (vf (lc (uy (R.gv rfl) rfl T.b_max sN (lc (f8 9) (lc (oh R.gq (f8 14) mo) li))) (lc (uy (R.gv rfl) rfl T.b_max sN (lc (f8 9) (lc (f8 14) li))) (lc (uy (R.gv rfl) rfl T.b_max sN (lc (f8 9) (lc (oh qd (f8 14) mo) li))) li)))))))) (lq (pv (i:=9) cB.nd (u8 (R.kiL (K:=K)) (oh xh (f8 13) (vf (lc (oh qd (f8 9) (f8 5)) li))) (px b9 H rfl (lc (f8 1) (lc (oh qd mo (oh R.dj mo (px b9 H rfl (lc (f8 1) (lc (uy R.iw rfl T.b_len dQ (lc (f8 8) li)) li))))) li))))) (lq (uz (px qi H rfl (lc (f8 1) (lc (f8 6) (lc (f8 9) li))))) (lq (uz (px qi H rfl (lc (f8 1) (lc (f8 6) (lc (f8 9) li))))) (lq (pv (i:=7) cB.nd (px BH H rfl (lc (f8 1) (lc (f8 6) (lc (f8 8) (lc (f8 9) (lc (f8 5) (lc (f8 7) li)))))))) (lu (qa (pi R.ji (f8 7) wu) (lu (oe yt)) qb))))))))) (lu (oe (R.cp (R.jz (K:=K) hu) (vg j0 H (f8 6)) (vf li))))))))))))))),?_⟩;refine⟨sa,ns,rfl,hS,λd b H1 XX IZ D1 s1=>?_⟩;refine⟨d,b,LET,8,4,by rw[<- aAM];rfl,D1,Zd,Zd,Zd,aCW,Zd,Zd,λI ws H2 wz JY gw nw US D2 k2=>?_⟩;refine⟨fJ Zk,d,b,6,rfl,D2,Zd,Zd,λr2 H3 b0 b1 D3 k3=>?_⟩;obtain⟨j,rfl⟩:=Aw b0;refine⟨d,b,KLET,12,1+j,by rw[<- Vm,show((1+j:Nat):Int)=1+(j:Int) by omega];rfl,D3,Zo,Zo,Zd,aCb,by show 1+j<=36;omega,Zd,λlk ks H4 wk LQ gk nk nk' D4 k4=>?_⟩;dsimp only [aJ];have UT:=(k3.trans k4) _ _ gw nw US;have e10:(10:Int)^(10:Int).toNat=10000000000:=by decide
  refine⟨d,b,12,rfl,D4,Zd,Zd,λq1 H5 a10 a11 D5 k5=>⟨d,b,1000,rfl,D5,Zd,Zd,λq2 H6 a20 a21 D6 k6=>⟨⟨Zd,Zd,Zd⟩,d,b,_,rfl,D6,Zd,Zd,λq3 H7 a30 a31 D7 k7=>⟨sM rfl,λll zh=>?_⟩⟩⟩⟩;have NP:(aH H7 ll (.lst [.int (1+q1),.int (1+q2),.int (1+q3)])) ll=some (.lst [.int (1+q1),.int (1+q2),.int (1+q3)]):=aA;have D8:=D7.new (o:=.lst [.int (1+q1),.int (1+q2),.int (1+q3)]) zh;have FP:Kp d b H4 (aH H7 ll (.lst [.int (1+q1),.int (1+q2),.int (1+q3)])):=((k5.trans k6).trans k7).trans (.new zh);have NQ:=D7.ne zh;generalize aH H7 ll (.lst [.int (1+q1),.int (1+q2),.int (1+q3)])=H8 at NP D8 FP ⊢;refine⟨d,b,3,rfl,D8,Zd,Zd,λr3 H9 c0 c1 D9 k9=>?_⟩;have UU:=k9 _ _ NP NQ.1 NQ.2;have hq3:q3<10000000000:=by rw[e10]at a31;exact a31
  obtain⟨g,MM,EY,u6⟩:∃g:Nat,nO [V.int (1+q1),.int (1+q2),.int (1+q3)] r3=some (.int (g:Int))/\1<=g/\g<=10000000000:=by
   obtain⟨q1,rfl⟩:=Aw a10;obtain⟨q2,rfl⟩:=Aw a20;obtain⟨q3,rfl⟩:=Aw a30;rcases(by omega:r3=0∨r3=1∨r3=2) with rfl|rfl|rfl
   ·exact⟨1+q1,rfl,Zo,Zo⟩
   ·exact⟨1+q2,rfl,Zo,Zo⟩
   ·exact⟨1+q3,rfl,Zo,Zo⟩
  refine⟨_,QYY UU,_,MM,?_⟩;dsimp only [aJ];have gw9:=(FP.trans k9) _ _ UT nw US;have gk9:=(FP.trans k9) _ _ gk nk nk';obtain⟨Y,M,Z,z,rfl⟩:∃Y M Z z,ws=[Y,M,Z,z]:=by
   match ws,JY with
   | [Y,M,Z,z],_=>exact⟨_,_,_,_,rfl⟩
  have hz:isNm z:=wz.nm z Zs;have h5:=aCc hz;refine⟨_,QYY gw9,_,rfl,fJ hz.len,sM rfl,λlh hlh=>?_⟩;generalize tx (iB z.cps.toList none (some 5))=nm at h5 ⊢;have FO:=aG (o:=.lst []) hlh;have glh:(aH H9 lh (.lst [])) lh=some (.lst []):=aA;have UX:=D9.same FO;have EE:=FO _ _ gw9;have HV:=FO _ _ gk9;generalize aH H9 lh (.lst [])=FL at FO glh UX EE HV ⊢;intro p dx hp GV E7;have nn:∀ {q a1},FL q=some a1->(aH (aH FL dx (.own p)) p (.ins c.D dx [])) q=some a1:=λe=>by rw[aB (aE e hp),aB (aE e GV)];exact e
  refine⟨p,dx,lh,nm,(g:Int),[],rfl,aA,h5.1,h5.2,nn glh,(λ_ h=>nomatch h),Zs,λa UY hdr h11 hfx k11=>⟨rfl,?_⟩⟩;subst hdr;have UZ:Same FL UY:=λq a1 e=>k11 _ _ (nn e) (aE e hp)
  have out:∀q a1,FL q=some a1->q∉a.fix:=λq a1 e m=>by
   rcases hfx q m with h|h
   ·rw[h]at e;rw[hp]at e;cases e
   ·rw[nn e]at h;cases h
  dsimp only [aJ];refine yE0 UX.ex (yE3 λns0 x0 x1=>yA3 λVA VB _=>?_);have lv0:LvA c UY a (ds0 nm (g:Int) (aL [] (([]:List W).map (·.2)))) z g 0 1 0 []:=
   ⟨h11,rfl,rfl,rfl,rfl,rfl,(λx=>by unfold fA;split<;>rfl),(λ_ h=>nomatch h),zero_le _,⟨[],[],rfl,.nil,PC.nil z g 0⟩,(λ_ _ h=>nomatch h),(λ_ h=>nomatch h),nodup_nil,nodup_nil,zero_le _,(λ_ h=>nomatch h),Zd,Zd,hz⟩
  have PZ:SW c UY d b a _ z g 0 1 0 []:=⟨UX.same UZ,lv0,out _ _ VA,out _ _ VB⟩;refine⟨_,QYY (UZ _ _ EE),_,rfl,bM rfl,λC H12 QA UH=>?_⟩;dsimp only [aJ];intro u VC;dsimp only [aJ];have QC:=aG (o:=.dT []) VC;have gtb:(aH H12 u (.dT [])) u=some (.dT []):=aA;have otb:u∉a.fix:=λm=>(PZ.same QA).lv.dat.fresh VC (FM _ m)
  have NG:=(PZ.same QA).dk.ne VC;generalize aH H12 u (.dT [])=H13 at QC gtb ⊢;have FV:=(UZ.trans QA).trans QC;have L0:LL c H13 d b I lk u C [Y,M,Z,z] ks a _ z g 0 1 0 [] []:=⟨(PZ.same QA).same QC,gtb,.nil,FV _ _ EE,FV _ _ HV,QC _ _ UH,⟨otb,NG⟩,⟨out _ _ EE,nw,US⟩,⟨out _ _ HV,nk,nk'⟩⟩;have hk6:ks.length<=6:=by omega
  have hk1:1<=ks.length:=by omega
  have hkn:=wk.nd;have hkk:=wk.ky;have VD:∀x∈[Y,M,Z],isNm x:=λx hx=>wz.nm x (by simp at hx ⊢;rcases hx with h|h|h<;>simp[h])
  clear LQ b1 h5 hfx k11;refine cT (λD G=>D=[some (.ref sa),some (.ref d),some (.str "abcdefghijklmnopqrstuvwxyz"),some (.ref I),some (.ref lk),some (.int (g:Int)),some (.ref a.dr),some (.ref C),some (.ref u),some (.int ((0:Nat):Int)),none,none,none,none,none]/\H13=G) (λnx X=>X _ _ ⟨rfl,rfl⟩) ?_;rintro _ _ ⟨rfl,rfl⟩;refine cT (λD G=>∃(s:DS)(A n l:Nat)(TT:List E6)(B:List (List aS×V))(C:TD)(ng Q O:Option V),D=[some (.ref sa),some (.ref d),some (.str "abcdefghijklmnopqrstuvwxyz"),some (.ref I),some (.ref lk),some (.int (g:Int)),some (.ref a.dr),some (.ref C),some (.ref u),some (.int (l:Int)),ng,Q,O,none,none]/\LL c G d b I lk u C [Y,M,Z,z] ks a s z g A n l TT B/\n=1+ks.length/\TT.length=ks.length) (λnx X=>?_) ?_
  ·refine⟨_,.inl (QYY L0.gk),?_⟩;refine⟨((ks.map V.str).length:Int),rfl,by rw[aR];omega,by rw[aR];omega,?_⟩;refine bU (jA 0 ((ks.map V.str).length:Int).toNat) (λi D G=>∃(s:DS)(A n l:Nat)(TT:List E6)(B:List (List aS×V))(C:TD)(ng Q O:Option V),D=[some (.ref sa),some (.ref d),some (.str "abcdefghijklmnopqrstuvwxyz"),some (.ref I),some (.ref lk),some (.int (g:Int)),some (.ref a.dr),some (.ref C),some (.ref u),some (.int (l:Int)),ng,Q,O,none,none]/\LL c G d b I lk u C [Y,M,Z,z] ks a s z g A n l TT B/\n=1+i/\TT.map (λe=>e.2.2.2.1)=ks.take i) (λi D G _=>trivial) ⟨_,0,1,0,[],[],C,_,_,_,rfl,L0,rfl,rfl⟩ ?_ ?_
   ·refine λi x D G hx=>yE9 λs A n l TT B C ng Q=>yE1 λO=>yA4 λζ L hn hT=>?_;subst ζ;obtain⟨rfl,hi⟩:=xZ hx;have hk0:((ks.map V.str).length:Int).toNat=ks.length:=by rw[aR];rfl
    have VE:i<ks.length:=by omega
    dsimp only [aJ];refine cT (λD E=>∃tu':Nat,l<=tu'/\D=[some (.ref sa),some (.ref d),some (.str "abcdefghijklmnopqrstuvwxyz"),some (.ref I),some (.ref lk),some (.int (g:Int)),some (.ref a.dr),some (.ref C),some (.ref u),some (.int (tu':Int)),some (.int (i:Int)),Q,O,none,none]/\LL c E d b I lk u C [Y,M,Z,z] ks a s z g A n l TT B) (λnx X=>?_) ?_
    ·refine⟨d,b,(g:Int),rfl,L.sw.dk,Zo,Zo,λq G1 q0 q1 D1 k1=>⟨sM rfl,λll zh=>?_⟩⟩;have L1:=L.draw D1 k1;have s2:=aG (o:=.lst [.int 0,.int 1,.int ((g:Int)-1),.int q]) zh;have NP:(aH G1 ll (.lst [.int 0,.int 1,.int ((g:Int)-1),.int q])) ll=some (.lst [.int 0,.int 1,.int ((g:Int)-1),.int q]):=aA;have NQ:=D1.ne zh;generalize aH G1 ll (.lst [.int 0,.int 1,.int ((g:Int)-1),.int q])=G2 at s2 NP ⊢;have L2:=L1.same s2;refine⟨d,b,4,rfl,L2.sw.dk,Zd,Zd,λa0 G3 r0 r1 D3 k3=>?_⟩;have r:=L2.draw D3 k3;obtain⟨v,hv⟩:∃v:Nat,nO [V.int 0,.int 1,.int ((g:Int)-1),.int q] a0=some (.int (v:Int)):=by
      obtain⟨q,rfl⟩:=Aw q0;rcases(by omega:a0=0∨a0=1∨a0=2∨a0=3) with rfl|rfl|rfl|rfl
      ·exact⟨0,rfl⟩
      ·exact⟨1,rfl⟩
      ·refine⟨g-1,?_⟩;rw[show((g-1:Nat):Int)=(g:Int)-1 by omega];rfl
      ·exact⟨q,rfl⟩
     refine⟨_,QYY (k3 _ _ NP NQ.1 NQ.2),_,hv,?_⟩;exact X _ _ ⟨l+v,Nat.le_add_right _ _,rfl,r⟩
    refine λ_ G1=>yE1 λtu'=>yA3 λhle ζ L1=>?_;subst ζ;refine cT (λD E=>∃(sp:TD)(J:Str),D=[some (.ref sa),some (.ref d),some (.str "abcdefghijklmnopqrstuvwxyz"),some (.ref I),some (.ref lk),some (.int (g:Int)),some (.ref a.dr),some (.ref C),some (.ref u),some (.int (tu':Int)),some (.int (i:Int)),some (.ref sp),O,none,none]/\LL c E d b I lk u C [Y,M,Z,z] ks a s z g A n l TT B/\isNm J/\E sp=some (.tup [.str J,.str ks[i]])) (λnx X=>?_) ?_
    ·refine⟨d,b,3,rfl,L1.sw.dk,Zd,Zd,λa0 G2 r0 r1 D2 k2=>?_⟩;have L2:=L1.draw D2 k2;obtain⟨J,QD,oq⟩:∃J:Str,isNm J/\nO (List.map V.str [Y,M,Z,z]) a0=some (.str J):=by
      rcases(by omega:a0=0∨a0=1∨a0=2) with rfl|rfl|rfl
      ·exact⟨Y,VD Y Zs,rfl⟩
      ·exact⟨M,VD M Zs,rfl⟩
      ·exact⟨Z,VD Z Zs,rfl⟩
     refine⟨_,QYY L2.gw,_,oq,_,QYY L2.gk,.str ks[i],nQ (by rw[dW,fX VE];rfl),bM rfl,λsp G3 s3 g3=>X _ _ ⟨sp,J,rfl,L2.same s3,QD,g3⟩⟩
    refine λ_ G2=>yE2 λsp J=>yA4 λζ L2 QD NR=>?_;subst ζ;have e6:(10:Int)^(6:Int).toNat=1000000:=by decide
    refine cT (λD E=>∃(dt:TD)(S:Nat),D=[some (.ref sa),some (.ref d),some (.str "abcdefghijklmnopqrstuvwxyz"),some (.ref I),some (.ref lk),some (.int (g:Int)),some (.ref a.dr),some (.ref C),some (.ref u),some (.int (tu':Int)),some (.int (i:Int)),some (.ref sp),some (.ref dt),none,none]/\LL c E d b I lk u C [Y,M,Z,z] ks a s z g A n l TT B/\E sp=some (.tup [.str J,.str ks[i]])/\E dt=some (.tup (Dd.add z S).vs)/\1<=S/\S<=1000000) (λnx X=>?_) ?_
    ·refine⟨_,QYZ L2.gb,_,rfl,⟨Zd,Zd,Zd⟩,d,b,_,rfl,L2.sw.dk,Zd,Zd,λq G3 q0 q1 D3 k3=>⟨bM rfl,λdt G4 s4 g4=>?_⟩⟩;rw[e6]at q1;obtain⟨q,rfl⟩:=Aw q0;have r:=L2.draw D3 k3;exact X _ _ ⟨dt,1+q,rfl,r.same s4,s4 _ _ (Kp.tk L2.sw.dk k3 _ _ NR),g4,Zo,Zo⟩
    refine λ_ G3=>yE2 λdt S=>yA6 λζ r NR VF mq hd2=>?_;subst ζ;have OI:isKy ks[i]:=hkk _ (getElem_mem VE);have HW:∀e∈TT,aF e≠(J,ks[i]):=λe he hs=>by
     have h1:e.2.2.2.1∈ks.take i:=by rw[<- hT];exact Zmm.mpr ⟨e,he,rfl⟩
     have h2:e.2.2.2.1=ks[i]:=congrArg Prod.snd hs;rw[h2]at h1;obtain⟨j,hj,ej⟩:=List.mem_iff_getElem.mp h1;rw[List.getElem_take]at ej;rw[oX]at hj;have:=(getElem_inj hkn).mp ej;omega
    have JN:=r.sw.lv.free (q:=(J,ks[i])) (tu':=tu') λe he hs=>IN hs (HW e he)
    have FF:∀ke,s.m (J,ks[i])=some ke->G3 (KE.dd ke)=some (.tup (Dd.add z S).vs):=λke hk=>by
     obtain⟨e,he,hs,_⟩:=r.sw.lv.mt1 _ ke hk;exact IN hs (HW e he)
    have X:=r.sw.lv.next;have AI:∀a0∈s.runs,a0.n<s.next:=by rw[r.sw.lv.runs];exact(λ_ H=>nomatch H)
    have BA:s.runs.length<=500:=by rw[r.sw.lv.runs];exact zero_le _
    have NH:s.L<=500:=by have:=r.sw.lv.L;omega
    have FJ:s.turn<=(tu':Int):=by rw[r.sw.lv.turn];omega
    have hr4:=r.sw.lv.r1000;have hTl:TT.length=i:=by have:=congrArg length hT;rw[aR,oX]at this;omega
    refine cT (λD E=>∃(s':DS)(y:TD),D=[some (.ref sa),some (.ref d),some (.str "abcdefghijklmnopqrstuvwxyz"),some (.ref I),some (.ref lk),some (.int (g:Int)),some (.ref a.dr),some (.ref C),some (.ref u),some (.int (tu':Int)),some (.int (i:Int)),some (.ref sp),some (.ref dt),none,none]/\SW c E d b a s' z g (A+S) (n+1) tu' (uE TT (n,tu',J,ks[i],.add z S,.is1 (A+S)))/\Nx a a d b G3 E) (λnx HB=>?_) ?_
    ·refine⟨_,_,r.sw.lv.dat.dr,by kernel_rfl,_,QYZ NR,_,rfl,_,QYZ NR,_,rfl,a,s,(tu':Int),(J,ks[i]),dt,.add z S,.add z S,rfl,r.sw.lv.dat,QD,OI,⟨r.sw.lv.zn,Zo,Zo⟩,rfl,VF,FF,NH,AI,BA,Zo,FJ,(λ_ ke _ hf=>by rw[JN]at hf;cases hf),λ_ _ t4 p dx ra H4 D4 v4 g4 UL=>?_⟩;have NL:=v4.tk r.sw.lv.dat;refine⟨_,QYZ (NL _ _ r.gb),_,rfl,bM rfl,λut H5 s5 g5=>⟨1,.tp [.sc (.str "begun"),.sc (.int (n:Int))],Zd,⟨t4,_,rfl,s5 _ _ UL,.cons ⟨rfl,rfl⟩ (.cons ⟨by rw[X],rfl⟩ .nil)⟩,⟨ut,_,rfl,g5,.cons ⟨rfl,rfl⟩ (.cons ⟨rfl,rfl⟩ .nil)⟩,?_⟩⟩;have BG:A<=1000000000000:=by have:=r.sw.lv.hA;have:=r.sw.lv.n2;omega
     refine⟨_,QYZ (s5 _ _ (NL _ _ r.gb)),_,rfl,a,lI s (tu':Int) (J,ks[i]) dt (.add z S) p dx ra,s.rows,gW p dx s.next (J,ks[i]) dt (.add z S) "new",ra,_,fA z A,by rw[show(gW p dx s.next (J,ks[i]) dt (.add z S) "new").n=n from X],D4.same s5,rfl,s5 _ _ g4,r.sw.lv.safe,?_,?_,rfl,⟨r.sw.lv.zn,Zo,Zo⟩,rfl,r.sw.lv.pa,?_,?_,?_,KM.set_same,λrd z' y' H6 hR D6 v6 g6 UM=>?_⟩
     ·show(s.rows++[V.ref ra]).length<=900;simp;omega
     ·show s.runs++[_]=[_];rw[r.sw.lv.runs];rfl
     ·intro x;unfold fA;split<;>omega
     ·show s.prs.length<=90;have:=r.sw.lv.p90;omega
     ·show s.L+1<=400;have:=r.sw.lv.L;omega
     have NM:=v6.tk (D4.same s5);have FT:TK G3 H6:=(NL.trans (TK.of s5)).trans NM;obtain⟨UN,s6,UO⟩:=r.sw.lv.ended (tu':=tu') (d:=S) (q:=(J,ks[i])) hle QD OI mq hd2 Zo (H2:=H6) (dd:=dt) (p:=p) (dx:=dx) (ra:=ra) (rd:=rd) (z':=z') (y:=y') (by rw[Fu];split <;> omega) hR D6 FT (NM _ _ (s5 _ _ g4)) g6 (FT _ _ VF) UM;subst UN;have NO:∀x o,G3 x=some o->x∉a.fix->H6 x=some o:=λx o w hx=>v6.fr x o (s5 _ _ (v4.fr x o w (by rw[r.sw.lv.runs];simpa using hx))) (λm=>by
      rcases Zma.mp m with m|m
      ·exact hx m
      ·have m':x∈(s.runs++[gW p dx s.next (J,ks[i]) dt (.add z S) "new"]).map (·.p):=m;rw[r.sw.lv.runs]at m';have ep:x=p:=show x=(gW p dx s.next (J,ks[i]) dt (.add z S) "new").p by simpa using m'
       rcases v4.nw (gW p dx s.next (J,ks[i]) dt (.add z S) "new") (by show _∈s.runs++[_];simp) with M|M
       ·rw[r.sw.lv.runs]at M;cases M
       ·have JH:G3 p=none:=M;rw[ep,JH]at w;cases w)
     obtain⟨h6,x6⟩:=r.sw.step (H1:=H6) (a':=a) rfl (λx hx=>.inl hx) NO UO;exact HB _ _ ⟨s6,z',rfl,h6,x6⟩
    refine λ_ G4=>yE2 λs4 y4=>yA3 λζ sw4 x4=>?_;subst ζ;have t4:=r.sw.tkN x4;have gt4:=x4.fr _ _ r.gt r.o1.1 r.o1.2.1 r.o1.2.2;have pt4:=Paired.map' (λ_ _ w=>TE.tk t4 w) r.pt;have UT:=x4.fr _ _ r.gw r.o2.1 r.o2.2.1 r.o2.2.2;have gk4:=x4.fr _ _ r.gk r.o3.1 r.o3.2.1 r.o3.2.2;have VG:=t4 _ _ r.gb;have VH:=t4 _ _ NR;have NS:=t4 _ _ VF;refine⟨_,QYZ VG,_,rfl,_,QYZ VG,_,rfl,_,QYZ NS,_,rfl,_,QYZ VG,_,rfl,bM rfl,λED G5 s5 HX=>?_⟩;refine⟨_,QYZ HX,_,rfl,_,QYZ HX,_,rfl,bM rfl,λit G6 s6 g6=>⟨bM rfl,λnt G7 s7 g7=>?_⟩⟩;replace g7:G7 nt=some (.tup [.int (n:Int),.int (tu':Int),.ref dt,.ref it]):=by
     rw[g7];show some (HO.tup [.int ((n:Int)+1-1),.int (tu':Int),.ref dt,.ref it])=_;rw[Int.add_sub_cancel]
    have zj:=(s5.trans s6).trans s7;have NT:=zj _ _ gt4;have pt7:=Paired.map' (λ_ _ w=>TE.tk (Same.tk zj) w) pt4;refine⟨u,_,rfl,DPut.t (k:=pk (J,ks[i])) NT (zj _ _ VH) ?_,?_⟩
    ·rw[yJ pt7];exact uD (show TT.length<=6 by omega) Zd
    have VI:=(sw4.same zj).put NT (λ_ w=>nomatch w) r.o1.1 r.o1.2.1 r.o1.2.2 (.dT (bQ B (pk (J,ks[i])) (.ref nt)));have tk8:TK G7 (aH G7 u (.dT (bQ B (pk (J,ks[i])) (.ref nt)))):=fW NT λ_ w=>nomatch w
    have PY:=Fx (e0:=(n,tu',J,ks[i],.add z S,.is1 (A+S))) pt7 (t:=nt) (d:=dt) (y:=it) g7 (zj _ _ NS) (s7 _ _ g6);have gw7:=zj _ _ UT;have gk7:=zj _ _ gk4;refine⟨s4,A+S,n+1,tu',_,_,ED,_,_,_,rfl,⟨VI,aA,Paired.map' (λ_ _ w=>TE.tk tk8 w) PY,by rw[aB (aK gw7 NT λw=>nomatch w)];exact gw7,by rw[aB (aK gk7 NT λw=>nomatch w)];exact gk7,tk8 _ _ (s7 _ _ (s6 _ _ HX)),r.o1,r.o2,r.o3⟩,Zo,?_⟩;have AR:aF ((n,tu',J,ks[i],.add z S,.is1 (A+S)):E6)∉TT.map aF:=λhm=>by
     obtain⟨e,he,hs⟩:=Zmm.mp hm;exact HW e he hs
    unfold uE;rw[NE AR,dN,hT,aM (fX VE)];rfl
   ·refine λD G=>yE9 λs A n l TT B C ng Q=>yE1 λO=>yA4 λζ L hn hT=>?_;subst ζ;have DG:(jM 0 ((ks.map V.str).length:Int).toNat).length=ks.length:=by rw[kB,aR];rfl
    rw[DG]at hn hT;rw[lJ (bA _)]at hT;exact X _ _ ⟨s,A,n,l,TT,B,C,_,_,_,rfl,L,hn,by have:=congrArg length hT;rwa [aR]at this⟩
  refine λD G=>yE9 λs A n l TT B C ng Q=>yE1 λO=>yA4 λζ L hn hT=>?_;subst ζ;clear L0 lv0 PZ h11;refine cT (λD G=>∃(a':DA)(s:DS)(A n l:Nat)(TT:List E6)(B:List (List aS×V))(C:TD)(ng Q O xt qh:Option V),D=[some (.ref sa),some (.ref d),some (.str "abcdefghijklmnopqrstuvwxyz"),some (.ref I),some (.ref lk),some (.int (g:Int)),some (.ref a.dr),some (.ref C),some (.ref u),some (.int (l:Int)),ng,Q,O,xt,qh]/\LL c G d b I lk u C [Y,M,Z,z] ks a' s z g A n l TT B/\a'.dr=a.dr) (λnx X=>?_) ?_
  ·refine⟨d,b,24,rfl,L.sw.dk,Zd,Zd,λa0 G0 r0 r1 D0 k0=>?_⟩;obtain⟨a0,rfl⟩:=Aw r0;refine⟨1+(a0:Int),rfl,Zo,Zo,?_⟩;have hrt:(1+(a0:Int)).toNat=1+a0:=by omega
   refine bU (jA 0 (1+(a0:Int)).toNat) (λi D G=>∃(a':DA)(s:DS)(A n l:Nat)(TT:List E6)(B:List (List aS×V))(C:TD)(ng Q O xt qh:Option V),D=[some (.ref sa),some (.ref d),some (.str "abcdefghijklmnopqrstuvwxyz"),some (.ref I),some (.ref lk),some (.int (g:Int)),some (.ref a.dr),some (.ref C),some (.ref u),some (.int (l:Int)),ng,Q,O,xt,qh]/\LL c G d b I lk u C [Y,M,Z,z] ks a' s z g A n l TT B/\a'.dr=a.dr/\TT.length=ks.length/\n<=7+6*i) (λi D G _=>trivial) ⟨a,s,A,n,l,TT,B,C,_,_,_,_,_,rfl,L.draw D0 k0,rfl,hT,Zo⟩ ?_ ?_
   ·clear L hT hn B TT l n A s G C k0 D0 G0 ng Q O;refine λi x D G hx=>yE9 λa' s A n l TT B C ng=>yE4 λQ O xt qh=>yA5 λζ L ed hT hn=>?_;subst ζ;obtain⟨rfl,hi⟩:=xZ hx;rw[hrt]at hi;dsimp only [aJ];refine cT (λD E=>∃sl:TD,D=[some (.ref sa),some (.ref d),some (.str "abcdefghijklmnopqrstuvwxyz"),some (.ref I),some (.ref lk),some (.int (g:Int)),some (.ref a.dr),some (.ref C),some (.ref u),some (.int (l:Int)),some (.int (i:Int)),Q,O,some (.ref sl),qh]/\LL c E d b I lk u C [Y,M,Z,z] ks a' s z g A n l TT B/\E sl=some (.lst ([(l:Int)].map V.int))/\sl≠d/\sl≠b/\sl∉a'.fix/\sl≠u) (λnx X=>?_) ?_
    ·refine⟨sM rfl,λl0 DG=>X _ _ ⟨l0,rfl,L.same (aG DG),aA,(L.sw.dk.ne DG).1,(L.sw.dk.ne DG).2,λm=>L.sw.lv.dat.fresh DG (FM _ m),λe=>by rw[e,L.gt]at DG;cases DG⟩⟩
    refine λ_ G1=>yE1 λsl=>yA7 λζ L1 OU nsd nsb nsf nst=>?_;subst ζ;refine cT (λD E=>∃(sl:TD)(vs:List Int)(qh:Option V),D=[some (.ref sa),some (.ref d),some (.str "abcdefghijklmnopqrstuvwxyz"),some (.ref I),some (.ref lk),some (.int (g:Int)),some (.ref a.dr),some (.ref C),some (.ref u),some (.int (l:Int)),some (.int (i:Int)),Q,O,some (.ref sl),qh]/\LL c E d b I lk u C [Y,M,Z,z] ks a' s z g A n l TT B/\E sl=some (.lst (vs.map V.int))/\(∀v∈vs,(l:Int)<=v)/\vs.length=1+3*TT.length) (λnx X=>?_) ?_
    ·refine⟨B,L1.gt,λo bs CO GR=>?_⟩;have gF:(aH G1 u (.frz o (.dT B))) u=some (.frz o (.dT B)):=aA;have lT:=L1.pt.length;refine bF (Cb u o B bs) (by rw[aR,CO,<- lT];omega) (λj ys E=>E=aH G1 u (.frz o (.dT B))/\ys=((TT.take j).map λe=>((e.2.1:Int)+(g:Int))).map V.int) (λj ys E ⟨e0,e⟩=>⟨by rw[e0];exact gF,by rw[e,aR,aR,oX];exact min_le_left _ _⟩) ⟨rfl,rfl⟩ (?_) (?_)
     ·rintro j x ys E hx ⟨e0,e⟩;subst e0;rw[dW]at hx;obtain⟨b0,IZ,rfl⟩:=Option.map_eq_some_iff.mp hx;obtain⟨pp,zc,gb⟩:=GR j b0 IZ;obtain⟨hj,ej⟩:=Zgs.mp zc;obtain⟨OT,te⟩:=Paired.get' (j:=j) L1.pt hj;rw[ej]at te;have VJ:TT[j]?=some TT[j]:=fX OT;generalize TT[j]=e1 at te VJ;refine yE0 (yI L1.pt L1.sw.lv.tnd (jJ VJ)) (yE3 λt dd y=>yA4 λhv ht hd hy=>?_);have kk:∀x xs,G1 x=some (.tup xs)->(aH G1 u (.frz o (.dT B))) x=some (.tup xs):=λx xs w=>by rw[aB (aK w L1.gt λq=>nomatch q)];exact w
      have zf:(aH G1 u (.frz o (.dT B))) b0=some (.tup [.str e1.2.2.1,.str e1.2.2.2.1]):=by have:=kk _ _ gb;rw[te.1]at this;exact this
      dsimp only [aJ];have dg:=DGet.rd (.inr ⟨o,gF⟩) (eF (q:=aF e1) zf);rw[hv]at dg;refine⟨u,.ref t,rfl,dg,_,QYZ (kk _ _ ht),_,rfl,rfl,?_⟩;rw[e,aM VJ,dN,dN];rfl
     ·rintro ys E ⟨e0,e⟩;intro a4 hl;subst e0;rw[aR,CO,<- lT,lJ (bA _)]at e;have nl:u≠a4:=aE gF hl;refine⟨u,B,o,⟨_,L1.gt⟩,cF gF hl,?_⟩;have s4:Same G1 (aH (aH (aH G1 u (.frz o (.dT B))) a4 (.lst ys)) u (.dT B)):=λx a1 w=>by
       by_cases q:x=u
       ·subst q;rw[L1.gt]at w;cases w;exact aA
       ·rw[aB q];exact cF (by rw[aB q];exact w) hl
      have gl:(aH (aH (aH G1 u (.frz o (.dT B))) a4 (.lst ys)) u (.dT B)) a4=some (.lst ys):=by rw[aB nl.symm];exact aA
      generalize aH (aH (aH G1 u (.frz o (.dT B))) a4 (.lst ys)) u (.dT B)=G4 at s4 gl ⊢;rw[e]at gl;refine⟨TT.map λe=>((e.2.1:Int)+(g:Int)),QYY gl,by rw[aR];omega,λl2 K7 u6 hp HA=>?_⟩;have s5:=aG (o:=.lst (K7.map V.int)) u6;have g5:(aH G4 l2 (.lst (K7.map V.int))) l2=some (.lst (K7.map V.int)):=aA;have HC:=s4.trans s5;have n2d:=(L1.same s4).sw.dk.ne u6;have n2t:l2≠u:=λw=>by rw[w,(L1.same s4).gt]at u6;cases u6
      have hlen:K7.length=TT.length:=by rw[hp.length_eq,aR]
      have eb':l2≠sl:=λw=>by rw[w,s4 _ _ OU]at u6;cases u6
      generalize aH G4 l2 (.lst (K7.map V.int))=G5 at s5 g5 HC ⊢;refine⟨l2,rfl,⟨_,QYY g5⟩,bU (bE K l2 (K7.map V.int)) (λj D E=>∃(sl:TD)(vs:List Int)(qh:Option V),D=[some (.ref sa),some (.ref d),some (.str "abcdefghijklmnopqrstuvwxyz"),some (.ref I),some (.ref lk),some (.int (g:Int)),some (.ref a.dr),some (.ref C),some (.ref u),some (.int (l:Int)),some (.int (i:Int)),Q,O,some (.ref sl),qh]/\E sl=some (.lst (vs.map V.int))/\(∀v∈vs,(l:Int)<=v)/\vs.length=1+3*j/\Same G5 E) (λj D E ⟨_,_,_,_,_,_,_,k⟩=>QYY (k _ _ g5)) ⟨sl,[(l:Int)],_,rfl,HC _ _ OU,(λv hv=>by simp at hv;omega),rfl,Same.refl _⟩ ?_ ?_⟩
      ·refine λj x D G6 hx=>yE3 λsl6 vs BI=>yA5 λζ g6 VL PV k6=>?_;subst ζ;rw[dW]at hx;obtain⟨en,MD,rfl⟩:=Option.map_eq_some_iff.mp hx;have CQ:j<K7.length:=(Zgs.mp MD).1;refine⟨sM rfl,λl3 HH=>⟨_,_,cF g6 HH,aA,by rw[aR];exact fJ (by simp;omega),λl4 QE=>?_⟩⟩;refine⟨l4,vs++[if en-1>(l:Int) then en-1 else (l:Int),if en>(l:Int) then en else (l:Int),if en+1>(l:Int) then en+1 else (l:Int)],_,rfl,by rw[aA,dN];rfl,λv hv=>?_,by simp;omega,(k6.trans (aG HH)).trans (aG QE)⟩;rcases Zma.mp hv with hv|hv
       ·exact VL v hv
       ·simp only [mem_cons,EJ,or_false]at hv;rcases hv with rfl|rfl|rfl<;>split<;>omega
      ·refine λD G6=>yE3 λsl6 vs BI=>yA5 λζ g6 VL PV k6=>?_;subst ζ;rw[aR,hlen]at PV;exact X _ _ ⟨sl6,vs,BI,rfl,L1.same (HC.trans k6),g6,VL,PV⟩
    refine λ_ G2=>yE3 λGC vs BI=>yA5 λζ L2 g2 hv2 u6=>?_;subst ζ;have hT6:=L2.sw.lv.t6;refine cT (λD E=>∃tu':Nat,l<=tu'/\D=[some (.ref sa),some (.ref d),some (.str "abcdefghijklmnopqrstuvwxyz"),some (.ref I),some (.ref lk),some (.int (g:Int)),some (.ref a.dr),some (.ref C),some (.ref u),some (.int (tu':Int)),some (.int (i:Int)),Q,O,some (.ref GC),BI]/\LL c E d b I lk u C [Y,M,Z,z] ks a' s z g A n l TT B) (λnx X=>?_) ?_
    ·refine⟨sM rfl,λl3 HH=>⟨_,_,cF g2 HH,aA,by rw[aR];exact fJ (by simp;omega),λl4 QE=>?_⟩⟩;have FU:=(aG (o:=.lst [.int ((l:Int)+(g:Int))]) HH).trans (aG (o:=.lst (vs.map V.int++[.int ((l:Int)+(g:Int))])) QE);have g4:(aH (aH G2 l3 (.lst [.int ((l:Int)+(g:Int))])) l4 (.lst (vs.map V.int++[.int ((l:Int)+(g:Int))]))) l4=some (.lst ((vs++[(l:Int)+(g:Int)]).map V.int)):=by rw[aA,dN];rfl
     have n4:=(L2.same (aG (o:=.lst [.int ((l:Int)+(g:Int))]) HH)).sw.dk.ne QE;generalize aH (aH G2 l3 (.lst [.int ((l:Int)+(g:Int))])) l4 (.lst (vs.map V.int++[.int ((l:Int)+(g:Int))]))=G4 at FU g4 ⊢;have L4:=L2.same FU;have LQ:=yJ L4.pt;refine⟨B,L4.gt,d,b,(B.length:Int),rfl,L4.sw.dk,Zo,Zo,λr5 G5 r50 r51 D5 k5=>?_⟩;have L5:=L4.draw D5 k5;refine⟨.inl ⟨Zd,Zd⟩,d,b,2+3*r5,rfl,L5.sw.dk,Zo,Zo,λr6 G6 r60 r61 D6 k6=>?_⟩;have L6:=L5.draw D6 k6;obtain⟨v,hv,hm⟩:=kS (xs:=(vs++[(l:Int)+(g:Int)]).map V.int) r60 (by rw[aR,uC,length_singleton,u6];omega);obtain⟨w,hw,rfl⟩:=Zmm.mp hm;have hwt:(l:Int)<=w:=by
      rcases Zma.mp hw with hw|hw
      ·exact hv2 w hw
      ·rw[Zms.mp hw];omega
     obtain⟨w,rfl⟩:=Aw (show 0<=w by omega);refine⟨_,QYY (k6 _ _ (k5 _ _ g4 n4.1 n4.2) n4.1 n4.2),_,hv,?_⟩;exact X _ _ ⟨w,Zo,rfl,L6⟩
    refine λ_ G3=>yE1 λtu'=>yA3 λhle ζ r=>?_;subst ζ;refine⟨d,b,a',s,z,g,A,n,l,tu',TT,by rw[ed],r.sw,hle,λa2 s2 HJ G7 sw7 x7 le7=>?_⟩;have L7:=r.step sw7 x7;have HK:a2.dr=a.dr:=x7.dr.trans ed;refine⟨d,b,a2,s2,z,g,A,n,HJ,tu',TT,by rw[HK],L7.sw,le7,λa3 s3 tu3 G8 VI x8 le8=>?_⟩;have U:=L7.step VI x8;have ed3:a3.dr=a.dr:=x8.dr.trans HK;refine⟨d,b,a3,s3,z,g,A,n,tu3,tu',TT,u,C,B,by rw[ed3],U.gb,U.sw,le8,U.gt,U.pt,U.o1.1,U.o1.2.1,U.o1.2.2,Zo,Zo,λs' A' n' T' C9 ED G9 sw9 fr9 gt9 UQ es9 hn9 gb9=>?_⟩;dsimp only [aJ];obtain⟨VM,e11⟩:∃x,x=Q:=⟨_,rfl⟩;obtain⟨VN,e12⟩:∃x,x=O:=⟨_,rfl⟩;rw[<- e11,<- e12];have hT9:T'.length=TT.length:=by have:=congrArg length es9;simpa using this
    have key:∃(a':DA)(s:DS)(A n l:Nat)(TT:List E6)(B:List (List aS×V))(C:TD)(ng Q O xt qh:Option V),[some (.ref sa),some (.ref d),some (.str "abcdefghijklmnopqrstuvwxyz"),some (.ref I),some (.ref lk),some (.int (g:Int)),some (.ref a.dr),some (.ref ED),some (.ref u),some (.int (tu':Int)),some (.int (i:Int)),VM,VN,some (.ref GC),BI]=[some (.ref sa),some (.ref d),some (.str "abcdefghijklmnopqrstuvwxyz"),some (.ref I),some (.ref lk),some (.int (g:Int)),some (.ref a.dr),some (.ref C),some (.ref u),some (.int (l:Int)),ng,Q,O,xt,qh]/\LL c G9 d b I lk u C [Y,M,Z,z] ks a' s z g A n l TT B/\a'.dr=a.dr/\TT.length=ks.length/\n<=7+6*(i+1):=⟨a3,s',A',n',tu',T',C9,ED,_,_,_,_,_,rfl,⟨sw9,gt9,UQ,fr9 _ _ U.gw U.o2.1 U.o2.2.1 U.o2.2.2 (aK U.gw U.gt λw=>nomatch w),fr9 _ _ U.gk U.o3.1 U.o3.2.1 U.o3.2.2 (aK U.gk U.gt λw=>nomatch w),gb9,U.o1,U.o2,U.o3⟩,ed3,Zo,Zo⟩;exact key
   ·refine λD G=>yE9 λa' s A n l TT B C ng=>yE4 λQ O xt qh=>yA5 λζ L ed _ _=>?_;subst ζ;exact X _ _ ⟨a',s,A,n,l,TT,B,C,_,_,_,_,_,rfl,L,ed⟩
  refine λD G=>yE9 λa' s A n l TT B C ng=>yE4 λQ O xt qh=>yA3 λζ L ed=>?_;subst ζ;have JM:=L.sw.lv.safe;have es:({s with safe:=(s.rows.length:Int) }:DS)=s:=by rw[<- JM]
  have BA:s.rows.length<=1000:=by have:=L.sw.lv.r1000;omega
  refine⟨_,_,by rw[<- ed];exact L.sw.lv.dat.dr,by kernel_rfl,a',s,s,s.rows,[],[],by rw[ed],L.sw.lv.dat,Zs,JM,BA,by rw[es];exact .nil,Zd,λa4 us G3 D3 v3 _ gl pu _=>?_⟩;cases pu;refine⟨sM rfl,λl2 u6=>⟨a4,l2,_,rfl,rfl,QYY (cF gl u6),QYY aA,Q0 _⟩⟩
end
structure FA(K:W.Frag)(x:Str)(st:Stmt):Prop where
 ex:∃(f:TD)(od an:Option TD)(sl:Array (Option Q3))(oc kV dc pm cd ct:Q3),W.nsIn K mainGlobals x=some (some (.ref f))/\K.lookup f=some ⟨oc,od,.func (W.fnOf x x (bJ st) (aT st) (aD st) .none kV dc pm an cd ct),sl⟩/\W.codeIn K cd x=true/\W.keepIn K (.ref f)=true
def FA.of{K:W.Frag}{x:Str}{st:Stmt}{f:TD}{d e:Option TD}{sl:Array (Option Q3)}{g kV h i b j:Q3}(a:W.nsIn K mainGlobals x=some (some (.ref f)))(l:K.lookup f=some ⟨g,d,.func (W.fnOf x x (bJ st) (aT st) (aD st) .none kV h i e b j),sl⟩)(c:W.codeIn K b x=true)(k:W.keepIn K (.ref f)=true):FA K x st:=⟨f,d,e,sl,g,kV,h,i,b,j,a,l,c,k⟩
def QAL:Nat->(List Q3->Prop)->Prop
 |0,P=>P []
 |n+1,P=>∀a,QAL n λr=>P (a::r)
def qAL{P:List Q3->Prop}:∀us{n},us.length=n->QAL n P->P us
 |[],_,rfl,h=>h
 |a::r,_,rfl,h=>qAL (P:=λr=>P (a::r)) r rfl (h a)
def qAl{P:List Q3->Prop}{n}(h:QAL n P):∀us,us.length=n->P us:=λus a=>qAL us a h
def FA.at{K:W.Frag}{x:Str}{st:Stmt}{ps:List Str}{h:Heap}{mg:W1}(F:FA K x st)(X:K.In h)(G:h.Ns mainGlobals mg)(j:∀(kV g b:Q3)(d:Option TD)(i e:Q3)(us:List Q3),us.length=ps.length->bindArgs (W.fnOf x x (bJ st) (aT st) (aD st) .none kV g b d i e) ⟨us,[]⟩=pure (ps.zip us):=by intro _ _ _ _ _ _;refine qAl ?_;(iterate 9 try intro _);rfl):DefAt K mg x st ps:=by
 refine yE0 F.ex (yE9 λf m d sl n kV o b p=>yE1 λe=>yA4 λa l c k=>?_);exact Zu X G a l c k j
structure MA(K:W.Frag)(C:TD)(m qual:Str)(st:Stmt):Prop where
 ex:∃(f:TD)(od an:Option TD)(sl:Array (Option Q3))(oc kV dc pm cd ct:Q3),W.findIn K (.ref C) m=some (some (.ref f))/\W.isFn K (.ref f)=true/\K.lookup f=some ⟨oc,od,.func (W.fnOf m qual (bJ st) (aT st) (aD st) .none kV dc pm an cd ct),sl⟩/\W.codeIn K cd qual=true/\W.keepIn K (.ref f)=true
def MA.of{K:W.Frag}{C:TD}{m b:Str}{st:Stmt}{f:TD}{e g:Option TD}{sl:Array (Option Q3)}{h kV j n d o:Q3}(a:W.findIn K (.ref C) m=some (some (.ref f)))(i:W.isFn K (.ref f)=true)(l:K.lookup f=some ⟨h,e,.func (W.fnOf m b (bJ st) (aT st) (aD st) .none kV j n g d o),sl⟩)(c:W.codeIn K d b=true)(k:W.keepIn K (.ref f)=true):MA K C m b st:=⟨f,e,g,sl,h,kV,j,n,d,o,a,i,l,c,k⟩
def MA.at{K:W.Frag}{C:TD}{m b:Str}{st:Stmt}{ps:List Str}(F:MA K C m b st)(n:Cls K C)(o:∀(kV h d:Q3)(e:Option TD)(j g:Q3)(us:List Q3),us.length=ps.length->bindArgs (W.fnOf m b (bJ st) (aT st) (aD st) .none kV h d e j g) ⟨us,[]⟩=pure (ps.zip us):=by intro _ _ _ _ _ _;refine qAl ?_;(iterate 9 try intro _);rfl):MethAt K C m b st ps:=by
 refine yE0 F.ex (yE9 λf p e sl q kV r d s=>yE1 λg=>yA5 λa i l c k=>?_);exact⟨n,_,_,sD l c k,⟨a,i,k⟩,(sD (st:=st) l c k).binds o⟩
def aAO{l:W.OpenLaw}{w:World}{K:W.Frag}{a0:Heap}{mg:W1}{fa O:TD}(X:K.In a0)(G:a0.Ns mainGlobals mg)(OY:mg "law"=some (.ref fa)){HY BK:Option TD}{HZ:Array (Option Q3)}{IA BL BN BO Q BP:Q3}(W2:FA K "is_name" lQ)(ni:FA K "is_key" oN)(R7:FA K "is_whole" jR)(F1:FA K "is_made_of" eG)(W3:FA K "is_deed" lR)(L9:FA K "fits_word" fO)(W4:FA K "asks_of" lS)(v8:FA K "done_changes" cU)(qx:FA K "early" rK)(A9:FA K "done_answer" dG)(F2:FA K "changes_of" gD)(R9:FA K "is_alive" jT)(qy:FA K "risen" gG)(F3:FA K "by_numbers" gH)(F4:FA K "first_book" eJ)(F5:FA K "risen_book" gJ)(F6:FA K "risen_kept" cX)(nq:FA K "folded" hV)(F7:FA K "still_kept" eM)(F8:FA K "came_again" gK)(W5:FA K "rows_of" lU)(F9:FA K "told_again" gP)(S0:FA K "_law_deck" jU)(S1:FA K "_law_draw" jV)(J0:FA K "_law_unlike" cM)(S2:FA K "_law_done" jW)(B0:FA K "_law_stirred" fI)(S3:FA K "_law_kept" jX)(J1:FA K "_law_looked" gQ)(BQ:W.nsIn K mainGlobals "law"=some (some (.ref O)))(BS:K.lookup O=some ⟨IA,HY,.func (W.fnOf "law" "law" (bJ mF) (aT mF) (aD mF) .none BL BN BO BK Q BP),HZ⟩)(BU:W.codeIn K Q "law"=true)(BV:W.keepIn K (.ref O)=true){b:TD}(qz:W.nsIn K mainGlobals "Keys"=some (some (.ref b)))(rb:W.plainGet K b Str.empty=true)(rg:W.hasDictIn K b=true)(rh:W.plainOver K b=true)(rl:W.findIn K (.ref b) "__setattr__"=some (some (.builtin "object.__setattr__")))(rm:W.makesIn K b=true)(rq:W.keepIn K (.ref b)=true)(M0:W.findIn K (.ref b) "life"=some none)(j3:W.findIn K (.ref b) "begun_ones"=some none)(e9:W.findIn K (.ref b) "settled_ones"=some none){y:TD}{W6 W7:Option TD}{W8:Array (Option Q3)}{W9 X0 X1 X2 E1 X3:Q3}(m7:W.findIn K (.ref b) "__init__"=some (some (.ref y)))(m8:W.isFn K (.ref y)=true)(m9:K.lookup y=some ⟨W9,W6,.func (W.fnOf "__init__" "Keys.__init__" (bJ bV) (aT bV) (aD bV) .none X0 X1 X2 W7 E1 X3),W8⟩)(n5:W.codeIn K E1 "Keys.__init__"=true)(K2:W.keepIn K (.ref y)=true)(M3:MA K b "look" "Keys.look" iF)(J2:MA K b "begin" "Keys.begin" gE)(B1:MA K b "settle" "Keys.settle" fE)(M4:MA K b "kept" "Keys.kept" iG)(S4:MA K b "end" "Keys.end" jS)(x9:MA K b "is_kept" "Keys.is_kept" eI){h:TD}(sh:W.nsIn K mainGlobals "Book"=some (some (.ref h)))(sj:W.plainGet K h Str.empty=true)(sm:W.hasDictIn K h=true)(sq:W.plainOver K h=true)(sr:W.findIn K (.ref h) "__setattr__"=some (some (.builtin "object.__setattr__")))(su:W.makesIn K h=true)(sv:W.keepIn K (.ref h)=true)(y3:W.findIn K (.ref h) "amounts"=some none){z:TD}{X4 X5:Option TD}{X6:Array (Option Q3)}{X7 X8 X9 Y0 E2 Y1:Q3}{I:TD}(n6:W.findIn K (.ref h) "__init__"=some (some (.ref z)))(n8:W.isFn K (.ref z)=true)(n9:K.lookup z=some ⟨X7,X4,.func (W.fnOf "__init__" "Book.__init__" (bJ bW) (aT bW) (aD bW) (.ref I) X8 X9 Y0 X5 E2 Y1),X6⟩)(p0:W.codeIn K E2 "Book.__init__"=true)(K3:W.keepIn K (.ref z)=true)(B2:MA K h "amount" "Book.amount" fF)(M5:MA K h "rows" "Book.rows" fP)(B3:MA K h "change" "Book.change" fG){EF:Option TD}{qj:List Q3}{EG:Nat}{BW:Array (Option Q3)}(ly:K.lookup I=some ⟨.type "tuple",EF,.seq (toArray qj) EG,BW⟩)(sy:qj=[.none]){g:TD}(S5:W.nsIn K mainGlobals "Journal"=some (some (.ref g)))(S6:W.plainGet K g Str.empty=true)(S7:W.hasDictIn K g=true)(S8:W.plainOver K g=true)(S9:W.findIn K (.ref g) "__setattr__"=some (some (.builtin "object.__setattr__")))(T1:W.makesIn K g=true)(T2:W.keepIn K (.ref g)=true)(j4:W.findIn K (.ref g) "written"=some none)(d6:W.findIn K (.ref g) "safe_count"=some none){A:TD}{P2 P4:Option TD}{P5:Array (Option Q3)}{P6 P7 P8 P9 u4 Q1:Q3}{J:TD}(i4:W.findIn K (.ref g) "__init__"=some (some (.ref A)))(i5:W.isFn K (.ref A)=true)(i6:K.lookup A=some ⟨P6,P2,.func (W.fnOf "__init__" "Journal.__init__" (bJ bL) (aT bL) (aD bL) (.ref J) P7 P8 P9 P4 u4 Q1),P5⟩)(i7:W.codeIn K u4 "Journal.__init__"=true)(y6:W.keepIn K (.ref A)=true)(p9:MA K g "write" "Journal.write" dO)(q9:MA K g "force" "Journal.force" dP)(y7:MA K g "fall" "Journal.fall" eN)(y8:MA K g "rows" "Journal.rows" eP)(y9:MA K g "safe" "Journal.safe" eQ){kh:Tok}{xw:Option TD}{V2:List Q3}{xx:Nat}{wo:Array (Option Q3)}(J3:K.lookup J=some ⟨.type "tuple",xw,.seq (toArray V2) xx,wo⟩)(T3:V2=[.str ("") kh]){f:TD}(xy:W.nsIn K mainGlobals "Run"=some (some (.ref f)))(ya:W.plainGet K f Str.empty=true)(yb:W.hasDictIn K f=true)(yc:W.plainOver K f=true)(yd:W.findIn K (.ref f) "__setattr__"=some (some (.builtin "object.__setattr__")))(ye:W.makesIn K f=true)(yf:W.keepIn K (.ref f)=true)(J4:W.findIn K (.ref f) "number"=some none)(M6:W.findIn K (.ref f) "asker"=some none)(Y2:W.findIn K (.ref f) "key"=some none)(T4:W.findIn K (.ref f) "deed"=some none)(M7:W.findIn K (.ref f) "stage"=some none)(M8:W.findIn K (.ref f) "place"=some none)(M9:W.findIn K (.ref f) "undos"=some none){B:TD}{kj kn:Option TD}{ko:Array (Option Q3)}{kq ku kz lb K4 lg:Q3}(z4:W.findIn K (.ref f) "__init__"=some (some (.ref B)))(z6:W.isFn K (.ref B)=true)(z7:K.lookup B=some ⟨kq,kj,.func (W.fnOf "__init__" "Run.__init__" (bJ cG) (aT cG) (aD cG) .none ku kz lb kn K4 lg),ko⟩)(z8:W.codeIn K K4 "Run.__init__"=true)(N1:W.keepIn K (.ref B)=true)(f7:MA K f "is_held_up_by" "Run.is_held_up_by" cD){e:TD}(Y3:W.nsIn K mainGlobals "Memory"=some (some (.ref e)))(Y4:W.plainGet K e Str.empty=true)(Y5:W.hasDictIn K e=true)(Y6:W.plainOver K e=true)(Y7:W.findIn K (.ref e) "__setattr__"=some (some (.builtin "object.__setattr__")))(Y8:W.makesIn K e=true)(Y9:W.keepIn K (.ref e)=true)(B4:W.findIn K (.ref e) "turn"=some none)(B5:W.findIn K (.ref e) "book"=some none)(j5:W.findIn K (.ref e) "standing"=some none)(B6:W.findIn K (.ref e) "runs"=some none)(d8:W.findIn K (.ref e) "next_number"=some none){D:TD}{T5 T6:Option TD}{T7:Array (Option Q3)}{T8 T9 U0 U1 z9 U2:Q3}(j6:W.findIn K (.ref e) "__init__"=some (some (.ref D)))(j7:W.isFn K (.ref D)=true)(j8:K.lookup D=some ⟨T8,T5,.func (W.fnOf "__init__" "Memory.__init__" (bJ bP) (aT bP) (aD bP) .none T9 U0 U1 T6 z9 U2),T7⟩)(j9:W.codeIn K z9 "Memory.__init__"=true)(A5:W.keepIn K (.ref D)=true)(J5:MA K e "put" "Memory.put" gL)(A0:MA K e "begin" "Memory.begin" eS)(B7:MA K e "hold" "Memory.hold" dH)(J6:MA K e "end" "Memory.end" gM){a:TD}(tf:W.nsIn K mainGlobals "Door"=some (some (.ref a)))(tj:W.plainGet K a Str.empty=true)(tm:W.hasDictIn K a=true)(ua:W.plainOver K a=true)(ub:W.findIn K (.ref a) "__setattr__"=some (some (.builtin "object.__setattr__")))(uc:W.makesIn K a=true)(ud:W.keepIn K (.ref a)=true)(N2:W.findIn K (.ref a) "name"=some none)(N3:W.findIn K (.ref a) "life"=some none)(B8:W.findIn K (.ref a) "houses"=some none)(A1:W.findIn K (.ref a) "journal"=some none)(B9:W.findIn K (.ref a) "memory"=some none){E:TD}{Z0 Z1:Option TD}{Z2:Array (Option Q3)}{Z3 Z4 Z5 Z6 E3 Z7:Q3}(r9:W.findIn K (.ref a) "__init__"=some (some (.ref E)))(t9:W.isFn K (.ref E)=true)(u0:K.lookup E=some ⟨Z3,Z0,.func (W.fnOf "__init__" "Door.__init__" (bJ bX) (aT bX) (aD bX) .none Z4 Z5 Z6 Z1 E3 Z7),Z2⟩)(u3:W.codeIn K E3 "Door.__init__"=true)(K5:W.keepIn K (.ref E)=true)(N4:MA K a "come" "Door.come" iH){F:TD}{ue uf:Option TD}{ug:Array (Option Q3)}{uh ui uj uk V3 um:Q3}{L:TD}(N5:W.findIn K (.ref a) "work"=some (some (.ref F)))(N6:W.isFn K (.ref F)=true)(N7:K.lookup F=some ⟨uh,ue,.func (W.fnOf "work" "Door.work" (bJ eC) (aT eC) (aD eC) (.ref L) ui uj uk uf V3 um),ug⟩)(i9:W.codeIn K V3 "Door.work"=true)(N8:W.keepIn K (.ref F)=true){Q5:Tok}{uo:Option TD}{N9:List Q3}{uq:Nat}{ph:Array (Option Q3)}(u5:K.lookup L=some ⟨.type "tuple",uo,.seq (toArray N9) uq,ph⟩)(J7:N9=[.str ("through") Q5])(i8:MA K a "write_first" "Door.write_first" cK)(k8:MA K a "write_done" "Door.write_done" cR)(J8:MA K a "force" "Door.force" gN)(O0:MA K a "fall" "Door.fall" iI)(O1:MA K a "rise" "Door.rise" iJ)(O2:MA K a "fold" "Door.fold" iK)(C0:MA K a "amount" "Door.amount" fH)(O3:MA K a "kept" "Door.kept" iM)(J9:MA K a "known" "Door.known" gO)(K0:W.nsIn K mainGlobals "isinstance"=some none)(BX:W.nsIn K mainGlobals "int"=some none)(yg:W.nsIn K mainGlobals "bool"=some none)(BY:W.nsIn K mainGlobals "str"=some none)(BZ:W.nsIn K mainGlobals "len"=some none)(CA:W.nsIn K mainGlobals "all"=some none)(ur:W.nsIn K mainGlobals "tuple"=some none)(yh:W.nsIn K mainGlobals "dict"=some none)(nu:W.nsIn K mainGlobals "sorted"=some none)(CB:W.nsIn K mainGlobals "max"=some none)(yi:W.nsIn K mainGlobals "list"=some none)(O5:W.nsIn K mainGlobals "enumerate"=some none)(CC:W.nsIn K mainGlobals "sum"=some none)(uv:W.nsIn K mainGlobals "range"=some none){zp:Tok}(Z8:W.nsIn K mainGlobals "LETTERS"=some (some (.str ("abcdefghijklmnopqrstuvwxyz") zp))){zq:Tok}(Z9:W.nsIn K mainGlobals "FIGURES"=some (some (.str ("0123456789") zq))){nv:Tok}(A2:W.nsIn K mainGlobals "LONGEST_NAME"=some (some (.int (8) nv))){pj:Tok}(C1:W.nsIn K mainGlobals "LONGEST_KEY"=some (some (.int (12) pj))){IB:Tok}(yj:W.nsIn K mainGlobals "MOST"=some (some (.int (1000000000000) IB))){Q2:Tok}(f9:W.nsIn K mainGlobals "LONGEST_DOOR_NAME"=some (some (.int (5) Q2))){R:TD}{O6:List DictEntry}{pq:Nat}(C3:W.nsIn K mainGlobals "NAME_COUNTS"=some (some (.ref R)))(C4:K.lookup R=some ⟨.type "dict",none,.dict (toArray O6) pq,#[]⟩)(C5:Tab w.params O6 (WS))(C6:(R==sysModules)=false){O7:TD}{E4:List Q3}{lj:Option TD}{ny:Nat}{lp:Array (Option Q3)}(A3:W.nsIn K mainGlobals "UNLIKE_WORDS"=some (some (.ref O7)))(A4:K.lookup O7=some ⟨.type "tuple",lj,.seq (toArray E4) ny,lp⟩)(l5:Vals (UW) E4){CD:TD}{wq:List Q3}{EH:Option TD}{IC:Nat}{EI:Array (Option Q3)}(yk:W.nsIn K mainGlobals "WAYS"=some (some (.ref CD)))(ym:K.lookup CD=some ⟨.type "tuple",EH,.seq (toArray wq) IC,EI⟩)(uw:Vals ([V.str "through",V.str "lost",V.str "unheard"]) wq)
  : ∃fd:FuncData,(∀(s:PP)(v:Q3),BindsTo s fd ⟨[v],[]⟩ [("_law_script",v)])/\∀base:Heap,K.In base->base.Ns mainGlobals mg->FnOk l.prog w K mg base sC 9 fa fd QZV (Fy K):=by
 have a2:=OY.symm.trans (W.mg_of X G BQ);cases a2;have T:Txt K mg:=⟨W.mg_none_of X G K0,W.mg_none_of X G BX,W.mg_none_of X G yg,W.mg_none_of X G BY,W.mg_none_of X G BZ,W.mg_none_of X G CA,W.mg_none_of X G ur,W.mg_none_of X G yh,W.mg_none_of X G nu,W.mg_none_of X G CB,W.mg_none_of X G yi,W.mg_none_of X G O5,W.mg_none_of X G CC,W.mg_none_of X G uv,⟨_,W.mg_of X G Z8⟩,⟨_,W.mg_of X G Z9⟩,⟨_,W.mg_of X G A2⟩,⟨_,W.mg_of X G C1⟩,⟨_,W.mg_of X G yj⟩,⟨_,W.mg_of X G f9⟩⟩;have a1:Top w.params K mg:=⟨⟨_,W.mg_of X G C3,⟨_,_,C4,C5,C6⟩⟩,⟨_,W.mg_of X G A3,λ_=>.inr ⟨_,_,_,A4,rfl,rfl,by rw[dX,<- l5.length];decide,l5⟩⟩,⟨_,W.mg_of X G yk,λ_=>.inr ⟨_,_,_,ym,rfl,rfl,by rw[dX,<- uw.length];decide,uw⟩⟩⟩;have p:Cls K b:=⟨rb,rg,rh,rl⟩;have ID:ClsAt K mg "Keys" b "Keys.__init__" bV QZK [[]]:=⟨y,_,_,W.mg_of X G qz,⟨_,_,_,_,_,_,_,_,_,rfl,m9,n5⟩,⟨rm,m7,m8,rq⟩,by
  intro d hd;obtain rfl:=Zms.mp hd;exact⟨[],λs i k j=>by replace j:i.length=2:=(by simpa using j);revert i;refine qAl ?_;intro _ _;exact BindsTo.of_eq rfl,.nil⟩⟩
 have M:Cls K h:=⟨sj,sm,sq,sr⟩;subst sy;have IE:ClsAt K mg "Book" h "Book.__init__" bW QZP [[],[.non]]:=⟨z,_,_,W.mg_of X G sh,⟨_,_,_,_,_,_,_,_,_,rfl,n9,p0⟩,⟨su,n6,n8,sv⟩,by
  intro d hd;rcases mem_cons.mp hd with rfl|hd
  ·exact⟨[],λs i k j=>by replace j:i.length=2:=(by simpa using j);revert i;refine qAl ?_;intro _ _;exact BindsTo.of_defaults (T:=I) rfl (k _ _ ly) rfl rfl rfl,.nil⟩
  obtain rfl:=Zms.mp hd
  ·exact⟨[.none],λs i k j=>by replace j:i.length=1:=(by simpa using j);revert i;refine qAl ?_;intro _;exact BindsTo.of_defaults (T:=I) rfl (k _ _ ly) rfl rfl rfl,(.cons rfl .nil)⟩⟩
 have u:Cls K g:=⟨S6,S7,S8,S9⟩;subst T3;have zw:ClsAt K mg "Journal" g "Journal.__init__" bL QZO [[],[.str ("":Str)]]:=⟨A,_,_,W.mg_of X G S5,⟨_,_,_,_,_,_,_,_,_,rfl,i6,i7⟩,⟨T1,i4,i5,T2⟩,by
  intro d hd;rcases mem_cons.mp hd with rfl|hd
  ·exact⟨[],λs i k j=>by replace j:i.length=2:=(by simpa using j);revert i;refine qAl ?_;intro _ _;exact BindsTo.of_defaults (T:=J) rfl (k _ _ J3) rfl rfl rfl,.nil⟩
  obtain rfl:=Zms.mp hd
  ·exact⟨[.str ("":Str) kh],λs i k j=>by replace j:i.length=1:=(by simpa using j);revert i;refine qAl ?_;intro _;exact BindsTo.of_defaults (T:=J) rfl (k _ _ J3) rfl rfl rfl,(.cons ⟨_,rfl⟩ .nil)⟩⟩
 have CH:Cls K f:=⟨ya,yb,yc,yd⟩;have NU:ClsAt K mg "Run" f "Run.__init__" cG QZY [[]]:=⟨B,_,_,W.mg_of X G xy,⟨_,_,_,_,_,_,_,_,_,rfl,z7,z8⟩,⟨ye,z4,z6,yf⟩,by
  intro d hd;obtain rfl:=Zms.mp hd;exact⟨[],λs i k j=>by replace j:i.length=6:=(by simpa using j);revert i;refine qAl ?_;intro _ _ _ _ _ _;exact BindsTo.of_eq rfl,.nil⟩⟩
 have H:Cls K e:=⟨Y4,Y5,Y6,Y7⟩;have CI:ClsAt K mg "Memory" e "Memory.__init__" bP QZS [[]]:=⟨D,_,_,W.mg_of X G Y3,⟨_,_,_,_,_,_,_,_,_,rfl,j8,j9⟩,⟨Y8,j6,j7,Y9⟩,by
  intro d hd;obtain rfl:=Zms.mp hd;exact⟨[],λs i k j=>by replace j:i.length=4:=(by simpa using j);revert i;refine qAl ?_;intro _ _ _ _;exact BindsTo.of_eq rfl,.nil⟩⟩
 have n:Cls K a:=⟨tj,tm,ua,ub⟩;subst J7;have xb:MethAtD K a "work" "Door.work" eC QZv [[],[.str ("through":Str)]]:=⟨n,F,_,_,⟨_,_,_,_,_,_,_,_,_,rfl,N7,i9⟩,⟨N5,N6,N8⟩,by
  intro d hd;rcases mem_cons.mp hd with rfl|hd
  ·exact⟨[],λs i k j=>by replace j:i.length=3:=(by simpa using j);revert i;refine qAl ?_;intro _ _ _;exact BindsTo.of_defaults (T:=L) rfl (k _ _ u5) rfl rfl rfl,.nil⟩
  obtain rfl:=Zms.mp hd
  ·exact⟨[.str ("through":Str) Q5],λs i k j=>by replace j:i.length=2:=(by simpa using j);revert i;refine qAl ?_;intro _ _;exact BindsTo.of_defaults (T:=L) rfl (k _ _ u5) rfl rfl rfl,(.cons ⟨_,rfl⟩ .nil)⟩⟩
 have IF:ClsAt K mg "Door" a "Door.__init__" bX QZG [[]]:=⟨E,_,_,W.mg_of X G tf,⟨_,_,_,_,_,_,_,_,_,rfl,u0,u3⟩,⟨uc,r9,t9,ud⟩,by
  intro d hd;obtain rfl:=Zms.mp hd;exact⟨[],λs i k j=>by replace j:i.length=4:=(by simpa using j);revert i;refine qAl ?_;intro _ _ _ _;exact BindsTo.of_eq rfl,.nil⟩⟩
 refine⟨W.fnOf "law" "law" (bJ mF) (aT mF) (aD mF) .none BL BN BO BK Q BP,λs v=>.of_eq rfl,λbase _ _=>?_⟩;have NV:=sD (st:=mF) BS BU BV;have o:Rg K a:=⟨n,N2,N3,B8,A1,B9⟩;have m:Fg K e:=⟨H,B4,B5,j5,B6,d8⟩;have q:Wq K f:=⟨CH,J4,M6,Y2,T4,M7,M8,M9⟩;have x:JT K g:=⟨u,j4,d6⟩;have r:We K h:=⟨M,y3⟩;have KT:Wi K b:=⟨p,M0,j3,e9⟩;have FW:=Ue (P:=l.prog) (w:=w) (mg:=mg) (base:=base) T (F1.at X G);have S:=Ch T FW (W2.at X G);have VO:=Ie T FW (ni.at X G);have cwh:=Oa (P:=l.prog) (w:=w) (mg:=mg) (base:=base) T (R7.at X G);have VP:=Uf T a1 S (L9.at X G);have NW:=Ci T VP cwh (W3.at X G);have FX:=Ug (P:=l.prog) (w:=w) (mg:=mg) (base:=base) T (W4.at X G);have cdc:=Cm (P:=l.prog) (w:=w) (mg:=mg) (base:=base) T (v8.at X G);have cdd:=rD (P:=l.prog) (w:=w) (mg:=mg) (base:=base) T (v8.at X G);have N:=yA (P:=l.prog) (w:=w) (mg:=mg) (base:=base) r (B2.at M);have cbr:=Ck (P:=l.prog) (w:=w) (mg:=mg) (base:=base) T r (M5.at M);have cbc:=Cl T r N (B3.at M);have cda:=tP T r cdc N (A9.at X G);have cea:=Ik T r cdc FX N cda (qx.at X G);have cco:=uR T cdd (F2.at X G);have cbi:=Ot (P:=l.prog) (w:=w) (mg:=mg) (base:=base) T r IE;have cal:=Oc (P:=l.prog) (w:=w) (mg:=mg) (base:=base) (R9.at X G);have cik:=Ig KT cal (x9.at p);have clo:=Uh KT cik (M3.at p);have cen:=aAs (P:=l.prog) (w:=w) (mg:=mg) (base:=base) KT (S4.at p);have cse:=Ih KT cen (B1.at p);have cbe:=Od (P:=l.prog) (w:=w) (mg:=mg) (base:=base) KT (J2.at p);have cki:=Ob (P:=l.prog) (w:=w) (mg:=mg) (base:=base) KT ID;have cby:=uS (P:=l.prog) (w:=w) (mg:=mg) (base:=base) (F3.at X G);have cfb:=uT (C:=h) T (cbi [] Zs) (F4.at X G);have crb:=uU T cfb cco cbc (F5.at X G);have crk:=uV (P:=l.prog) (w:=w) (mg:=mg) (base:=base) T (F6.at X G);have U:=Pj T cby crb cbr crk (qy.at X G);have csk:=Pn T cal (F7.at X G);have cca:=Iu T cby (F8.at X G);have cfd:=Iw T U cca csk (nq.at X G);have ckp:=Ui T KT cik (M4.at p);have cro:=Ap (P:=l.prog) (w:=w) (mg:=mg) (base:=base) T (W5.at X G);have cji:=Je T x cro zw;have Y:=Jf (P:=l.prog) (w:=w) (mg:=mg) (base:=base) x (p9.at u);have Z:=Jg (P:=l.prog) (w:=w) (mg:=mg) (base:=base) T x (q9.at u);have VT:=Pz (P:=l.prog) (w:=w) (mg:=mg) (base:=base) T x (y8.at u);have cjs:=Qa (P:=l.prog) (w:=w) (mg:=mg) (base:=base) x (y9.at u);have VU:=Vb (P:=l.prog) (w:=w) (mg:=mg) (base:=base) q NU;have che:=Qd (P:=l.prog) (w:=w) (mg:=mg) (base:=base) q (f7.at CH);have cpu:=aAF (c:=⟨a,e,f,g,h,b⟩) m cbe (VU [] Zs) (J5.at H);have cmb:=Jj (c:=⟨a,e,f,g,h,b⟩) m cpu (A0.at H);have chd:=Qe (c:=⟨a,e,f,g,h,b⟩) T m q che (B7.at H);have cme:=Vc (c:=⟨a,e,f,g,h,b⟩) m q r cco cbc cse (J6.at H);have cmi:=aAG (c:=⟨a,e,f,g,h,b⟩) m (cbi [] Zs) cbe cse (cki [] Zs) CI;have cdi:=Ql (c:=⟨a,e,f,g,h,b⟩) T o S (cji [.str ("":Str)] Zs) (Vd U) (aAH (cmi [] Zs)) IF;have t:=Qm (P:=l.prog) (w:=w) (mg:=mg) (base:=base) (c:=⟨a,e,f,g,h,b⟩) o (J9.at n);have cag:=Qo (P:=l.prog) (w:=w) (mg:=mg) (base:=base) (F9.at X G);have VV:=Cw (c:=⟨a,e,f,g,h,b⟩) m t N (C0.at n);have VW:=Qq (c:=⟨a,e,f,g,h,b⟩) m t ckp (O3.at n);have VX:=Qb (P:=l.prog) (w:=w) (mg:=mg) (base:=base) x Z (y7.at u);have cfa:=Qr (c:=⟨a,e,f,g,h,b⟩) o t VX (O0.at n);have crs:=Qw (c:=⟨a,e,f,g,h,b⟩) T o m VT U (cmi [] Zs) (O1.at n);have VY:=Qx (c:=⟨a,e,f,g,h,b⟩) T o m t VT cjs (cji [.str ("":Str)] Zs) Y Z cfd (O2.at n);have ccm:=Vg (c:=⟨a,e,f,g,h,b⟩) T o m t S VO NW FX clo cag cmb Y (N4.at n);have cwd:=Qs (c:=⟨a,e,f,g,h,b⟩) o m q Y (k8.at n);have cwf:=Jl (c:=⟨a,e,f,g,h,b⟩) o m q cea cwd (i8.at n);have cwk:=Vh (c:=⟨a,e,f,g,h,b⟩) a1 m q t chd cwf xb;have VZ:=Qv (c:=⟨a,e,f,g,h,b⟩) o t cjs Z VT cme (J8.at n);have cdk:=Uj (P:=l.prog) (w:=w) (mg:=mg) (base:=base) T (S0.at X G);have WA:=Oi (P:=l.prog) (w:=w) (mg:=mg) (base:=base) (S1.at X G);have cul:=Ii T WA (J0.at X G);have cdo:=Jm (c:=⟨a,e,f,g,h,b⟩) T (cwk [.str ("through":Str)] Zs) VZ (S2.at X G);have cst:=Vk (c:=⟨a,e,f,g,h,b⟩) WA cfa crs VZ VY (B0.at X G);have clk:=Jp (P:=l.prog) (w:=w) (mg:=mg) (base:=base) T (S3.at X G);have WB:=Jr (c:=⟨a,e,f,g,h,b⟩) T ccm cdo VW clk VV (J1.at X G);exact aAN (c:=⟨a,e,f,g,h,b⟩) T cdk WA cul (cdi [] Zs) ccm cdo cst WB VZ NV
def aCX{l:W.OpenLaw}{q:Program}{g:List Str}{i:(Str->Option Q3)->Heap->Prop}{b:World->Heap->Prop}{d:DefRec}{K:Params->W.Frag}(j:l.most=some 63)(m:d.params.defaults=[])(o:∀(w:World)(h:Heap),b w h->(K w.params).In h)(F:∀(w:World)(mg:W1)(c:TD)(h:Heap),(K w.params).In h->h.Ns mainGlobals mg->mg d.name=some (.ref c) →
   ∃e:FuncData,(∀(s:PP)(u:Q3),BindsTo s e ⟨[u],[]⟩ [("_law_script",u)])/\∀base:Heap,(K w.params).In base->base.Ns mainGlobals mg->FnOk l.prog w (K w.params) mg base sC 9 c e QZV (Fy (K w.params))) :
  W.WalkO q g i b l.row.toRowW d [] (λf vs=>PySem.call f vs):=
 L2.Dt (n:=63) (k:=9) (x:="_law_script") (CX:=λ_=>sC) (sp:=λw=>Fy (K w.params)) j Zd m ⟨rfl,Zd,Zd⟩ o F (λ_ _ a p r _ t=>⟨a,p,rfl,t,r,λ_=>rfl⟩) λ_ _ _ _ _ z=>z
end KL
namespace PySem.W.Fast
def tw5798542075406373235:=0
def tw12842666882478561170:=0
def tw1656884347341610027:=0
def tw2922335332248215037:=0
def tw4655973768963800799:=0
def tw4959561361790893783:=0
def tw16450373576862560956:=0
def tw6985576528619833225:=0
def tw12719911895407812527:=0
def tw2829569775179775219:=0
def tw9342170407094255794:=0
def tw1500100081092817752:=0
def tw6115152284245881111:=0
def tw8055150620361127313:=0
def tw2846179952619350809:=0
def tw4133781760553431188:=0
def tw17279414080138748889:=0
def tw10563549462176622633:=0
def tw11026715035246070608:=0
def tw4372472005977297230:=0
def tw13189056459906535482:=0
def tw1607452922754067883:=0
def tw7775019832107882476:=0
def tw3800873995147909465:=0
def tw15630568518130301253:=0
def tw16706761266747281469:=0
def tw5327864426765746785:=0
def tw243012568686124427:=0
def tw11036305534071225373:=0
def tw18060586875456182327:=0
def tw3361254660649403198:=0
def tw5753603659005101049:=0
def tw445100385648213554:=0
def tw16711402919238859475:=0
def tw1319888436585758837:=0
def tw3523139740512019379:=0
def tw18159017666991480426:=0
def tw8717448876751291804:=0
def tw14595800334971579404:=0
def tw5491173180345120275:=0
def tw2298867173593415165:=0
def tw1148095948581665121:=0
def tw12249931926999315279:=0
def tw14911166966014191348:=0
def tw16251407619106431208:=0
def tw10017683454822595696:=0
def tw14045659547551133136:=0
def tw4597732827800969512:=0
def tw12475426487288089945:=0
def tw2337447887388992738:=0
def tw13270381809152454925:=0
def tw16112371345081161385:=0
def tw16141482654162184167:=0
def tw18368159155263993210:=0
def tw1477231654994244107:=0
def tw15035180731043010721:=0
def tw17723271979034550472:=0
def tw15396999393775899044:=0
def tw10216019568539728055:=0
def tw6218693444527692041:=0
def tw3900012355003914076:=0
def tw10477342833841197869:=0
def tw10720110558117905207:=0
def tw8830036109077465080:=0
def tw11895041202804723087:=0
def tw6067714856577716032:=0
def tw9485994334995823174:=0
def tw11536814848984602314:=0
def tw4729845485428323354:=0
def tw7688393667542019092:=0
def tw18366295432680802763:=0
def tw17078996951936443483:=0
def tw411390789631725670:=0
def tw14356927729147975400:=0
def tw143806142304547988:=0
def tw9044866829418813803:=0
def tw7975888664615953478:=0
def tw11872354538020685262:=0
def tw1634609100576740751:=0
def tw15368165384130488862:=0
def tw10448264882621316724:=0
def tw11416574920449124529:=0
def tw11475781747979875755:=0
def tw8561359644309225513:=0
def tw17108578366976862164:=0
def tw11607211173012080749:=0
def tw11714989551761036793:=0
def tw10561785710101461828:=0
def tw4895700101585679976:=0
def tw11342169595404405955:=0
def tw1645688890402554538:=0
def tw6162501080388704139:=0
def tw12058904878030502267:=0
def tw6414665369995251836:=0
def tw17788900765447491610:=0
def tw12779833754516073965:=0
def tw3204933265392054082:=0
def tw855535901178635460:=0
def tw1380189937662577869:=0
def tw17232641406343071127:=0
def tw6894896728046189342:=0
def tw17602076484918520178:=0
def tw6441025073429304634:=0
def tw5354105471918174438:=0
def tw7684891611899821579:=0
def tw5854343407122818027:=0
def tw4468743284370238573:=0
def tw12798438205010198622:=0
def tw15984154594909097491:=0
def tw11377800320456898184:=0
def tw5755198651250597462:=0
def tw17073316066956046797:=0
def tw8982032966691582769:=0
def tw4405397470322868452:=0
def tw5119481207539894696:=0
def tw14732814168619270971:=0
def tw10237769664984024077:=0
def tw6090466606028370552:=0
def tw1887130439391142372:=0
def tw13015321128166728720:=0
def tw3103822069995266972:=0
def tw3379302001348906543:=0
def tw17283301131789944221:=0
def tw13278367515265120610:=0
def tw13175521510515066316:=0
def tw3488398769813174889:=0
def tw15232130539170080375:=0
def tw15613764589562064026:=0
def tw13677119452360575232:=0
def tw10237631912042381309:=0
def tw8574737442085021929:=0
def tw1960841328596601873:=0
def tw5182662641888741283:=0
def tw12609705568689542139:=0
def tw4413113893031450081:=0
def tw10937207789478776821:=0
def tw17067942104418541964:=0
def tw1933991846556216189:=0
def tw5832655098143770770:=0
def tw16268355709438994660:=0
def tw7176443300659332594:=0
def tw8467070081382983038:=0
def tw13237041113461404372:=0
def tw12433965460741921841:=0
def tw14853052729291444239:=0
def tw8415144986227183588:=0
def tw10963570489798313077:=0
def tw866440908048183114:=0
def tw1550693913786816088:=0
def tw1823005494340559386:=0
def tw9325581723328193932:=0
def tw5288223453674337407:=0
def tw1449367745749570939:=0
def tw11801673433389604152:=0
def tw15410357388382352992:=0
def tw9063685346341169486:=0
def tw12284582057058618849:=0
def tw10468024154330294531:=0
def tw15030958512891295933:=0
def tw7702989784907676484:=0
def tw15125301548097185777:=0
def tw3410992868534110376:=0
def tw14891423058165226472:=0
def tw929560982147822597:=0
def tw5142011755387565430:=0
def tw10556441818699834406:=0
def tw4454450038303142137:=0
def tw11658638432385238632:=0
def tw12366954561464156051:=0
def tw18289681267861782064:=0
def tw4783845281214087752:=0
def tw4487984790785029142:=0
def tw3773809212949011087:=0
def tw853759670607495469:=0
def tw500607418314489040:=0
def tw8681068976608863244:=0
def tw6993293671428737056:=0
def tw7583467775018088031:=0
def tw9461222338491686429:=0
def tw2455036910356621969:=0
def tw13532155827193558292:=0
def tw113959915977235606:=0
def tw6910944421681681510:=0
def tw6341133512905856637:=0
def tw3366901700987622425:=0
def tw2733977100652288094:=0
def tw2199484993911201812:=0
def tw5405026502408011665:=0
def tw9940023767494103690:=0
def tw7573692627422929889:=0
def tw1765319581368597752:=0
def tw7736939226803642161:=0
def tw17013075445753032192:=0
def tw14318304653325409640:=0
def tw18049905970555154014:=0
def tw3064151452516422315:=0
def tw1714319628571735726:=0
def tw15644486124288694706:=0
def tw9923542375031664984:=0
def tw7560800957851983620:=0
def tw4183923591786477514:=0
def tw10064176150936562721:=0
def tw361673831494408902:=0
def tw9533900805527528072:=0
def tw3156838697976892250:=0
def tw9938210372327688333:=0
def tw8597750837181946490:=0
def tw10015976194804410148:=0
def tw2451279696548943583:=0
def tw696072457292527032:=0
def tw9655523810862380086:=0
def tw11533482741510182679:=0
def tw10109402383512565849:=0
def tw4404881211811211802:=0
def tw15383368140593962949:=0
def tw10489160151928506339:=0
def tw4454725427005333065:=0
def tw9737252445342819414:=0
def tw198956461079645791:=0
def tw15722962353592274559:=0
def tw16221322854884035857:=0
def tw2999196100358199718:=0
def tw12537718461939749293:=0
def tw2531069233902141466:=0
def tw4552884852360709028:=0
def tw5859563884050807119:=0
def tw2165498824875334597:=0
def tw8648949879962278226:=0
def tw6675198201004872790:=0
def tw14135017836599687804:=0
def tw8931361097902086207:=0
def tw13530597626571630734:=0
def tw6622981270850912986:=0
def tw11327252985217799204:=0
def tw9702496699310266686:=0
def tw11634991664543660925:=0
def tw15340106016406790958:=0
def tw10028917003207109976:=0
def tw11457704088874109399:=0
def tw8107979493027192103:=0
def tw9193946672536953319:=0
def tw7616420106736074347:=0
def tw16340154843853358225:=0
def tw307263198721541866:=0
def tw13788913048511332059:=0
def tw13347302787270018361:=0
def tw2970597363377319419:=0
def tw1728582140697117889:=0
def tw11632311847701799351:=0
def tw1540753109071629265:=0
def tw11917769400766657097:=0
def tw1136205345590405401:=0
def tw10178905529533493046:=0
def tw9285551861883095857:=0
def tw15895009138404804737:=0
def tw4821413988680451829:=0
def tw11646645947386530846:=0
def tw9497554103863302263:=0
def tw12683762647002440920:=0
def tw12704093278456321407:=0
def tw7376815419481103888:=0
def tw12647627426807949369:=0
def tw16871334381053418365:=0
def tw8928338163370760242:=0
def tw3309850958745721468:=0
def tw17309116466316462960:=0
def tw12937261522055398287:=0
def tw12085992954481009072:=0
def tw5352631053888751373:=0
def tw4033191921406609821:=0
def tw13006611481803291446:=0
def tw16368808693790591082:=0
def tw10116027713346960559:=0
def tw7248769843062257387:=0
def tw9023115099232604897:=0
def tw4963669147741649035:=0
def tw11298043260985957314:=0
def tw5565364101932684212:=0
def tw6898919194624476954:=0
def tw1783880828925661784:=0
def tw8452825472241215067:=0
def tw9926009604436265191:=0
def tw10361543563544767643:=0
def tw23254775872377438:=0
def tw15767970315116883493:=0
def tw9396239828737409830:=0
def tw18000392294805784050:=0
def tw15548428829590149713:=0
def tw10540061820953646257:=0
def tw2968447784531174153:=0
def tw15678248713257149935:=0
def tw786869907114948710:=0
def tw2131890825827710881:=0
def tw12975974464856214563:=0
def tw15764599386193722079:=0
def tw11833441881318348740:=0
def tw18294701884733949511:=0
def tw6416766897624833655:=0
def tw11004742653160190782:=0
def tw7682943213885749351:=0
def tw17594441611504768942:=0
def tw13984653967166955386:=0
def tw10122892843915057435:=0
def tw13899748665451894886:=0
def tw6377667172526223624:=0
def tw384983563347017874:=0
def tw9045363893351369702:=0
def tw9802345151207395497:=0
def tw3323344139057278614:=0
def tw18074515846641692953:=0
def tw10893529162133113625:=0
def tw8166341881140979019:=0
def tw4556365801887440969:=0
def tw4283126416487572002:=0
def tw3787769554514018769:=0
def tw2325510888499461640:=0
def tw2162292992154243009:=0
def tw17123359566931534232:=0
def tw11582527618630149774:=0
def tw10002728874945913515:=0
def tw8101742872451304338:=0
def tw3141941587998166942:=0
def tw17731524318121408772:=0
def tw14678672287364338845:=0
def tw13132616280312184473:=0
def tw8899937866748615324:=0
def tw3850906970065884274:=0
def tw10165678530680323573:=0
def tw392192169679031908:=0
def tw2165752128489505077:=0
def tw4790087653465753222:=0
def tw524642962571448152:=0
def tw7948639156429972419:=0
def tw18290470866704407462:=0
def tw18074691329240750024:=0
def tw5719928096622621159:=0
def tw4705060153067374792:=0
def tw3265084431628923199:=0
def tw2648425229329449619:=0
def tw17138865181897716042:=0
def tw14783185423663466985:=0
def tw10964095515881649613:=0
def tw10728332070524723057:=0
def tw819310645759229205:=0
def tw12123782588198507968:=0
def tw4656347953459555166:=0
def tw3360597078073876070:=0
def tw2632777465426684935:=0
def tw1238827411038205449:=0
def tw11525534385232308333:=0
def tw8225457786834294540:=0
def tw6810104635417278616:=0
def tw2191017694569545852:=0
def tw17407927621378806024:=0
def tw2976628345650814829:=0
def tw1995849571032972728:=0
def tw18129470842129783740:=0
def tw3772505426253699181:=0
def tw2725669757818121171:=0
def tw12876459113900616468:=0
def tw11956662668038490276:=0
def tw12621970992112279575:=0
def tw8386388515723797971:=0
def tw16304660346023436566:=0
def tw2802866681921906814:=0
def tw2647674559792266792:=0
def tw14687481741584802590:=0
def tw6084101225526319278:=0
def tw559323375609473072:=0
def tw1629862863248424998:=0
def tw13880578210314848430:=0
def tw539633905624706107:=0
def tw17534494391604366399:=0
def tw1643929445297470229:=0
def tw12145050454713636348:=0
def tw12080141033923292209:=0
def tw2754807841372442687:=0
def tw7514851568967376860:=0
def tw5151090497306548235:=0
def tw15520907228255824591:=0
def tw13455640862301296296:=0
def tw3470392682941078274:=0
def tw6582714666445350376:=0
def tw5379025387143551737:=0
def tw2795080160710186126:=0
def tw2287155838459215603:=0
def tw13061708069422619134:=0
def tw10780574926298161376:=0
def tw4524310872905439011:=0
def tw8954680960909561941:=0
def tw677711508576015824:=0
def tw5145225417836366972:=0
def tw4067452026355533702:=0
def tw15477481173892656028:=0
def tw13778560615018596897:=0
def tw10263130877702427520:=0
def tw3673571934754222416:=0
def tw14036787193331521341:=0
def tw9854847554304237784:=0
def tw8006093189449211014:=0
def tw5289135227785746764:=0
def tw18367093507778600367:=0
def tw12988589083961428551:=0
def tw12984822751867954562:=0
def tw10903886361608920710:=0
def tw6583428324972052295:=0
def tw2194654498875651663:=0
def tw14227983990292464937:=0
def tw7925871916599310439:=0
def tw14296861852521664153:=0
def tw1237006603488219873:=0
def tw2630405775322212645:=0
def tw2406388105936128007:=0
def tw15368869966379968201:=0
def tw6243296795068034177:=0
def tw11528277229621030518:=0
def tw8294781330436574263:=0
def tw17484063897521365998:=0
def tw17941175540892183715:=0
def tw14204123485919413151:=0
def tw13810523847209648870:=0
def tw1981544879705072772:=0
def tw7068944246407581528:=0
def tw3508423604885496529:=0
def tw4215172915891129055:=0
def tw15896240437072236794:=0
def tw5328896492260801965:=0
def tw12054132540442691903:=0
def tw7704340680278096033:=0
def tw11633862948462599183:=0
def tw1688708632458202641:=0
def tw11818815641825862031:=0
def tw11172281983594054783:=0
def tw9015981538543556944:=0
def tw13436229257160924851:=0
def tw18088184795938256608:=0
def tw9931472976025246565:=0
def tw115288649020982330:=0
def tw16790938192839866898:=0
def tw9441572992162836677:=0
def tw2424605915338988688:=0
def tw10707563419822213827:=0
def tw1057096446566893411:=0
def tw17528180465043194085:=0
def tw17285467776721844417:=0
def tw12673708847850221487:=0
def tw9396826026037861041:=0
def tw6017651859363175049:=0
def tw10011607492946704999:=0
def tw9218171918346151373:=0
def tw14528354139990836247:=0
def tw9701886000412344186:=0
def tw10116259617192118603:=0
def tw9981036489862555944:=0
def tw9927071088858585989:=0
def tw9657209334795070439:=0
def tw926454077575233185:=0
def tw9004857794074680923:=0
def tw8903783965464092082:=0
def tw7066473134241359680:=0
def tw6251630111606736296:=0
def tw5454588474800849871:=0
def tw5287020796869322582:=0
def tw4726811014330180326:=0
def tw4581749350313561670:=0
def tw412454973135826923:=0
def tw3769169235464373187:=0
def tw2204203097601641277:=0
def tw18079358823226181431:=0
def tw17834530351068321049:=0
def tw17199151145954683357:=0
def tw16595528338602799267:=0
def tw15367705207564828018:=0
def tw14428743238908733668:=0
def tw14240917707155201745:=0
def tw13637508939327375349:=0
def tw13139547163510407415:=0
def tw12859393944164786717:=0
def tw12067197304084324372:=0
def tw11480094810734439997:=0
def tw1085719148803502691:=0
def tw10235661994714363503:=0
def tw10193217781753649992:=0
def tw16838665534225933161:=0
def tw4810111089530674154:=0
def tw14270372239841367417:=0
def tw10041699399413000808:=0
def tw2802665637788251388:=0
def tw17539996955770382428:=0
def tw9883183813647850512:=0
def tw8948385741543072881:=0
def tw3308846560602133139:=0
def tw17221648050713486326:=0
def tw13343446027709570775:=0
def tw18433778619861198938:=0
def tw18139007012879228940:=0
def tw9438088672510679047:=0
def tw2105407980724243321:=0
def tw18274251353781805975:=0
def tw6607180349300812210:=0
def tw5774878033228376806:=0
def tw2973902564594296625:=0
def tw2114211079436322609:=0
def tw2108485511696863071:=0
def tw16339190244220549691:=0
def tw7743786779119199944:=0
def tw7382194651983230518:=0
def tw7181828920220885567:=0
def tw16497305579362597141:=0
def tw8941228618517295503:=0
def tw7697034724058237111:=0
def tw7040546437469439223:=0
def tw4637195357073497988:=0
def tw3464774283904510278:=0
def tw2386747631975597882:=0
def tw17375769209408374797:=0
def tw16911949892958545974:=0
def tw15540818046908435950:=0
def tw1437054753999528378:=0
def tw13796289895040434748:=0
def tw11290620280497808011:=0
def tw10500364039208786419:=0
def tw10032797542755248565:=0
def tw15219862640974703720:=0
def tw3193164315623504168:=0
def tw3098457904809320195:=0
def tw10951068805436980395:=0
def tw9404449775643989448:=0
def tw9382297102319636353:=0
def tw8250549902439171728:=0
def tw7835743156576432797:=0
def tw779999875589435896:=0
def tw7424219989317624715:=0
def tw6962587924690986614:=0
def tw651245695115133246:=0
def tw6465665047815727528:=0
def tw5571341623564177896:=0
def tw5423963518035612355:=0
def tw5341217243489958662:=0
def tw490234437522793232:=0
def tw4802661261674167386:=0
def tw4607409849260503562:=0
def tw4270979720129678198:=0
def tw421859419773203237:=0
def tw3076987540391413841:=0
def tw2652764073088943427:=0
def tw17888950493896097972:=0
def tw17706868066303299530:=0
def tw17403743038755020352:=0
def tw16394615745393894438:=0
def tw15176671941310608645:=0
def tw14934290134323275706:=0
def tw14889024651826821849:=0
def tw14608143394434349605:=0
def tw14043613001489376931:=0
def tw1390919783997814596:=0
def tw134220325237010911:=0
def tw13332988916223974732:=0
def tw12617497470871363499:=0
def tw12331862990895377000:=0
def tw12282074332451741985:=0
def tw11788883119429545293:=0
def tw1155933840449256782:=0
def tw11249769127590228004:=0
def tw1123916313432527938:=0
def tw10664241595242228373:=0
def tw10374389233906434473:=0
def tw1029509973971998076:=0
def tw2754365463997601623:=0
def tw4599320002068831410:=0
def tw16280650026326949980:=0
def tw6021174798631180233:=0
def tw3604089998126435279:=0
def tw4654278280809589920:=0
def tw4333054241476386120:=0
def tw16434463903954862148:=0
def tw4204257677073612867:=0
def tw409807373482659557:=0
def tw2237805544360280352:=0
def tw14353086478019406633:=0
def tw3911091895452540729:=0
def tw5441986809536604607:=0
def tw1851282690142196996:=0
def tw1680779871313611584:=0
def tw14484473380345428526:=0
def tw9368310100074019331:=0
def tw8844697553574006385:=0
def tw8536269688429151592:=0
def tw7899364258639785087:=0
def tw7888714701267583944:=0
def tw7814633537497905190:=0
def tw6602217085160074238:=0
def tw18198729352600441554:=0
def tw17986935647186292413:=0
def tw16325099139094603836:=0
def tw13501171206371544717:=0
def tw13110068401719459854:=0
def tw12549774707427035417:=0
def tw12486760817877141834:=0
def tw5778102018773113971:=0
def tw5727575919617329678:=0
def tw10133884490663341441:=0
def tw5550382181945234691:=0
def tw1857801570623722672:=0
def tw15113702930686972493:=0
def tw13601742588311763176:=0
def tw13099780015369234276:=0
def tw12677873179160120918:=0
def tw3464008980862664535:=0
def tw3217075219535157361:=0
def tw15638888306800950382:=0
def tw10476892608179215443:=0
def tw9640871947628532733:=0
def tw9941566010685046863:=0
def tw11940364398414399438:=0
def tw7658675952575331018:=0
def tw16946946953291520772:=0
def tw5499358173723088610:=0
def tw9383356230240728474:=0
def tw6469591826431967938:=0
def tw9785603883523618001:=0
def tw9784405178842623067:=0
def tw9525779215625657628:=0
def tw8472429794709553044:=0
def tw7452281694365531603:=0
def tw6830389963840836492:=0
def tw6756957695950983558:=0
def tw6049965959193379599:=0
def tw5866184792142276809:=0
def tw428435696428856561:=0
def tw3838728753995127192:=0
def tw3522490114478159569:=0
def tw321586025341641391:=0
def tw3065998611615516393:=0
def tw2390595086585054721:=0
def tw17982695450485286747:=0
def tw17979365141595680006:=0
def tw17904555137773495860:=0
def tw17355584703728071833:=0
def tw16534223408047987249:=0
def tw16024644096287340342:=0
def tw15214703738383480251:=0
def tw14651999282020507268:=0
def tw14568410544352107770:=0
def tw14371044461184616070:=0
def tw11513446768410928279:=0
def tw11218949900011651122:=0
def tw11130288037102588088:=0
def tw11067869979950689865:=0
def tw8602780745649039396:=0
def tw6695848801505025354:=0
def tw2941036779303433736:=0
def tw12699219534043909245:=0
def tw6267164451871445021:=0
def tw9894119799562379420:=0
def tw8937448955196986365:=0
def tw6301727220863834106:=0
def tw4925796494593184212:=0
def tw4642597181817848648:=0
def tw2509738939787435100:=0
def tw211059723057435501:=0
def tw18335800883241713942:=0
def tw17866734975167141313:=0
def tw1706314289903812502:=0
def tw1582485589787872922:=0
def tw1530622718461098562:=0
def tw14206836464899732670:=0
def tw12898506880713652259:=0
def tw12735046921394219072:=0
def tw12121588226933819916:=0
def tw1162233236706461659:=0
def tw11521718893829713810:=0
def tw11201515208860302201:=0
def tw1110245098897434485:=0
def tw11078119391036228461:=0
def tw9858969041238383260:=0
def tw9258698497810971869:=0
def tw8295741708214898361:=0
def tw75506245675730797:=0
def tw7387342730755044025:=0
def tw3553429416382182518:=0
def tw2807390494882283930:=0
def tw16684102443640858223:=0
def tw16019332752801237583:=0
def tw13703615805683026427:=0
def tw12389054258835040197:=0
def tw1133307141769749913:=0
def tw11118342591004186274:=0
end PySem.W.Fast
open PySem PySem.W PyProof.Rows
set_option maxRecDepth 100000 in
set_option maxHeartbeats 0 in
theorem PySem.Challenge.cw_oncedoor_k94_whole_lives_holds : PySem.Challenge.rw_oncedoor_k94_whole_lives.Holds := by
 w_on;o_law;k_head;(case hw=>w_witness2)
 k_fill
 refine KL.aCX (l:=PySem.Challenge.rw_oncedoor_k94_whole_lives) rfl rfl (λw h Y=>W.kIn_of Y) ?F
 case F=>
  intro w mg fa h KX G ER;refine' KL.aAO KX G ER ?W2 ?ni ?R7 ?F1 ?W3 ?L9 ?W4 ?v8 ?qx ?A9 ?F2 ?R9 ?qy ?F3 ?F4 ?F5 ?F6 ?nq ?F7 ?F8 ?W5 ?F9 ?S0 ?S1 ?J0 ?S2 ?B0 ?S3 ?J1 ?BQ ?BS ?BU ?BV ?qz ?rb ?rg ?rh ?rl ?rm ?rq ?M0 ?j3 ?e9 ?m7 ?m8 ?m9 ?n5 ?K2 ?M3 ?J2 ?B1 ?M4 ?S4 ?x9 ?sh ?sj ?sm ?sq ?sr ?su ?sv ?y3 ?n6 ?n8 ?n9 ?p0 ?K3 ?B2 ?M5 ?B3 ?ly ?sy ?S5 ?S6 ?S7 ?S8 ?S9 ?T1 ?T2 ?j4 ?d6 ?i4 ?i5 ?i6 ?i7 ?y6 ?p9 ?q9 ?y7 ?y8 ?y9 ?J3 ?T3 ?xy ?ya ?yb ?yc ?yd ?ye ?yf ?J4 ?M6 ?Y2 ?T4 ?M7 ?M8 ?M9 ?z4 ?z6 ?z7 ?z8 ?N1 ?f7 ?Y3 ?Y4 ?Y5 ?Y6 ?Y7 ?Y8 ?Y9 ?B4 ?B5 ?j5 ?B6 ?d8 ?j6 ?j7 ?j8 ?j9 ?A5 ?J5 ?A0 ?B7 ?J6 ?tf ?tj ?tm ?ua ?ub ?uc ?ud ?N2 ?N3 ?B8 ?A1 ?B9 ?r9 ?t9 ?u0 ?u3 ?K5 ?N4 ?N5 ?N6 ?N7 ?i9 ?N8 ?u5 ?J7 ?i8 ?k8 ?J8 ?O0 ?O1 ?O2 ?C0 ?O3 ?J9 ?K0 ?BX ?yg ?BY ?BZ ?CA ?ur ?yh ?nu ?CB ?yi ?O5 ?CC ?uv ?Z8 ?Z9 ?A2 ?C1 ?yj ?f9 ?C3 ?C4 ?C5 ?C6 ?A3 ?A4 ?l5 ?yk ?ym ?uw
  case W2|ni|R7|F1|W3|L9|W4|v8|qx|A9|F2|R9|qy|F3|F4|F5|F6|nq|F7|F8|W5|F9|S0|S1|J0|S2|B0|S3|J1=>refine' KL.FA.of ?a ?l ?c ?k;(case a=>k_is);(case l=>k_is);(case c=>k_is);case k=>k_is
  case BQ|BS|BU|BV|qz|rb|rg|rh|rl|rm|rq|M0|j3|e9|m7|m8|m9|n5|K2=>k_is
  case M3|J2|B1|M4|S4|x9=>refine' KL.MA.of ?a ?i ?l ?c ?k;(case a=>k_is);(case i=>k_is);(case l=>k_is);(case c=>k_is);case k=>k_is
  case sh|sj|sm|sq|sr|su|sv|y3|n6|n8|n9|p0|K3=>k_is
  case B2|M5|B3=>refine' KL.MA.of ?a ?i ?l ?c ?k;(case a=>k_is);(case i=>k_is);(case l=>k_is);(case c=>k_is);case k=>k_is
  case ly=>k_is
  case sy=>exact rfl
  case S5|S6|S7|S8|S9|T1|T2|j4|d6|i4|i5|i6|i7|y6=>k_is
  case p9|q9|y7|y8|y9=>refine' KL.MA.of ?a ?i ?l ?c ?k;(case a=>k_is);(case i=>k_is);(case l=>k_is);(case c=>k_is);case k=>k_is
  case J3=>k_is
  case T3=>exact rfl
  case xy|ya|yb|yc|yd|ye|yf|J4|M6|Y2|T4|M7|M8|M9|z4|z6|z7|z8|N1=>k_is
  case f7=>refine' KL.MA.of ?a ?i ?l ?c ?k;(case a=>k_is);(case i=>k_is);(case l=>k_is);(case c=>k_is);case k=>k_is
  case Y3|Y4|Y5|Y6|Y7|Y8|Y9|B4|B5|j5|B6|d8|j6|j7|j8|j9|A5=>k_is
  case J5|A0|B7|J6=>refine' KL.MA.of ?a ?i ?l ?c ?k;(case a=>k_is);(case i=>k_is);(case l=>k_is);(case c=>k_is);case k=>k_is
  case tf|tj|tm|ua|ub|uc|ud|N2|N3|B8|A1|B9|r9|t9|u0|u3|K5=>k_is
  case N4=>refine' KL.MA.of ?a ?i ?l ?c ?k;(case a=>k_is);(case i=>k_is);(case l=>k_is);(case c=>k_is);case k=>k_is
  case N5|N6|N7|i9|N8|u5=>k_is
  case J7=>exact rfl
  case i8|k8|J8|O0|O1|O2|C0|O3|J9=>refine' KL.MA.of ?a ?i ?l ?c ?k;(case a=>k_is);(case i=>k_is);(case l=>k_is);(case c=>k_is);case k=>k_is
  case K0|BX|yg|BY|BZ|CA|ur|yh|nu|CB|yi|O5|CC|uv|Z8|Z9|A2|C1|yj|f9|C3|C4=>k_is
  case C5=>repeat (first | exact True.intro | refine And.intro ⟨_,rfl⟩ (And.intro rfl (And.intro ⟨_,rfl⟩ ?_)))
  case C6=>decide
  case A3|A4=>k_is
  case l5=>repeat (first | exact .nil | refine .cons ⟨_,rfl⟩ ?_)
  case yk|ym=>k_is
  case uw=>repeat (first | exact .nil | refine .cons ⟨_,rfl⟩ ?_)
