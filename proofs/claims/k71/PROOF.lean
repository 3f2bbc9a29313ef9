import PyProof.Rows.All
import Wide.All
import OpenK.AllK
import Wide.FinOn
import Lean
import PyProof.EqAt
import PyProof.EqKinds
import PyProof.TupleCall
import KE.KSortTup
import KE.KDictSum
import KE.KDictOf
import PyProof.AttrMissHeap
import OpenK.KRaise
import KE.KIsAll
import KE.KEqDict
import KE.KTryMore
import KE.RegKIsAll
import KE.RegKTryMore
import PyProof.NsDelKeeps
import PyProof.ExcArgs
import PyProof.FitsReplace
import PyProof.Rows.StrJoin2
import PySem.Challenge.RW_oncedoor_k71_right_answers
set_option Elab.async false
set_option linter.all false
set_option maxRecDepth 100000
set_option maxHeartbeats 4000000
set_option compiler.extract_closed false
section
variable{a b c d e f g h i j k l m G:Prop}
theorem yE0(h:a)(k:a->G):G:=k h
theorem yA2(t:a->b->G):a/\b->G:=λh=>t h.1 h.2
theorem yA3(t:a->b->c->G):a/\b/\c->G:=yA2 λx=>yA2 (t x)
theorem yA4(t:a->b->c->d->G):a/\b/\c/\d->G:=yA2 λx=>yA3 (t x)
theorem yA5(t:a->b->c->d->e->G):a/\b/\c/\d/\e->G:=yA2 λx=>yA4 (t x)
theorem yA6(t:a->b->c->d->e->f->G):a/\b/\c/\d/\e/\f->G:=yA2 λx=>yA5 (t x)
theorem yA7(t:a->b->c->d->e->f->g->G):a/\b/\c/\d/\e/\f/\g->G:=yA2 λx=>yA6 (t x)
theorem yA8(t:a->b->c->d->e->f->g->h->G):a/\b/\c/\d/\e/\f/\g/\h->G:=yA2 λx=>yA7 (t x)
theorem yA9(t:a->b->c->d->e->f->g->h->i->G):a/\b/\c/\d/\e/\f/\g/\h/\i->G:=yA2 λx=>yA8 (t x)
theorem yA10(t:a->b->c->d->e->f->g->h->i->j->G):a/\b/\c/\d/\e/\f/\g/\h/\i/\j->G:=yA2 λx=>yA9 (t x)
theorem yA11(t:a->b->c->d->e->f->g->h->i->j->k->G):a/\b/\c/\d/\e/\f/\g/\h/\i/\j/\k->G:=yA2 λx=>yA10 (t x)
theorem yA12(t:a->b->c->d->e->f->g->h->i->j->k->l->G):a/\b/\c/\d/\e/\f/\g/\h/\i/\j/\k/\l->G:=yA2 λx=>yA11 (t x)
theorem yA13(t:a->b->c->d->e->f->g->h->i->j->k->l->m->G):a/\b/\c/\d/\e/\f/\g/\h/\i/\j/\k/\l/\m->G:=yA2 λx=>yA12 (t x)
variable{α β γ δ ε ζ η θ ι κ μ ν ξ:Type}
theorem yE1{P:α->Prop}(t:∀x,P x->G):(∃x,P x)->G:=λh=>h.elim t
theorem yE2{P:α->β->Prop}(t:∀a b,P a b->G):(∃a b,P a b)->G:=yE1 λx=>yE1 (t x)
theorem yE3{P:α->β->γ->Prop}(t:∀a b c,P a b c->G):(∃a b c,P a b c)->G:=yE1 λx=>yE2 (t x)
theorem yE4{P:α->β->γ->δ->Prop}(t:∀a b c d,P a b c d->G):(∃a b c d,P a b c d)->G:=yE1 λx=>yE3 (t x)
theorem yE5{P:α->β->γ->δ->ε->Prop}(t:∀a b c d e,P a b c d e->G):(∃a b c d e,P a b c d e)->G:=yE1 λx=>yE4 (t x)
theorem yE6{P:α->β->γ->δ->ε->ζ->Prop}(t:∀a b c d e f,P a b c d e f->G):(∃a b c d e f,P a b c d e f)->G:=yE1 λx=>yE5 (t x)
theorem yE7{P:α->β->γ->δ->ε->ζ->η->Prop}(t:∀a b c d e f g,P a b c d e f g->G):(∃a b c d e f g,P a b c d e f g)->G:=yE1 λx=>yE6 (t x)
theorem yE8{P:α->β->γ->δ->ε->ζ->η->θ->Prop}(t:∀a b c d e f g h,P a b c d e f g h->G):(∃a b c d e f g h,P a b c d e f g h)->G:=yE1 λx=>yE7 (t x)
theorem yE9{P:α->β->γ->δ->ε->ζ->η->θ->ι->Prop}(t:∀a b c d e f g h i,P a b c d e f g h i->G):(∃a b c d e f g h i,P a b c d e f g h i)->G:=yE1 λx=>yE8 (t x)
theorem yE10{P:α->β->γ->δ->ε->ζ->η->θ->ι->κ->Prop}(t:∀a b c d e f g h i j,P a b c d e f g h i j->G):(∃a b c d e f g h i j,P a b c d e f g h i j)->G:=yE1 λx=>yE9 (t x)
theorem yE11{P:α->β->γ->δ->ε->ζ->η->θ->ι->κ->μ->Prop}(t:∀a b c d e f g h i j k,P a b c d e f g h i j k->G):(∃a b c d e f g h i j k,P a b c d e f g h i j k)->G:=yE1 λx=>yE10 (t x)
theorem yE12{P:α->β->γ->δ->ε->ζ->η->θ->ι->κ->μ->ν->Prop}(t:∀a b c d e f g h i j k l,P a b c d e f g h i j k l->G):(∃a b c d e f g h i j k l,P a b c d e f g h i j k l)->G:=yE1 λx=>yE11 (t x)
theorem yE13{P:α->β->γ->δ->ε->ζ->η->θ->ι->κ->μ->ν->ξ->Prop}(t:∀a b c d e f g h i j k l m,P a b c d e f g h i j k l m->G):(∃a b c d e f g h i j k l m,P a b c d e f g h i j k l m)->G:=yE1 λx=>yE12 (t x)
end
abbrev ZB:=List (PySem.Addr×PySem.Obj)
abbrev XV:=PySem.Value->PySem.Shared->Prop
abbrev V0:=PySem.Str->Option PySem.Value
def U9:=@PySem.wpAny_bind
def U8:=@PySem.wpAny_pure
def U7:=@Bool.false_ne_true
def U6:=@of_decide_eq_true
def U0:=@of_decide_eq_false
def UV:=@decide_eq_true
def UF:=@decide_eq_false
def TW:=@PySem.Heap.get?_push_size
abbrev TD:=PySem.Addr
abbrev Q4:=PySem.Value
abbrev QZZ:=PySem.Shared
def QZY:=@if_pos
def QZX:=@if_neg
def QZW:=@absurd
def QZV:=@Nat.le_of_ble_eq_true
def QZU:=@List.mem_append_left
def QZT:=@List.mem_append_right
def QZS:=@Nat.lt_of_lt_of_le
def QZR:=@List.not_mem_nil
def QZQ:=@List.filterMap_append
def QZP:=@List.filterMap_cons
def QZO:=@List.flatMap_cons
abbrev QZN:List PySem.Str:=["_law_deck_here","_law_many"]
abbrev QZM:List PySem.Str:=["deed"]
abbrev QZL:List PySem.Str:=["self","row"]
abbrev QZK:List PySem.Str:=["rows"]
abbrev QZJ:List PySem.Str:=["_law_deck_here","_law_menus_here"]
abbrev QZI:List PySem.Str:=["_law_row"]
abbrev QZH:List PySem.Str:=["book","deed"]
abbrev QZG:List PySem.Str:=["self"]
abbrev QZF:List PySem.Str:=["row"]
abbrev QZE:List PySem.Str:=["thing"]
abbrev QZD:List PySem.Str:=["_law_script"]
abbrev QZC:List PySem.Str:=["_law_book_here","_law_deed_here"]
abbrev QZB:List PySem.Str:=["rows","came"]
abbrev QZA:List PySem.Str:=["_law_book_here","_law_deed_here","_law_answer_here"]
abbrev QZz:List PySem.Str:=["self","name"]
abbrev QZy:List PySem.Str:=["thing","signs","longest"]
abbrev QZx:List PySem.Str:=["deed","answer"]
abbrev QZw:List PySem.Str:=["things","bounds"]
abbrev QZv:List PySem.Str:=["self","rows"]
abbrev QZu:List PySem.Str:=["rows","done","asked","came","still"]
abbrev QZt:List PySem.Str:=["rows","word"]
abbrev QZs:List PySem.Str:=["_law_deck_here","_law_names","_law_houses"]
abbrev QZr:List PySem.Str:=["_law_deed_here","_law_answer_here"]
abbrev QZq:List PySem.Str:=["_law_deck_here","_law_book_here","_law_deed_here"]
abbrev QZp:List PySem.Str:=["_law_deck_here","_law_rows","_law_menus_here","_law_many","_law_book_here","_law_under","_law_words_here","_law_number","_law_turn","_law_k","_law_way","_law_deed_here","_law_one","_law_answer_here"]
abbrev QZo:List PySem.Str:=["thing","least","most"]
abbrev QZn:List PySem.Str:=["since","life","turn"]
abbrev QZm:List PySem.Str:=["self","changes"]
abbrev QZl:List PySem.Str:=["_law_deck_here","_law_book_here","_law_one"]
abbrev QZk:List PySem.Str:=["_law_deck_here","_law_rows","_law_menus_here","_law_book_here","_law_name","_law_other","_law_some","_law_deed_here","_law_number","_law_turn","_law_answer_here","_law_wrong","_law_by","_law_amount","_law_fits","_law_came","_law_behind"]
abbrev QZj:List PySem.Str:=["book","deed","heard"]
abbrev QZi:List PySem.Str:=["deed","thing"]
abbrev QZh:List PySem.Str:=["rows","life","turn","numbers","up","has","came","busy","kept"]
abbrev QZg:List PySem.Str:=["rows","life","turn","numbers"]
abbrev QZf:List PySem.Str:=["kept","life","turn"]
abbrev QZe:List PySem.Str:=["rows","turn","numbers"]
abbrev QZd:List PySem.Str:=["_law_deck_here","_law_signs","_law_longest","_law_many","_law_word","_law_size","_law_at","_law_first","_law_ends"]
abbrev QZc:List PySem.Str:=["_law_deck_here","_law_signs","_law_longest","_law_many"]
abbrev QZb:List PySem.Str:=["_law_deed_here","_law_asked"]
abbrev QZa:List PySem.Str:=["_law_deck_here","_law_deed_here","_law_word"]
abbrev QYZ:List PySem.Str:=["_law_deck_here"]
abbrev QYY:List PySem.Str:=["_law_deck_here","_law_menus_here","_law_number","_law_turn"]
abbrev QYX:List PySem.Str:=["_law_deck_here","_law_rows","_law_menus_here","_law_many"]
abbrev QYW:List PySem.Str:=["_law_deck_here","_law_rows","_law_done","_law_numbers","_law_turn"]
abbrev QYV:List PySem.Str:=["_law_deck_here","_law_rows"]
abbrev QYU:List PySem.Str:=["_law_deck_here","_law_rows","_law_menus_here"]
abbrev QYT:List PySem.Str:=["rows","came","kept"]
abbrev QYS:List PySem.Str:=["_law_rows","_law_book_here","_law_came","_law_row"]
abbrev QYR:List PySem.Str:=["thing","least_most"]
abbrev QYQ:List PySem.Str:=["name","by","book"]
abbrev QYP:List PySem.Str:=["kept","life","turn","last","entry"]
abbrev QYO:List PySem.Str:=["_law_deed_here","_law_asked","_law_words_here","_law_some"]
abbrev QYN:List PySem.Str:=["_law_k","_law_deck_here","_law_signs"]
abbrev QYM:List PySem.Str:=["_law_k","_law_signs","_law_first","_law_ends"]
abbrev QYL:List PySem.Str:=["_law_one","_law_number","_law_turn","_law_came"]
open List (mem_filter mem_range filterMap_cons mem_cons mem_append_left mem_filterMap mem_append_right map_cons append_nil nodup_cons of_mem_zip length getElem?_append_right getElem?_append_left length_drop map_nil length_set all_cons any_cons length_singleton find?_cons cons_append length_nil nodup_nil any_eq_true forIn_cons lookup_cons drop_zero all_eq_true length_filter_le map_take getElem_mem foldl_cons map_map any_map all_map toArray pairwise_cons le_trans drop_length getD_eq_getElem?_getD not_mem_nil getElem_toArray map_congr_left range_succ ext_getElem pairwise_iff_getElem eraseIdx_cons_succ getElem_of_mem take_length mem_of_mem_take pairwise_map nodup_append getElem_map getElem_set map_set filterMap_append mem_map_of_mem foldl_append filter_append filter_cons flatMap_cons length_filterMap_le append_assoc mem_flatMap)
open Nat (lt_of_lt_of_le lt_irrefl ne_of_lt le_of_lt ne_of_gt le_of_eq lt_succ_self zero_le le_succ min_le_right lt_trans lt_succ_of_lt le_of_ble_eq_true min_le_left min_eq_left add_lt_add_left le_add_right le_succ_of_le mod_lt lt_or_ge sub_self)
def Zk{p:Prop}(h:p:=by decide +kernel):p:=h
def Zo{p:Prop}(h:p:=by omega):p:=h
def Zs{p:Prop}(h:p:=by simp):p:=h
def Zd{p:Prop}(h:p:=by decide):p:=h
def aS:=@List.length_map
def eX:=@PySem.Heap.get?_push_of_some
def Zgs:=@List.getElem?_eq_some_iff
def eT:=@List.getElem?_eq_getElem
def kY:=@List.mem_cons_of_mem
def Zmm:=@List.mem_map
def dW:=@List.map_append
def lZ:=@List.length_append
def fK:=@List.getElem?_map
def gL:=@Nat.le_trans
def gJ:=@List.mem_cons_self
def gM:=@List.size_toArray
def oA:=@List.length_take
def iI:=@List.take_of_length_le
def Zma:=@List.mem_append
def Zms:=@List.mem_singleton
def sA:=@List.length_cons
def oC:=@Nat.lt_of_le_of_lt
def aZ:=@Nat.le_refl
def jI:=@List.mem_of_getElem?
namespace L2
open PySem PySem.Spec PyProof.Rows
abbrev aV:=Sum Int Str
def kZ:aV->Q4->Bool
 | .inl k,v=>Value.isInt k v
 | .inr x,v=>Value.isStrOf x v
def aBg(w:World):aV->Int
 | .inl k=>hashInt k
 | .inr x=>hashStr w x
def bL:∀ {k:aV}{v:Q4},kZ k v=true->(∃i t,k=Sum.inl i/\v=Value.int i t)∨(∃x t,k=Sum.inr x/\v=Value.str x t)
 | .inl i,v,h=>by
  obtain⟨t,e⟩:=Value.isInt_shape (k:=i) (v:=v) h;exact .inl ⟨i,t,rfl,e⟩
 | .inr x,v,h=>by
  obtain⟨t,e⟩:=Value.isStrOf_shape (x:=x) (v:=v) h;exact .inr ⟨x,t,rfl,e⟩
def Go(i:Int)(t:Tok):kZ (.inl i) (.int i t)=true:=by simp[kZ,Value.isInt]
def Gp(x:Str)(t:Tok):kZ (.inr x) (.str x t)=true:=by simp[kZ,Value.isStrOf]
def Xq(a b:Int):decide ((Sum.inl a:aV)=Sum.inl b)=(a==b):=by
 by_cases e:a=b
 ·subst e;simp
 ·have h:¬ (Sum.inl a:aV)=Sum.inl b:=λq=>e (Sum.inl.inj q)
  rw[UF h];exact(beq_eq_false_iff_ne.mpr e).symm
def Xr(a b:Str):decide ((Sum.inr a:aV)=Sum.inr b)=decide (a=b):=by
 by_cases e:a=b
 ·subst e;simp
 ·have h:¬ (Sum.inr a:aV)=Sum.inr b:=λq=>e (Sum.inr.inj q)
  rw[UF h,UF e]
def Xs(a:Int)(b:Str):decide ((Sum.inl a:aV)=Sum.inr b)=false:=UF (λq=>nomatch q)
def Xt(a:Str)(b:Int):decide ((Sum.inr a:aV)=Sum.inl b)=false:=UF (λq=>nomatch q)
def bC(prog:Program)(w:World):PySem.KeyKind prog w aV where
 is:=kZ
 hash:=aBg w
 inj:=λv a b g f=>by
  rcases bL g with⟨i,t,rfl,rfl⟩|⟨x,t,rfl,rfl⟩
  ·rcases bL f with⟨j,u,rfl,e⟩|⟨y,u,rfl,e⟩
   ·injection e with c _;rw[c]
   ·exact nomatch e
  ·rcases bL f with⟨j,u,rfl,e⟩|⟨y,u,rfl,e⟩
   ·exact nomatch e
   ·injection e with c _;rw[c]
 byValue:=λk v h=>by
  rcases bL h with⟨i,t,rfl,rfl⟩|⟨x,t,rfl,rfl⟩<;>rfl
 pyHash:=λd h=>by
  rcases bL d with⟨i,t,rfl,rfl⟩|⟨x,t,rfl,rfl⟩
  ·exact wpAny_pyHash_int h
  ·exact wpAny_pyHash_str h
 eqBool:=λl d h=>by
  rcases bL l with⟨i,t,rfl,rfl⟩|⟨x,t,rfl,rfl⟩
  ·rcases bL d with⟨j,u,rfl,rfl⟩|⟨y,u,rfl,rfl⟩
   ·rw[Xq]at h;exact wpAny_eqBool_int h
   ·rw[Xs]at h;exact SeqAt.EqAt.int_str i t y u _ _ _ _ h
  ·rcases bL d with⟨j,u,rfl,rfl⟩|⟨y,u,rfl,rfl⟩
   ·rw[Xt]at h;exact SeqAt.EqAt.str_int x t j u _ _ _ _ h
   ·rw[Xr]at h;exact wpAny_eqBool_str h
 «strs»:=λk x t v h=>by
  rcases bL h with⟨i,u,rfl,e⟩|⟨y,u,rfl,e⟩
  ·exact nomatch e
  ·injection e with c _
   subst c;cases v<;>rfl
def yR(prog:Program)(w:World)(i:Int)(t:Tok):(bC prog w).is (.inl i) (.int i t)=true:=Go i t
def yS(prog:Program)(w:World)(x:Str)(t:Tok):(bC prog w).is (.inr x) (.str x t)=true:=Gp x t
inductive V where
 | non|bl (b:Bool)|int (i:Int)|str (x:Str)|byt (b:Array UInt8)|flt (b:UInt64)|ref (a:TD)|ty (n:String)
 deriving DecidableEq
def RelV:V->Q4->Prop
 | .non,u=>u=Value.none
 | .bl b,u=>u=Value.bool b
 | .int i,u=>∃t,u=Value.int i t
 | .str x,u=>∃t,u=Value.str x t
 | .byt b,u=>∃t,u=Value.bytes b t
 | .flt b,u=>∃t,u=Value.float b t
 | .ref a,u=>u=Value.ref a
 | .ty n,u=>u=Value.type n
abbrev Vals:List V->List Q4->Prop:=Paired RelV
def Vals.length{xs:List V}{us:List Q4}(r:Vals xs us):xs.length=us.length:=Paired.length r
theorem Vals.get:∀ {xs:List V}{us:List Q4}{i:Nat}{x:V},Vals xs us->xs[i]?=some x->∃u,us[i]?=some u/\RelV x u
 | _,_,_,_,.nil,e=>by simp at e
 | _,_,0,_,.cons r _,e=>by simp at e;subst e;exact⟨_,rfl,r⟩
 | _,_,i+1,x,.cons _ t,e=>by
  obtain⟨u,a,b⟩:=Vals.get (i:=i) (x:=x) t (by simpa using e);exact⟨u,by simpa using a,b⟩
def Vals.set{x:V}{u:Q4}(r:RelV x u):∀ {xs:List V}{us:List Q4} (i:Nat),Vals xs us->Vals (xs.set i x) (us.set i u)
 | _,_,_,.nil=>.nil
 | _,_,0,.cons _ t=>.cons r t
 | _,_,i+1,.cons q t=>.cons q (Vals.set r i t)
def Vals.append:∀ {xs ys:List V}{us a:List Q4},Vals xs us->Vals ys a->Vals (xs++ys) (us++a)
 | _,_,_,_,.nil,s=>s
 | _,_,_,_,.cons r t,s=>.cons r (Vals.append t s)
def Vals.take:∀ {xs:List V}{us:List Q4} (n:Nat),Vals xs us->Vals (xs.take n) (us.take n)
 | _,_,0,_=>.nil
 | _,_,_+1,.nil=>.nil
 | _,_,n+1,.cons r t=>.cons r (Vals.take n t)
def Vals.drop:∀ {xs:List V}{us:List Q4} (n:Nat),Vals xs us->Vals (xs.drop n) (us.drop n)
 | _,_,0,r=>r
 | _,_,_+1,.nil=>.nil
 | _,_,n+1,.cons _ t=>Vals.drop n t
def RelO:Option V->Option Q4->Prop
 | some v,some u=>RelV v u
 | none,none=>True
 | _,_=>False
def KV{κ:Type}:List (κ×V)->List (κ×Q4)->Prop:=Paired λ(p:κ×V) (q:κ×Q4)=>p.1=q.1/\RelV p.2 q.2
def kV:aV->V
 | .inl i=>.int i
 | .inr x=>.str x
inductive HO where
 /-- a list -/
 | lst (xs:List V)
 /-- a tuple (never changes) -/
 | tup (xs:List V)
 /-- a dict whose keys are ints and texts;one whose keys are tuples of ints and texts (the empty one is both) -/
 | dK (kvs:List (aV×V))|dT (kvs:List (List aV×V))
 /-- a set of ints: its members,its size -/
 | set (S:Int->Bool) (n:Nat)
 /-- an instance of the class at C,its dict at dx,its attributes -/
 | ins (C dx:TD) (fs:List (Str×V))
 /-- the dict of the instance at x -/
 | own (x:TD)
 /-- the dict of an exception -/
 | xd (fs:List (Str×V))
 /-- a bound method,f of x -/
 | met (f x:TD)
 /-- a range object lo,lo+1,.. below hi -/
 | rng (lo hi:Int)
 /-- a thing that is known to the object (the script;a dict while a loop walks it): read,never written while it is so -/
 | frz (o:Obj) (u:HO)
 /-- a code object's table -/
 | tbl (ps:Array Value)
 /-- any other thing,by what is true of its one object (a def of one's own: SetO a S n:=HO.ext λh=>..) -/
 | ext (φ:Heap->Prop)
abbrev Hp:=Addr->Option HO
def aI(H:Hp)(a:TD)(o:HO):Hp:=λb=>if b=a then some o else H b
def aA{H:Hp}{a:TD}{o:HO}:aI H a o a=some o:=by unfold aI;rw[QZY rfl]
def aD{H:Hp}{a b:TD}{o:HO}(h:b≠a):aI H a o b=H b:=by unfold aI;rw[QZX h]
def cI{H:Hp}{a b:TD}{o u:HO}(h:H a=some o)(h':H b=some u)(d:o≠u):a≠b:=by
 intro e;subst e;rw[h]at h';exact d (Option.some.inj h')
def aF{H:Hp}{a b:TD}{o:HO}(h:H a=some o)(h':H b=none):a≠b:=by
 intro e;subst e;rw[h]at h';cases h'
section
variable (P:Program) (w:World)
def ObjOk(H:Hp)(h:Heap)(a:TD):HO->Prop
 | .lst b=>b.length<=sizeLine/\∃(d:List Q4)(n:Nat),Vals b d/\h.get? a=some {cls:=.type "list",data:=.seq d.toArray n }
 | .tup b=>b.length<=sizeLine/\∃d:List Q4,Vals b d/\IsTup h a d.toArray
 | .dK e=>e.length<=sizeLine/\(a==sysModules)=false/\∃vs,KV e vs/\h.DictOf (bC P w) a vs
 | .dT e=>e.length<=sizeLine/\(a==sysModules)=false/\∃b:List (List aV×TD×Q4),
   Paired (λ(p:List aV×V) (q:List aV×TD×Q4)=>p.1=q.1/\H q.2.1=some (.tup (p.1.map kV))/\RelV p.2 q.2.2) e b ∧
   ∃o j m,h.get? a=some o/\o.ExactDict/\o.data=.dict j m/\j.toList=b.map (entryOfKey (tupleKind (bC P w)))/\(b.map (·.1)).Nodup
 | .set S n=>h.SetOf (intKind P w) a S n
 | .ins C g fs=>H g=some (.own a)/\fs.length<=1000/\g≠a/\h.get? a=some (W.instObj C g) ∧
   ∃c,h.Ns1 g c/\(∀f,RelO (fs.lookup f) (c f))/\PySem.Within c (fs.map (·.1))
 | .own _=>∃o,h.get? a=some o
 | .xd fs=>∃c,h.Ns1 a c/\∀f,RelO (fs.lookup f) (c f)
 | .rng lo r=>∃t u v,h.get? a=some {cls:=.type "range",data:=.fields #[.int lo t,.int r u,.int 1 v] }
 | .frz o u=>h.get? a=some o/\ObjOk H h a u
 | .tbl ps=>h.get? a=some {cls:=.none,data:=.fields ps }
 | .met f x=>h.get? a=some (W.methodObj (.ref f) (.ref x))
 | .ext i=>i h/\(∃o,h.get? a=some o)/\∀k l:Heap,i k->(∀o,k.get? a=some o->l.get? a=some o)->i l
def HOk(H:Hp)(h:Heap):Prop:=∀a o,H a=some o->ObjOk P w H h a o
end
section
variable {P:Program}{w:World}{H H':Hp}{h h':Heap}{a:TD}{o:HO}
def ObjOk.lt(x:ObjOk P w H h a o):a<h.objs.size:=by
 cases o with
 | lst c=>obtain⟨_,_,_,_,e⟩:=x;exact Heap.lt_size e
 | tup c=>obtain⟨_,_,_,p⟩:=x;exact p.lt
 | dK b=>obtain⟨_,_,_,_,o,_,_,e,_⟩:=x;exact Heap.lt_size e
 | dT b=>obtain⟨_,_,_,_,o,_,_,e,_⟩:=x;exact Heap.lt_size e
 | set S n=>obtain⟨o,_,_,_,e,_⟩:=x;exact Heap.lt_size e
 | ins C d fs=>obtain⟨_,_,_,e,_⟩:=x;exact Heap.lt_size e
 | own y=>obtain⟨_,e⟩:=x;exact Heap.lt_size e
 | xd fs=>obtain⟨_,⟨_,_,_,e,_⟩,_⟩:=x;exact Heap.lt_size e
 | rng lo g=>obtain⟨_,_,_,e⟩:=x;exact Heap.lt_size e
 | frz i u=>obtain⟨e,_⟩:=x;exact Heap.lt_size e
 | tbl ps=>exact Heap.lt_size (show h.get? a=some _ from x)
 | met f y=>exact Heap.lt_size (show h.get? a=some _ from x)
 | ext j=>obtain⟨_,⟨_,e⟩,_⟩:=x;exact Heap.lt_size e
def Paired.mapP{e g:Type}{F G:e->g->Prop}:∀ {c:List e}{d:List g},Paired F c d->(∀a b,F a b->G a b)->Paired G c d
 | _,_,.nil,_=>.nil
 | _,_,.cons r t,f=>.cons (f _ _ r) (Paired.mapP t f)
def ObjOk.stay(x:ObjOk P w H h a o)(k:∀b u,(b=a∨H b=some (.own a))->h.get? b=some u->h'.get? b=some u)(B:∀b,H b=some (.own a)->H' b=some (.own a))(D:∀b xs,H b=some (.tup xs)->H' b=some (.tup xs)):ObjOk P w H' h' a o:=by
 induction o with
 | lst xs=>obtain⟨z,l,n,r,e⟩:=x;exact⟨z,l,n,r,k _ _ (.inl rfl) e⟩
 | tup xs=>obtain⟨z,l,r,g,e,c⟩:=x;exact⟨z,l,r,g,k _ _ (.inl rfl) e,c⟩
 | dK A=>obtain⟨z,y,vs,r,g,i,j,e,c⟩:=x;exact⟨z,y,vs,r,g,i,j,k _ _ (.inl rfl) e,c⟩
 | dT A=>
  obtain⟨z,y,xs,r,g,i,j,e,c⟩:=x;exact⟨z,y,xs,Paired.mapP r λp q z=>⟨z.1,D _ _ z.2.1,z.2.2⟩,g,i,j,k _ _ (.inl rfl) e,c⟩
 | set S n=>obtain⟨g,i,j,t,e,c⟩:=x;exact⟨g,i,j,t,k _ _ (.inl rfl) e,c⟩
 | ins C G fs=>
  obtain⟨d,z,ne,e,m,⟨s,i,j,E,c⟩,r⟩:=x;exact⟨B _ d,z,ne,k _ _ (.inl rfl) e,m,⟨s,i,j,k _ _ (.inr d) E,c⟩,r⟩
 | own y=>obtain⟨g,e⟩:=x;exact⟨g,k _ _ (.inl rfl) e⟩
 | xd fs=>obtain⟨m,⟨s,i,j,e,c⟩,r⟩:=x;exact⟨m,⟨s,i,j,k _ _ (.inl rfl) e,c⟩,r⟩
 | rng lo I=>obtain⟨t,u,v,e⟩:=x;exact⟨t,u,v,k _ _ (.inl rfl) e⟩
 | frz g u F=>obtain⟨e,q⟩:=x;exact⟨k _ _ (.inl rfl) e,F q⟩
 | tbl ps=>
  have e:h.get? a=some {cls:=.none,data:=.fields ps }:=x;show h'.get? a=some {cls:=.none,data:=.fields ps };exact k a _ (.inl rfl) e
 | met f y=>
  have e:h.get? a=some (W.methodObj (.ref f) (.ref y)):=x;show h'.get? a=some (W.methodObj (.ref f) (.ref y));exact k a _ (.inl rfl) e
 | ext J=>obtain⟨p,⟨o,e⟩,st⟩:=x;exact⟨st _ _ p λo q=>k _ _ (.inl rfl) q,⟨o,k _ _ (.inl rfl) e⟩,st⟩
def HOk.lt(x:HOk P w H h)(e:H a=some o):a<h.objs.size:=(x a o e).lt
def HOk.fresh(x:HOk P w H h)(e:h.objs.size<=a):H a=none:=by
 cases q:H a with
 | none=>rfl
 | some u=>exact QZW (QZS (x.lt q) e) (lt_irrefl _)
def HOk.kept(x:HOk P w H h)(k:∀b u,h.get? b=some u->h'.get? b=some u):HOk P w H h':=λa o e=>
 (x a o e).stay (λb u _ q=>k b u q) (λ_ q=>q) λ_ _ q=>q
def HOk.laid(x:HOk P w H h)(k:∀b u,h.get? b=some u->h'.get? b=some u)(g:h.objs.size<=a)(new:ObjOk P w (aI H a o) h' a o):HOk P w (aI H a o) h':=λb u e=>by
 have d:=x.fresh g;by_cases f:b=a
 ·subst f;rw[aA]at e;cases e;exact new
 ·rw[aD f]at e;exact(x b u e).stay (λc v _ q=>k c v q) (λc q=>by rw[aD (aF q d)];exact q) λc i q=>by rw[aD (aF q d)];exact q
end
def Rd(H:Hp)(a:TD)(u:HO):Prop:=H a=some u∨∃o,H a=some (.frz o u)
def Rd.ok{P:Program}{w:World}{H:Hp}{h:Heap}{a:TD}{u:HO}(r:Rd H a u)(x:HOk P w H h):ObjOk P w H h a u:=by
 rcases r with r|⟨o,r⟩
 ·exact x a u r
 ·obtain⟨_,q⟩:=x a _ r;exact q
def Mut:Option HO->Prop
 | some (.lst _)=>True
 | some (.dK _)=>True
 | some (.dT _)=>True
 | some (.set _ _)=>True
 | some (.ins _ _ _)=>True
 | some (.ext _)=>True
 | _=>False
section
variable {P:Program}{w:World}{H:Hp}{h h':Heap}{x e:TD}{o':HO}
def HOk.write(ok:HOk P w H h)(a:Mut (H x))(j:e=x∨H e=some (.own x))(k:∀b u,b≠e->h.get? b=some u->h'.get? b=some u)(n:∃u,h'.get? e=some u)(new:ObjOk P w (aI H x o') h' x o'):HOk P w (aI H x o') h':=λb u q=>by
 have l:∀c y,H c=some (.own y)->c≠x:=λc y r z=>by subst z;rw[r]at a;exact a
 have o:∀c d,H c=some (.tup d)->c≠x:=λc d r z=>by subst z;rw[r]at a;exact a
 by_cases f:b=x
 ·subst f;rw[aA]at q;cases q;exact new
 ·rw[aD f]at q;by_cases g:b=e
  ·have m:H b=some (.own x):=by
    rcases j with z|z
    ·exact QZW (g.trans z) f
    ·rw[g];exact z
   rw[q]at m;cases m;obtain⟨v,p⟩:=n;exact⟨v,by rw[g];exact p⟩
  ·refine(ok b u q).stay (λc v i r=>k c v ?_ r) (λc r=>by rw[aD (l c b r)];exact r) λc d r=>by rw[aD (o c d r)];exact r
   rcases i with rfl|i
   ·exact g
   ·rintro rfl;rcases j with z|z
    ·exact l c b i z
    ·rw[i]at z;cases z;exact f rfl
end
structure Un(fs ex:List TD)(H H':Hp)(h h':Heap):Prop where
 keep:∀b o,h.get? b=some o->H b=none->b∉fs->b∉ex->h'.get? b=some o
 slot:∀b o,h.get? b=some o->H b=none->b∈fs->b∉ex->∃sl,h'.get? b=some {o with slots:=sl }
 free:∀b o,h.get? b=some o->H b=none->b∉ex->H' b=none
 there:∀b o,h.get? b=some o->b∉ex->∃o',h'.get? b=some o'
 tups:∀b xs,H b=some (.tup xs)->H' b=some (.tup xs)
 frzs:∀b o u,H b=some (.frz o u)->H' b=some (.frz o u)
 tbls:∀b ps,H b=some (.tbl ps)->∃more,H' b=some (.tbl (ps++more))
section
variable {fs UO ex ex':List TD}{H H1 H2:Hp}{h h1 h2 h':Heap}{a x e:TD}{o:HO}
def Un.any(u:Un fs ex H H1 h h1){b:TD}{c:Obj}(q:h.get? b=some c)(n:H b=none)(d:b∉ex):∃sl,h1.get? b=some {c with slots:=sl }:=by
 by_cases f:b∈fs
 ·exact u.slot b c q n f d
 ·exact⟨c.slots,u.keep b c q n f d⟩
def Un.kept(k:∀b u,h.get? b=some u->h'.get? b=some u):Un fs ex H H h h':=
 ⟨λb c q _ _ _=>k b c q,λb c q _ _ _=>⟨c.slots,k b c q⟩,λ_ _ _ n _=>n,λb c q _=>⟨c,k b c q⟩,λ_ _ q=>q,λ_ _ _ q=>q,λ_ ps q=>⟨#[],by rw[q];simp⟩⟩
def Un.refl:Un fs ex H H h h:=Un.kept λ_ _ q=>q
def Un.laid(k:∀b u,h.get? b=some u->h'.get? b=some u)(d:h.objs.size<=a)(c:H a=none):Un fs ex H (aI H a o) h h' where
 keep:=λb u q _ _ _=>k b u q
 slot:=λb u q _ _ _=>⟨u.slots,k b u q⟩
 free:=λb u q n _=>by rw[aD (ne_of_lt (QZS (Heap.lt_size q) d))];exact n
 there:=λb u q _=>⟨u,k b u q⟩
 tups:=λb f q=>by rw[aD (aF q c)];exact q
 frzs:=λb u f q=>by rw[aD (aF q c)];exact q
 tbls:=λb ps q=>⟨#[],by rw[aD (aF q c),q];simp⟩
def Un.write(c:Mut (H x))(j:e=x∨H e=some (.own x))(k:∀b u,b≠e->h.get? b=some u->h'.get? b=some u)(l:∃u,h'.get? e=some u):Un fs ex H (aI H x o) h h':=by
 have f:∀b,H b=none->b≠x:=λb n z=>by subst z;rw[n]at c;exact c
 have g:∀b,H b=none->b≠e:=λb n z=>by
  subst z;rcases j with r|r
  ·exact f b n r
  ·rw[n]at r;cases r
 have d:∀b u,H b=some u->¬ Mut (some u)->b≠x:=λb u q nm z=>by subst z;rw[q]at c;exact nm c
 refine⟨λb u q n _ _=>k b u (g b n) q,λb u q n _ _=>⟨u.slots,k b u (g b n) q⟩,λb u q n _=>by rw[aD (f b n)];exact n,λb u q _=>?_,
  λb m q=>by rw[aD (d b _ q λz=>z)];exact q,λb u m q=>by rw[aD (d b _ q λz=>z)];exact q,λb ps q=>⟨#[],by rw[aD (d b _ q λz=>z),q];simp⟩⟩
 by_cases i:b=e
 ·subst i;exact l
 ·exact⟨u,k b u i q⟩
end
def trk(h:Heap)(H:Hp):List Addr:=(List.range h.objs.size).filter λa=>(H a).isSome
def wU(h:Heap)(H:Hp):Heap:=W.hideAll h (trk h H)
def Gq(h:Heap)(H:Hp):(wU h H).objs.size=h.objs.size:=W.hideAll_size _ _
def Ki{h:Heap}{H:Hp}{b:TD}{o:Obj}(e:h.get? b=some o)(n:H b=none):(wU h H).get? b=some o:=
 W.hideAll_get _ e λa=>by
  have q:(H b).isSome=true:=(mem_filter.mp a).2;rw[n]at q;simp at q
def Ru{h:Heap}{H:Hp}{b:TD}{o:Obj}(e:(wU h H).get? b=some o):h.get? b=some o/\H b=none:=by
 have a:h.get? b=some o:=W.of_hideAll (trk h H) e;refine⟨a,?_⟩
 cases q:H b with
 | none=>rfl
 | some x=>
  have c:b∈trk h H:=mem_filter.mpr ⟨mem_range.mpr (Heap.lt_size a),by simp[q]⟩;have z:(wU h H).get? b=none:=W.hideAll_none (trk h H) c;rw[z]at e;cases e
structure Mod(K:W.Frag)(mg:V0)(base:Heap):Prop where
 kin:K.In base
 glob:base.Ns mainGlobals mg
 blt:∃mb,base.Ns builtinsNs mb/\∀x:Str,x≠"__name__"->mb x=bootBuiltins x
 nolimit:base.NoLimit
structure Cx where
 prog:Program
 w:World
 K:W.Frag
 mg:Str->Option Value
 base:Heap
 A:Around
 N:List Str
 s₀:Shared
 H₀:Hp
 env:Env
 outer:List Env
 stack:List Env
 ex:List Addr
 fn:Str->Bool
 calm:Bool
 pn:List (TD×Obj)
 xe:Q4->QZZ->Prop
def Kj(l:List Env):List Addr:=l.filterMap (·.frame)
abbrev Cx.fs(X:Cx):List Addr:=Kj X.outer
def Vis(sc:Scope)(x:Str):Prop:=sc.names.lookup x=some .local∨sc.names.lookup x=some .cell∨sc.names.lookup x=some .free
def Wh(sc:Scope)(x:Str):Prop:=sc.names.lookup x=some .local∨sc.names.lookup x=some .cell
def aCV(env:Env)(h:Heap)(m:V0)(x:Str)(u:Q4):Prop:=
 (env.kindOf x=some .local/\m x=some u)∨((env.kindOf x=some .cell∨env.kindOf x=some .free)/\∃c,env.cells.lookup x=some c/\h.IsCell c (some u))
structure Cx.Ok(X:Cx):Prop where
 mod:Mod X.K X.mg X.base
 kind:X.env.scope.kind=.function
 glob:X.env.globals=mainGlobals
 blt:X.env.builtins=builtinsNs
 above:X.s₀.heap.objs.size<=X.env.locals
 inj:∀x y c,X.env.cells.lookup x=some c->X.env.cells.lookup y=some c->x=y
 has:∀x,(X.env.kindOf x=some .cell∨X.env.kindOf x=some .free)->∃c,X.env.cells.lookup x=some c
 cab:∀x c,X.fn x=true->X.env.cells.lookup x=some c->X.s₀.heap.objs.size<=c
 hd:X.calm=true->X.A.handled=none
 frames:X.A.frames=some X.stack
 stk:X.stack=X.outer∨(X.stack=X.env::X.outer/\X.env.frame=some X.env.locals)
 exf:∀b∈X.ex,b≠X.env.locals/\∀x c,X.env.cells.lookup x=some c->c≠b
 bs:∀b o,X.base.get? b=some o->X.s₀.heap.get? b=some o/\X.H₀ b=none
 bsz:X.base.objs.size<=X.s₀.heap.objs.size
 noex:∀b o,X.base.get? b=some o->b∉X.ex
 exfs:∀b∈X.ex,b∉X.fs
 funs:X.s₀.heap.FunFrames X.base X.outer
 frf:∀b∈X.fs,X.H₀ b=none
structure Inv(X:Cx)(pins:ZB)(σ:List (Option V))(H:Hp)(s:QZZ):Prop where
 ok:X.Ok
 os:s.os=X.s₀.os
 bare:AllBare s.gens
 base:Un X.fs X.ex X.H₀ H X.s₀.heap s.heap
 loc:∃m,s.heap.Ns X.env.locals m/\∀(i:Nat)(x:Str)(v:V),X.N[i]?=some x->σ[i]?=some (some v)->Vis X.env.scope x->∃u,RelV v u/\aCV X.env s.heap m x u
 cell:∀x c,X.env.cells.lookup x=some c->∃v,s.heap.IsCell c v
 free:H X.env.locals=none
 freeC:∀x c,X.env.cells.lookup x=some c->H c=none
 pin:∀p∈X.pn++pins,s.heap.get? p.1=some p.2/\H p.1=none/\p.1≠X.env.locals/\p.1∉X.fs/\∀v,p.2.data≠.cell v
 hok:HOk X.prog X.w H s.heap
 len:σ.length=X.N.length
section
variable {X:Cx}{pins:ZB}{σ:List (Option V)}{H H':Hp}{s:QZZ}{h':Heap}
def Cx.Ok.nofr(ok:X.Ok){b:TD}{o:Obj}(e:X.base.get? b=some o):b∉X.fs:=λa=>by
 have:=(ok.funs.mem a).1;rw[e]at this;cases this
def Inv.bs(I:Inv X pins σ H s):∀b o,X.base.get? b=some o->s.heap.get? b=some o/\H b=none:=λb o e=>
 ⟨I.base.keep b o (I.ok.bs b o e).1 (I.ok.bs b o e).2 (I.ok.nofr e) (I.ok.noex b o e),I.base.free b o (I.ok.bs b o e).1 (I.ok.bs b o e).2 (I.ok.noex b o e)⟩
def Inv.bk(I:Inv X pins σ H s):∀b o,X.base.get? b=some o->s.heap.get? b=some o:=λb o e=>(I.bs b o e).1
def Inv.mod(I:Inv X pins σ H s):Mod X.K X.mg X.base:=I.ok.mod
def Inv.kIn(I:Inv X pins σ H s):X.K.In s.heap:=I.ok.mod.kin.keeps I.bk
def Inv.fr(I:Inv X pins σ H s):∃m,Fr X.base X.env.locals s.heap m:=
 let ⟨m,a,_⟩:=I.loc
 ⟨m,a,I.bk,gL I.ok.bsz I.ok.above⟩
def Inv.lt(I:Inv X pins σ H s):X.env.locals<s.heap.objs.size:=let ⟨_,a,_⟩:=I.loc;a.lt
def Inv.sz(I:Inv X pins σ H s):X.s₀.heap.objs.size<=s.heap.objs.size:=gL I.ok.above (le_of_lt I.lt)
def Inv.nofs(I:Inv X pins σ H s){a:TD}(h:s.heap.objs.size<=a):a∉X.fs:=λb=>by
 obtain⟨_,o,c,_⟩:=I.ok.funs.mem b;exact QZW (QZS (Heap.lt_size c) (gL I.sz h)) (lt_irrefl _)
def Inv.cne(I:Inv X pins σ H s):∀x c,X.env.cells.lookup x=some c->c≠X.env.locals:=λx c e z=>by
 obtain⟨v,o,a,b⟩:=I.cell x c e;obtain⟨m,⟨g,h,i,d,f,_⟩,_⟩:=I.loc;rw[z,d]at a;cases a;rw[f]at b;cases b
def Inv.funs(I:Inv X pins σ H s):s.heap.FunFrames X.base X.outer:=by
 have all:∀(l:List Env),(∀b∈Kj l,b∈X.fs)->X.s₀.heap.FunFrames X.base l->s.heap.FunFrames X.base l:=by
  intro l;induction l with
  | nil=>intro _ _;trivial
  | cons p r g=>
   intro f h;obtain⟨i,⟨L,o,a,j,k,m⟩,n⟩:=h;have c:L∈X.fs:=f L (by unfold Kj;rw[QZP,a];exact gJ);obtain⟨sl,e⟩:=I.base.slot L o k (I.ok.frf L c) c λz=>I.ok.exfs L z c
   exact⟨i,⟨L,_,a,j,e,m⟩,g (λb d=>f b (by unfold Kj;rw[QZP,a];exact kY _ d)) n⟩
 exact all X.outer (λ_ d=>d) I.ok.funs
def Inv.stack(I:Inv X pins σ H s):s.heap.FunFrames X.base X.stack:=by
 rcases I.ok.stk with e|⟨e,a⟩
 ·rw[e];exact I.funs
 ·rw[e];obtain⟨m,b,_⟩:=I.loc;refine .cons (by rw[I.ok.kind];decide) a b ?_ I.funs;exact Heap.get?_none_of_le (gL I.ok.bsz I.ok.above)
def Inv.stkSub(I:Inv X pins σ H s):∀b∈Kj X.stack,b∈X.env.locals::X.fs:=λb a=>by
 rcases I.ok.stk with e|⟨e,c⟩
 ·rw[e]at a;exact kY _ a
 ·rw[e]at a;unfold Kj at a;rw[QZP,c]at a;exact a
def Inv.stkFree(I:Inv X pins σ H s):∀b∈Kj X.stack,H b=none:=λb a=>by
 rcases mem_cons.mp (I.stkSub b a) with e|a
 ·rw[e];exact I.free
 ·obtain⟨_,o,c,_⟩:=I.ok.funs.mem a;exact I.base.free b o c (I.ok.frf b a) λz=>I.ok.exfs b z a
def Inv.step{g':Array GenState}{t':Nat}{d':Drawn}{ch:List TD}(I:Inv X pins σ H s)(t:∀b∈ch,(b∈X.ex∨X.s₀.heap.objs.size<=b)/\b≠X.env.locals/\(∀x c,X.env.cells.lookup x=some c->c≠b)/\∀p∈X.pn++pins,p.1≠b)(keep:∀b o,b≠X.env.locals->b∉X.fs->b∉ch->s.heap.get? b=some o->H b=none->h'.get? b=some o)(slot:∀b o,b≠X.env.locals->b∈X.fs->b∉ch->s.heap.get? b=some o->H b=none->∃sl,h'.get? b=some {o with slots:=sl })(free:∀b o,b∉ch->s.heap.get? b=some o->H b=none->H' b=none)(K:∀b o,b∉ch->s.heap.get? b=some o->∃w,h'.get? b=some w)(tups:∀b g,H b=some (.tup g)->H' b=some (.tup g))(L:∀b o u,H b=some (.frz o u)->H' b=some (.frz o u))(M:∀b ps,H b=some (.tbl ps)->∃more,H' b=some (.tbl (ps++more)))(O:∀m,s.heap.Ns X.env.locals m->h'.Ns X.env.locals m)(N:HOk X.prog X.w H' h')(P:AllBare g') :
  Inv X pins σ H' {s with heap:=h',gens:=g',drawn:=d',toks:=t' }:=by
 have E:∀b o,X.s₀.heap.get? b=some o->b≠X.env.locals:=λb o e=>ne_of_lt (QZS (Heap.lt_size e) I.ok.above)
 have B:∀b o,X.s₀.heap.get? b=some o->b∉X.ex->b∉ch:=λb o e a h=>by
  rcases(t b h).1 with z|z
  ·exact a z
  ·exact QZW (QZS (Heap.lt_size e) z) (lt_irrefl _)
 have D:∀x c,X.env.cells.lookup x=some c->∀v,s.heap.IsCell c v->h'.IsCell c v:=λx c e v ⟨o,j,C⟩=>by
  have y:c∉ch:=λz=>(t c z).2.2.1 x c e rfl
  by_cases F:c∈X.fs
  ·obtain⟨sl,q⟩:=slot c o (I.cne x c e) F y j (I.freeC x c e);exact⟨_,q,C⟩
  ·exact⟨o,keep c o (I.cne x c e) F y j (I.freeC x c e),C⟩
 refine⟨I.ok,I.os,P,⟨λb o e n h a=>?_,λb o e n h a=>?_,λb o e n a=>?_,λb o e a=>?_,λb g e=>tups b g (I.base.tups b g e),λb o g e=>L b o g (I.base.frzs b o g e),λb ps e=>?_⟩,?_,λx c e=>?_,?_,λx c e=>?_,λp G=>?_,N,I.len⟩
 ·exact keep b o (E b o e) h (B b o e a) (I.base.keep b o e n h a) (I.base.free b o e n a)
 ·obtain⟨sl,f⟩:=I.base.slot b o e n h a;obtain⟨Q,A⟩:=slot b _ (E b o e) h (B b o e a) f (I.base.free b o e n a);exact⟨Q,A⟩
 ·obtain⟨w,f⟩:=I.base.there b o e a;exact free b w (B b o e a) f (I.base.free b o e n a)
 ·obtain⟨w,f⟩:=I.base.there b o e a;exact K b w (B b o e a) f
 ·obtain⟨R,f⟩:=I.base.tbls b ps e;obtain⟨m2,A⟩:=M b _ f;exact⟨R++m2,by rw[A,Array.append_assoc]⟩
 ·obtain⟨m,S,T⟩:=I.loc;refine⟨m,O m S,λi x v f A U=>?_⟩;obtain⟨u,r,l⟩:=T i x v f A U;refine⟨u,r,?_⟩;rcases l with l|⟨k,c,e,z⟩
  ·exact .inl l
  ·exact .inr ⟨k,c,e,D x c e _ z⟩
 ·obtain⟨v,z⟩:=I.cell x c e;exact⟨v,D x c e v z⟩
 ·obtain⟨m,⟨o,_,_,j,_⟩,_⟩:=I.loc;exact free _ o (λz=>(t _ z).2.1 rfl) j I.free
 ·obtain⟨v,o,j,C⟩:=I.cell x c e;exact free c o (λz=>(t c z).2.2.1 x c e rfl) j (I.freeC x c e)
 ·obtain⟨e,n,ne,J,d⟩:=I.pin p G;have y:p.1∉ch:=λz=>(t p.1 z).2.2.2 p G rfl
  exact⟨keep p.1 p.2 ne J y e n,free p.1 p.2 y e n,ne,J,d⟩
def Inv.un{t':Nat}(I:Inv X pins σ H s)(u:Un X.fs [] H H' s.heap h')(f:HOk X.prog X.w H' h'):Inv X pins σ H' {s with heap:=h',toks:=t' }:=by
 obtain⟨m,⟨o,l,p,c,r⟩,_⟩:=id I.loc;obtain⟨sl,g⟩:=u.any c I.free Zs;exact I.step (g':=s.gens) (d':=s.drawn) (ch:=[]) (λ_ z=>nomatch z) (λb o _ a _ e n=>u.keep b o e n a Zs) (λb o _ a _ e n=>u.slot b o e n a Zs) (λb o _ e n=>u.free b o e n Zs) (λb o _ e=>u.there b o e Zs) u.tups u.frzs u.tbls (λq h=>by
  obtain⟨t,i,j,d,k⟩:=h;rw[c]at d;cases d;exact⟨_,i,j,g,k⟩) f I.bare
def Inv.call{g':Array GenState}{t':Nat}{d':Drawn}{ch:List TD}(I:Inv X pins σ H s)(u:Un (Kj X.stack) ch H H' s.heap h')(i:HOk X.prog X.w H' h')(j:AllBare g')(f:∀b∈ch,(b∈X.ex∨X.s₀.heap.objs.size<=b)/\b≠X.env.locals/\(∀x c,X.env.cells.lookup x=some c->c≠b)/\∀p∈X.pn++pins,p.1≠b) :
  Inv X pins σ H' {s with heap:=h',gens:=g',drawn:=d',toks:=t' }:=by
 obtain⟨m,⟨o,w,y,g,r⟩,_⟩:=id I.loc;obtain⟨sl,d⟩:=u.any g I.free λz=>(f _ z).2.1 rfl
 exact I.step (ch:=ch) f (λb o d k a e n=>u.keep b o e n (λz=>(mem_cons.mp (I.stkSub b z)).elim d k) a) (λb o _ _ a e n=>u.any e n a) (λb o a e n=>u.free b o e n a) (λb o a e=>u.there b o e a) u.tups u.frzs u.tbls (λA l=>by
  obtain⟨B,q,t,h,v⟩:=l;rw[g]at h;cases h;exact⟨_,q,t,d,v⟩) i j
def Inv.turned{t':Nat}{it:TD}(I:Inv X pins σ H s)(k:∀b o,b≠it->s.heap.get? b=some o->h'.get? b=some o)(g:H it=none)(d:it≠X.env.locals)(h:it∈X.ex∨X.s₀.heap.objs.size<=it)(i:∀x c,X.env.cells.lookup x=some c->c≠it)(j:∀p∈X.pn++pins,p.1≠it):Inv X pins σ H {s with heap:=h',toks:=t' }:=by
 have f:∀b u,H b=some u->b≠it:=λb u e z=>by rw[z,g]at e;cases e
 refine I.step (g':=s.gens) (d':=s.drawn) (ch:=[it]) (λb l=>?_) (λb o _ _ a e _=>k b o (λz=>a (by simp[z])) e) (λb o _ _ a e _=>⟨o.slots,k b o (λz=>a (by simp[z])) e⟩) (λ_ _ _ _ n=>n)
  (λb o a e=>⟨o,k b o (λz=>a (by simp[z])) e⟩) (λ_ _ e=>e) (λ_ _ _ e=>e) (λb ps e=>⟨#[],by rw[e];simp⟩) (λm t=>?_) (λb u e=>?_) I.bare
 ·have e:b=it:=by simpa using l
  subst e;exact⟨h,d,i,j⟩
 ·obtain⟨o,w,y,A,r⟩:=t;exact⟨o,w,y,k _ o (Ne.symm d) A,r⟩
 ·refine(I.hok b u e).stay (λc v a q=>k c v ?_ q) (λ_ q=>q) λ_ _ q=>q;rcases a with z|z
  ·rw[z];exact f b u e
  ·exact f c _ z
def Inv.tok(I:Inv X pins σ H s)(t:Nat):Inv X pins σ H {s with toks:=t }:=I.un (h':=s.heap) (t':=t) Un.refl I.hok
def Inv.kept{t':Nat}(I:Inv X pins σ H s)(k:∀b u,s.heap.get? b=some u->h'.get? b=some u):Inv X pins σ H {s with heap:=h',toks:=t' }:=I.un (Un.kept k) (I.hok.kept k)
def Inv.laid{a:TD}{o:HO}{t':Nat}(I:Inv X pins σ H s)(k:∀b u,s.heap.get? b=some u->h'.get? b=some u)(c:s.heap.objs.size<=a)(new:ObjOk X.prog X.w (aI H a o) h' a o) :
  Inv X pins σ (aI H a o) {s with heap:=h',toks:=t' }:=I.un (Un.laid k c (I.hok.fresh c)) (I.hok.laid k c new)
def Inv.write{x e:TD}{o:HO}{t':Nat}(I:Inv X pins σ H s)(a:Mut (H x))(c:e=x∨H e=some (.own x))(k:∀b u,b≠e->s.heap.get? b=some u->h'.get? b=some u)(d:∃u,h'.get? e=some u)(new:ObjOk X.prog X.w (aI H x o) h' x o):Inv X pins σ (aI H x o) {s with heap:=h',toks:=t' }:=I.un (Un.write a c k d) (I.hok.write a c k d new)
def Inv.weak{a:List (Option V)}(I:Inv X pins σ H s)(b:a.length=σ.length)(w:∀(i:Nat) v,a[i]?=some (some v)->σ[i]?=some (some v)):Inv X pins a H s:=
 ⟨I.ok,I.os,I.bare,I.base,let ⟨m,c,d⟩:=I.loc;⟨m,c,λi x v e f g=>d i x v e (w i v f) g⟩,I.cell,I.free,I.freeC,I.pin,I.hok,b.trans I.len⟩
def Inv.pins_of{a:ZB}(I:Inv X pins σ H s)(h:∀p∈a,s.heap.get? p.1=some p.2/\H p.1=none/\p.1≠X.env.locals/\p.1∉X.fs/\∀v,p.2.data≠.cell v):Inv X a σ H s:=
 ⟨I.ok,I.os,I.bare,I.base,I.loc,I.cell,I.free,I.freeC,λp b=>(Zma.mp b).elim (λz=>I.pin p (QZU _ z)) (h p),I.hok,I.len⟩
def yT{N:List Str}(c:N.Nodup){i j:Nat}{x:Str}(a:N[i]?=some x)(b:N[j]?=some x):i=j:=by
 obtain⟨f,d⟩:=Zgs.mp a;obtain⟨g,e⟩:=Zgs.mp b;exact(List.getElem_inj c).mp (d.trans e.symm)
def vO{a1:Model}{A:Around}{E:XV}{i:Nat}{x:Str}{v:V}{u:Q4}{Q:Unit->QZZ->Prop}(I:Inv X pins σ H s)(U:X.N.Nodup)(C:X.N[i]?=some x)(l:Wh X.env.scope x)(r:RelV v u)(a0:∀G,Inv X pins (σ.set i (some v)) H G->(∃a,Heap.SameBut a s.heap G.heap/\(a=X.env.locals∨X.env.cells.lookup x=some a))->Q () G)(hf:X.fn x=true∨X.env.scope.names.lookup x=some .local:=by first|exact .inl rfl|exact .inr rfl|assumption):wpAny a1 A (storeName X.env x u) Q E s:=by
 obtain⟨a2,J,W⟩:=id I.loc;have JV:(X.env.scope.kind == .class||(X.env.scope.kind == .module&&X.env.locals != X.env.globals))=false:=by rw[I.ok.kind];rfl
 have Y:i<σ.length:=by rw[I.len];exact(Zgs.mp C).1
 have cne:=I.cne;have T:∀ {a:TD}{h':Heap},(∃o,s.heap.get? a=some o/\H a=none)->Heap.SameBut a s.heap h'->HOk X.prog X.w H h':=λ{a h'} ha f b ob e=>by
  obtain⟨_,_,Z⟩:=ha;refine(I.hok b ob e).stay (λc D h q=>(f.2 c ?_).trans q) (λ_ q=>q) λ_ _ q=>q;rintro rfl;rcases h with rfl|h
  ·rw[Z]at e;cases e
  ·rw[Z]at h;cases h
 rcases l with t|t
 ·refine wpAny_storeName_local t J (λh' CO f=>?_) JV;obtain⟨oL,_,_,UQ,_⟩:=id J;refine a0 _ ⟨I.ok,I.os,I.bare,⟨λb o e n w l=>?_,λb o e n w l=>?_,I.base.free,λb o e l=>?_,I.base.tups,I.base.frzs,I.base.tbls⟩,⟨_,CO,λj y K g m L=>?_⟩,λy c e=>?_,I.free,I.freeC,λp M=>?_,T ⟨oL,UQ,I.free⟩ f,by simpa using I.len⟩ ⟨_,f,.inl rfl⟩
  ·exact(f.2 b (ne_of_lt (QZS (Heap.lt_size e) I.ok.above))).trans (I.base.keep b o e n w l)
  ·obtain⟨sl,g⟩:=I.base.slot b o e n w l;exact⟨sl,(f.2 b (ne_of_lt (QZS (Heap.lt_size e) I.ok.above))).trans g⟩
  ·obtain⟨N,g⟩:=I.base.there b o e l;exact⟨N,(f.2 b (ne_of_lt (QZS (Heap.lt_size e) I.ok.above))).trans g⟩
  ·by_cases B:j=i
   ·subst B;rw[C]at g;cases g;rw[List.getElem?_set_self Y]at m;cases m;exact⟨u,r,.inl ⟨t,Zs⟩⟩
   ·rw[List.getElem?_set_ne (Ne.symm B)]at m;obtain⟨O,P,q⟩:=W j y K g m L;refine⟨O,P,?_⟩;rcases q with⟨k,e⟩|⟨k,c,e,z⟩
    ·refine .inl ⟨k,?_⟩;have:y≠x:=λe=>B (yT U g (e▸C))
     simp[this,e]
    ·exact .inr ⟨k,c,e,z.sameBut f (cne y c e)⟩
  ·obtain⟨D,z⟩:=I.cell y c e;exact⟨D,z.sameBut f (cne y c e)⟩
  ·obtain⟨e,n,ne,R,d⟩:=I.pin p M;exact⟨(f.2 p.1 ne).trans e,n,ne,R,d⟩
 ·have S:X.fn x=true:=by
   rcases hf with z|z
   ·exact z
   ·rw[z]at t;cases t
  obtain⟨c,h⟩:=I.ok.has x (.inl t);obtain⟨D,z⟩:=I.cell x c h;refine wpAny_storeName_cell I.ok.kind t h z (λh' uv f=>?_);obtain⟨oc,HR,JW⟩:=id z;refine a0 {s with heap:=h' } ⟨I.ok,I.os,I.bare,⟨λb o e n w l=>?_,λb o e n w l=>?_,I.base.free,λb o e l=>?_,I.base.tups,I.base.frzs,I.base.tbls⟩,⟨a2,J.sameBut f (Ne.symm (cne x c h)),λj y K g m L=>?_⟩,λy F e=>?_,I.free,I.freeC,λp M=>?_,T ⟨oc,HR,I.freeC x c h⟩ f,by simpa using I.len⟩ ⟨c,f,.inr h⟩
  ·exact(f.2 b (ne_of_lt (QZS (Heap.lt_size e) (I.ok.cab x c S h)))).trans (I.base.keep b o e n w l)
  ·obtain⟨sl,g⟩:=I.base.slot b o e n w l;exact⟨sl,(f.2 b (ne_of_lt (QZS (Heap.lt_size e) (I.ok.cab x c S h)))).trans g⟩
  ·obtain⟨N,g⟩:=I.base.there b o e l;exact⟨N,(f.2 b (ne_of_lt (QZS (Heap.lt_size e) (I.ok.cab x c S h)))).trans g⟩
  ·by_cases B:j=i
   ·subst B;rw[C]at g;cases g;rw[List.getElem?_set_self Y]at m;cases m;exact⟨u,r,.inr ⟨.inl t,c,h,uv⟩⟩
   ·rw[List.getElem?_set_ne (Ne.symm B)]at m;obtain⟨O,P,q⟩:=W j y K g m L;refine⟨O,P,?_⟩;rcases q with q|⟨k,F,e,z'⟩
    ·exact .inl q
    ·refine .inr ⟨k,F,e,z'.sameBut f ?_⟩;rintro rfl;exact B (yT U g (I.ok.inj _ _ _ e h▸C))
  ·by_cases AD:F=c
   ·subst AD;exact⟨_,uv⟩
   ·obtain⟨w2,z2⟩:=I.cell y F e;exact⟨w2,z2.sameBut f AD⟩
  ·obtain⟨e,n,ne,R,d⟩:=I.pin p M;refine⟨(f.2 p.1 ?_).trans e,n,ne,R,d⟩;intro q;rw[q,HR]at e;have q':oc=p.2:=Option.some.inj e;exact d D (by rw[<- q'];exact JW)
def yU{M:Model}{A:Around}{E:XV}{i:Nat}{x:Str}{v:V}{u:Q4}{Q:Unit->QZZ->Prop}(I:Inv X pins σ H s)(b:X.N.Nodup)(c:X.N[i]?=some x)(d:Wh X.env.scope x)(r:RelV v u)(h:∀a,Inv X pins (σ.set i (some v)) H a->Q () a)(e:X.fn x=true∨X.env.scope.names.lookup x=some .local:=by first|exact .inl rfl|exact .inr rfl|assumption):wpAny M A (storeName X.env x u) Q E s:=
 vO I b c d r (λa f _=>h a f) e
def Inv.call'{a:QZZ}{ch:List TD}(I:Inv X pins σ H s)(f:a.os=s.os)(u:Un (Kj X.stack) ch H H' s.heap a.heap)(d:HOk X.prog X.w H' a.heap)(g:AllBare a.gens)(h:∀b∈ch,(b∈X.ex∨X.s₀.heap.objs.size<=b)/\b≠X.env.locals/\(∀x c,X.env.cells.lookup x=some c->c≠b)/\∀p∈X.pn++pins,p.1≠b):Inv X pins σ H' a:=by
 obtain⟨h',g',d',t',i⟩:=a;have e:i=s.os:=f;subst e;exact I.call (g':=g') (t':=t') (d':=d') u d g h
end
abbrev XK:=Value->Option TD->Hp->Prop
abbrev St:=List (Option V)
abbrev VK:=V->Hp->Prop
abbrev TE:=St->Hp->VK->Prop
abbrev TT:=St->Hp->(Bool->Hp->Prop)->Prop
abbrev TA:=St->Hp->(List V->Hp->Prop)->Prop
structure pJ where
 nx:St->Hp->Prop
 rt:VK
 bk:St->Hp->Prop:=λ_ _=>False
 ct:St->Hp->Prop:=λ_ _=>False
abbrev TS:=pJ->St->Hp->Prop
def EP(X:Cx)(b:ZB)(d:St)(Q:VK)(u:Q4)(c:QZZ):Prop:=∃v a,Inv X b d a c/\RelV v u/\Q v a
def TP(X:Cx)(c:ZB)(e:St)(Q:Bool->Hp->Prop)(b:Bool)(d:QZZ):Prop:=∃a,Inv X c e a d/\Q b a
def AP(X:Cx)(b:ZB)(d:St)(Q:List V->Hp->Prop)(us:List Q4)(c:QZZ):Prop:=∃vs a,Inv X b d a c/\Vals vs us/\Q vs a
def SP(X:Cx)(c:ZB)(D:pJ)(f:Flow)(d:QZZ):Prop:=
 match f with
 | .next=>∃ b a,Inv X c b a d/\D.nx b a
 | .brk=>∃ b a,Inv X c b a d/\D.bk b a
 | .cont=>∃ b a,Inv X c b a d/\D.ct b a
 | .ret u=>∃v b a,Inv X c b a d/\RelV v u/\D.rt v a
def PE(X:Cx)(e:Expr)(t:TE):Prop:=
 ∀(b:ZB)(s:QZZ)(a:St)(H:Hp)(Q:VK),Inv X b a H s->t a H Q->wpAny (model X.prog X.w) X.A (eval e X.env) (EP X b a Q) X.xe s
def PT(X:Cx)(e:Expr)(t:TT):Prop:=
 ∀(b:ZB)(s:QZZ)(a:St)(H:Hp)(Q:Bool->Hp->Prop),Inv X b a H s->t a H Q->wpAny (model X.prog X.w) X.A (isTrue e X.env (eval e X.env)) (TP X b a Q) X.xe s
def PW(X:Cx)(e:Expr)(t:TT):Prop:=
 ∀(whole:Sem Value)(b:ZB)(s:QZZ)(a:St)(H:Hp)(Q:Bool->Hp->Prop),Inv X b a H s->t a H Q->wpAny (model X.prog X.w) X.A (isTrue e X.env whole) (TP X b a Q) X.xe s
def PW.pt{X:Cx}{e:Expr}{t:TT}(h:PW X e t):PT X e t:=h _
def PA(X:Cx)(es:List Expr)(t:TA):Prop:=
 ∀(c:Pos)(b:ZB)(s:QZZ)(a:St)(H:Hp)(Q:List V->Hp->Prop),Inv X b a H s->t a H Q->wpAny (model X.prog X.w) X.A (spliced (backTo c (starEach es X.env))) (AP X b a Q) X.xe s
def PS(X:Cx)(st:Stmt)(t:TS):Prop:=
 ∀(a:ZB)(s:QZZ)(b:St)(H:Hp)(D:pJ),Inv X a b H s->t D b H->wpAny (model X.prog X.w) X.A (exec st X.env) (SP X a D) X.xe s
def PSs(X:Cx)(st:List Stmt)(t:TS):Prop:=
 ∀(a:ZB)(s:QZZ)(b:St)(H:Hp)(D:pJ),Inv X a b H s->t D b H->wpAny (model X.prog X.w) X.A (execs st X.env) (SP X a D) X.xe s
def cA{c:Type}{t:Sem c}{Q b:c->QZZ->Prop}{M:Model}{A:Around}{E:XV}{s:QZZ}(h:wpAny M A t Q E s)(d:∀a s,Q a s->b a s):wpAny M A t b E s:=wpAny_mono h d λ_ _ x=>x
section
variable {X:Cx}
def bin{a b:Expr}{i j:TE}(n:PE X a i)(o:PE X b j){d:ZB}{s:QZZ}{c:St}{H:Hp}{R:V->V->Hp->Prop}(I:Inv X d c H s)(h:i c H λx g=>j c g λy H2=>R x y H2){k:Type}{Q:k->QZZ->Prop}{f:Q4->Q4->Sem k}(p:∀v u e x y H2,Inv X d c H2 e->RelV x v->RelV y u->R x y H2->wpAny (model X.prog X.w) X.A (f v u) Q X.xe e) :
  wpAny (model X.prog X.w) X.A (eval a X.env) (λv l=>wpAny (model X.prog X.w) X.A (eval b X.env) (λu m=>wpAny (model X.prog X.w) X.A (f v u) Q X.xe m) X.xe l) X.xe s:=by
 refine cA (n d s c H _ I h) ?_;rintro v q ⟨x,g,r,t,w⟩;refine cA (o d q c g _ r w) ?_;rintro u e ⟨y,H2,z,A,B⟩;exact p v u e x y H2 z t A B
def Xu(i:Nat):TE:=λa H Q=>∃v,a[i]?=some (some v)/\Q v H
def tC(v:V):TE:=λ_ H Q=>Q v H
def Xv{i:Nat}{x:Str}{pos:Pos}(k:X.N[i]?=some x)(n:Vis X.env.scope x)(d:(x==("__debug__":Str))=false:=by decide)(o:(x==("__classdict__":Str))=false:=by decide):PE X (.Name x pos) (Xu i):=by
 intro j s w H Q I h;obtain⟨v,e,h⟩:=h;obtain⟨m,p,q⟩:=I.loc;obtain⟨u,r,l⟩:=q i x v k e n;have b:EP X j w Q u s:=⟨v,H,I,r,h⟩;rcases l with⟨a,t⟩|⟨a,c,f,g⟩
 ·exact wpAny_Name (wpAny_loadName_local I.ok.kind a p t b) d
 ·rcases a with a|a
  ·exact wpAny_Name (wpAny_loadName_cell I.ok.kind a f g b) d
  ·exact wpAny_Name (wpAny_loadName_free I.ok.kind a f g b o) d
def Xw{i j pos}:PE X (.Constant (.int i) j pos) (tC (.int i)):=λ_ _ _ H _ I h=>wpAny_Constant_int ⟨.int i,H,I.tok _,⟨_,rfl⟩,h⟩
def aBj{b j pos}:PE X (.Constant (.bool b) j pos) (tC (.bl b)):=λ_ _ _ H _ I h=>Constant_bool ⟨.bl b,H,I,rfl,h⟩
def Xx{j pos}:PE X (.Constant .none j pos) (tC .non):=λ_ _ _ H _ I h=>Constant_none ⟨.non,H,I,rfl,h⟩
def Xy{x j pos}:PE X (.Constant (.str x) j pos) (tC (.str x)):=λ_ _ _ H _ I h=>Calls.Constant_str ⟨.str x,H,I.tok _,⟨_,rfl⟩,h⟩
def Gl(X:Cx)(x:Str):Prop:=X.env.kindOf x=some .globalImplicit
def rM{E:XV}{a:ZB}{s:QZZ}{e:St}{H:Hp}{x:Str}{u:Q4}{pos:Pos}{Q:XV}(I:Inv X a e H s)(b:Gl X x)(c:X.mg x=some u)(h:Q u s)(d:(x==("__debug__":Str))=false:=by decide):wpAny (model X.prog X.w) X.A (eval (.Name x pos) X.env) Q E s:=
 Calls.Name_function_global I.ok.kind b (Calls.loadGlobal_global (by rw[I.ok.glob];exact I.mod.glob.keeps I.bk) c h) d
def pK{E:XV}{a:ZB}{s:QZZ}{j:St}{H:Hp}{x:Str}{u:Q4}{pos:Pos}{Q:XV}(I:Inv X a j H s)(b:Gl X x)(c:X.mg x=none)(d:bootBuiltins x=some u)(h:Q u s)(e:x≠"__name__":=by decide)(f:(x==("__debug__":Str))=false:=by decide):wpAny (model X.prog X.w) X.A (eval (.Name x pos) X.env) Q E s:=by
 obtain⟨k,g,i⟩:=I.mod.blt;exact Calls.Name_function_global I.ok.kind b (Calls.loadGlobal_builtin (by rw[I.ok.glob];exact I.mod.glob.keeps I.bk) c (by rw[I.ok.blt];exact g.keeps I.bk) ((i x e).trans d) h) f
def wV{x:Str}{v:V}{u:Q4}{pos:Pos}(a:Gl X x)(b:X.mg x=some u)(r:RelV v u)(c:(x==("__debug__":Str))=false:=by decide):PE X (.Name x pos) (tC v):=
 λ_ _ _ H _ I h=>rM I a b ⟨v,H,I,r,h⟩ c
def Rv{x:Str}{v:V}{u:Q4}{pos:Pos}(a:Gl X x)(b:X.mg x=none)(c:bootBuiltins x=some u)(r:RelV v u)(d:x≠"__name__":=by decide)(e:(x==("__debug__":Str))=false:=by decide):PE X (.Name x pos) (tC v):=
 λ_ _ _ H _ I h=>pK I a b c ⟨v,H,I,r,h⟩ d e
variable {a b:Expr}{ta tb:TE}{pos:Pos}
def PC(X:Cx)(op:CmpOp)(a b:Expr)(t:TE):Prop:=
 ∀(d:ZB)(s:QZZ)(c:St)(H:Hp)(Q:VK),Inv X d c H s->t c H Q →
  wpAny (model X.prog X.w) X.A (eval a X.env) (λv e=>wpAny (model X.prog X.w) X.A (eval b X.env) (λu f=>wpAny (model X.prog X.w) X.A (compareOp op v u) (EP X d c Q) X.xe f) X.xe e) X.xe s
def tB(t:TE):TT:=λe H Q=>t e H λx d=>∃c,x=.bl c/\Q c d
def aCW{op:CmpOp}{t:TE}(h:PC X op a b t)(e:behindInMarks op b=false:=by first|exact o _ Zd Zd|rfl):PT X (.Compare a [op] [b] pos) (tB t):=by
 intro f s n H Q I g;refine wpAny_isTrue_Compare1 (cA (h f s n H _ I g) λv p e=>cA e λu r i=>cA i ?_) e;rintro c w ⟨x,j,k,l,m⟩;obtain⟨d,rfl,q⟩:=m;cases l;exact wpAny_truthy_bool ⟨j,k,q⟩
def Xz{e:Expr}{t:TE}(h:PE X e t)(f:∀whole,isTrue e X.env whole=(do let v←whole;standAt e.pos;holding [v] (truthy v)):=by intro _;rfl):PT X e (tB t):=by
 intro c s m H Q I g;refine isTrue_plain (cA (h c s m H _ I g) ?_) (f _);rintro v n ⟨x,i,j,k,l⟩;obtain⟨d,rfl,q⟩:=l;cases k;exact wpAny_truthy_bool ⟨i,j,q⟩
variable {tA xi:TT}{rest:List Expr}
def Rw(t u:TT):TT:=λe H Q=>t e H λc d=>if c=true then u e d Q else Q false d
def tOr(t u:TT):TT:=λe H Q=>t e H λc d=>if c=true then Q true d else u e d Q
def aBk(t:TT):TT:=λe H Q=>t e H λc d=>Q (!c) d
def Rx(f:PT X a tA):PW X (.BoolOp .And [a] pos) tA:=by
 intro i d s g H Q I h;refine isTrue_and (cA (f d s g H Q I h) λc j e=>?_)
 cases c with
 | true=>exact isTrue_and_nil e
 | false=>exact e
def Ya(f:PT X a tA):PW X (.BoolOp .Or [a] pos) tA:=by
 intro i d s g H Q I h;refine isTrue_or (cA (f d s g H Q I h) λc j e=>?_)
 cases c with
 | false=>exact isTrue_or_nil e
 | true=>exact e
def Yb(j:PT X a tA)(k:PW X (.BoolOp .And (b::rest) pos) xi):PW X (.BoolOp .And (a::b::rest) pos) (Rw tA xi):=by
 intro l d s i H Q I h;refine isTrue_and (cA (j d s i H _ I h) ?_);rintro c m ⟨e,f,g⟩
 cases c with
 | true=>exact k l d m i e Q f g
 | false=>exact⟨e,f,g⟩
def aBl(j:PT X a tA)(k:PW X (.BoolOp .Or (b::rest) pos) xi):PW X (.BoolOp .Or (a::b::rest) pos) (tOr tA xi):=by
 intro l d s i H Q I h;refine isTrue_or (cA (j d s i H _ I h) ?_);rintro c m ⟨e,f,g⟩
 cases c with
 | true=>exact⟨e,f,g⟩
 | false=>exact k l d m i e Q f g
def Yc(e:PT X a tA):PT X (.UnaryOp .Not a pos) (aBk tA):=by
 intro d s g H Q I h;exact isTrue_not (e d s g H (λc f=>Q (!c) f) I h)
def Kk(ta tb:TE):TE:=λe H Q=>ta e H λx d=>∃c,x=.bl c/\if c=true then tb e d Q else Q (.bl false) d
def Yd(ta tb:TE):TE:=λe H Q=>ta e H λx d=>∃c,x=.bl c/\if c=true then Q (.bl true) d else tb e d Q
def Ye{op}{t:TE}(h:PE X a t):PE X (.BoolOp op [a] pos) t:=λc s e H Q I d=>BoolOp_one (h c s e H Q I d)
def Yf(j:PE X a ta)(k:PE X (.BoolOp .And (b::rest) pos) tb):PE X (.BoolOp .And (a::b::rest) pos) (Kk ta tb):=by
 intro e s i H Q I h;refine BoolOp_and (cA (j e s i H _ I h) ?_);rintro v l ⟨x,f,g,m,d⟩;obtain⟨c,rfl,d⟩:=d;cases m;refine wpAny_truthy_bool ?_
 cases c with
 | true=>exact k e l i f Q g d
 | false=>exact⟨.bl false,f,g,rfl,d⟩
def aBm(j:PE X a ta)(k:PE X (.BoolOp .Or (b::rest) pos) tb):PE X (.BoolOp .Or (a::b::rest) pos) (Yd ta tb):=by
 intro e s i H Q I h;refine BoolOp_or (cA (j e s i H _ I h) ?_);rintro v l ⟨x,f,g,m,d⟩;obtain⟨c,rfl,d⟩:=d;cases m;refine wpAny_truthy_bool ?_
 cases c with
 | false=>exact k e l i f Q g d
 | true=>exact⟨.bl true,f,g,rfl,d⟩
end
def SqL(K:W.Frag)(H:Hp)(a:TD)(xs:List V):Prop:=
 Rd H a (.lst xs)∨
  ∃(o:Obj)(b:Array Value)(n:Nat),K.lookup a=some o/\o.cls=.type "list"/\o.dict=none/\o.data=.seq b n/\b.size<=sizeLine/\Vals xs b.toList
def SqT(K:W.Frag)(H:Hp)(a:TD)(xs:List V):Prop:=
 Rd H a (.tup xs)∨
  ∃(o:Obj)(b:Array Value)(n:Nat),K.lookup a=some o/\o.cls=.type "tuple"/\o.data=.seq b n/\b.size<=sizeLine/\Vals xs b.toList
def aCX:Q4->Option V
 | .none=>some .non
 | .bool b=>some (.bl b)
 | .int i _=>some (.int i)
 | .str x _=>some (.str x)
 | .bytes b _=>some (.byt b)
 | .float b _=>some (.flt b)
 | .ref a=>some (.ref a)
 | .type n=>some (.ty n)
 | _=>none
def RelV.abs{x:V}{u:Q4}(r:RelV x u):aCX u=some x:=by
 cases x with
 | non=>cases r;rfl
 | bl _=>cases r;rfl
 | int _=>obtain⟨t,rfl⟩:=r;rfl
 | str _=>obtain⟨t,rfl⟩:=r;rfl
 | byt _=>obtain⟨t,rfl⟩:=r;rfl
 | flt _=>obtain⟨t,rfl⟩:=r;rfl
 | ref _=>cases r;rfl
 | ty _=>cases r;rfl
def RelV.inj{x y:V}{u:Q4}(r:RelV x u)(q:RelV y u):x=y:=Option.some.inj (r.abs.symm.trans q.abs)
theorem Vals.inj:∀ {xs ys:List V}{us:List Q4},Vals xs us->Vals ys us->xs=ys
 | _,_,_,.nil,.nil=>rfl
 | _,_,_,.cons r t,.cons a b=>by rw[r.inj a,Vals.inj t b]
section
variable {X:Cx}{pins:ZB}{σ:St}{H:Hp}{s:QZZ}{a:TD}{xs ys:List V}
def SqL.of{K:W.Frag}(h:H a=some (.lst xs)):SqL K H a xs:=.inl (.inl h)
def QYJ:=@SqL.of
def SqT.of{K:W.Frag}(h:H a=some (.tup xs)):SqT K H a xs:=.inl (.inl h)
def QYK:=@SqT.of
def Inv.list(I:Inv X pins σ H s)(h:SqL X.K H a xs):∃its:List Q4,Vals xs its/\PlainL s.heap a its.toArray/\xs.length<=sizeLine:=by
 rcases h with h|⟨o,its,n,b,c,d,f,g,r⟩
 ·obtain⟨z,its,n,r,e⟩:=h.ok I.hok;exact⟨its,r,⟨_,n,e,rfl,rfl,rfl⟩,z⟩
 ·refine⟨its.toList,r,⟨o,n,I.kIn a o b,c,d,by simpa using f⟩,?_⟩;have e:=r.length;simp only [Array.length_toList]at e;omega
def Inv.tuple(I:Inv X pins σ H s)(h:SqT X.K H a xs):∃its:List Q4,Vals xs its/\IsTup s.heap a its.toArray/\xs.length<=sizeLine:=by
 rcases h with h|⟨o,its,n,b,c,d,f,r⟩
 ·obtain⟨z,its,r,p⟩:=h.ok I.hok;exact⟨its,r,p,z⟩
 ·refine⟨its.toList,r,⟨o,I.kIn a o b,c,n,by simpa using d⟩,?_⟩;have e:=r.length;simp only [Array.length_toList]at e;omega
def Inv.list_inj(I:Inv X pins σ H s)(h:SqL X.K H a xs)(h':SqL X.K H a ys):xs=ys:=by
 obtain⟨g,r,⟨o,n,e,_,_,d⟩,_⟩:=I.list h;obtain⟨f,i,⟨k,l,b,_,_,c⟩,_⟩:=I.list h';rw[e]at b;cases b;rw[d]at c;injection c with j _
 have:g=f:=by simpa using congrArg Array.toList j
 subst this;exact r.inj i
def Inv.tuple_inj(I:Inv X pins σ H s)(h:SqT X.K H a xs)(h':SqT X.K H a ys):xs=ys:=by
 obtain⟨g,r,⟨o,e,_,n,d⟩,_⟩:=I.tuple h;obtain⟨f,i,⟨k,b,_,l,c⟩,_⟩:=I.tuple h';rw[e]at b;cases b;rw[d]at c;injection c with j _
 have:g=f:=by simpa using congrArg Array.toList j
 subst this;exact r.inj i
end
abbrev Cx.wish(X:Cx)(E:XV):Cx:={X with xe:=E }
abbrev Cx.nox(X:Cx):Cx:=X.wish λ_ _=>False
def Cx.Ok.wish{X:Cx}(ok:X.Ok)(E:XV):(X.wish E).Ok:=
 ⟨ok.mod,ok.kind,ok.glob,ok.blt,ok.above,ok.inj,ok.has,ok.cab,ok.hd,ok.frames,ok.stk,ok.exf,ok.bs,ok.bsz,ok.noex,ok.exfs,ok.funs,ok.frf⟩
def Cx.Ok.unwish{X:Cx}{E:XV}(ok:(X.wish E).Ok):X.Ok:=
 ⟨ok.mod,ok.kind,ok.glob,ok.blt,ok.above,ok.inj,ok.has,ok.cab,ok.hd,ok.frames,ok.stk,ok.exf,ok.bs,ok.bsz,ok.noex,ok.exfs,ok.funs,ok.frf⟩
section
variable {X:Cx}{pins:ZB}{σ:St}{H:Hp}{s:QZZ}{E:XV}
def Inv.wish(I:Inv X pins σ H s)(E:XV):Inv (X.wish E) pins σ H s:=⟨I.ok.wish E,I.os,I.bare,I.base,I.loc,I.cell,I.free,I.freeC,I.pin,I.hok,I.len⟩
def Inv.unwish(I:Inv (X.wish E) pins σ H s):Inv X pins σ H s:=⟨I.ok.unwish,I.os,I.bare,I.base,I.loc,I.cell,I.free,I.freeC,I.pin,I.hok,I.len⟩
def SP.unwish{D:pJ}{f:Flow}{c:QZZ}(h:SP (X.wish E) pins D f c):SP X pins D f c:=by
 cases f with
 | next=>obtain⟨a,b,I,q⟩:=h;exact⟨a,b,I.unwish,q⟩
 | brk=>obtain⟨a,b,I,q⟩:=h;exact⟨a,b,I.unwish,q⟩
 | cont=>obtain⟨a,b,I,q⟩:=h;exact⟨a,b,I.unwish,q⟩
 | ret u=>obtain⟨v,a,b,I,r,q⟩:=h;exact⟨v,a,b,I.unwish,r,q⟩
def PSs.nox{st:List Stmt}{t:TS}(h:PSs X.nox st t):PSs X st t:=λpins s σ H D I a=>
 wpAny_mono (h pins s σ H D (I.wish _) a) (λ_ _ q=>q.unwish) λ_ _ z=>False.elim z
end
section
variable {X:Cx}{st:Stmt}{rest:List Stmt}{t u:TS}{e:Expr}{te:TE}{pos:Pos}
def yV:TS:=λD a H=>D.nx a H
def uX(t u:TS):TS:=λD a H=>t {D with nx:=u D } a H
def Ry:PSs X [] yV:=λ_ _ a H _ I h=>wpAny_execs_nil ⟨a,H,I,h⟩
def Kl(c:PS X st t)(d:PSs X rest u):PSs X (st::rest) (uX t u):=by
 intro a s k H D I h;refine wpAny_execs_cons (cA (c a s k H {D with nx:=u D } I h) λf g q=>?_)
 cases f with
 | next=>
  obtain⟨b,i,j,q⟩:=q;exact d a g b i D j q
 | ret v=>exact q
 | brk=>exact q
 | cont=>exact q
def Rz(b:PS X st t):PSs X [st] t:=by
 intro a s c H D I h;refine wpAny_execs_cons (cA (b a s c H D I h) λf d q=>?_)
 cases f with
 | next=>exact wpAny_execs_nil q
 | ret v=>exact q
 | brk=>exact q
 | cont=>exact q
def Inv.quiet{a:ZB}{b:St}{H:Hp}{s:QZZ}(I:Inv X a b H s):interactive X.env=false:=by simp[interactive,I.ok.kind]
def Wi(te:TE):TS:=λD a H=>te a H λ_ b=>D.nx a b
def Sb(c:PE X e te)(hs:swapsWith e none pos.line X.env=pure false:=by rfl):PS X (.Expr e pos) (Wi te):=by
 intro b s a H D I h;exact wpAny_Expr_any (cA (c b s a H _ I h) λv i ⟨x,d,f,j,g⟩=>⟨a,d,f,g⟩) I.quiet hs
def aBn(te:TE):TS:=λD a H=>te a H D.rt
def Yg(c:PE X e te):PS X (.Return (some e) pos) (aBn te):=by
 intro b s a H D I h;exact wpAny_Return_some (cA (c b s a H _ I h) λv j ⟨x,d,f,g,i⟩=>⟨x,a,d,f,g,i⟩)
def Gr(c:TT)(t u:TS):TS:=λD a H=>c a H λb d=>if b=true then t D a d else u D a d
def aBo{c:Expr}{a b:List Stmt}{i:TT}(n:PT X c i)(o:PSs X a t)(p:PSs X b u):PS X (.If c a b pos) (Gr i t u):=by
 intro f s g H D I h;refine wpAny_If (cA (n f s g H _ I h) ?_);rintro d j ⟨k,l,m⟩
 cases d with
 | true=>exact o f j g k D l m
 | false=>exact p f j g k D l m
end
abbrev TG:=V->St->Hp->(St->Hp->Prop)->Prop
abbrev Ec:=List V->St->Hp->(St->Hp->Prop)->Prop
def PG(X:Cx)(e:Expr)(t:TG):Prop:=
 ∀(a:ZB)(s:QZZ)(d:St)(H:Hp)(v:V)(u:Q4)(Q:St->Hp->Prop),Inv X a d H s->RelV v u->t v d H Q →
  wpAny (model X.prog X.w) X.A (assign e X.env u) (λ_ f=>∃ b c,Inv X a b c f/\Q b c) X.xe s
def PGs(X:Cx)(f:List Expr)(t:Ec):Prop:=
 ∀(a:ZB)(s:QZZ)(e:St)(H:Hp)(vs:List V)(c:List Q4)(Q:St->Hp->Prop),Inv X a e H s->Vals vs c->t vs e H Q →
  wpAny (model X.prog X.w) X.A (assignInOrder ((assignEach f X.env).map (·.2)) c) (λ_ g=>∃ b d,Inv X a b d g/\Q b d) X.xe s
abbrev Gs:=V->V->V->Hp->(Hp->Prop)->Prop
def Sc(X:Cx)(t:Gs):Prop:=
 ∀(a:ZB)(s:QZZ)(e:St)(H:Hp)(o i v:V)(b c u:Q4)(Q:Hp->Prop),Inv X a e H s->RelV o b->RelV i c->RelV v u->t o i v H Q →
  wpAny (model X.prog X.w) X.A (setItem b c u) (λ_ f=>∃d,Inv X a e d f/\Q d) X.xe s
section
variable {X:Cx}{pos:Pos}
def aJ(i:Nat):TG:=λv a H Q=>Q (a.set i (some v)) H
def Sd{i:Nat}{x:Str}(a:X.N.Nodup)(b:X.N[i]?=some x)(c:Wh X.env.scope x)(d:X.fn x=true∨X.env.scope.names.lookup x=some .local:=by first|exact .inl rfl|exact .inr rfl|assumption):PG X (.Name x pos) (aJ i):=by
 intro f s j H v u Q I r h;exact wpAny_assign_Name (yU I a b c r (λg e=>⟨_,H,e,h⟩) d)
def Yh:Ec:=λvs a H Q=>vs=[]/\Q a H
def Km(t:TG)(u:Ec):Ec:=λvs c H Q=>∃v r,vs=v::r/\t v c H λa b=>u r a b Q
def Se:PGs X [] Yh:=by
 intro b s a H vs c Q I r h;obtain⟨e,h⟩:=h;subst e;cases r;exact assignInOrder_nil ⟨a,H,I,h⟩
def Kn{e:Expr}{es:List Expr}{t:TG}{u:Ec}(c:PG X e t)(d:PGs X es u)(hs:(assignEach (e::es) X.env).map (·.2)=assign e X.env::(assignEach es X.env).map (·.2):=by rfl):PGs X (e::es) (Km t u):=by
 intro a s m H vs n Q I r h;obtain⟨v,vr,f,h⟩:=h;subst f;cases r with
 | cons r g=>
  rw[hs];refine assignInOrder_cons (cA (c a s m H _ _ _ I r h) ?_);rintro _ i ⟨b,j,k,l⟩;exact d a i b j _ _ Q k g l
def Sf(K:W.Frag)(n:Nat)(t:Ec):TG:=λv c H Q=>∃a b,v=.ref a/\SqT K H a b/\b.length=n/\t b c H Q
def Yi{es:List Expr}{k:Nat}{t:Ec}{n:Nat}(i:X.calm=true)(h:PGs X es t)(j:(assignEach es X.env).length=n:=by rfl)(l:(assignEach es X.env).findIdx? (·.1)=none:=by rfl):PG X (.Tuple es k pos) (Sf X.K n t):=by
 intro d s g H v u Q I r c;obtain⟨a,m,p,q,w,c⟩:=c;subst p;cases r;obtain⟨B,f,x,C⟩:=I.tuple q;refine assign_Tuple_tuple (I.ok.hd i) x (by simp[j,<- w,f.length]) l λy z=>?_;have A:Inv X d g H {s with heap:=y }:=I.kept (t':=s.toks) λb o e=>z b o (ne_of_lt (Heap.lt_size e)) e
 exact h d _ g H m _ Q A (by simpa using f) c
def aBq(b c:TE)(t:Gs):TG:=λv a H Q=>b a H λo d=>c a d λi e=>t o i v e λf=>Q a f
def Yj{o i:Expr}{e f:TE}{t:Gs}(g:PE X o e)(j:PE X i f)(hs:Sc X t)(k:∀v,assign (.Subscript o i pos) X.env v=(do
   let a←holding [v] (eval o X.env)
   let b←holding [v,a] (eval i X.env)
   standAt pos
   holding [v,a,b] (setItem a b v)
   release [v,a,b] []):=by intro _;rfl):PG X (.Subscript o i pos) (aBq e f t):=by
 intro d s c H v u Q I r h;rw[k];refine U9 (wpAny_holding (cA (g d s c H _ I h) ?_));rintro a l ⟨x,m,n,p,q⟩;refine U9 (wpAny_holding (cA (j d l c m _ n q) ?_));rintro b w ⟨y,z,A,B,C⟩;refine U9 (wpAny_standAt (U9 (wpAny_holding (cA (hs d w c z x y v a b u _ A p B r C) ?_))));rintro _ G ⟨D,E,F⟩;exact wpAny_release ⟨c,D,E,F⟩
def Ko(b:TE)(g:TG):TS:=λD a H=>b a H λx c=>g x a c D.nx
def Yk{a e:Expr}{c:TE}{g:TG}(f:PE X e c)(i:PG X a g)(hs:swapsWithSole [a] e pos.line X.env=pure false:=by rfl)(j:swappedStores [a] e X.env=pure none:=by rfl)(k:(assignEach [a] X.env).map (·.2)=[assign a X.env]:=by rfl):PS X (.Assign [a] e pos) (Ko c g):=by
 intro b s d H D I h;refine wpAny_Assign_stores (cA (f b s d H _ I h) ?_) hs j;rintro v l ⟨x,m,n,o,p⟩;rw[k];exact cA (i b l d m x v _ n o p) λ_ r q=>q
def Yl{i:Nat}{x:Str}{e:Expr}{b:TE}{a:Pos}(d:X.N.Nodup)(f:X.N[i]?=some x)(g:Wh X.env.scope x)(j:PE X e b)(hs:swapsWith e (some (.Name x a)) pos.line X.env=pure false:=by rfl)(k:X.fn x=true∨X.env.scope.names.lookup x=some .local:=by first|exact .inl rfl|exact .inr rfl|assumption) :
  PS X (.Assign [.Name x a] e pos) (Ko b (aJ i)):=by
 intro c s q H D I h;refine wpAny_Assign_Name (cA (j c s q H _ I h) ?_) hs;rintro v r ⟨y,l,m,n,o⟩;exact yU m d f g n (λt p=>⟨_,l,p,o⟩) k
end
structure It where
 go:Nat->Hp->Prop
 yld:Nat->Hp->V->Hp->Prop
 stop:Nat->Hp->Prop
def pL(X:Cx)(a:ZB)(H:Hp)(b:TD):Prop:=
 H b=none/\b≠X.env.locals/\b∉X.fs/\(b∈X.ex∨X.s₀.heap.objs.size<=b)/\(∀x c,X.env.cells.lookup x=some c->c≠b)/\∀p∈X.pn++a,p.1≠b
def Inv.fpOk{X:Cx}{d:ZB}{i:St}{H f:Hp}{s:QZZ}{b:TD}(I:Inv X d i H s)(a:s.heap.objs.size<=b)(g:f b=none):pL X d f b:=by
 refine⟨g,ne_of_gt (QZS I.lt a),I.nofs a,.inr (gL I.sz a),λx c e z=>?_,λp h z=>?_⟩
 ·obtain⟨v,q⟩:=I.cell x c e;exact QZW (QZS q.lt (by rw[z];exact a)) (lt_irrefl _)
 ·exact QZW (QZS (Heap.lt_size (I.pin p h).1) (by rw[z];exact a)) (lt_irrefl _)
structure sC(P:Program)(w:World)(K:W.Frag)(tg:Expr)(J:It)(fp:List TD)(it:TD)(tn:Nat->Heap->Prop):Prop where
 mem:it∈fp
 obj:∀i h,tn i h->∀b∈fp,∃o,h.get? b=some o/\∀v,o.data≠.cell v
 keep:∀i h h',tn i h->(∀b∈fp,∀o,h.get? b=some o->h'.get? b=some o)->tn i h'
 item:∀(X:Cx),X.prog=P->X.w=w->X.K=K->X.calm=true->∀(i:Nat)(pins:ZB)(s:QZZ)(σ:St)(H:Hp)(E:XV),Inv X pins σ H s->(∀b∈fp,pL X pins H b)->tn i s.heap->J.go i H →
  wpAny (model P w) X.A (pyNext (.ref it)) (λr s1=>∃u,r=some u ∧
   wpAny (model P w) X.A (letOwnedTupleGo tg (.ref it) u) (λ_ s2=>∃x H',Inv X pins σ H' s2/\RelV x u/\J.yld i H x H'/\tn (i+1) s2.heap/\∀b∈fp,H' b=none) E s1) E s
 done:∀(X:Cx),X.prog=P->X.w=w->X.K=K->X.calm=true->∀(i:Nat)(pins:ZB)(s:QZZ)(σ:St)(H:Hp)(E:XV),Inv X pins σ H s->(∀b∈fp,pL X pins H b)->tn i s.heap->J.stop i H →
  wpAny (model P w) X.A (pyNext (.ref it)) (λr s1=>r=none/\Inv X pins σ H s1) E s
 self:∀(A:Around)(i:Nat)(s:QZZ)(Q:XV)(E:XV),tn i s.heap->Q (.ref it) s->wpAny (model P w) A (pyIter (.ref it)) Q E s
abbrev TI:=St->Hp->(It->Hp->Prop)->Prop
def PIE(X:Cx)(c:ZB)(j:St)(h:Expr)(R:It->Hp->Prop)(i:Q4)(d:QZZ):Prop:=
 ∃(e:TD)(f:List TD)(g:Nat->Heap->Prop)(J:It)(a:Hp),i=.ref e/\Inv X c j a d/\sC X.prog X.w X.K h J f e g/\g 0 d.heap/\(∀b∈f,pL X c a b)/\R J a
def PI(X:Cx)(c iter:Expr)(d:TI):Prop:=
 ∀(b:ZB)(s:QZZ)(a:St)(H:Hp)(R:It->Hp->Prop),Inv X b a H s->d a H R →
  wpAny (model X.prog X.w) X.A (eval iter X.env) (λv e=>wpAny (model X.prog X.w) X.A (pyIter v) (PIE X b a c R) X.xe e) X.xe s
def sD{M:Model}{A:Around}{E:XV}{s:QZZ}{b:Expr}{it:TD}{u:Q4}{o:Obj}{n:String}{vs:Array Value}{Q:Unit->QZZ->Prop}(c:s.heap.get? it=some o)(d:o.cls=.type n)(e:o.data=.fields vs)(f:["enumerate","zip","dict_itemiterator","dict_reverseitemiterator","odict_iterator","itertools.zip_longest","itertools.pairwise"].contains n=false)(a:Q () s):wpAny M A (letOwnedTupleGo b (.ref it) u) Q E s:=by
  unfold letOwnedTupleGo;cases b<;>first
    | exact U8 a
    | (cases u <;> first
        | exact U8 a
        | (refine U9 (wpAny_load c ?_)
           rw[d,e];show wpAny M A (if (["enumerate","zip","dict_itemiterator","dict_reverseitemiterator","odict_iterator","itertools.zip_longest","itertools.pairwise"].contains n&&vs[0]? == some (rawInt _))=true then _ else _) Q E s;rw[QZX (by intro h;rw[f,Bool.false_and]at h;cases h)];exact U8 a))
def Rr(K:W.Frag)(a:TD):It:=
 ⟨λi H=>∃b x,SqL K H a b/\b[i]?=some x,λi H x c=>c=H/\∀b,SqL K H a b->b[i]?=some x,λi H=>∃b,SqL K H a b/\b.length<=i⟩
def Itt(K:W.Frag)(a:TD):It:=
 ⟨λi H=>∃b x,SqT K H a b/\b[i]?=some x,λi H x c=>c=H/\∀b,SqT K H a b->b[i]?=some x,λi H=>∃b,SqT K H a b/\b.length<=i⟩
def Itr(lo:Int)(n:Nat):It:=⟨λi _=>i<n,λi H x a=>a=H/\x=.int (lo+i),λi _=>n<=i⟩
def Gu{P:Program}{w:World}{K:W.Frag}{N:Expr}(a it:TD):sC P w K N (Rr K a) [it] it (λi h=>h.IsListIter it a i) where
 mem:=by simp
 obj:=λi h st b f=>by
  have e:b=it:=by simpa using f
  subst e;obtain⟨o,e,c,d⟩:=st;exact⟨o,e,λv z=>by rw[d]at z;cases z⟩
 keep:=λi h g st k=>st.at λo e=>k it Zs o e
 item:=by
  intro X m n q G i F s L H E I j st r;subst m n q;obtain⟨O,x,l,t⟩:=r;obtain⟨M,y,p,Q⟩:=I.list l;obtain⟨u,R,S⟩:=y.get t;refine yE0 (j it Zs) (yA6 λA f1 f2 B C D=>?_);refine wpAny_pyNext_list_item st p.isList (x:=u) (by simpa using R) λg J T=>?_;have U:Inv X F L H {s with heap:=g }:=I.turned (t':=s.toks) (λb o f e=>(T.2 b f).trans e) A f1 B C D;obtain⟨o,e,c,d⟩:=id J;exact⟨u,rfl,sD (s:={s with heap:=g }) e c d Zd ⟨x,H,U,S,⟨rfl,λZ V=>by rw[I.list_inj V l];exact t⟩,J,λb f=>(j b f).1⟩⟩
 done:=by
  intro X m n q G i F s L H E I j st r;subst m n q;obtain⟨O,l,t⟩:=r;obtain⟨M,y,p,Q⟩:=I.list l;obtain⟨A,f1,f2,B,C,D⟩:=j it Zs;have hl:=y.length;exact wpAny_pyNext_list_end (I.ok.hd G) st p.isList (by simp;omega) λg Y=>⟨rfl,I.turned (t':=s.toks) (λb o f e=>Y b o f e) A f1 B C D⟩
 self:=λ_ _ _ _ _ st h=>wpAny_pyIter_listiter st h
def Bm{P:Program}{w:World}{K:W.Frag}{N:Expr}(a it:TD):sC P w K N (Itt K a) [it] it (λi h=>h.IsTupleIter it a i) where
 mem:=by simp
 obj:=λi h st b f=>by
  have e:b=it:=by simpa using f
  subst e;obtain⟨o,e,c,d⟩:=st;exact⟨o,e,λv z=>by rw[d]at z;cases z⟩
 keep:=λi h g st k=>st.at λo e=>k it Zs o e
 item:=by
  intro X n q r J i G s M H E I j st t;subst n q r;obtain⟨O,x,l,y⟩:=t;obtain⟨m,A,p,Q⟩:=I.tuple l;obtain⟨u,R,S⟩:=A.get y;refine yE0 (j it Zs) (yA6 λB f1 f2 C D F=>?_);refine wpAny_pyNext_tuple_item st (show s.heap.IsTuple a m.toArray from p) (x:=u) (by simpa using R) λg L T=>?_;have U:Inv X G M H {s with heap:=g }:=I.turned (t':=s.toks) (λb o f e=>(T.2 b f).trans e) B f1 C D F;obtain⟨o,e,c,d⟩:=id L;exact⟨u,rfl,sD (s:={s with heap:=g }) e c d Zd ⟨x,H,U,S,⟨rfl,λZ V=>by rw[I.tuple_inj V l];exact y⟩,L,λb f=>(j b f).1⟩⟩
 done:=by
  intro X n q r J i G s M H E I j st t;subst n q r;obtain⟨O,l,y⟩:=t;obtain⟨m,A,p,Q⟩:=I.tuple l;obtain⟨B,f1,f2,C,D,F⟩:=j it Zs;have hl:=A.length;exact wpAny_pyNext_tuple_end (I.ok.hd J) st (show s.heap.IsTuple a m.toArray from p) (by simp;omega) λg Y=>⟨rfl,I.turned (t':=s.toks) (λb o f e=>Y b o f e) B f1 C D F⟩
 self:=λ_ _ _ _ _ st h=>wpAny_pyIter_tupleiter st h
def Bn{P:Program}{w:World}{K:W.Frag}{B:Expr}(it:TD)(lo:Int)(n:Nat):sC P w K B (Itr lo n) [it] it (λi h=>IsRangeIter h it (lo+(i:Nat)*1) ((n:Int)-(i:Nat)) 1) where
 mem:=by simp
 obj:=λi h st b a=>by
  have e:b=it:=by simpa using a
  subst e;exact⟨_,st,λv z=>by
   have C:Data.fields _=Data.cell v:=z;cases C⟩
 keep:=λi h c st k=>k it Zs _ st
 item:=by
  intro X f g j l i x s A H E I d st m;subst f g j;refine yE0 (d it Zs) (yA6 λp f1 f2 q r u=>?_);have W:=Walks.range (prog:=X.prog) (w:=X.w) (I.ok.hd l) it lo 1 n;refine W.item i s _ _ m st λv c tk D y F=>?_;obtain⟨t,rfl⟩:=D;have G:Inv X x A H {s with heap:=c,toks:=tk }:=I.turned (λb o a e=>F b o (by simpa using a) e) p f1 q r u;refine⟨_,rfl,sD (s:={s with heap:=c,toks:=tk }) (n:="range_iterator") y rfl rfl Zd ⟨.int (lo+i),H,G,⟨t,?_⟩,⟨rfl,rfl⟩,y,λb a=>(d b a).1⟩⟩;rw[Int.mul_one]
 done:=by
  intro X f g j l i x s A H E I d st m;subst f g j;obtain⟨p,f1,f2,q,r,u⟩:=d it Zs;exact wpAny_pyNext_range_end (I.ok.hd l) st (by have:n<=i:=m;omega) λc J=>⟨rfl,I.turned (t':=s.toks) (λb o a e=>J b o a e) p f1 q r u⟩
 self:=λ_ _ _ _ _ st h=>wpAny_pyIter_rangeiter st h
section
variable {X:Cx}{tg:Expr}
def Kq(K:W.Frag)(c:TE):TI:=λe H R=>c e H λx b=>∃a,x=.ref a/\(∃d,SqL K b a d)/\R (Rr K a) b
def Ym(K:W.Frag)(c:TE):TI:=λe H R=>c e H λx b=>∃a,x=.ref a/\(∃d,SqT K b a d)/\R (Itt K a) b
def Sg{l:Expr}{f:TE}(i:PE X l f):PI X tg l (Kq X.K f):=by
 intro g s t H R I h;refine cA (i g s t H _ I h) ?_;rintro v c ⟨x,j,d,k,m⟩
 obtain⟨a,e,⟨w,n⟩,q⟩:=m;subst e;cases k;obtain⟨u,y,p,z⟩:=d.list n;refine wpAny_pyIter_list p.isList ?_;refine⟨c.heap.objs.size,[c.heap.objs.size],_,_,j,rfl,d.kept (t':=c.toks) λb o e=>eX _ e,Gu a _,⟨_,TW _ rfl,rfl,rfl⟩,λb r=>?_,q⟩;have e:b=c.heap.objs.size:=by simpa using r
 subst e;exact d.fpOk (aZ _) (d.hok.fresh (aZ _))
def Yn{l:Expr}{f:TE}(j:PE X l f):PI X tg l (Ym X.K f):=by
 intro g s u H R I h;refine cA (j g s u H _ I h) ?_;rintro v c ⟨x,k,d,m,n⟩
 obtain⟨a,e,⟨w,r⟩,q⟩:=n;subst e;cases m;obtain⟨i,y,p,z⟩:=d.tuple r;refine wpAny_pyIter_tuple (show c.heap.IsTuple a i.toArray from p) ?_;refine⟨c.heap.objs.size,[c.heap.objs.size],_,_,k,rfl,d.kept (t':=c.toks) λb o e=>eX _ e,Bm a _,⟨_,TW _ rfl,rfl,rfl⟩,λb t=>?_,q⟩;have e:b=c.heap.objs.size:=by simpa using t
 subst e;exact d.fpOk (aZ _) (d.hok.fresh (aZ _))
def Kr{c:ZB}{f:St}{H:Hp}{s:QZZ}{R:It->Hp->Prop}{E:XV}{lo a:Int}{t u v:Tok}{tk:Nat}(I:Inv X c f H s)(g:-(2^62)<=lo)(h:lo<2^62)(i:-(2^62)<=a)(j:a<2^62)(q:R (Itr lo (a-lo).toNat) H):wpAny (model X.prog X.w) X.A (pyIter (.ref s.heap.objs.size)) (PIE X c f tg R) E {s with heap:=s.heap.push {cls:=.type "range",data:=.fields #[.int lo t,.int a u,.int 1 v] },toks:=tk }:=by
 refine wpAny_pyIter_range (IsRange.new ..) (small_one g h i j) ?_;have d:Inv X c f H {s with heap:=s.heap.push {cls:=.type "range",data:=.fields #[.int lo t,.int a u,.int 1 v] },toks:=tk }:=I.kept λb o e=>eX _ e
 refine⟨(s.heap.push {cls:=.type "range",data:=.fields #[.int lo t,.int a u,.int 1 v] }).objs.size,[(s.heap.push {cls:=.type "range",data:=.fields #[.int lo t,.int a u,.int 1 v] }).objs.size],_,_,H,rfl,
  d.kept (t':=tk) λb o e=>eX _ e,Bn _ lo (a - lo).toNat,?_,λb k=>?_,q⟩
 ·have l:lo+((0:Nat):Int)*1=lo:=by simp
  have m:(((a-lo).toNat:Nat):Int)-((0:Nat):Int)=Builtin.Range.rangeSize lo a 1:=by rw[rangeSize_one];split<;>omega
  show IsRangeIter _ _ (lo+((0:Nat):Int)*1) ((((a-lo).toNat:Nat):Int)-((0:Nat):Int)) 1;rw[l,m];exact TW _ rfl
 ·have e:b=(s.heap.push {cls:=.type "range",data:=.fields #[.int lo t,.int a u,.int 1 v] }).objs.size:=by simpa using k
  subst e;exact d.fpOk (aZ _) (d.hok.fresh (aZ _))
def Wj(a:TA):TI:=λc H R=>a c H λvs b=>∃j:Int,vs=[.int j]/\-(2^62)<=j/\j<2^62/\R (Itr 0 j.toNat) b
def Gv{a:Expr}{c:TA}{p pos:Pos}(f:Gl X "range")(g:X.mg "range"=none)(i:PA X [a] c)(hs:starEach [a] X.env=[(false,eval a X.env)]:=by rfl):PI X tg (.Call (.Name "range" p) [a] [] pos) (Wj c):=by
 intro d s o H R I h;refine Call_ (pK I f g boot_range (PyProof.Rows.callWith_type1 (cA (i pos d s o H _ I h) ?_) hs rfl));rintro u v ⟨vs,w,k,l,b⟩;obtain⟨j,e,b,m,q⟩:=b;subst e;cases l with
 | cons r n=>
  cases n;obtain⟨t,rfl⟩:=r;exact call_range_1 (Kr k Zo Zo b m (by simpa using q))
def aBr(f:TI)(g:TG)(h:TS):TS:=λD a H=>f a H λJ j=>∃W:Nat->Nat->St->Hp->Prop,(∃m,W 0 m a j)/\∀i m a H,W i m a H →
 (J.stop i H/\D.nx a H)∨(J.go i H/\∃N:St->Hp->Prop,(∀ c b,N c b->∃d,d<m/\W (i+1) d c b)/\∀x b,J.yld i H x b->g x a b λe k=>h {D with nx:=N,ct:=N,bk:=D.nx } e k)
def sE(fp:List TD)(h:Heap):List (TD×Obj):=fp.filterMap λb=>(h.get? b).map λo=>(b,o)
def kA{fp:List TD}{h:Heap}{b:TD}{o:Obj}(a:b∈fp)(e:h.get? b=some o):(b,o)∈sE fp h:=mem_filterMap.mpr ⟨b,a,by rw[e];rfl⟩
def Gw{fp:List TD}{h:Heap}{p:TD×Obj}(a:p∈sE fp h):p.1∈fp/\h.get? p.1=some p.2:=by
 obtain⟨b,c,e⟩:=mem_filterMap.mp a
 cases q:h.get? b with
 | none=>rw[q]at e;cases e
 | some o=>
  rw[q]at e;have d:(b,o)=p:=Option.some.inj e;subst d;exact⟨c,q⟩
def Inv.pinned{a:ZB}{g:St}{H:Hp}{s:QZZ}{fp:List TD}(I:Inv X a g H s)(h:∀b∈fp,pL X a H b)(i:∀b∈fp,∃o,s.heap.get? b=some o/\∀v,o.data≠.cell v):Inv X (a++sE fp s.heap) g H s:=
 I.pins_of λp j=>(Zma.mp j).elim (λz=>I.pin p (QZT _ z)) λz=>by
  obtain⟨c,e⟩:=Gw z;obtain⟨k,f1,f2,_⟩:=h p.1 c;obtain⟨o,f,d⟩:=i p.1 c;rw[e]at f;cases f;exact⟨e,k,f1,f2,d⟩
def Inv.unpinned{a pl:ZB}{b:St}{H:Hp}{s:QZZ}(I:Inv X (a++pl) b H s):Inv X a b H s:=I.pins_of λp c=>I.pin p (QZT _ (QZU _ c))
def Yo{iter:Expr}{B:List Stmt}{C:TI}{g:TG}{D:TS}{pos:Pos}(q:PassesOwn (model X.prog X.w) X.A X.env X.xe)(E:X.calm=true)(P:PI X tg iter C)(Q:PG X tg g)(c:PSs X B D)(hs:∀x,foldedSetIterable iter X.env x=pure x:=by intro _;rfl):PS X (.For tg iter B [] pos) (aBr C g D):=by
 intro k s N a0 a7 a1 a2;refine wpAny_For (cA (P k s N a0 _ a1 a2) λv s1 R=>cA R λHS s2 S=>?_) hs;revert S;refine yE5 λit r F a8 U=>yA6 λe V T Y f2=>yE1 λW=>yA2 λζ turn=>?_;obtain⟨Z,w0⟩:=ζ;subst e;have w:∀ {h:Hp},(∀b∈r,h b=none)->∀b∈r,pL X k h b:=λhn b c=>⟨hn b c,(f2 b c).2⟩
 refine codeAny_forLoop_any (λn G=>∃i l h,Inv X k l h G/\F i G.heap/\(∀b∈r,h b=none)/\W i n l h) ?_ Z ⟨0,N,U,V,Y,λb c=>(f2 b c).1,w0⟩;refine λn H=>yE3 λi p u=>yA4 λI J K w3=>?_;rcases turn i n p u w3 with⟨stop,qn⟩|⟨go,a3,hN,step⟩
 ·refine wpAny_passesOwn q (cA (T.done X rfl rfl rfl E i k H p u X.xe I (w K) J stop) ?_);rintro a4 s4 ⟨y,I4⟩;subst y;exact wpAny_execs_nil ⟨p,u,I4,qn⟩
 ·refine wpAny_passesOwn q (cA (T.item X rfl rfl rfl E i k H p u X.xe I (w K) J go) ?_);rintro a4 s4 ⟨a5,y,h4⟩;subst y;refine wpAny_passesOwn q (cA h4 ?_);refine λ_ L=>yE2 λx M=>yA5 λI5 r5 y5 z JX=>?_;have JY:=I5.pinned (w JX) (T.obj _ _ z);refine wpAny_passesOwn q (cA (Q _ L p M x a5 _ JY r5 (step x M y5)) ?_);rintro _ s6 ⟨O,H6,I6,q6⟩;refine wpAny_passesOwn q (cA (c _ s6 O H6 _ I6 q6) λa6 A j=>?_);have again:∀ {a:St}{d:Hp},Inv X (k++sE r L.heap) a d A->a3 a d->∃m,m<n/\∃i l h,Inv X k l h A/\F i A.heap/\(∀b∈r,h b=none)/\W i m l h:=λ{a d} f t=>by
   obtain⟨m',hm,w7⟩:=hN a d t;refine⟨m',hm,i+1,a,d,f.unpinned,T.keep _ _ _ z λb c o e=>(f.pin (b,o) (QZT _ (QZT _ (kA c e)))).1,λb c=>?_,w7⟩;obtain⟨o,e,a9⟩:=T.obj _ _ z b c;exact(f.pin (b,o) (QZT _ (QZT _ (kA c e)))).2.1
  cases a6 with
  | next=>obtain⟨a,d,f,t⟩:=j;exact again f t
  | cont=>obtain⟨a,d,f,t⟩:=j;exact again f t
  | brk=>obtain⟨a,d,f,j⟩:=j;exact⟨a,d,f.unpinned,j⟩
  | ret v=>obtain⟨x7,a,d,f,r7,j⟩:=j;exact⟨x7,a,d,f.unpinned,r7,j⟩
end
abbrev R2:=V->V->Hp->VK->Prop
def OpR(X:Cx)(f:Q4->Q4->Sem Value)(r:R2):Prop:=
 ∀(a:ZB)(s:QZZ)(b:St)(H:Hp)(x y:V)(v u:Q4)(Q:VK),Inv X a b H s->RelV x v->RelV y u->r x y H Q →
  wpAny (model X.prog X.w) X.A (f v u) (EP X a b Q) X.xe s
def UnR(X:Cx)(f:Q4->Sem Value)(r:V->Hp->VK->Prop):Prop:=
 ∀(a:ZB)(s:QZZ)(b:St)(H:Hp)(x:V)(v:Q4)(Q:VK),Inv X a b H s->RelV x v->r x H Q →
  wpAny (model X.prog X.w) X.A (f v) (EP X a b Q) X.xe s
def CallR(X:Cx)(f:Q4)(r:List V->Hp->VK->Prop):Prop:=
 ∀(a:ZB)(s:QZZ)(d:St)(H:Hp)(b:List V)(c:List Q4)(Q:VK),Inv X a d H s->Vals b c->r b H Q →
  wpAny (model X.prog X.w) X.A (call f c) (EP X a d Q) X.xe s
def nF(r:R2)(b c:TE):TE:=λa H Q=>b a H λx d=>c a d λy e=>r x y e Q
def tUn(r:V->Hp->VK->Prop)(a:TE):TE:=λc H Q=>a c H λx b=>r x b Q
def rI(C:Int->Int->Prop)(g:Int->Int->V):R2:=λx y H Q=>∃i j,x=.int i/\y=.int j/\C i j/\Q (g i j) H
def Sh(g:Int->Int->V):R2:=λx y H Q=>∃i j,x=.int i/\y=.int j/\Q (g i j) H
def rU(g:Int->V):V->Hp->VK->Prop:=λx H Q=>∃i,x=.int i/\Q (g i) H
section
variable {X:Cx}{a b c:Expr}{ta tb tc:TE}{pos:Pos}
def Yp(l:PE X a ta)(m:PE X b tb){e:ZB}{s:QZZ}{d:St}{H:Hp}{R:V->V->Hp->Prop}(I:Inv X e d H s)(h:ta d H λx i=>tb d i λy H2=>R x y H2){Q:XV}{f:Q4->Q4->Sem Value}(n:∀v u g x y H2,Inv X e d H2 g->RelV x v->RelV y u->R x y H2->wpAny (model X.prog X.w) X.A (f v u) Q X.xe g) :
  wpAny (model X.prog X.w) X.A (eval a X.env) (λv j=>wpAny (model X.prog X.w) X.A (eval b X.env) (λu k=>wpAny (model X.prog X.w) X.A (f v u) Q X.xe k) X.xe j) X.xe s:=by
 refine cA (l e s d H _ I h) ?_;rintro v o ⟨x,i,p,q,r⟩;refine cA (m e o d i _ p r) ?_;rintro u g ⟨y,H2,t,w,z⟩;exact n v u g x y H2 t q w z
def aBs{op:Operator}{r:R2}(e:OpR X (binaryOp op) r)(f:PE X a ta)(g:PE X b tb):PE X (.BinOp a op b pos) (nF r ta tb):=by
 intro d s n H Q I h;exact wpAny_BinOp (Yp f g I h λv u i x y j k l m q=>e d i n j x y v u Q k l m q)
def aBt{op:UnaryOp}{r:V->Hp->VK->Prop}(f:UnR X (unaryOp op) r)(g:PE X a ta):PE X (.UnaryOp op a pos) (tUn r ta):=by
 intro d s e H Q I h;exact UnaryOp_ (cA (g d s e H _ I h) λv i ⟨x,j,k,l,m⟩=>f d i e j x v Q k l m)
def opI{f:Q4->Q4->Sem Value}{C:Int->Int->Prop}{g:Int->Int->Int}(rule:∀(i j:Int)(t u:Tok)(s:QZZ)(Q:XV)(E:XV),C i j->Q (.int (g i j) s.toks) {s with toks:=s.toks+1 }->wpAny (model X.prog X.w) X.A (f (.int i t) (.int j u)) Q E s) :
  OpR X f (rI C λi j=>.int (g i j)):=by
 intro m s n H x y v u Q I d e h;obtain⟨i,j,rfl,rfl,k,q⟩:=h;obtain⟨t,rfl⟩:=d;obtain⟨l,rfl⟩:=e;exact rule i j t l s _ _ k ⟨.int (g i j),H,I.tok _,⟨_,rfl⟩,q⟩
def aBu{f:Q4->Q4->Sem Value}{g:Int->Int->Int}(rule:∀(i j:Int)(t u:Tok)(s:QZZ)(Q:XV)(E:XV),Q (.int (g i j) s.toks) {s with toks:=s.toks+1 }->wpAny (model X.prog X.w) X.A (f (.int i t) (.int j u)) Q E s) :
  OpR X f (Sh λi j=>.int (g i j)):=by
 intro l s m H x y v u Q I d e h;obtain⟨i,j,rfl,rfl,q⟩:=h;obtain⟨t,rfl⟩:=d;obtain⟨k,rfl⟩:=e;exact rule i j t k s _ _ ⟨.int (g i j),H,I.tok _,⟨_,rfl⟩,q⟩
def Si{f:Q4->Q4->Sem Value}{g:Int->Int->Bool}(rule:∀(i j:Int)(t u:Tok)(s:QZZ)(Q:XV)(E:XV),Q (.bool (g i j)) s->wpAny (model X.prog X.w) X.A (f (.int i t) (.int j u)) Q E s) :
  OpR X f (Sh λi j=>.bl (g i j)):=by
 intro l s m H x y v u Q I d e h;obtain⟨i,j,rfl,rfl,q⟩:=h;obtain⟨t,rfl⟩:=d;obtain⟨k,rfl⟩:=e;exact rule i j t k s _ _ ⟨.bl (g i j),H,I,rfl,q⟩
def Yq(i j:Int):Prop:=0<=j/\j<=1000000/\i.natAbs<2^64
def CMul(i j:Int):Prop:=(-(2^64)<i/\i<2^64)∨(-(2^64)<j/\j<2^64)
def CMul.ok{i j:Int}(h:CMul i j):IntMulOk i j:=by
 rcases h with⟨d,e⟩|⟨d,e⟩
 ·exact .of_left (intBits_le_64 d e)
 ·exact .of_right (intBits_le_64 d e)
def Yr:OpR X (binaryOp .Add) (Sh λi j=>.int (i+j)):=aBu λ_ _ _ _ _ _ _ q=>add_int q
def Ys:OpR X (binaryOp .Sub) (Sh λi j=>.int (i-j)):=aBu λ_ _ _ _ _ _ _ q=>sub_int q
def Yt:OpR X (binaryOp .Mult) (rI CMul λi j=>.int (i*j)):=opI λ_ _ _ _ _ _ _ d q=>mul_int q d.ok
def Yu:OpR X (binaryOp .Mod) (rI (λ_ j=>0<j) λi j=>.int (i%j)):=opI λi j _ _ _ _ _ d q=>by
 have e:(0:Int)<j:=d;exact mod_int' Zo (by rw[Int.fmod_eq_emod_of_nonneg i Zo];exact q)
def Yv:OpR X (binaryOp .Pow) (rI Yq λi j=>.int (i^j.toNat)):=opI λ_ _ _ _ _ _ _ d q=>pow_int_small d.1 d.2.1 d.2.2 q
def unI{f:Q4->Sem Value}{g:Int->Int}(rule:∀(i:Int)(t:Tok)(s:QZZ)(Q:XV)(E:XV),Q (.int (g i) s.toks) {s with toks:=s.toks+1 }->wpAny (model X.prog X.w) X.A (f (.int i t)) Q E s) :
  UnR X f (rU λi=>.int (g i)):=by
 intro e s j H x v Q I d h;obtain⟨i,rfl,q⟩:=h;obtain⟨t,rfl⟩:=d;exact rule i t s _ _ ⟨.int (g i),H,I.tok _,⟨_,rfl⟩,q⟩
def Yw:UnR X (unaryOp .USub) (rU λi=>.int (-i)):=unI λ_ _ _ _ _ q=>neg_int q
end
def scal:V->V->Bool
 | .non,.non=>true|.non,.int _=>true|.int _,.non=>true|.non,.bl _=>true|.bl _,.non=>true|.non,.str _=>true|.str _,.non=>true
 | .int _,.int _=>true|.bl _,.bl _=>true|.str _,.str _=>true|.byt _,.byt _=>true
 | .int _,.str _=>true|.str _,.int _=>true|.bl _,.str _=>true|.str _,.bl _=>true
 | _,_=>false
def rEq:R2:=λx y H Q=>scal x y=true/\Q (.bl (decide (x=y))) H
def rNe:R2:=λx y H Q=>scal x y=true/\Q (.bl (!decide (x=y))) H
def Ed{i j:Int}:decide (V.int i=V.int j)=(i==j):=by
 rw[Bool.eq_iff_iff];simp
def Ks{i j:Bool}:decide (V.bl i=V.bl j)=(i==j):=by
 rw[Bool.eq_iff_iff];simp
def Ee{i j:Str}:decide (V.str i=V.str j)=(i==j):=by
 rw[Bool.eq_iff_iff];simp
def Ef{i j:Array UInt8}:decide (V.byt i=V.byt j)=(i.toList==j.toList):=by
 rw[Bool.eq_iff_iff];cases i;cases j;simp
section
variable {X:Cx}{a b c:Expr}{ta tb tc:TE}{pos:Pos}
def bG{d:ZB}{g:St}{H:Hp}{s:QZZ}{Q:VK}{k f:Bool}(I:Inv X d g H s)(q:Q (.bl k) H)(e:k=f):EP X d g Q (.bool f) s:=by
 subst e;exact⟨.bl k,H,I,rfl,q⟩
def aBv:OpR X (compareOp .Eq) rEq:=by
 intro k s l H x y v u Q I g d h;obtain⟨f,q⟩:=h
 cases x with
 | non=>
  cases g
  cases y with
  | non=>cases d;exact PySem.EqNone.eq_none_none (bG I q Zs)
  | bl j=>cases d;exact PySem.EqNone.eq_none_bool (bG I q Zs)
  | int j=>obtain⟨e,rfl⟩:=d;exact PySem.EqNone.eq_none_int (bG I q Zs)
  | str j=>obtain⟨e,rfl⟩:=d;exact PySem.EqNone.eq_none_str (bG I q Zs)
  | _=>exact QZW (show false=true from f) U7
 | bl i=>
  cases g
  cases y with
  | non=>cases d;exact PySem.EqNone.eq_bool_none (bG I q Zs)
  | bl j=>cases d;exact eq_bool (bG I q Ks)
  | str j=>obtain⟨e,rfl⟩:=d;exact PySem.EqMixed.eq_bool_str (bG I q Zs)
  | _=>exact QZW (show false=true from f) U7
 | int i=>
  obtain⟨t,rfl⟩:=g
  cases y with
  | non=>cases d;exact PySem.EqNone.eq_int_none (bG I q Zs)
  | int j=>obtain⟨e,rfl⟩:=d;exact eq_int (bG I q Ed)
  | str j=>obtain⟨e,rfl⟩:=d;exact PySem.EqMixed.eq_int_str (bG I q Zs)
  | _=>exact QZW (show false=true from f) U7
 | str i=>
  obtain⟨t,rfl⟩:=g
  cases y with
  | non=>cases d;exact PySem.EqNone.eq_str_none (bG I q Zs)
  | bl j=>cases d;exact PySem.EqMixed.eq_str_bool (bG I q Zs)
  | int j=>obtain⟨e,rfl⟩:=d;exact PySem.EqMixed.eq_str_int (bG I q Zs)
  | str j=>obtain⟨e,rfl⟩:=d;exact eq_str (bG I q Ee)
  | _=>exact QZW (show false=true from f) U7
 | byt i=>
  obtain⟨t,rfl⟩:=g
  cases y with
  | byt j=>obtain⟨e,rfl⟩:=d;exact W.eq_bytes (bG I q Ef)
  | _=>exact QZW (show false=true from f) U7
 | _=>cases y<;>exact QZW (show false=true from f) U7
def aBw:OpR X (compareOp .NotEq) rNe:=by
 intro k s l H x y v u Q I g d h;obtain⟨f,q⟩:=h
 cases x with
 | non=>
  cases g
  cases y with
  | non=>cases d;exact PySem.EqNone.ne_none_none (bG I q Zs)
  | bl j=>cases d;exact PySem.EqNone.ne_none_bool (bG I q Zs)
  | int j=>obtain⟨e,rfl⟩:=d;exact PySem.EqNone.ne_none_int (bG I q Zs)
  | str j=>obtain⟨e,rfl⟩:=d;exact PySem.EqNone.ne_none_str (bG I q Zs)
  | _=>exact QZW (show false=true from f) U7
 | bl i=>
  cases g
  cases y with
  | non=>cases d;exact PySem.EqNone.ne_bool_none (bG I q Zs)
  | bl j=>cases d;exact ne_bool (bG I q (congrArg not Ks))
  | str j=>obtain⟨e,rfl⟩:=d;exact PySem.EqMixed.ne_bool_str (bG I q Zs)
  | _=>exact QZW (show false=true from f) U7
 | int i=>
  obtain⟨t,rfl⟩:=g
  cases y with
  | non=>cases d;exact PySem.EqNone.ne_int_none (bG I q Zs)
  | int j=>obtain⟨e,rfl⟩:=d;exact ne_int (bG I q (congrArg not Ed))
  | str j=>obtain⟨e,rfl⟩:=d;exact PySem.EqMixed.ne_int_str (bG I q Zs)
  | _=>exact QZW (show false=true from f) U7
 | str i=>
  obtain⟨t,rfl⟩:=g
  cases y with
  | non=>cases d;exact PySem.EqNone.ne_str_none (bG I q Zs)
  | bl j=>cases d;exact PySem.EqMixed.ne_str_bool (bG I q Zs)
  | int j=>obtain⟨e,rfl⟩:=d;exact PySem.EqMixed.ne_str_int (bG I q Zs)
  | str j=>obtain⟨e,rfl⟩:=d;exact ne_str (bG I q (congrArg not Ee))
  | _=>exact QZW (show false=true from f) U7
 | byt i=>
  obtain⟨t,rfl⟩:=g
  cases y with
  | byt j=>obtain⟨e,rfl⟩:=d;exact W.ne_bytes (bG I q (congrArg not Ef))
  | _=>exact QZW (show false=true from f) U7
 | _=>cases y<;>exact QZW (show false=true from f) U7
def Wk:OpR X (compareOp .Lt) (Sh λi j=>.bl (decide (i<j))):=Si λ_ _ _ _ _ _ _ q=>lt_int q
def aBx:OpR X (compareOp .LtE) (Sh λi j=>.bl (decide (i<=j))):=Si λ_ _ _ _ _ _ _ q=>le_int q
def aBy:OpR X (compareOp .Gt) (Sh λi j=>.bl (decide (j<i))):=Si λ_ _ _ _ _ _ _ q=>gt_int q
def aBz:OpR X (compareOp .GtE) (Sh λi j=>.bl (decide (j<=i))):=Si λ_ _ _ _ _ _ _ q=>ge_int q
def Gx:OpR X (compareOp .Lt) (λx y H Q=>∃i j,x=.str i/\y=.str j/\Q (.bl (decide (i.cps.toList<j.cps.toList))) H):=by
 intro f s k H x y v u Q I d e h;obtain⟨i,j,rfl,rfl,q⟩:=h;obtain⟨t,rfl⟩:=d;obtain⟨g,rfl⟩:=e;exact lt_str (bG I q rfl)
def Gy:OpR X (compareOp .In) (λx y H Q=>∃i j,x=.str i/\y=.str j/\Q (.bl (!(Builtin.Str.occurrences j i 0 j.length 1).isEmpty)) H):=by
 intro f s k H x y v u Q I d e h;obtain⟨i,j,rfl,rfl,q⟩:=h;obtain⟨t,rfl⟩:=d;obtain⟨g,rfl⟩:=e;exact in_str (bG I q rfl)
def Yx:OpR X (compareOp .Is) (λx y H Q=>y=.non/\Q (.bl (decide (x=.non))) H):=by
 intro f s g H x y v u Q I d e h;obtain⟨rfl,q⟩:=h;cases e;refine is_none_gen (bG I q ?_);cases x<;>first
  | (cases d;rfl)
  | (obtain⟨t,rfl⟩:=d;rfl)
def Sj:OpR X (compareOp .IsNot) (λx y H Q=>y=.non/\Q (.bl (!decide (x=.non))) H):=by
 intro f s g H x y v u Q I d e h;obtain⟨rfl,q⟩:=h;cases e;refine isnot_none_gen (bG I q ?_);cases x<;>first
  | (cases d;rfl)
  | (obtain⟨t,rfl⟩:=d;rfl)
def wW(b:Expr){op:CmpOp}(h:op≠.In:=by decide)(d:op≠.NotIn:=by decide):behindInMarks op b=false:=by
 have e:(op==CmpOp.In)=false:=by cases op<;>first|rfl|exact QZW rfl h
 have f:(op==CmpOp.NotIn)=false:=by cases op<;>first|rfl|exact QZW rfl d
 cases b<;>simp[behindInMarks,e,f]
def Sk{op:CmpOp}{r:R2}(e:OpR X (compareOp op) r)(f:PE X a ta)(g:PE X b tb)(i:behindInMarks op b=false):PE X (.Compare a [op] [b] pos) (nF r ta tb):=by
 intro d s o H Q I h;exact wpAny_Compare1 (Yp f g I h λv u j x y k l m n q=>e d j o k x y v u Q l m n q) i
def Eg(t:TE):TT:=λe H Q=>t e H λx d=>∃k,x=.bl k/\Q k d
def Sl{op:CmpOp}{r:R2}(g:OpR X (compareOp op) r)(i:PE X a ta)(j:PE X b tb)(l:behindInMarks op b=false):PT X (.Compare a [op] [b] pos) (Eg (nF r ta tb)):=by
 intro d s f H Q I h;refine wpAny_isTrue_Compare1 (cA (i d s f H _ I h) λv m ⟨x,n,o,p,q⟩=>cA (j d m f n _ o q) λu t ⟨y,w,A,B,C⟩=>
  cA (g d t f w x y v u _ A p B C) λc J ⟨z,D,E,F,k,e,G⟩=>?_) l
 subst e;cases F;exact wpAny_truthy_bool ⟨D,E,G⟩
def wX(r f:R2)(ta tb tc:TE):TE:=λd H Q=>ta d H λx g=>tb d g λy h=>r x y h λz e=>∃k,z=.bl k ∧
 (if k=true then tc d e λi j=>f y i j Q else Q (.bl false) e)
def Kt{op i:CmpOp}{r j:R2}(p:OpR X (compareOp op) r)(q:OpR X (compareOp i) j)(t:PE X a ta)(w:PE X b tb)(A:PE X c tc)(B:lastMarks [op,i] [b,c]=false:=by with_unfolding_all rfl):PE X (.Compare a [op,i] [b,c] pos) (wX r j ta tb tc):=by
 intro f s g H Q I h;refine Compare_chain (cA (t f s g H _ I h) λv C ⟨x,D,E,F,G⟩=>chain_link (cA (w f C g D _ E G) λu J ⟨y,K,L,l,M⟩=>
  cA (p f J g K x y v u _ L F l M) λd N ⟨z,m,n,O,k,e,o⟩=>?_)) B
 subst e;cases O;refine wpAny_truthy_bool ?_
 cases k with
 | false=>exact ite_ff ⟨.bl false,m,n,rfl,o⟩
 | true=>exact ite_tt (chain_last (cA (A f N g m _ n o) λP R ⟨S,T,U,V,W⟩=>q f R g T y S u P Q U l V W))
def Ku{op f:CmpOp}{r g:R2}(n:OpR X (compareOp op) r)(o:OpR X (compareOp f) g)(p:PE X a ta)(q:PE X b tb)(t:PE X c tc)(w:lastMarks [op,f] [b,c]=false:=by with_unfolding_all rfl):PT X (.Compare a [op,f] [b,c] pos) (Eg (wX r g ta tb tc)):=by
 intro d s e H a2 I h;refine isTrue_chain (cA (p d s e H _ I h) λv x ⟨a0,z,A,B,C⟩=>test_link (cA (q d x e z _ A C) λu D ⟨y,E,F,i,G⟩=>
  cA (n d D e E a0 y v u _ F B i G) λa3 J ⟨a4,j,l,K,k,a1,m⟩=>?_)) w
 subst a1;cases K;refine wpAny_truthy_bool ?_
 cases k with
 | false=>
  obtain⟨k',L,M⟩:=m;cases L;exact ite_ff ⟨j,l,M⟩
 | true=>
  refine ite_tt (test_last (cA (t d J e j _ l m) λN O ⟨P,Q,R,S,T⟩=>cA (o d O e Q y P u N _ R i S T) ?_));rintro d' s5 ⟨z2,U,V,W,k2,Y,Z⟩;subst Y;cases W;exact wpAny_truthy_bool ⟨U,V,Z⟩
def pM:(sizeLine:Nat)<2^63:=by rw[sizeLine_eq];decide
def Bo:OpR X (binaryOp .Add) (λx y H Q=>∃i j,x=.str i/\y=.str j/\i.length+j.length<=sizeLine/\Q (.str (i++j)) H):=by
 intro k s l H x y v u Q I d e h;obtain⟨i,j,rfl,rfl,f,q⟩:=h;obtain⟨t,rfl⟩:=d;obtain⟨g,rfl⟩:=e;exact add_str (λg tk=>⟨.str (i++j),H,I.tok _,⟨_,rfl⟩,q⟩) f
def iJ{x:V}{us:List Q4}(r:Vals [x] us):∃u,us=[u]/\RelV x u:=by
 cases r with
 | cons d e=>cases e;exact⟨_,rfl,d⟩
def Wl{x y:V}{us:List Q4}(r:Vals [x,y] us):∃u d,us=[u,d]/\RelV x u/\RelV y d:=by
 cases r with
 | cons e f=>
  cases f with
  | cons g h=>cases h;exact⟨_,_,rfl,e,g⟩
def Gz(e:X.calm=true):CallR X (.builtin "max") (λxs H Q=>∃i j,xs=[.int i,.int j]/\Q (.int (if j>i then j else i)) H):=by
 intro f s o H xs g Q I r h;obtain⟨i,j,rfl,q⟩:=h;obtain⟨u,l,rfl,⟨t,rfl⟩,⟨m,rfl⟩⟩:=Wl r;refine max_two_ints (I.ok.hd e) λn tk k=>⟨_,H,I.kept k,?_,q⟩;by_cases d:j>i
 ·rw[QZY d,QZY d];exact⟨_,rfl⟩
 ·rw[QZX d,QZX d];exact⟨_,rfl⟩
def Hk(e:X.calm=true):CallR X (.builtin "min") (λxs H Q=>∃i j,xs=[.int i,.int j]/\Q (.int (if j<i then j else i)) H):=by
 intro f s o H xs g Q I r h;obtain⟨i,j,rfl,q⟩:=h;obtain⟨u,l,rfl,⟨t,rfl⟩,⟨m,rfl⟩⟩:=Wl r;refine min_two_ints (I.ok.hd e) λn tk k=>⟨_,H,I.kept k,?_,q⟩;by_cases d:j<i
 ·rw[QZY d,QZY d];exact⟨_,rfl⟩
 ·rw[QZX d,QZX d];exact⟨_,rfl⟩
def Hl:CallR X (.type "int") (λxs H Q=>(∃i,xs=[.int i]/\Q (.int i) H)∨∃k,xs=[.bl k]/\Q (.int (if k then 1 else 0)) H):=by
 intro e s g H xs f Q I r h;rcases h with⟨i,rfl,q⟩|⟨k,rfl,q⟩
 ·obtain⟨u,rfl,t,rfl⟩:=iJ r;exact call_int_int ⟨.int i,H,I,⟨_,rfl⟩,q⟩
 ·obtain⟨u,rfl,d⟩:=iJ r;cases d;exact call_int_bool ⟨.int (if k then 1 else 0),H,I.tok _,⟨_,rfl⟩,q⟩
end
structure ObjM(h:Heap)(x dx C:TD)(mA:V0):Prop where
 obj:h.get? x=some (W.instObj C dx)
 ns:h.Ns1 dx mA
 ne:dx≠x
def Hm{h:Heap}{b:TD}{c:V0}(n:h.Ns1 b c):∃d,h.get? b=some d/\∀name,W.lookIn name d=some (c name):=by
 obtain⟨o,f,r,g,i,j,_,k⟩:=n;refine⟨o,g,λname=>?_⟩;have e:=k name;unfold nsFind findBy at e;rw[<- Array.find?_toList]at e;unfold W.lookIn;rw[i];dsimp only;split
 ·rename_i y q;rw[q]at e;exact congrArg some e
 ·rename_i q;rw[q]at e;have a:f.toList.any (·.refKey)=false:=by
   rw[List.any_eq_false];intro y l;obtain⟨z,t,m⟩:=j y (Array.mem_toList_iff.mp l);simp[DictEntry.refKey,m]
  have p:¬ f.toList.any (·.refKey)=true:=by rw[a];exact U7
  rw[QZX p];exact congrArg some e
def ObjM.look{h:Heap}{x b C:TD}{c:V0}(I:ObjM h x b C c):∃a,W.InstAt h x (W.instObj C b) C (some a)/\∀name,W.lookIn name a=some (c name):=
 let ⟨a,d,e⟩:=Hm I.ns
 ⟨a,⟨I.obj,rfl,rfl,d⟩,e⟩
section
variable {prog:Program}{w:World}{A:Around}{E:XV}{s:QZZ}{K:W.Frag}{x dx C f:TD}{mA:V0}{name:Str}{v:Q4}
def Sm{a:Bool}{Q:XV}(X:K.In s.heap)(I:ObjM s.heap x dx C mA)(b:W.plainGet K C name=true)(c:W.hasDictIn K C=true)(d:W.findIn K (.ref C) name=some none)(e:mA name=some v)(g:W.handedIn v=true)(h:Q v {s with toks:=s.toks+1 }) :
  wpAny (model prog w) A (getAttr (.ref x) name a) Q E s:=by
 obtain⟨j,J,i⟩:=I.look;exact W.get_value X J (W.plainGet_of b).1 (W.findObj_own c d rfl (by rw[i,e])) g h
def Kv{pl:Sem Bool}{Q:Q4×List Q4->QZZ->Prop}(X:K.In s.heap)(I:ObjM s.heap x dx C mA)(a:W.plainGet K C name=true)(b:W.findIn K (.ref C) name=some (some (.ref f)))(c:W.isFn K (.ref f)=true)(d:mA name=none)(h:Q (.ref f,[.ref x]) s) :
  wpAny (model prog w) A (getMethod (.ref x) name pl) Q E s:=by
 obtain⟨e,J,g⟩:=I.look;exact W.method_fn X J (W.plainGet_of a).1 (W.plainGet_of a).2 b (beq_iff_eq.mp c) (by show(W.lookIn name e).map (·.isSome)=some false;rw[g,d];rfl) h
def Sn{c:List Str}{Q:Unit->QZZ->Prop}(X:K.In s.heap)(I:ObjM s.heap x dx C mA)(hs:W.findIn K (.ref C) "__setattr__"=some (some (.builtin "object.__setattr__")))(g:W.plainOver K C=true)(i:W.takerIn K C name=some none)(j:W.hasDictIn K C=true)(k:PySem.Within mA c)(hsz:c.length<=sizeLine)(h:∀h',ObjM h' x dx C (λy=>if y=name then some v else mA y)->Heap.SameBut dx s.heap h'->Q () {s with heap:=h',toks:=s.toks+2 }) :
  wpAny (model prog w) A (setAttr (.ref x) name v) Q E s:=by
 obtain⟨z,J,B⟩:=I.look;refine W.set_plain X J hs (W.osa_open (s:={s with toks:=s.toks+1 }) (r:=none) X J g i λb=>?_);obtain⟨D,l,m⟩:=W.any_some j;have n:s.heap.get? x=some ⟨.ref C,some dx,.plain,#[]⟩:=I.obj;refine U9 (U8 (U9 (U9 (wpAny_loadPart n (U9 (W.Looks.here (s:={s with toks:=s.toks+1 }) (W.looks_clsIn X l) ?_))))));rw[m];refine U8 (a:=some dx) (U9 (U8 (U9 ?_)));refine wpAny_nsSet1 (s:={s with toks:=s.toks+1 }) I.ns λh' d e=>?_;obtain⟨F,t,u,o,p,q⟩:=d.count (PySem.Within.cons name v k);refine U9 (wpAny_lookBehind o (by rw[p];exact pastItsLine_dict (gL q (by rw[sA];omega))) ?_);exact U8 (h _ ⟨(e.2 _ (Ne.symm I.ne)).trans I.obj,d,I.ne⟩ e)
def Kw{R:Result->QZZ->Prop}{vs:List Q4}{a:List (Str × Value)}(X:K.In s.heap)(c:W.makesIn K C=true)(e:W.findIn K (.ref C) "__init__"=some (some (.ref f)))(i:W.typeIn K (.ref f)=some (.type "function"))(h:codeAny (model prog w) (A.under (.builtin "type.__call__" ⟨.ref C::vs,a⟩)) (.call (.ref f) ⟨.ref (s.heap.objs.size+1)::vs,a⟩) (W.InitBack (s.heap.objs.size+1) R)
   {s with heap:=(s.heap.push W.emptyDict).push (W.instObj C s.heap.objs.size) }) :
  codeAny (model prog w) A (.call (.ref C) ⟨vs,a⟩) R s:=by
 obtain⟨j,g,d,t,os⟩:=s;exact W.make_core (W.makes_of X c) (W.looks_findIn X e) (λb=>W.bind_fn X b i) (.inl rfl) h
end
def bT(f:Str)(v:V):List (Str×V)->List (Str×V)
 | []=>[(f,v)]
 | (g,x)::r=>if g=f then (g,v)::r else (g,x)::bT f v r
theorem qT(f g:Str)(v:V):∀fs:List (Str×V),(bT f v fs).lookup g=if g=f then some v else fs.lookup g
 | []=>by
  show List.lookup g [(f,v)]=_;by_cases h:g=f
  ·have a:(g==f)=true:=beq_iff_eq.mpr h;simp only [List.lookup,a,QZY h]
  ·have a:(g==f)=false:=beq_eq_false_iff_ne.mpr h;simp only [List.lookup,a,QZX h]
 | (k,x)::r=>by
  have c:=qT f g v r;rw[show bT f v ((k,x)::r)=(if k=f then (k,v)::r else (k,x)::bT f v r) from rfl];by_cases b:k=f
  ·rw[QZY b];by_cases h:g=k
   ·have a:(g==k)=true:=beq_iff_eq.mpr h;simp only [List.lookup,a,QZY (h.trans b)]
   ·have a:(g==k)=false:=beq_eq_false_iff_ne.mpr h;simp only [List.lookup,a,QZX (λe:g=f=>h (e.trans b.symm))]
  ·rw[QZX b];by_cases h:g=k
   ·have a:(g==k)=true:=beq_iff_eq.mpr h;simp only [List.lookup,a,QZX (λe:g=f=>b (h.symm.trans e))]
   ·have a:(g==k)=false:=beq_eq_false_iff_ne.mpr h;simp only [List.lookup,a];exact c
def pN(f:Str)(v:V):∀fs:List (Str×V),f∈(bT f v fs).map (·.1)/\∀g,g∈fs.map (·.1)->g∈(bT f v fs).map (·.1)
 | []=>⟨by simp[bT],λg h=>by simp at h⟩
 | (k,x)::r=>by
  obtain⟨b,c⟩:=pN f v r;rw[show bT f v ((k,x)::r)=(if k=f then (k,v)::r else (k,x)::bT f v r) from rfl];by_cases a:k=f
  ·rw[QZY a];subst a;exact⟨Zs,λg h=>by simpa using h⟩
  ·rw[QZX a];refine⟨?_,λg h=>?_⟩
   ·rw[map_cons];exact kY _ b
   ·rw[map_cons]at h ⊢;rcases mem_cons.mp h with e|e
    ·exact mem_cons.mpr (.inl e)
    ·exact kY _ (c g e)
theorem qU(f:Str)(v:V):∀fs:List (Str×V),(bT f v fs).length<=fs.length+1
 | []=>by simp[bT]
 | (k,x)::r=>by
  have b:=qU f v r;rw[show bT f v ((k,x)::r)=(if k=f then (k,v)::r else (k,x)::bT f v r) from rfl];by_cases a:k=f
  ·rw[QZY a,sA,sA];omega
  ·rw[QZX a,sA,sA];omega
def RelO.some_of{v:V}{o:Option Q4}(r:RelO (some v) o):∃u,o=some u/\RelV v u:=by
 cases o with
 | none=>exact(show False from r).elim
 | some u=>exact⟨u,rfl,r⟩
def RelO.none_of{o:Option Q4}(r:RelO none o):o=none:=by
 cases o with
 | none=>rfl
 | some u=>exact(show False from r).elim
def Hn{v:V}{u:Q4}(r:RelV v u):W.handedIn u=true:=by
 cases v with
 | non=>cases(show u=Value.none from r);rfl
 | bl b=>cases(show u=Value.bool b from r);rfl
 | int i=>obtain⟨t,e⟩:=(show ∃t,u=Value.int i t from r);cases e;rfl
 | str x=>obtain⟨t,e⟩:=(show ∃t,u=Value.str x t from r);cases e;rfl
 | byt b=>obtain⟨t,e⟩:=(show ∃t,u=Value.bytes b t from r);cases e;rfl
 | flt b=>obtain⟨t,e⟩:=(show ∃t,u=Value.float b t from r);cases e;rfl
 | ref a=>cases(show u=Value.ref a from r);rfl
 | ty n=>cases(show u=Value.type n from r);rfl
section
variable {P:Program}{w:World}{H H':Hp}{h h':Heap}{a C dx:TD}{fs UO:List (Str×V)}
def rN(c:HOk P w H h)(e:H a=some (.ins C dx fs)):∃b,ObjM h a dx C b/\(∀f,RelO (fs.lookup f) (b f))/\PySem.Within b (fs.map (·.1))/\fs.length<=1000/\H dx=some (.own a):=by
 obtain⟨d,z,ne,g,b,n,r,q⟩:=(show ObjOk P w H h a (.ins C dx fs) from c a _ e);exact⟨b,⟨g,n,ne⟩,r,q,z,d⟩
end
structure Cls(K:W.Frag)(C:TD):Prop where
 pg:W.plainGet K C Str.empty=true
 hd:W.hasDictIn K C=true
 po:W.plainOver K C=true
 sa:W.findIn K (.ref C) "__setattr__"=some (some (.builtin "object.__setattr__"))
def Cls.get{K:W.Frag}{C:TD}(c:Cls K C)(f:Str):W.plainGet K C f=true:=c.pg
def NoAttr(K:W.Frag)(C:TD)(f:Str):Prop:=W.findIn K (.ref C) f=some none
def NoAttr.taker{K:W.Frag}{C:TD}{f:Str}(n:NoAttr K C f):W.takerIn K C f=some none:=by
 unfold W.takerIn;rw[show W.findIn K (.ref C) f=some none from n];rfl
structure Yy(K:W.Frag)(C:TD)(m:Str)(f:TD):Prop where
 at_:W.findIn K (.ref C) m=some (some (.ref f))
 fn:W.isFn K (.ref f)=true
 kp:W.keepIn K (.ref f)=true
section
variable {X:Cx}{pins:ZB}{σ:St}{H:Hp}{s:QZZ}{a C dx:TD}{fs:List (Str×V)}{f:Str}{v:V}{A:Around}{E:XV}
def Bp{b:Bool}{Q:XV}(I:Inv X pins σ H s)(e:H a=some (.ins C dx fs))(c:Cls X.K C)(n:NoAttr X.K C f)(l:fs.lookup f=some v)(h:∀u d,Inv X pins σ H d->RelV v u->Q u d):wpAny (model X.prog X.w) A (getAttr (.ref a) f b) Q E s:=by
 obtain⟨i,O,r,_,_,_⟩:=rN I.hok e;obtain⟨u,j,g⟩:=RelO.some_of (v:=v) (o:=i f) (by rw[<- l];exact r f);exact Sm I.kIn O (c.get f) c.hd n j (Hn g) (h u _ (I.tok _) g)
def sF{m:Str}{g:TD}{pl:Sem Bool}{Q:Q4×List Q4->QZZ->Prop}(I:Inv X pins σ H s)(e:H a=some (.ins C dx fs))(c:Cls X.K C)(k:Yy X.K C m g)(l:fs.lookup m=none)(h:Q (.ref g,[.ref a]) s):wpAny (model X.prog X.w) A (getMethod (.ref a) m pl) Q E s:=by
 obtain⟨b,O,r,_,_,_⟩:=rN I.hok e;have d:b m=none:=RelO.none_of (by rw[<- l];exact r m);exact Kv I.kIn O (c.get m) k.at_ k.fn d h
def Bq{y:V}{u:Q4}{Q:Unit->QZZ->Prop}(I:Inv X pins σ H s)(e:H a=some (.ins C dx fs))(c:Cls X.K C)(n:NoAttr X.K C f)(J:fs.length<1000)(m:RelV y u)(h:∀i,Inv X pins σ (aI H a (.ins C dx (bT f y fs))) i->Q () i):wpAny (model X.prog X.w) A (setAttr (.ref a) f u) Q E s:=by
 obtain⟨j,O,r,k,_,l⟩:=rN I.hok e;have p:(fs.map (·.1)).length<=sizeLine:=by rw[aS,sizeLine_eq];omega
 refine Sn I.kIn O c.sa c.po n.taker c.hd k p λt d w=>h _ ?_;have B:∃o,t.get? dx=some o:=let ⟨o,_,_,D,_⟩:=d.ns;⟨o,D⟩;refine I.write (x:=a) (e:=dx) (by rw[e];exact True.intro) (.inr l) (λb q F z=>(w.2 b F).trans z) B ?_;refine⟨by rw[aD O.ne];exact l,?_,O.ne,d.obj,_,d.ns,λg=>?_,λg G=>?_⟩
 ·have:=qU f y fs;omega
 ·show RelO ((bT f y fs).lookup g) (if g=f then some u else j g);rw[qT];by_cases q:g=f
  ·rw[QZY q,QZY q];exact m
  ·rw[QZX q,QZX q];exact r g
 ·by_cases q:g=f
  ·rw[q];exact(pN f y fs).1
  ·refine(pN f y fs).2 g (k g λz=>G ?_);show(if g=f then some u else j g)=none;rw[QZX q];exact z
def Inv.made(I:Inv X pins σ H s):Inv X pins σ (aI (aI H s.heap.objs.size (.own (s.heap.objs.size+1))) (s.heap.objs.size+1) (.ins C s.heap.objs.size []))
  {s with heap:=(s.heap.push W.emptyDict).push (W.instObj C s.heap.objs.size) }:=by
 have c:(s.heap.push W.emptyDict).get? s.heap.objs.size=some W.emptyDict:=TW s.heap rfl;have d:((s.heap.push W.emptyDict).push (W.instObj C s.heap.objs.size)).get? (s.heap.objs.size+1)=some (W.instObj C s.heap.objs.size):=by
  have:=TW (s.heap.push W.emptyDict) (o:=W.instObj C s.heap.objs.size) rfl
  rwa [Heap.size_push]at this
 have g:(s.heap.push W.emptyDict).Ns s.heap.objs.size (λ_=>none):=⟨W.emptyDict,#[],_,c,rfl,(λe h=>QZW h Zs),λ_=>rfl⟩;have i:=I.laid (a:=s.heap.objs.size) (o:=.own (s.heap.objs.size+1)) (h':=s.heap.push W.emptyDict) (t':=s.toks) (λb u q=>eX _ q) (aZ _) ⟨_,c⟩;refine i.laid (a:=s.heap.objs.size+1) (o:=.ins C s.heap.objs.size []) (t':=s.toks) (λb u q=>eX _ q) (le_of_eq (Heap.size_push _ _)) ?_;have ne:s.heap.objs.size≠s.heap.objs.size+1:=ne_of_lt (lt_succ_self _);refine⟨by rw[aD ne,aA],zero_le _,ne,d,λ_=>none,(Heap.Ns1.of_empty g).at λo q=>eX _ q,λ_=>True.intro,λy j=>QZW rfl j⟩
def So{prog:Program}{w:World}{env:Env}{e:Expr}{f:Str}{pos:Pos}{s:QZZ}{Q:XV}(c:attributeBase e f env (eval e env)=eval e env)(h:wpAny (model prog w) A (eval e env) (λo b=>wpAny (model prog w) A (getAttr o f true) Q E b) E s):wpAny (model prog w) A (eval (.Attribute e f pos) env) Q E s:=
 Attribute_any_ h (by rw[arm_eval_Attribute,c])
end
section
variable {X:Cx}{pins:ZB}{σ:St}{H:Hp}{s:QZZ}{A:Around}{E:XV}{Q:XV}{c:Q4}{b:Bool}
inductive oE(K:W.Frag)(H:Hp):V->Q4->Prop where
 | non:oE K H .non (.type "NoneType")
 | bl (x:Bool):oE K H (.bl x) (.type "bool")
 | int (i:Int):oE K H (.int i) (.type "int")
 | str (x:Str):oE K H (.str x) (.type "str")
 | flt (x:UInt64):oE K H (.flt x) (.type "float")
 | lst {a:TD}{xs:List V} (e:H a=some (.lst xs)):oE K H (.ref a) (.type "list")
 | frz {a:TD}{o:Obj}{xs:List V} (e:H a=some (.frz o (.lst xs))):oE K H (.ref a) (.type "list")
 | tup {a:TD}{xs:List V} (e:H a=some (.tup xs)):oE K H (.ref a) (.type "tuple")
 | dK {a:TD}{kvs:List (aV×V)} (e:H a=some (.dK kvs)):oE K H (.ref a) (.type "dict")
 | dT {a:TD}{kvs:List (List aV×V)} (e:H a=some (.dT kvs)):oE K H (.ref a) (.type "dict")
 | ins {a C dx:TD}{fs:List (Str×V)} (e:H a=some (.ins C dx fs)) (cl:Cls K C) (ha:W.findIn K (.ref C) "__class__"=some (some (.builtin "object.__class__")))
   (hn:W.specialIn K (.builtin "object.__class__") "__get__"=some (some (.builtin "getset_descriptor.__get__"))) (htk:W.takesIn K (.builtin "object.__class__")=some true)
   (hm:W.mroIn K C (.type "object")=some true):oE K H (.ref a) (.ref C)
def Ho{x:V}{u t:Q4}(I:Inv X pins σ H s)(d:RelV x u)(ty:oE X.K H x t)(e:W.kitOne X.K t c=some b)(h:∀tk,Q (.bool b) {s with toks:=tk }) :
  wpAny (model X.prog X.w) A (call (.builtin "isinstance") [u,c]) Q E s:=by
 cases ty with
 | non=>cases(show u=Value.none from d);exact W.kia_one W.kitx_none I.kIn True.intro e nofun h
 | bl y=>cases(show u=Value.bool y from d);exact W.kia_one W.kitx_bool I.kIn True.intro e nofun h
 | int i=>obtain⟨t,q⟩:=(show ∃t,u=Value.int i t from d);cases q;exact W.kia_one W.kitx_int I.kIn True.intro e nofun h
 | str y=>obtain⟨t,q⟩:=(show ∃t,u=Value.str y t from d);cases q;exact W.kia_one W.kitx_str I.kIn True.intro e nofun h
 | flt y=>obtain⟨t,q⟩:=(show ∃t,u=Value.float y t from d);cases q;exact W.kia_one W.kitx_float I.kIn True.intro e nofun h
 | @lst a j f=>
  cases(show u=Value.ref a from d);obtain⟨_,_,n,_,g⟩:=(show ObjOk X.prog X.w H s.heap a (.lst j) from I.hok a _ f);exact W.kia_one W.kitx_list I.kIn ⟨_,g,rfl⟩ e nofun h
 | @frz a v j f=>
  cases(show u=Value.ref a from d);obtain⟨_,_,_,n,_,g⟩:=(show ObjOk X.prog X.w H s.heap a (.frz v (.lst j)) from I.hok a _ f);exact W.kia_one W.kitx_list I.kIn ⟨_,g,rfl⟩ e nofun h
 | @tup a j f=>
  cases(show u=Value.ref a from d);obtain⟨_,_,_,p⟩:=(show ObjOk X.prog X.w H s.heap a (.tup j) from I.hok a _ f);obtain⟨o,g,k,_⟩:=p;exact W.kia_one W.kitx_tuple I.kIn ⟨o,g,k⟩ e nofun h
 | @dK a l f=>
  cases(show u=Value.ref a from d);obtain⟨_,_,vs,_,p⟩:=(show ObjOk X.prog X.w H s.heap a (.dK l) from I.hok a _ f);obtain⟨o,w,z,g,k,_⟩:=p;exact W.kia_one W.kitx_dict I.kIn ⟨o,g,k.1⟩ e nofun h
 | @dT a l f=>
  cases(show u=Value.ref a from d);obtain⟨_,_,j,_,o,w,z,g,k,_⟩:=(show ObjOk X.prog X.w H s.heap a (.dT l) from I.hok a _ f);exact W.kia_one W.kitx_dict I.kIn ⟨o,g,k.1⟩ e nofun h
 | @ins a C G fs f m B D r F=>
  cases(show u=Value.ref a from d);obtain⟨K,O,_⟩:=rN I.hok f;obtain⟨L,J,_⟩:=O.look;exact W.kia_one (W.kitx_own (m.get _) m.hd B D r F) I.kIn J e nofun h
end
structure Room(k:Nat)(A:Around):Prop where
 hd:A.handled=none
 dp:A.depth+3*k+5<recursionLimit
 un:A.units+16*k+200<cLine
def Room.mono{j k:Nat}{A:Around}(r:Room k A)(h:j<=k):Room j A:=⟨r.hd,by have:=r.dp;omega,by have:=r.un;omega⟩
def Room.deeper{k:Nat}{A:Around}(r:Room (k+1) A)(env:Env):Room k (A.deeper env):=
 ⟨r.hd,by have:=r.dp;show A.depth+1+3*k+5<_;omega,by have:=r.un;show A.units+3+16*k+200<_;omega⟩
def Br{A:Around}{C:TD}{us:List Q4}{a:List (Str×Q4)}:(A.under (.builtin "type.__call__" ⟨.ref C::us,a⟩)).depth=A.depth+1:=by
 first|rfl|simp[Around.under,Code.weight,Code.isCreation,Code.isGuard,Code.isCaller,Code.frames,Code.isFrame,guardIds]
def Bs{A:Around}{C:TD}{us:List Q4}{a:List (Str×Q4)}:(A.under (.builtin "type.__call__" ⟨.ref C::us,a⟩)).units=A.units+1:=by
 first|rfl|simp[Around.under,Code.cUnits,Code.frames,Code.isFrame]
def Room.make{k:Nat}{A:Around}(r:Room (k+1) A)(C:TD)(us:List Q4)(a:List (Str×Q4)):Room k (A.under (.builtin "type.__call__" ⟨.ref C::us,a⟩)):=
 ⟨r.hd,by have:=r.dp;rw[Br];omega,by have:=r.un;rw[Bs];omega⟩
def Room.depth{k:Nat}{A:Around}(r:Room k A):A.depth<recursionLimit:=by have:=r.dp;omega
def Room.units{k:Nat}{A:Around}(r:Room k A):A.units+64<cLine:=by have:=r.un;omega
def Room.units0{k:Nat}{A:Around}(r:Room k A):A.units<cLine:=by have:=r.un;omega
def rE:TA:=λ_ H Q=>Q [] H
def hX(b:TE)(c:TA):TA:=λa H Q=>b a H λx d=>c a d λe f=>Q (x::e) f
section
variable {X:Cx}{e:Expr}{es:List Expr}{te:TE}{t:TA}{pos:Pos}
def wY:PA X [] rE:=λ_ _ _ _ H Q I h=>Calls.spliced_nil ⟨[],H,I,.nil,h⟩
def wZ(c:PE X e te)(d:PA X es t)(hs:starEach (e::es) X.env=(false,eval e X.env)::starEach es X.env:=by rfl):PA X (e::es) (hX te t):=by
 intro pos a s b H Q I h;rw[hs];show wpAny _ _ (spliced ((false,eval e X.env)::backTo pos (starEach es X.env))) _ _ s;refine Calls.spliced_cons (cA (c a s b H _ I h) ?_);rintro u f ⟨x,g,i,j,k⟩;exact cA (d pos a f b g _ i k) λq r ⟨l,m,n,o,p⟩=>⟨x::l,m,n,.cons j o,p⟩
def aBA(t:TA):TE:=λc H Q=>t c H λa b=>a.length<=sizeLine/\∀p,b p=none->Q (.ref p) (aI b p (.tup a))
def aBB(t:TA):TE:=λc H Q=>t c H λa b=>a.length<=sizeLine/\∀p,b p=none->Q (.ref p) (aI b p (.lst a))
def Yz{g}(h:PA X es t):PE X (.Tuple es g pos) (aBA t):=by
 intro f s m H Q I i;refine wpAny_Tuple_spliced (cA (h pos f s m H _ I i) λj a ⟨k,c,d,r,z,q⟩=>⟨by rw[<- r.length];exact z,?_⟩);have l:c a.heap.objs.size=none:=d.hok.fresh (aZ _);refine⟨.ref a.heap.objs.size,aI c a.heap.objs.size (.tup k),d.laid (t':=a.toks) (λb u e=>eX _ e) (aZ _) ?_,rfl,q _ l⟩;exact⟨z,j,r,⟨_,TW _ rfl,rfl,_,rfl⟩⟩
def Za(h:PA X es t):PE X (.List es pos) (aBB t):=by
 intro f s l H Q I g;refine wpAny_List_spliced (cA (h pos f s l H _ I g) λi a ⟨j,c,d,r,z,q⟩=>⟨by rw[<- r.length];exact z,?_⟩);have k:c a.heap.objs.size=none:=d.hok.fresh (aZ _);refine⟨.ref a.heap.objs.size,aI c a.heap.objs.size (.lst j),d.laid (t':=a.toks) (λb u e=>eX _ e) (aZ _) ?_,rfl,q _ k⟩;exact⟨z,i,0,r,TW _ rfl⟩
end
abbrev Sp:=List V->Hp->VK->XK->Prop
abbrev Rs:=List Env->Hp->QZZ->XK->Q4->QZZ->Prop
structure Env0(P:Program)(w:World)(K:W.Frag)(mg:V0)(base:Heap)(A:Around)(outer:List Env)(s:QZZ)(H:Hp):Prop where
 frames:A.frames=some outer
 mod:Mod K mg base
 bs:∀b o,base.get? b=some o->s.heap.get? b=some o/\H b=none
 bsz:base.objs.size<=s.heap.objs.size
 funs:s.heap.FunFrames base outer
 frf:∀b∈Kj outer,H b=none
 hok:HOk P w H s.heap
 bare:AllBare s.gens
def CE(outer:List Env)(P:Program)(w:World)(H:Hp)(s:QZZ)(Q:VK)(u:Q4)(a:QZZ):Prop:=
 ∃v b,a.os=s.os/\AllBare a.gens/\Un (Kj outer) [] H b s.heap a.heap/\HOk P w b a.heap/\RelV v u/\Q v b
def CR(CX:Rs)(outer:List Env)(P:Program)(w:World)(H:Hp)(s:QZZ)(Q:VK)(E:XK)(r:Result)(a:QZZ):Prop:=
 match r with
 | .ok (.ret u)=>CE outer P w H s Q u a
 | .ok _=>False
 | .error e=>CX outer H s E e a
structure lE(P:Program)(w:World)(K:W.Frag)(mg:V0)(base:Heap)(CX:Rs)(k:Nat)(f:TD)(fd:FuncData)(ps:List Str)(sp:Sp):Prop where
 len:∀vs H Q E,sp vs H Q E->vs.length=ps.length
 run:∀(A:Around)(outer:List Env)(s:QZZ)(H:Hp)(args:Args)(us:List Q4)(vs:List V)(Q:VK)(E:XK),Room k A->Env0 P w K mg base A outer s H->BindsTo s fd args (ps.zip us)->Vals vs us->sp vs H Q E →
  codeAny (model P w) A (.call (.ref f) args) (CR CX outer P w H s Q E) s
def Env0.make{P:Program}{w:World}{K:W.Frag}{mg:V0}{base:Heap}{A:Around}{outer:List Env}{s:QZZ}{H:Hp}(e:Env0 P w K mg base A outer s H)(C:TD)(us:List Q4)(a:List (Str×Q4)) :
  Env0 P w K mg base (A.under (.builtin "type.__call__" ⟨.ref C::us,a⟩)) outer s H:=⟨by first|exact e.frames|(simpa [Around.under,Code.envs,Code.isFrame,pushEnvs]using e.frames),e.mod,e.bs,e.bsz,e.funs,e.frf,e.hok,e.bare⟩
section
variable {X:Cx}{pins:ZB}{σ:St}{H:Hp}{s s':QZZ}
def Inv.env0(I:Inv X pins σ H s):Env0 X.prog X.w X.K X.mg X.base X.A X.stack s H:=
 ⟨I.ok.frames,I.ok.mod,I.bs,gL I.ok.bsz I.sz,I.stack,I.stkFree,I.hok,I.bare⟩
def Inv.after{Q:VK}{u:Q4}(I:Inv X pins σ H s)(h:CE X.stack X.prog X.w H s Q u s'):EP X pins σ Q u s':=by
 obtain⟨v,e,os,a,un,c,r,q⟩:=h;obtain⟨f,g,d,t,i⟩:=s';obtain rfl:i=s.os:=os;exact⟨v,e,I.call (h':=f) (g':=g) (d':=d) (t':=t) (ch:=[]) un c a (λb z=>QZW z Zs),r,q⟩
end
def aBC(sp:Sp)(dvs:List V)(E:XK)(t:TA):TE:=λb H Q=>t b H λvs a=>sp (vs++dvs) a Q E
def Eh(C:TD)(sp:Sp)(dvs:List V)(E:XK)(t:TA):TE:=λd H Q=>t d H λvs b=>∀x a,b x=none->b a=none->a≠x →
 sp (.ref x::(vs++dvs)) (aI (aI b a (.own x)) x (.ins C a [])) (λv c=>v=.non/\Q (.ref x) c) E
def Binds(K:W.Frag)(b:FuncData)(ps:List Str)(ds:List Q4):Prop:=
 ∀(s:QZZ)(a:List Q4),K.In s.heap->(a++ds).length=ps.length->BindsTo s b ⟨a,[]⟩ (ps.zip (a++ds))
def Binds.all{K:W.Frag}{a:FuncData}{ps:List Str}(h:∀us:List Q4,us.length=ps.length->bindArgs a ⟨us,[]⟩=pure (ps.zip us)):Binds K a ps []:=λs us _ b=>by
 rw[append_nil]at b ⊢;exact .of_eq (h us b)
def pO(CX:Rs)(X:Cx)(E:XK):Prop:=∀(b:ZB)(c:St)(H:Hp)(s:QZZ)(e:Q4)(a:QZZ),Inv X b c H s->CX X.stack H s E e a->X.xe e a
section
variable {X:Cx}{CX:Rs}{k:Nat}{f C:TD}{fd:FuncData}{ps:List Str}{sp:Sp}{dvs:List V}{ds:List Q4}{E:XK}{x m:Str}{p pos apos:Pos}{e o:Expr}{es:List Expr}{ta:TE}{t:TA}
def Bt{b:ZB}{c:St}{H:Hp}{s:QZZ}{Q:VK}{us:List Q4}{vs:List V}(F:lE X.prog X.w X.K X.mg X.base CX k f fd ps sp)(g:Room k X.A)(i:Binds X.K fd ps ds)(j:Vals dvs ds)(l:pO CX X E)(I:Inv X b c H s)(r:Vals vs us)(h:sp (vs++dvs) H Q E):wpAny (model X.prog X.w) X.A (call (.ref f) us) (EP X b c Q) X.xe s:=by
 have d:Vals (vs++dvs) (us++ds):=r.append j;have n:(us++ds).length=ps.length:=by rw[<- d.length];exact F.len _ _ _ _ h
 refine wpAny_call (codeAny_mono (F.run X.A X.stack s H ⟨us,[]⟩ (us++ds) (vs++dvs) Q E g I.env0 (i s us I.kIn n) d h) λr q a=>?_)
 cases r with
 | error e=>exact l b c H s e q I a
 | ok v=>
  cases v with
  | ret u=>exact I.after a
  | next=>exact False.elim a
  | brk=>exact False.elim a
  | cont=>exact False.elim a
def Sq(F:lE X.prog X.w X.K X.mg X.base CX k f fd ps sp)(c:Room k X.A)(d:Gl X x)(g:X.mg x=some (.ref f))(i:W.keepIn X.K (.ref f)=true)(j:Binds X.K fd ps ds)(l:Vals dvs ds)(n:pO CX X E)(u:PA X (e::es) t)(v:(x==("__debug__":Str))=false:=by decide)(w:starEach (e::es) X.env=(false,eval e X.env)::starEach es X.env:=by rfl)(y:(backTo pos (starEach es X.env)).any (·.1)=false:=by rfl) :
  PE X (.Call (.Name x p) (e::es) [] pos) (aBC sp dvs E t):=by
 intro b s z H Q I h;refine wpAny_Call_Name_kw (rM I d g ?_ v);refine W.callWith_K (h₀:=X.base) I.ok.mod.kin i (cA (u pos b s z H _ I h) λA B ⟨vs,D,a,r,q⟩=>⟨a.kIn,?_⟩) w y;exact Bt F c j l n a r q
structure Mk(K:W.Frag)(C f:TD):Prop where
 makes:W.makesIn K C=true
 init:W.findIn K (.ref C) "__init__"=some (some (.ref f))
 fn:W.isFn K (.ref f)=true
 kp:W.keepIn K (.ref C)=true
def yW{d:ZB}{g:St}{H:Hp}{s:QZZ}{Q:VK}{us:List Q4}{vs:List V}(M:Mk X.K C f)(F:lE X.prog X.w X.K X.mg X.base CX k f fd ps sp)(l:Room (k+1) X.A)(n:Binds X.K fd ps ds)(q:Vals dvs ds)(w:pO CX X E)(I:Inv X d g H s)(r:Vals vs us)(h:∀x b,H x=none->H b=none->b≠x->sp (.ref x::(vs++dvs)) (aI (aI H b (.own x)) x (.ins C b [])) (λv H2=>v=.non/\Q (.ref x) H2) E) :
  wpAny (model X.prog X.w) X.A (call (.ref C) us) (EP X d g Q) X.xe s:=by
 have i:=h (s.heap.objs.size+1) s.heap.objs.size (I.hok.fresh (le_succ _)) (I.hok.fresh (aZ _)) (ne_of_lt (lt_succ_self _));have c:=Inv.made (C:=C) I;have j:Vals (V.ref (s.heap.objs.size+1)::(vs++dvs)) (Value.ref (s.heap.objs.size+1)::(us++ds)):=.cons rfl (r.append q);have y:(Value.ref (s.heap.objs.size+1)::us++ds).length=ps.length:=by
  have e:=j.length;rw[F.len _ _ _ _ i]at e;exact e.symm
 refine wpAny_call (Kw (f:=f) I.kIn M.makes M.init (beq_iff_eq.mp M.fn) (codeAny_mono (F.run _ X.stack _ _ ⟨Value.ref (s.heap.objs.size+1)::us,[]⟩ (Value.ref (s.heap.objs.size+1)::(us++ds)) _ _ E (l.make C us [])
  (c.env0.make C us []) (n _ (Value.ref (s.heap.objs.size+1)::us) c.kIn y) j i) λr z a=>?_))
 cases r with
 | error e=>exact w d g _ _ e z c a
 | ok A=>
  cases A with
  | ret u=>
   obtain⟨v,B,D,G,J,K⟩:=c.after a;subst J;exact⟨G,⟨V.ref (s.heap.objs.size+1),B,D,rfl,K⟩⟩
  | next=>exact False.elim a
  | brk=>exact False.elim a
  | cont=>exact False.elim a
def Sr(M:Mk X.K C f)(F:lE X.prog X.w X.K X.mg X.base CX k f fd ps sp)(c:Room (k+1) X.A)(d:Gl X x)(g:X.mg x=some (.ref C))(i:Binds X.K fd ps ds)(j:Vals dvs ds)(l:pO CX X E)(n:PA X (e::es) t)(u:(x==("__debug__":Str))=false:=by decide)(v:starEach (e::es) X.env=(false,eval e X.env)::starEach es X.env:=by rfl)(w:(backTo pos (starEach es X.env)).any (·.1)=false:=by rfl) :
  PE X (.Call (.Name x p) (e::es) [] pos) (Eh C sp dvs E t):=by
 intro b s y H Q I h;refine wpAny_Call_Name_kw (rM I d g ?_ u);refine W.callWith_K (h₀:=X.base) I.ok.mod.kin M.kp (cA (n pos b s y H _ I h) λz A ⟨vs,B,a,r,q⟩=>⟨a.kIn,?_⟩) v w;exact yW M F c i j l a r q
def Kx(M:Mk X.K C f)(F:lE X.prog X.w X.K X.mg X.base CX k f fd ps sp)(a:Room (k+1) X.A)(b:Gl X x)(c:X.mg x=some (.ref C))(d:Binds X.K fd ps ds)(g:Vals dvs ds)(i:pO CX X E)(j:(x==("__debug__":Str))=false:=by decide):PE X (.Call (.Name x p) [] [] pos) (Eh C sp dvs E rE):=by
 intro l s n H Q I h;refine wpAny_Call_Name_kw (rM I b c ?_ j);exact W.callWith_K0 I.kIn M.kp (yW (us:=[]) M F a d g i I .nil h)
end
structure aK(N P:List Str)(sc:Scope):Prop where
 kind:sc.kind=.function
 co:sc.isCoroutine=false
 gen:sc.isGenerator=false
 nd:N.Nodup
 pre:N.take P.length=P
 par:∀x∈P,sc.names.lookup x=some .local∨sc.names.lookup x=some .cell
 nofree:∀y∈sc.names,y.2≠.free
theorem vP{kindOf:Str->Option NameKind}{x:Str}:∀ {binds:List (Str×Q4)}{m:V0},(∀v,(x,v)∉binds)->bindL kindOf binds m x=m x
 | [],_,_=>rfl
 | (n,v)::r,m,h=>by
  unfold bindL;rw[vP λw a=>h w (kY _ a)];split
  ·have:x≠n:=by rintro rfl;exact h v gJ
   simp[this]
  ·rfl
theorem vQ{kindOf:Str->Option NameKind}{x:Str}:∀ {binds:List (Str×Q4)}{m:V0},(∀v,(x,v)∉binds)->bindC kindOf binds m x=m x
 | [],_,_=>rfl
 | (n,v)::r,m,h=>by
  unfold bindC;rw[vQ λw a=>h w (kY _ a)];split
  ·rfl
  ·have:x≠n:=by rintro rfl;exact h v gJ
   simp[this]
theorem vR{kindOf:Str->Option NameKind}{x:Str}{v:Q4}:∀ {P:List Str}{vs:List Q4}{i:Nat}{m:V0},P.Nodup->P[i]?=some x->vs[i]?=some v->kindOf x=some .local →
  bindL kindOf (P.zip vs) m x=some v
 | [],_,_,_,_,h,_,_=>by simp at h
 | _::_,[],_,_,_,_,h,_=>by simp at h
 | p::P,w::vs,0,m,c,a,b,d=>by
  simp at a b;subst a;subst b;show bindL kindOf ((p,w)::P.zip vs) m p=_;unfold bindL;rw[vP λv e=>(nodup_cons.mp c).1 (of_mem_zip e).1,QZY d];simp
 | p::P,w::vs,i+1,m,c,a,b,d=>by
  show bindL kindOf ((p,w)::P.zip vs) m x=_;unfold bindL;exact vR (i:=i) (nodup_cons.mp c).2 (by simpa using a) (by simpa using b) d
theorem vS{kindOf:Str->Option NameKind}{x:Str}{v:Q4}:∀ {P:List Str}{vs:List Q4}{i:Nat}{m:V0},P.Nodup->P[i]?=some x->vs[i]?=some v->kindOf x≠some .local →
  bindC kindOf (P.zip vs) m x=some v
 | [],_,_,_,_,h,_,_=>by simp at h
 | _::_,[],_,_,_,_,h,_=>by simp at h
 | p::P,w::vs,0,m,c,a,b,d=>by
  simp at a b;subst a;subst b;show bindC kindOf ((p,w)::P.zip vs) m p=_;unfold bindC;rw[vQ λv e=>(nodup_cons.mp c).1 (of_mem_zip e).1,QZX d];simp
 | p::P,w::vs,i+1,m,c,a,b,d=>by
  show bindC kindOf ((p,w)::P.zip vs) m x=_;unfold bindC;exact vS (i:=i) (nodup_cons.mp c).2 (by simpa using a) (by simpa using b) d
def start(N:List Str)(vs:List V):St:=vs.map some++List.replicate (N.length-vs.length) none
def nB(CX:Rs)(P:Program)(w:World)(K:W.Frag)(mg:V0)(base:Heap)(N:List Str)(b:Str)(a:Scope)(f:TD)(c:Q4)(A:Around)(outer:List Env)(s:QZZ)(H:Hp)(E:XK):Cx where
 prog:=P
 w:=w
 K:=K
 mg:=mg
 base:=base
 A:=A.deeper (envOfC b a s.heap.objs.size f c)
 N:=N
 s₀:=s
 H₀:=H
 env:=envOfC b a s.heap.objs.size f c
 outer:=outer
 stack:=envOfC b a s.heap.objs.size f c::outer
 ex:=[]
 calm:=true
 fn:=λ_=>true
 pn:=[]
 xe:=λe g=>wpAny (model P w) (A.deeper (envOfC b a s.heap.objs.size f c)) (leaving (envOfC b a s.heap.objs.size f c) e) (λ_ d=>CX outer H s E e d) (λh d=>CX outer H s E h d) g
def yX{sc:Scope}{n:Nat}{x:Str}(h:sc.names.lookup x=some .cell):∃c,(cellsFrom n sc.names []).lookup x=some c:=by
 have q:=W.cellsFrom_some sc.names n [] (.inl h);exact Option.isSome_iff_exists.mp q
def Hr{CX:Rs}{P:Program}{w:World}{K:W.Frag}{mg:V0}{base:Heap}{N ps:List Str}{o:Str}{j:Scope}{f:TD}{t:Q4}{A:Around}{outer:List Env}{s F:QZZ}{H:Hp}{E:XK}{us:List Q4}{vs:List V}(S:aK N ps j)(L:A.handled=none)(g:Env0 P w K mg base A outer s H)(Q:vs.length=ps.length)(r:Vals vs us)(x:InCallC s s.heap.objs.size (bindL (envOfC o j s.heap.objs.size f t).kindOf (ps.zip us) λ_=>none) (cellsFrom (s.heap.objs.size+1) j.names []) (bindC (envOfC o j s.heap.objs.size f t).kindOf (ps.zip us) λ_=>none) F) :
  Inv (nB CX P w K mg base N o j f t A outer s H E) [] (start N vs) H F:=by
 have R:ps.length<=N.length:=by have:=congrArg length S.pre;rw[oA]at this;omega
 obtain⟨B,tk,rfl,G⟩:=x.done;have D:∀b:TD,b∉(nB CX P w K mg base N o j f t A outer s H E).ex:=λb z=>QZW (show b∈([]:List TD) from z) Zs
 refine⟨⟨g.mod,S.kind,rfl,rfl,aZ _,λy z c B d=>?_,λy l=>?_,λy c _ h=>?_,λ_=>L,Around.frames_deeper g.frames,.inr ⟨rfl,rfl⟩,λb z=>QZW z (D b),g.bs,g.bsz,λb _ _=>D b,λb z=>QZW z (D b),g.funs,g.frf⟩,
  rfl,g.bare,Un.kept G,⟨_,x.toInCall.ns,λi y v B d T=>?_⟩,λy c h=>⟨_,x.cell y c h⟩,g.hok.fresh (aZ _),λy c h=>?_,λp m=>QZW (show p∈([]:List (Addr × Obj)) from m) Zs,g.hok.kept G,?_⟩
 ·exact name_of_addr x.apart (PySem.mem_of_lookup B) (PySem.mem_of_lookup d)
 ·have l:j.names.lookup y=some .cell∨j.names.lookup y=some .free:=l;rcases l with l|l
  ·exact yX l
  ·exact QZW rfl (S.nofree _ (PySem.mem_of_lookup l))
 ·exact le_of_lt (x.above y c (PySem.mem_of_lookup h))
 ·have C:i<vs.length:=by
   unfold start at d;by_cases C:i<vs.length
   ·exact C
   ·rw[getElem?_append_right (by simpa using C)]at d;rw[List.getElem?_replicate]at d;split at d<;>cases d
  have M:vs[i]?=some v:=by
   unfold start at d;rw[getElem?_append_left (by simpa using C),fK]at d
   cases e:vs[i]? with
   | none=>rw[e]at d;cases d
   | some a=>rw[e]at d;cases d;rfl
  obtain⟨u,I,O⟩:=r.get M;have m:ps[i]?=some y:=by
   rw[<- S.pre,List.getElem?_take_of_lt Zo];exact B
  have J:ps.Nodup:=by rw[<- S.pre];exact S.nd.sublist (List.take_sublist _ _)
  refine⟨u,O,?_⟩;rcases S.par y (jI m) with k|k
  ·exact .inl ⟨k,vR J m I k⟩
  ·obtain⟨c,e⟩:=yX (n:=s.heap.objs.size+1) k;refine .inr ⟨.inl k,c,e,?_⟩;have q:=x.cell y c e;rw[vS J m I (by show j.names.lookup y≠_;rw[k];decide)]at q;exact q
 ·exact g.hok.fresh (le_of_lt (x.above y c (PySem.mem_of_lookup h)))
 ·unfold start;show _=N.length;rw[lZ,aS,List.length_replicate];omega
def Wm{CX:Rs}{P:Program}{w:World}{K:W.Frag}{mg:V0}{base:Heap}{k:Nat}{f:TD}{name d:Str}{z:Arguments}{l:List Stmt}{a:Scope}{D kV B F g G U:Q4}{I X:Option TD}{R:Array (Option Q4)}{N ps:List Str}{sp:Sp}(lk:K.lookup f=some ⟨U,X,.func (W.fnOf name d z l a D kV B F I g G),R⟩)(Y:W.codeIn K g d=true)(S:aK N ps a)(len:∀vs H Q E,sp vs H Q E->vs.length=ps.length)(Z:∀(A:Around)(outer:List Env)(s:QZZ)(H:Hp)(vs:List V)(Q:VK)(E:XK),Room k (A.deeper (envOfC d a s.heap.objs.size f g))->sp vs H Q E →
   ∃t,PSs (nB CX P w K mg base N d a f g A outer s H E) l t/\t {nx:=λ_ c=>Q .non c,rt:=Q } (start N vs) H) :
  lE P w K mg base CX (k+1) f (W.fnOf name d z l a D kV B F I g G) ps sp:=by
 refine⟨len,λA outer s H args us vs Q E m i hb a0 L=>?_⟩;have hl:=len _ _ _ _ L;have M:K.In s.heap:=i.mod.kin.keeps λb o e=>(i.bs b o e).1
 have T:s.heap.NoLimit:=i.mod.nolimit.keeps λb o e=>(i.bs b o e).1
 have EF:∀y∈ps.zip us,a.names.lookup y.1=some .local∨(a.names.lookup y.1=some .cell/\((cellsFrom (s.heap.objs.size+1) a.names []).lookup y.1).isSome=true):=λ⟨n,v⟩ hy=>by
  rcases S.par n (of_mem_zip hy).1 with q|q
  ·exact .inl q
  ·exact .inr ⟨q,W.cellsFrom_some _ _ _ (.inl q)⟩
 refine codeAny_call_function m.depth (M _ _ lk) rfl S.co S.gen rfl (W.codeRec_of M Y) (hb _ _ _ _ ?_);refine wpAny_newFunctionEnv_cells S.kind EF λenv he O x=>?_;subst he;refine⟨T.keeps x.toInCall.keep,codeAny_func ?_⟩;obtain⟨t,ht,hq⟩:=Z A outer s H vs Q E (m.deeper _) L;have a1:Inv (nB CX P w K mg base N d a f g A outer s H E) [] (start N vs) H O:=Hr S m.hd i hl a0 x;refine wpAny_mono (ht [] O (start N vs) H _ a1 hq) (λfl p h=>?_) λe p h=>h;have C:∀ {j:St}{c:Hp}{v:V}{u:Q4},Inv (nB CX P w K mg base N d a f g A outer s H E) [] j c p->RelV v u->Q v c->CE outer P w H s Q u p:=
  λ{j c v u} J r q=>⟨v,c,J.os,J.bare,J.base,J.hok,r,q⟩
 cases fl with
 | ret u=>
  obtain⟨v,j,c,J,r,q⟩:=h;exact C J r q
 | next=>
  obtain⟨j,c,J,q⟩:=h;exact C (v:=V.non) (u:=Value.none) J rfl q
 | brk=>
  obtain⟨_,_,_,q⟩:=h;exact False.elim q
 | cont=>
  obtain⟨_,_,_,q⟩:=h;exact False.elim q
section
variable {X:Cx}{x:Str}{p pos:Pos}{e:Expr}{es:List Expr}{t:TA}{id T:String}{r:List V->Hp->VK->Prop}
def tCB(r:List V->Hp->VK->Prop)(t:TA):TE:=λb H Q=>t b H λvs a=>r vs a Q
def yY(c:CallR X (.builtin id) r)(d:Gl X x)(f:X.mg x=none)(g:bootBuiltins x=some (.builtin id))(i:PA X (e::es) t)(j:x≠"__name__":=by decide)(k:(x==("__debug__":Str))=false:=by decide)(l:starEach (e::es) X.env=(false,eval e X.env)::starEach es X.env:=by rfl)(m:(backTo pos (starEach es X.env)).any (·.1)=false:=by rfl):PE X (.Call (.Name x p) (e::es) [] pos) (tCB r t):=by
 intro a s b H Q I h;refine wpAny_Call_Name_kw (pK I d f g ?_ j k);exact PyProof.Rows.callWith_builtin1 (cA (i pos a s b H _ I h) λn o ⟨vs,q,u,v,w⟩=>c a o b q vs n Q u v w) l m
def Hs(c:CallR X (.type T) r)(d:Gl X x)(f:X.mg x=none)(g:bootBuiltins x=some (.type T))(i:PA X (e::es) t)(j:x≠"__name__":=by decide)(k:(x==("__debug__":Str))=false:=by decide)(l:starEach (e::es) X.env=(false,eval e X.env)::starEach es X.env:=by rfl)(m:(backTo pos (starEach es X.env)).any (·.1)=false:=by rfl):PE X (.Call (.Name x p) (e::es) [] pos) (tCB r t):=by
 intro a s b H Q I h;refine wpAny_Call_Name_kw (pK I d f g ?_ j k);exact PyProof.Rows.callWith_type1 (cA (i pos a s b H _ I h) λn o ⟨vs,q,u,v,w⟩=>c a o b q vs n Q u v w) l m
end
end L2
namespace HT
open PySem PyProof.Rows
section
variable {prog:Program}{w:World}{A:Around}{E:XV}{s:QZZ}
def cat_tup{t b:TD}{vs a:List Q4}{Q:XV}(r:IsTup s.heap t vs.toArray)(u:IsTup s.heap b a.toArray)(h:vs≠[])(v:a=[]->Q (.ref t) s)(x:a≠[]->Q (.ref s.heap.objs.size) {s with heap:=s.heap.push {cls:=.type "tuple",data:=.seq (vs++a).toArray } })(q:vs.length+a.length<=sizeLine):wpAny (model prog w) A (binaryOp .Add (.ref t) (.ref b)) Q E s:=by
 obtain⟨⟨cls,i,data,sl⟩,c,j,n,k⟩:=id r;obtain⟨⟨y,l,data2,m⟩,d,o,p,g⟩:=id u;simp only at j k o g;subst j k o g;have e:vs.toArray++a.toArray=(vs++a).toArray:=by simp
 by_cases f:a=[]
 ·exact concat_meets ⟨_,c,rfl⟩ ⟨_,d,rfl⟩ noFill_tuple_add seq_tuple_add PySem.F.slot_tuple_add PySem.F.entry_tuple_add (PySem.F.args_tuple_add_2 _ _)
   (tuple_addW1 t b vs.toArray a.toArray n p i l sl m (by simpa using h) (by simp[f])) ⟨c,d,v f⟩
 ·refine concat_meets ⟨_,c,rfl⟩ ⟨_,d,rfl⟩ noFill_tuple_add seq_tuple_add PySem.F.slot_tuple_add PySem.F.entry_tuple_add (PySem.F.args_tuple_add_2 _ _)
   (tuple_addW2 t b vs.toArray a.toArray n p i l sl m (by simpa using h) (by simpa using f) (by rw[gM,gM];exact q)) ⟨c,d,?_⟩
  rw[e];exact x f
def sIx(n d:Nat):Option Int->Nat
 | none=>d
 | some v=>if v<0 then (v+(n:Int)).toNat else min v.toNat n
def sIx_none(n d:Nat):sIx n d none=d:=rfl
def sIx_nat(n d k:Nat):sIx n d (some (k:Int))=min k n:=by
 show(if (k:Int)<0 then ((k:Int)+(n:Int)).toNat else min (k:Int).toNat n)=min k n;rw[QZX Zo,Int.toNat_natCast]
def Zb(n d:Nat)(b:d<=n)(o:Option Int):sIx n d o<=n:=by
 cases o with
 | none=>exact b
 | some v=>
  show(if v<0 then (v+(n:Int)).toNat else min v.toNat n)<=n;by_cases a:v<0
  ·rw[QZY a];omega
  ·rw[QZX a];exact min_le_right _ _
def Ei(v:Int)(n d:Nat):(if v<0 then max (v+(n:Int)) 0 else min v (n:Int))=((sIx n d (some v):Nat):Int):=by
 show(if v<0 then max (v+(n:Int)) 0 else min v (n:Int))=(((if v<0 then (v+(n:Int)).toNat else min v.toNat n):Nat):Int);by_cases a:v<0
 ·simp only [QZY a];omega
 ·simp only [QZX a];omega
def Bu(lo a:Option Int)(n:Nat):Builtin.Slice.sliceAdjust lo a 1 (n:Int)=(((sIx n 0 lo:Nat):Int),((sIx n n a:Nat):Int)):=by
 have b:¬ ((1:Int)<0):=by omega
 unfold Builtin.Slice.sliceAdjust;simp only [b,if_false];refine Prod.ext ?_ ?_
 ·cases lo with
  | none=>rfl
  | some v=>exact Ei v n 0
 ·cases a with
  | none=>rfl
  | some v=>exact Ei v n n
def Bv(i j:Nat):Builtin.Slice.slicePlaces (i:Int) (j:Int) 1=j-i:=by
 unfold Builtin.Slice.slicePlaces;have a:(1:Int)>0:=by omega
 simp only [a,if_true,Int.ediv_one];split<;>omega
def sI{v:Q4}{o:Option Int}{Q:Option Int->QZZ->Prop}(p:IsPart v o)(h:Q o s):wpAny (model prog w) A (Builtin.Slice.slicePartIndex v) Q E s:=by
 cases p with
 | none=>exact slicePart_none h
 | int i t=>exact slicePart_int h
def sliceApplied_gen{sl:TD}{b c:Q4}{lo a:Option Int}{n:Nat}{Q:Int×Int×Nat->QZZ->Prop}(hs:s.heap.IsSliceOf sl b c .none)(pl:IsPart b lo)(f:IsPart c a)(h:Q (((sIx n 0 lo:Nat):Int),1,sIx n n a-sIx n 0 lo) s):wpAny (model prog w) A (Builtin.Slice.sliceApplied (.ref sl) (pure (n:Int))) Q E s:=by
 obtain⟨os,d,g,e⟩:=id hs;unfold Builtin.Slice.sliceApplied Builtin.Slice.sliceFields;refine U9 (U9 (wpAny_field d e (x:=b) rfl (U9 (wpAny_field d e (x:=c) rfl (U9 (wpAny_field d e (x:=.none) rfl (U8 ?_)))))));refine U9 (slicePart_none ?_);show wpAny _ _ (if ((1:Int)==0)=true then _ else _) _ _ s;rw[QZX Zd];refine U9 (sI pl (U9 (sI f (U9 (U8 ?_)))));show wpAny _ _ (match Builtin.Slice.sliceAdjust lo a 1 (n:Int) with|(lo,a)=>pure (lo,(1:Int),Builtin.Slice.slicePlaces lo a 1)) _ _ s;rw[Bu lo a n];show wpAny _ _ (pure (((sIx n 0 lo:Nat):Int),(1:Int),Builtin.Slice.slicePlaces ((sIx n 0 lo:Nat):Int) ((sIx n n a:Nat):Int) 1)) _ _ s;rw[Bv];exact U8 h
def Ky(xs:Array Value)(i k:Nat):((List.range k).filterMap λ(m:Nat)=>xs[((i:Int)+(m:Int)*1).toNat]?).toArray=((xs.toList.drop i).take k).toArray:=by
 have e:(λ(m:Nat)=>xs[((i:Int)+(m:Int)*1).toNat]?)=λm=>xs[i+m]?:=by
  funext m
  have:((i:Int)+(m:Int)*1).toNat=i+m:=by omega
  rw[this]
 rw[e];have:=pick_run xs i k;rw[List.filterMap_map]at this;have a:((λx=>xs[x]?)∘λx=>i+x)=λm=>xs[i+m]?:=rfl
 rw[a]at this;rw[this]
def getItem_tuple_cut{t sl:TD}{a:Array Value}{e f:Q4}{lo b:Option Int}{Q:XV}(c:IsTup s.heap t a)(hs:s.heap.IsSliceOf sl e f .none)(pl:IsPart e lo)(g:IsPart f b)(i:¬ (sIx a.size 0 lo=0/\sIx a.size a.size b=a.size))(h:Q (.ref s.heap.objs.size) {s with heap:=s.heap.push {cls:=.type "tuple",data:=.seq ((a.toList.drop (sIx a.size 0 lo)).take (sIx a.size a.size b-sIx a.size 0 lo)).toArray } })(o:a.size<=sizeLine):wpAny (model prog w) A (getItem (.ref t) (.ref sl)) Q E s:=by
 have d:sizeOk (.seq ((a.toList.drop (sIx a.size 0 lo)).take (sIx a.size a.size b-sIx a.size 0 lo)).toArray):=by
  show((a.toList.drop (sIx a.size 0 lo)).take (sIx a.size a.size b-sIx a.size 0 lo)).toArray.size<=sizeLine;rw[gM,oA,length_drop,Array.length_toList];omega
 have p:sIx a.size a.size b<=a.size:=Zb _ _ (aZ _) b;obtain⟨os,j,k,r⟩:=id hs;have l:s.TypeIs (.ref sl) "slice":=⟨os,j,k⟩;unfold getItem;try with_reducible refine wpAny_holding ?_
 first|refine U9 (U8 ?_)|skip
 refine U9 (wpAny_sequenceKey c.typeIs Zd ?_);refine U9 (wpAny_callSpecial?_slot (name:=Str.ofString "__getitem__") c.typeIs PyProof.Rows.slot_tuple_getitem
  (wpAny_call_entry PyProof.Rows.slot_tuple_getitem c.typeIs entry_tuple_getitem ?_ (args_tuple_getitem _ _)))
 show wpAny _ _ (Builtin.Tuple.tupleItemsOf (.ref t)>>=_) _ _ s;refine U9 (tupleItemsOf_ c ?_);refine U9 (wpAny_typeOf l ?_);rw[QZY Zd];refine U9 (sliceApplied_gen hs pl g ?_);have n:¬ ((((sIx a.size 0 lo:Nat):Int)==0&&(1:Int)==1&&(sIx a.size a.size b-sIx a.size 0 lo)==a.size)=true):=by
  intro q;rw[Bool.and_eq_true,Bool.and_eq_true]at q;have u:((sIx a.size 0 lo:Nat):Int)=0:=eq_of_beq q.1.1;have v:sIx a.size a.size b-sIx a.size 0 lo=a.size:=eq_of_beq q.2;exact i ⟨Zo,Zo⟩
 show wpAny _ _ (if (((sIx a.size 0 lo:Nat):Int)==0&&(1:Int)==1&&(sIx a.size a.size b-sIx a.size 0 lo)==a.size)=true then _ else _) _ _ s;rw[QZX n,Ky];first
  | exact U9 (m:=Builtin.Tuple.tupleExact _) (wpAny_newObj_type (U8 ⟨_,rfl,U8 h⟩) d)
  | exact U9 (m:=Builtin.Tuple.tupleExact _) (wpAny_newObj_type (U9 (U8 (U8 ⟨_,rfl,U8 h⟩))) d)
  | exact U9 (U9 (m:=Builtin.Tuple.tupleExact _) (wpAny_newObj_type (U8 (U8 ⟨_,rfl,U8 h⟩)) d))
  | exact U9 (U9 (m:=Builtin.Tuple.tupleExact _) (wpAny_newObj_type (U8 ⟨_,rfl,U8 h⟩) d))
end
end HT
namespace L2
open PySem PySem.Spec PyProof.Rows
abbrev TO:=St->Hp->(Option Int->Hp->Prop)->Prop
def PO(X:Cx)(e:Option Expr)(t:TO):Prop:=
 ∀(b:ZB)(s:QZZ)(a:St)(H:Hp)(Q:Option Int->Hp->Prop),Inv X b a H s->t a H Q →
  wpAny (model X.prog X.w) X.A (evalPart e X.env) (λu d=>∃o c,Inv X b a c d/\IsPart u o/\Q o c) X.xe s
def Ej:TO:=λ_ H Q=>Q none H
def Kz(t:TE):TO:=λb H Q=>t b H λx a=>∃i,x=.int i/\Q (some i) a
def sJ{a:List Int}:∀ {us:List Q4},Vals (a.map V.int) us->IntsAre us a:=by
 induction a with
 | nil=>intro us r;rw[map_nil]at r;cases r;exact .nil
 | cons n a b=>
  intro us r;rw[map_cons]at r;cases r with
  | cons c d=>
   obtain⟨t,e⟩:=c;subst e;exact .cons n t (b d)
section
variable {X:Cx}{e:Expr}{te:TE}{lo hi:Option Expr}{tl th:TO}{pos p2:Pos}
def Ss:PO X none Ej:=by
 intro a s b H Q I h;rw[evalPart_none];exact U8 ⟨none,H,I,.none,h⟩
def Su(h:PE X e te):PO X (some e) (Kz te):=by
 intro a s j H Q I b;rw[evalPart_some];refine cA (h a s j H _ I b) ?_;rintro u k ⟨x,c,d,f,g⟩
 obtain⟨i,rfl,q⟩:=g;obtain⟨t,rfl⟩:=f;exact⟨some i,c,d,.int i t,q⟩
def SlR(X:Cx)(r:V->Option Int->Option Int->Hp->VK->Prop):Prop:=
 ∀(a:ZB)(s:QZZ)(d:St)(H:Hp)(x:V)(v b c:Q4)(lo hi:Option Int)(sl:TD)(Q:VK),Inv X a d H s->RelV x v->s.heap.IsSliceOf sl b c .none->IsPart b lo->IsPart c hi->r x lo hi H Q →
  ∃T id,typeLookup (.type T) "__getitem__"=pure (some (.builtin id))/\s.TypeIs v T/\wpAny (model X.prog X.w) X.A (getItem v (.ref sl)) (EP X a d Q) X.xe s
def tSl(r:V->Option Int->Option Int->Hp->VK->Prop)(te:TE)(tl th:TO):TE:=λa H Q=>te a H λx b=>tl a b λl c=>th a c λu d=>r x l u d Q
def Lg{r:V->Option Int->Option Int->Hp->VK->Prop}(j:SlR X r)(k:PE X e te)(m:PO X lo tl)(n:PO X hi th):PE X (.Subscript e (.Slice lo hi none p2) pos) (tSl r te tl th):=by
 intro c s d H Q I h;refine Subscript_ (cA (k c s d H _ I h) ?_);rintro v o ⟨x,p,t,w,y⟩;refine wpAny_Slice (cA (m c o d p _ t y) λf z ⟨l,A,B,C,D⟩=>cA (n c z d A _ B D) ?_);rintro g a ⟨u,i,E,F,G⟩;rw[evalPart_none];refine U8 ?_;have J:Inv X c d i {a with heap:=a.heap.push {cls:=.type "slice",data:=.fields #[f,g,.none] } }:=E.kept (t':=a.toks) λb N q=>eX _ q
 obtain⟨T,id,K,L,M⟩:=j c {a with heap:=a.heap.push {cls:=.type "slice",data:=.fields #[f,g,.none] } } d i x v f g l u a.heap.objs.size Q J w (Heap.IsSliceOf.new ..) C F G;show wpAny (model X.prog X.w) X.A (subscriptTail e (.Slice lo hi none p2) v (.ref a.heap.objs.size)) (EP X c d Q) X.xe {a with heap:=a.heap.push {cls:=.type "slice",data:=.fields #[f,g,.none] } };exact tail_any (ops:=[.ref a.heap.objs.size,v]) L K M (by with_unfolding_all rfl)
def Ht(xs:List V)(lo hi:Option Int):List V:=(xs.drop (HT.sIx xs.length 0 lo)).take (HT.sIx xs.length xs.length hi-HT.sIx xs.length 0 lo)
def qV(xs:List V)(lo hi:Option Int):(Ht xs lo hi).length<=xs.length:=by
 unfold Ht;rw[oA,length_drop];omega
def aC0(K:W.Frag):V->Option Int->Option Int->Hp->VK->Prop:=λx lo hi H Q=>∃a b,x=.ref a/\SqT K H a b ∧
 ¬ (HT.sIx b.length 0 lo=0/\HT.sIx b.length b.length hi=b.length)/\∀p,H p=none->Q (.ref p) (aI H p (.tup (Ht b lo hi)))
def Zc:SlR X (aC0 X.K):=by
 intro t s z H x v u w lo hi sl Q I j k l m h;obtain⟨a,c,rfl,n,p,q⟩:=h;cases j;obtain⟨i,r,f,g⟩:=I.tuple n;have d:i.toArray.size=c.length:=by rw[gM];exact r.length.symm
 refine⟨"tuple",_,PyProof.Rows.slot_tuple_getitem.lookup,f.typeIs,?_⟩;refine HT.getItem_tuple_cut f k l m (by rw[d];exact p) ?_ (by rw[d];exact g);rw[d];refine⟨.ref s.heap.objs.size,_,I.laid (t':=s.toks) (o:=.tup (Ht c lo hi)) (λb y q=>eX _ q) (aZ _) ?_,rfl,q _ (I.hok.fresh (aZ _))⟩;exact⟨gL (qV c lo hi) g,_,(r.drop (HT.sIx c.length 0 lo)).take (HT.sIx c.length c.length hi-HT.sIx c.length 0 lo),IsTup.new _ _⟩
def aBD(K:W.Frag):R2:=λx y H Q=>∃a b d c,x=.ref a/\y=.ref b/\SqT K H a d/\SqT K H b c/\d≠[]/\d.length+c.length<=sizeLine ∧
 (c=[]->Q (.ref a) H)/\(c≠[]->∀p,H p=none->Q (.ref p) (aI H p (.tup (d++c))))
def Vals.nil_iff{xs:List V}{us:List Q4}(r:Vals xs us):us=[]↔xs=[]:=by
 cases r with
 | nil=>simp
 | cons _ _=>simp
def Sv:OpR X (binaryOp .Add) (aBD X.K):=by
 intro A s E H x y v u Q I g i h;obtain⟨a,b,j,k,rfl,rfl,l,m,n,f,p,r⟩:=h;cases g;cases i;obtain⟨B,d,t,_⟩:=I.tuple l;obtain⟨C,c,p2,_⟩:=I.tuple m;refine HT.cat_tup t p2 (λz=>n (d.nil_iff.mp z)) (λz=>⟨.ref a,H,I,rfl,p (c.nil_iff.mp z)⟩) (λz=>?_) (by rw[<- d.length,<- c.length];exact f);refine⟨.ref s.heap.objs.size,_,I.laid (t':=s.toks) (o:=.tup (j++k)) (λb D q=>eX _ q) (aZ _) ?_,rfl,r (λw=>z (c.nil_iff.mpr w)) _ (I.hok.fresh (aZ _))⟩;exact⟨by rw[lZ];exact f,_,d.append c,IsTup.new _ _⟩
end
def Ze(n:Nat)(i:Int):Option Nat:=if 0<=i then (if i<n then some i.toNat else none) else if -(n:Int)<=i then some (i+n).toNat else none
def nC{a:Type}(xs:List a)(i:Int):Option a:=(Ze xs.length i).bind λj=>xs[j]?
def Ek{n:Nat}{i:Int}{j:Nat}(h:Ze n i=some j):seqIndex? i n=some j/\j<n/\-(n:Int)<=i/\i<n:=by
 unfold Ze at h;by_cases b:0<=i
 ·rw[QZY b]at h;by_cases a:i<n
  ·rw[QZY a]at h;have e:i.toNat=j:=Option.some.inj h;exact⟨by rw[seqIndex_of b a,e],Zo,Zo,a⟩
  ·rw[QZX a]at h;cases h
 ·rw[QZX b]at h;by_cases a:-(n:Int)<=i
  ·rw[QZY a]at h;have e:(i+n).toNat=j:=Option.some.inj h;exact⟨by rw[seqIndex_neg Zo a,e],Zo,a,Zo⟩
  ·rw[QZX a]at h;cases h
def xA{a:Type}{xs:List a}{i:Int}{v:a}(h:nC xs i=some v):∃j,seqIndex? i xs.length=some j/\xs[j]?=some v/\j<xs.length/\-(xs.length:Int)<=i/\i<xs.length:=by
 unfold nC at h;cases e:Ze xs.length i with
 | none=>rw[e]at h;cases h
 | some j=>
  rw[e]at h;obtain⟨b,c,d,f⟩:=Ek e;exact⟨j,b,h,c,d,f⟩
def eY{a:Type}{xs:List a}{j:Nat}{v:a}(h:xs[j]?=some v):nC xs (j:Int)=some v:=by
 have b:j<xs.length:=(Zgs.mp h).1;have e:Ze xs.length (j:Int)=some j:=by
  unfold Ze;rw[QZY Zo,QZY Zo];simp
 unfold nC;rw[e];exact h
def xB(b:Expr):Prop:=∀o i,subscripted b false o i=operate [o,i] (getItem o i)
def IxR(X:Cx)(r:R2):Prop:=
 ∀(c slice:Expr)(a:ZB)(s:QZZ)(b:St)(H:Hp)(x y:V)(v u:Q4)(Q:VK),Inv X a b H s->RelV x v->RelV y u->r x y H Q →
  subscripted slice false v u=operate [v,u] (getItem v u)->wpAny (model X.prog X.w) X.A (subscriptTail c slice v u) (EP X a b Q) X.xe s
def MtR(X:Cx)(id:String)(r:V->List V->Hp->VK->Prop):Prop:=
 ∀(a:ZB)(s:QZZ)(d:St)(H:Hp)(x:V)(b:List V)(v:Q4)(c:List Q4)(Q:VK),Inv X a d H s->RelV x v->Vals b c->r x b H Q →
  wpAny (model X.prog X.w) X.A (call (.builtin id) (v::c)) (EP X a d Q) X.xe s
section
variable {X:Cx}{a b:Expr}{ta tb:TE}{pos:Pos}
def aBE{r:R2}(d:IxR X r)(e:PE X a ta)(f:PE X b tb)(hs:xB b):PE X (.Subscript a b pos) (nF r ta tb):=by
 intro c s m H Q I h;exact Subscript_ (Yp e f I h λv u g x y i j k l q=>d a b c g m i x y v u Q j k l q (hs _ _))
def aC1(K:W.Frag):R2:=λx y H Q=>∃p c i v,x=.ref p/\y=.int i/\SqL K H p c/\nC c i=some v/\Q v H
def aC2(K:W.Frag):R2:=λx y H Q=>∃p c i v,x=.ref p/\y=.int i/\SqT K H p c/\nC c i=some v/\Q v H
def aC3:R2:=λx y H Q=>∃z i c,x=.str z/\y=.int i/\z.length<=sizeLine/\nC z.cps.toList i=some c/\Q (.str ⟨#[c]⟩) H
def Sw:IxR X (aC1 X.K):=by
 intro M slice f s n H x y v u Q I A B h k;obtain⟨p,N,i,z,rfl,rfl,C,D,q⟩:=h;cases A;obtain⟨t,rfl⟩:=B;obtain⟨o,r,d,O⟩:=I.list C;obtain⟨j,c,E,P,F,G⟩:=xA D;obtain⟨w,l,J⟩:=r.get E;have K:=r.length;have R:=pM;have g:EP X f n Q w s:=⟨z,H,I,J,q⟩;by_cases m:0<=i
 ·have e:i.toNat=j:=by
   rw[seqIndex_of m G]at c;exact Option.some.inj c
  exact item_listR d.isList m Zo (by rw[e];simpa using l) g k
 ·have e:(i+(o.toArray.size:Int)).toNat=j:=by
   rw[seqIndex_neg Zo F]at c;rw[gM,<- K];exact Option.some.inj c
  exact subscriptTail_builtinR (x:=w) d.isList.typeIs slot_list_getitem.lookup
   (wpAny_getItem_list_neg (Q:=λr L=>r=w/\EP X f n Q r L) d.isList Zo (by rw[gM]<;>omega) Zo (by rw[e];simpa using l) ⟨rfl,g⟩) k
def Zf:IxR X (aC2 X.K):=by
 intro F slice c s e H x y v u Q I g k h l;obtain⟨p,J,i,z,rfl,rfl,m,n,q⟩:=h;cases g;obtain⟨t,rfl⟩:=k;obtain⟨G,r,d,K⟩:=I.tuple m;obtain⟨j,o,A,L,M,N⟩:=xA n;obtain⟨w,B,C⟩:=r.get A;have D:=r.length;have O:=pM;have f:EP X c e Q w s:=⟨z,H,I,C,q⟩;exact subscriptTail_builtinR (x:=w) d.typeIs slot_tuple_getitem.lookup
  (getItem_tuple (j:=j) (Q:=λr E=>r=w/\EP X c e Q r E) d Zo Zo (by rw[gM,<- D];exact o) (by simpa using B) ⟨rfl,f⟩) l
def Zh:IxR X aC3:=by
 intro w slice A s F H x y v u Q I e f h g;obtain⟨z,i,c,rfl,rfl,B,k,q⟩:=h;obtain⟨t,rfl⟩:=e;obtain⟨C,rfl⟩:=f;obtain⟨j,d,l,D,m,n⟩:=xA k;have o:z.cps.toList.length=z.length:=by simp[Str.length]
 rw[o]at d m n;have E:=pM;exact tail_any (typeIs_str s z t) slot_str_getitem.lookup (getItem_str (c:=c) (by
  have p:decide (i < -(2 ^ 63:Int))=false:=UF Zo;have r:decide (i ≥ 2 ^ 63)=false:=UF Zo;rw[p,r,Bool.or_false]) (by rw[d];simpa using l) ⟨.str ⟨#[c]⟩,H,I.tok _,⟨_,rfl⟩,q⟩) g
def Bw(its:List Q4)(n j:Nat)(u:Q4):Obj.mapSeq (·.setIfInBounds j u) {cls:=.type "list",data:=.seq its.toArray n }={cls:=.type "list",data:=.seq (its.set j u).toArray n }:=by
 simp[Obj.mapSeq]
def Inv.lst{c:ZB}{d:St}{H:Hp}{s:QZZ}{p:TD}{xs:List V}(I:Inv X c d H s)(h:H p=some (.lst xs)) :
  ∃(its:List Q4)(n:Nat),Vals xs its/\s.heap.get? p=some {cls:=.type "list",data:=.seq its.toArray n }/\xs.length<=sizeLine:=by
 obtain⟨z,its,n,r,e⟩:=I.hok p _ h;exact⟨its,n,r,e,z⟩
def Inv.lstUpd{d:ZB}{i:St}{H:Hp}{s:QZZ}{p:TD}{xs ys:List V}{its its':List Q4}{n c:Nat}{f:Obj->Obj}(I:Inv X d i H s)(h:H p=some (.lst xs))(j:s.heap.get? p=some {cls:=.type "list",data:=.seq its.toArray n })(g:f {cls:=.type "list",data:=.seq its.toArray n }={cls:=.type "list",data:=.seq its'.toArray c })(r:Vals ys its')(k:ys.length<=sizeLine)(t:Nat) :
  Inv X d i (aI H p (.lst ys)) {s with heap:=s.heap.update p f,toks:=t }:=by
 have e:(s.heap.update p f).get? p=some {cls:=.type "list",data:=.seq its'.toArray c }:=by
  rw[Heap.get?_update_self f j (by rw[g]<;>rfl),g]
 refine I.write (x:=p) (e:=p) (by rw[h];trivial) (.inl rfl) (λb u l q=>(Heap.get?_update_other _ _ (Ne.symm l)).trans q) ⟨_,e⟩ ?_;exact⟨k,its',c,r,e⟩
def Wn:V->V->V->Hp->(Hp->Prop)->Prop:=λo i v H Q=>∃p c k j,o=.ref p/\i=.int k/\H p=some (.lst c)/\Ze c.length k=some j/\Q (aI H p (.lst (c.set j v)))
def Lk:Sc X Wn:=by
 intro z s G H o i v J K u Q I A B C h;obtain⟨p,D,k,j,rfl,rfl,l,E,q⟩:=h;cases A;obtain⟨t,rfl⟩:=B;obtain⟨g,n,r,d,F⟩:=I.lst l;obtain⟨c,L,m,w⟩:=Ek E;have e:=r.length;have M:=pM;have x:Inv X z G (aI H p (.lst (D.set j v))) {s with heap:=s.heap.update p (Obj.mapSeq (·.setIfInBounds j u)) }:=
  I.lstUpd l d (Bw g n j u) (r.set C j) (by rw[length_set];exact F) s.toks
 by_cases y:0<=k
 ·have f:k.toNat=j:=by
   rw[seqIndex_of y w]at c;exact Option.some.inj c
  exact W.ki_setAt d y Zo (by rw[gM,<- e];exact w) (by rw[f];exact⟨_,x,q⟩)
 ·have f:(k+(g.toArray.size:Int)).toNat=j:=by
   rw[seqIndex_neg Zo m]at c;rw[gM,<- e];exact Option.some.inj c
  exact W.ki_setBack d Zo (by rw[gM,<- e];exact m) Zo (by rw[f];exact⟨_,x,q⟩)
def xC(lo c:Option Int)(n:Nat):(sliceBounds lo c none n).1=((HT.sIx n 0 lo:Nat):Int)/\(sliceBounds lo c none n).2.1=((HT.sIx n n c:Nat):Int)/\(sliceBounds lo c none n).2.2=1:=by
 refine⟨?_,?_,rfl⟩
 ·cases lo with
  | none=>simp[sliceBounds,HT.sIx]
  | some i=>
   simp only [sliceBounds,HT.sIx,Option.getD_none,show(1:Int)>0 by decide,if_true];by_cases h:i<0
   ·simp only [h,if_true]<;>omega
   ·simp only [h,if_false]<;>omega
 ·cases c with
  | none=>simp[sliceBounds,HT.sIx]
  | some i=>
   simp only [sliceBounds,HT.sIx,Option.getD_none,show(1:Int)>0 by decide,if_true];by_cases h:i<0
   ·simp only [h,if_true]<;>omega
   ·simp only [h,if_false]<;>omega
def uY(its:List Q4)(lo c:Option Int):slicePick its.toArray lo c none=((its.drop (HT.sIx its.length 0 lo)).take (HT.sIx its.length its.length c-HT.sIx its.length 0 lo)).toArray:=by
 obtain⟨d,e,f⟩:=xC lo c its.toArray.size;unfold slicePick;rw[d,e,f];simp only [sliceRange_one,pick_run,gM]<;>rfl
def aC4(K:W.Frag):V->Option Int->Option Int->Hp->VK->Prop:=λx lo d H Q=>∃a c,x=.ref a/\SqL K H a c/\∀p,H p=none->Q (.ref p) (aI H p (.lst (Ht c lo d)))
def Sx:SlR X (aC4 X.K):=by
 intro n s y H x v t u lo d sl Q I g i j k h;obtain⟨a,c,rfl,l,q⟩:=h;cases g;obtain⟨p,r,e,m⟩:=I.list l;have f:=r.length;refine⟨"list",_,slot_list_getitem.lookup,e.isList.typeIs,?_⟩;refine wpAny_getItem_list_slice e.isList i j k .none Zs ?_ (by rw[gM]<;>omega);rw[uY,<- f];refine⟨.ref s.heap.objs.size,_,I.laid (t':=s.toks) (o:=.lst (Ht c lo d)) (λb w q=>eX _ q) (aZ _) ?_,rfl,q _ (I.hok.fresh (aZ _))⟩;exact⟨gL (qV c lo d) m,_,0,(r.drop (HT.sIx c.length 0 lo)).take (HT.sIx c.length c.length d-HT.sIx c.length 0 lo),TW _ rfl⟩
def dY:V->Bool
 | .non=>true
 | .bl _=>true
 | .int _=>true
 | .str _=>true
 | _=>false
def yQ:V->V->Bool
 | .non,.non=>true
 | .bl a,.bl b=>a==b
 | .bl a,.int b=>(if a then 1 else 0)==b
 | .int a,.bl b=>a==(if b then 1 else 0)
 | .int a,.int b=>a==b
 | .str a,.str b=>a==b
 | _,_=>false
def sK{A:Around}{s:QZZ}{y x:V}{u v:Q4}(e:RelV y u)(c:RelV x v)(g:dY y=true)(f:dY x=true):SeqAt.EqAt A s u v (yQ y x):=by
 cases y with
 | non=>
  cases e
  cases x with
  | non=>cases c;exact SeqAt.EqAt.same _
  | bl b=>cases c;exact SeqAt.EqAt.none_bool b
  | int b=>obtain⟨t,rfl⟩:=c;exact SeqAt.EqAt.none_int b t
  | str b=>obtain⟨t,rfl⟩:=c;exact SeqAt.EqAt.none_str b t
  | _=>exact QZW (show false=true from f) U7
 | bl a=>
  cases e
  cases x with
  | non=>cases c;exact SeqAt.EqAt.bool_none a
  | bl b=>cases c;exact SeqAt.EqAt.bool_bool a b
  | int b=>obtain⟨t,rfl⟩:=c;exact SeqAt.EqAt.bool_int a b t
  | str b=>obtain⟨t,rfl⟩:=c;exact SeqAt.EqAt.bool_str a b t
  | _=>exact QZW (show false=true from f) U7
 | int a=>
  obtain⟨d,rfl⟩:=e
  cases x with
  | non=>cases c;exact SeqAt.EqAt.int_none a d
  | bl b=>cases c;exact SeqAt.EqAt.int_bool a d b
  | int b=>obtain⟨t,rfl⟩:=c;exact SeqAt.EqAt.int_int a d b t
  | str b=>obtain⟨t,rfl⟩:=c;exact SeqAt.EqAt.int_str a d b t
  | _=>exact QZW (show false=true from f) U7
 | str a=>
  obtain⟨d,rfl⟩:=e
  cases x with
  | non=>cases c;exact SeqAt.EqAt.str_none a d
  | bl b=>cases c;exact SeqAt.EqAt.str_bool a d b
  | int b=>obtain⟨t,rfl⟩:=c;exact SeqAt.EqAt.str_int a d b t
  | str b=>obtain⟨t,rfl⟩:=c;exact SeqAt.EqAt.str_str a d b t
  | _=>exact QZW (show false=true from f) U7
 | _=>exact QZW (show false=true from g) U7
def yZ(x:V)(u:Q4):Bool:=match u with
 | .none=>yQ .non x
 | .bool b=>yQ (.bl b) x
 | .int i _=>yQ (.int i) x
 | .str z _=>yQ (.str z) x
 | _=>false
def Bx{x y:V}{u:Q4}(r:RelV y u)(f:dY y=true):yZ x u=yQ y x:=by
 cases y with
 | non=>cases r;rfl
 | bl b=>cases r;rfl
 | int i=>obtain⟨t,rfl⟩:=r;rfl
 | str z=>obtain⟨t,rfl⟩:=r;rfl
 | _=>exact QZW (show false=true from f) U7
theorem oF{x:V}:∀ {xs:List V}{us:List Q4},Vals xs us->xs.all dY=true->us.any (yZ x)=xs.any λy=>yQ y x
 | _,_,.nil,_=>rfl
 | y::xs,u::us,.cons r t,f=>by
  rw[all_cons,Bool.and_eq_true]at f;rw[any_cons,any_cons,Bx r f.1,oF t f.2]
theorem jJ{A:Around}{s:QZZ}{x:V}{v:Q4}(d:RelV x v)(e:dY x=true):∀ {xs:List V}{us:List Q4},Vals xs us->xs.all dY=true->∀u∈us,SeqAt.EqAt A s u v (yZ x u)
 | _,_,.nil,_=>λu c=>by cases c
 | y::xs,u::us,.cons r t,f=>λg c=>by
  rw[all_cons,Bool.and_eq_true]at f;rcases mem_cons.mp c with rfl|c
  ·rw[Bx r f.1];exact sK r d f.1 e
  ·exact jJ d e t f.2 g c
def qW(x:V)(xs:List V):Bool:=xs.any λy=>yQ y x
def Zi(K:W.Frag)(d:Bool):R2:=λx y H Q=>∃p c,y=.ref p/\(SqL K H p c∨SqT K H p c)/\dY x=true/\c.all dY=true/\Q (.bl (if d then !qW x c else qW x c)) H
def Hu:OpR X (compareOp .In) (Zi X.K false):=by
 intro l s n H x y v u Q I g j h;obtain⟨p,m,rfl,d,i,fs,q⟩:=h;cases j;rcases d with d|d
 ·obtain⟨c,r,e,k⟩:=I.list d;refine SeqAt.in_listAt (yZ x) e.isList (λw f=>jJ g i r fs w (by simpa using f)) ⟨.bl _,H,I,rfl,?_⟩;rw[show c.toArray.any (yZ x)=c.any (yZ x) by simp,oF r fs];exact q
 ·obtain⟨c,r,e,k⟩:=I.tuple d;refine SeqAt.in_tupleAt (yZ x) e (λw f=>jJ g i r fs w (by simpa using f)) ⟨.bl _,H,I,rfl,?_⟩;rw[show c.toArray.any (yZ x)=c.any (yZ x) by simp,oF r fs];exact q
def xD:OpR X (compareOp .NotIn) (Zi X.K true):=by
 intro l s n H x y v u Q I g j h;obtain⟨p,m,rfl,d,i,fs,q⟩:=h;cases j;rcases d with d|d
 ·obtain⟨c,r,e,k⟩:=I.list d;refine SeqAt.notIn_listAt (yZ x) e.isList (λw f=>jJ g i r fs w (by simpa using f)) ⟨.bl _,H,I,rfl,?_⟩;rw[show c.toArray.any (yZ x)=c.any (yZ x) by simp,oF r fs];exact q
 ·obtain⟨c,r,e,k⟩:=I.tuple d;refine SeqAt.notIn_tupleAt (yZ x) e (λw f=>jJ g i r fs w (by simpa using f)) ⟨.bl _,H,I,rfl,?_⟩;rw[show c.toArray.any (yZ x)=c.any (yZ x) by simp,oF r fs];exact q
def xE:CallR X (.builtin "len") (λxs H Q=>∃p ys,xs=[.ref p]/\(SqL X.K H p ys∨SqT X.K H p ys)/\Q (.int ys.length) H):=by
 intro k s n H xs l Q I r h;obtain⟨p,ys,rfl,c,q⟩:=h;obtain⟨u,rfl,i⟩:=iJ r;cases i;have m:=pM;rcases c with c|c
 ·obtain⟨g,e,f,j⟩:=I.list c;have d:=e.length;exact Calls.call_len_list f.isList (by simp only [gM]<;>omega) ⟨.int ys.length,H,I.tok _,⟨s.toks+1,by rw[gM,d]⟩,q⟩
 ·obtain⟨g,e,f,j⟩:=I.tuple c;have d:=e.length;exact len_tuple f (by simp only [gM]<;>omega) ⟨.int ys.length,H,I.tok _,⟨s.toks+1,by rw[gM,d]⟩,q⟩
def xF:CallR X (.builtin "len") (λxs H Q=>∃z,xs=[.str z]/\z.length<=sizeLine/\Q (.int z.length) H):=by
 intro c s g H xs d Q I r h;obtain⟨z,rfl,e,q⟩:=h;obtain⟨u,rfl,t,rfl⟩:=iJ r;have f:=pM;exact len_str Zo ⟨.int z.length,H,I.tok _,⟨_,rfl⟩,q⟩
def xG:CallR X (.type "list") (λxs H Q=>∃p ys,xs=[.ref p]/\(SqL X.K H p ys∨SqT X.K H p ys)/\∀l,H l=none->Q (.ref l) (aI H l (.lst ys))):=by
 intro z s C H xs D Q I r h;obtain⟨p,ys,rfl,i,q⟩:=h;obtain⟨u,rfl,B⟩:=iJ r;cases B;have x:∀(d:List Q4),Vals ys d->ys.length<=sizeLine->∀(c:Heap)(f:Nat),(∀b y,s.heap.get? b=some y->c.get? b=some y) →
   c.get? s.heap.objs.size=some {cls:=.type "list",dict:=none,data:=.seq d.toArray f,slots:=#[] }->EP X z C Q (.ref s.heap.objs.size) {s with heap:=c }:=λd g j c f k e=>
  ⟨.ref s.heap.objs.size,_,I.laid (t':=s.toks) k (aZ _) (show ObjOk X.prog X.w _ c _ (.lst ys) from⟨j,d,f,g,e⟩),rfl,q _ (I.hok.fresh (aZ _))⟩
 rcases i with i|i
 ·obtain⟨d,g,m,j⟩:=I.list i;have A:=g.length;obtain⟨o,t,v,n,w⟩:=m.isList;exact call_list_seq p (.inl rfl) t v w (λc f k e=>x d g j c f k e) (by simp only [gM]<;>omega)
 ·obtain⟨d,g,m,j⟩:=I.tuple i;have A:=g.length;obtain⟨o,t,v,n,w⟩:=m;exact call_list_seq p (.inr rfl) t v w (λc f k e=>x d g j c f k e) (by simp only [gM]<;>omega)
def uZ:CallR X (.type "tuple") (λxs H Q=>∃p ys,xs=[.ref p]/\((SqL X.K H p ys/\∀l,H l=none->Q (.ref l) (aI H l (.tup ys)))∨(SqT X.K H p ys/\Q (.ref p) H))):=by
 intro j s n H xs y Q I r h;obtain⟨p,ys,rfl,h⟩:=h;obtain⟨u,rfl,t⟩:=iJ r;cases t;rcases h with⟨f,q⟩|⟨f,q⟩
 ·obtain⟨d,g,i,k⟩:=I.list f;have x:=g.length;refine call_tuple_list i.isList (λc v=>?_) (by simp only [gM]<;>omega);have m:Inv X j n H {s with heap:=c }:=I.kept (t':=s.toks) v;have w:Inv X j n (aI H c.objs.size (.tup ys)) {s with heap:=c.push {cls:=.type "tuple",data:=.seq d.toArray } }:=
   m.laid (t':=s.toks) (λb o e=>eX _ e) (aZ _) (show ObjOk X.prog X.w _ _ _ (.tup ys) from⟨k,d,g,IsTup.new _ _⟩)
  exact⟨.ref c.objs.size,_,w,rfl,q _ (m.hok.fresh (aZ _))⟩
 ·obtain⟨d,g,i,k⟩:=I.tuple f;exact call_tuple_same i ⟨.ref p,H,I,rfl,q⟩
def tyV(K:W.Frag)(T:String)(x:V)(H:Hp):Prop:=match x with
 | .str _=>T="str"
 | .int _=>T="int"
 | .ref p=>(T="list"/\∃d,SqL K H p d)∨(T="tuple"/\∃o,K.lookup p=some o/\o.cls=.type "tuple"/\o.dict=none)∨
   (T="dict"/\((∃c,H p=some (.dK c))∨∃c,H p=some (.dT c)))∨(T="set"/\∃S n,H p=some (.set S n))
 | _=>False
def Zj{l:ZB}{w:St}{H:Hp}{s:QZZ}{T:String}{x:V}{v:Q4}(I:Inv X l w H s)(r:RelV x v)(ty:tyV X.K T x H) :
  s.TypeIs v T/\∀a,v=.ref a->∃j,s.heap.get? a=some j/\j.dict=none:=by
 cases x with
 | str z=>
  obtain⟨t,rfl⟩:=r;cases(show T="str" from ty);exact⟨typeIs_str s z t,λ_ e=>nomatch e⟩
 | int i=>
  obtain⟨t,rfl⟩:=r;cases(show T="int" from ty);exact⟨typeIs_int s i t,λ_ e=>nomatch e⟩
 | ref p=>
  cases r;rcases ty with⟨rfl,A,q⟩|⟨rfl,o,d,u,g⟩|⟨rfl,d⟩|⟨rfl,S,n,d⟩
  ·obtain⟨y,_,k,_⟩:=I.list q;refine⟨k.isList.typeIs,λa e=>?_⟩;cases e;obtain⟨o,n,e,c,g,_⟩:=k;exact⟨o,e,g⟩
  ·refine⟨⟨o,I.kIn p o d,u⟩,λa e=>?_⟩;cases e;exact⟨o,I.kIn _ o d,g⟩
  ·have z:∃o,s.heap.get? p=some o/\o.ExactDict:=by
    rcases d with⟨m,d⟩|⟨m,d⟩
    ·obtain⟨_,_,_,_,o,_,_,e,f,_⟩:=I.hok p _ d;exact⟨o,e,f⟩
    ·obtain⟨_,_,_,_,o,_,_,e,f,_⟩:=I.hok p _ d;exact⟨o,e,f⟩
   obtain⟨o,e,f⟩:=z;refine⟨⟨o,e,f.1⟩,λa h=>?_⟩;cases h;exact⟨o,e,f.2.1⟩
  ·obtain⟨o,_,_,_,e,f,_⟩:=I.hok p _ d;refine⟨⟨o,e,f.1⟩,λa h=>?_⟩;cases h;exact⟨o,e,f.2.1⟩
 | _=>exact False.elim ty
def tBM(K:W.Frag)(T:String)(r:V->List V->Hp->VK->Prop)(e:TE)(t:TA):TE:=λd H Q=>e d H λx c=>tyV K T x c/\t d c λf g=>r x f g Q
variable {o e:Expr}{es:List Expr}{to:TE}{t:TA}{name:Str}{apos cpos:Pos}{T id:String}{r:V->List V->Hp->VK->Prop}
def aBF(j:PlainAttrs T)(slot:Slot T name id)(k:typeOf (.builtin id)=pure (.type "method_descriptor"))(l:MtR X id r)(m:PE X o to)(n:PA X (e::es) t)(p:attributeBase o name X.env (eval o X.env)=eval o X.env:=by rfl)(q:((backTo cpos (starEach (e::es) X.env)).all (λx=>!x.1)&&(backToKw cpos (keywordEach [] X.env)).all (λx=>x.1.isSome)
   && decide ((e::es).length+([]:List Keyword).length+(if ([]:List Keyword).isEmpty then 0 else 1)<30))=true:=by rfl)(u:(apos.endLine == cpos.line)=true:=by rfl)(w:starEach (e::es) X.env=(false,eval e X.env)::starEach es X.env:=by rfl)(y:(backTo cpos (starEach es X.env)).any (·.1)=false:=by rfl) :
  PE X (.Call (.Attribute o name apos) (e::es) [] cpos) (tBM X.K T r to t):=by
 intro c s d H Q I h;refine wpAny_Call_method_late p q u rfl (cA (m c s d H _ I h) ?_);rintro v z ⟨x,A,f,g,ty,B⟩;obtain⟨C,D⟩:=Zj f g ty;refine⟨T,id,j,slot,k,C,D,?_⟩;have i:=n cpos c z d A _ f B;rw[w]at i ⊢;refine Calls.callWith_builtin (by show(false||(backTo cpos (starEach es X.env)).any (·.1))=false;rw[y]<;>rfl) (Calls.evalArgs_plain ?_);exact cA i λE F ⟨vs,G,J,K,L⟩=>l c F d G x vs v E Q J g K L
/- O.append(e),list.index P a R tuple .. N MtR M of 06m -/
end
def MtM(X:Cx)(id:String)(r:V->List V->Hp->VK->Prop):Prop:=
 ∀(a:ZB)(s:QZZ)(d:St)(H:Hp)(x:V)(b:List V)(v:Q4)(c:List Q4)(Q:VK),Inv X a d H s->RelV x v->Vals b c->r x b H Q →
  wpAny (model X.prog X.w) X.A (call (.builtin id) (v::c)) (EP X a d Q) X.xe s
def Vals.one:∀ {x:V}{us:List Q4},Vals [x] us->∃u,us=[u]/\RelV x u
 | _,_,.cons r .nil=>⟨_,rfl,r⟩
def Vals.two{x y:V}{us:List Q4}(h:Vals [x,y] us):∃u v,us=[u,v] ∧ RelV x u ∧ RelV y v:=by
 cases h with|cons r t=>cases t with|cons q t=>cases t;exact⟨_,_,rfl,r,q⟩
def Vals.eraseIdx:∀ {xs:List V}{us:List Q4} (i:Nat),Vals xs us->Vals (xs.eraseIdx i) (us.eraseIdx i)
 | _,_,_,.nil=>.nil
 | _,_,0,.cons _ t=>t
 | _,_,i+1,.cons r t=>.cons r (Vals.eraseIdx i t)
theorem pP{a:Type}:∀(l:List a)(i:Nat),(l.eraseIdx i).length<=l.length
 | [],_=>aZ _
 | _::_,0=>le_succ _
 | _::r,i+1=>Nat.succ_le_succ (pP r i)
section
variable {X:Cx}{pins:ZB}{σ:St}{H:Hp}{s:QZZ}{l b:TD}{xs ys zs:List V}
def Inv.lset{its its':List Q4}{n:Nat}{f:Array Value->Array Value}{t':Nat}(I:Inv X pins σ H s)(a:H l=some (.lst xs))(e:s.heap.get? l=some {cls:=.type "list",data:=.seq its.toArray n })(c:f its.toArray=its'.toArray)(d:Vals ys its')(g:ys.length<=sizeLine) :
  Inv X pins σ (aI H l (.lst ys)) {s with heap:=s.heap.update l (Obj.mapSeq f),toks:=t' }:=by
 have q:=PySem.IsL.update e f;rw[c]at q;refine I.write (x:=l) (e:=l) (by rw[a];exact trivial) (.inl rfl) (λj u h i=>(Heap.get?_update_other s.heap (Obj.mapSeq f) (Ne.symm h)).trans i) ⟨_,q⟩ ?_;exact⟨g,its',_,d,q⟩
def Inv.lnew{its:List Q4}{t':Nat}(I:Inv X pins σ H s)(a:Vals ys its)(hz:ys.length<=sizeLine) :
  Inv X pins σ (aI H s.heap.objs.size (.lst ys)) {s with heap:=s.heap.push {cls:=.type "list",data:=.seq its.toArray },toks:=t' }:=
 I.laid (λ_ _ q=>eX _ q) (aZ _) ⟨hz,its,0,a,TW _ rfl⟩
def Inv.fresh(I:Inv X pins σ H s):H s.heap.objs.size=none:=I.hok.fresh (aZ _)
def Inv.lstM(I:Inv X pins σ H s)(a:H l=some (.lst xs)):xs.length<=sizeLine/\∃(its:List Q4)(n:Nat),Vals xs its/\xs.length=its.length/\s.heap.get? l=some {cls:=.type "list",data:=.seq its.toArray n }:=by
 obtain⟨z,its,n,r,e⟩:=I.hok l _ a;exact⟨z,its,n,r,r.length,e⟩
def Ll{n:Nat}(h:n<=sizeLine):Builtin.List.listTooLong n=false:=by
 unfold Builtin.List.listTooLong;exact UF Zo
end
section
variable {X:Cx}
def El:V->List V->Hp->VK->Prop:=λx vs H Q=>∃l a y,x=.ref l/\vs=[y]/\H l=some (.lst a)/\a.length<sizeLine/\Q .non (aI H l (.lst (a++[y])))
def Hv:MtM X "list.append" El:=by
 intro g s o H x vs v i Q I c d h;obtain⟨l,j,y,rfl,rfl,b,k,q⟩:=h;cases c;obtain⟨u,rfl,f⟩:=d.one;obtain⟨z,a,n,r,m,e⟩:=I.lstM b;refine call_meets F.slot_list_append ⟨_,e,rfl⟩ F.entry_list_append (F.args_list_append_2 _ _) (PySem.list_append l a.toArray n u (by rw[gM];omega)) ⟨e,?_⟩;refine⟨.non,_,I.lset (its':=a++[u]) b e Zs (r.append (.cons f .nil)) ?_,rfl,q⟩;rw[lZ,length_singleton];omega
def Sy:V->List V->Hp->VK->Prop:=λx vs H Q=>∃l b a c,x=.ref l/\vs=[.ref b]/\H l=some (.lst a)/\H b=some (.lst c)/\a.length+c.length<=sizeLine/\Q .non (aI H l (.lst (a++c)))
def aBa:MtM X "list.extend" Sy:=by
 intro w s J H x vs v y Q I g i h;obtain⟨l,b,A,B,rfl,rfl,d,j,C,q⟩:=h;cases g;obtain⟨u,rfl,k⟩:=i.one;cases k;obtain⟨z,a,n,r,D,e⟩:=I.lstM d;obtain⟨E,c,m,o,G,p⟩:=I.lstM j;have f:a.toArray.size+c.toArray.size<=sizeLine:=by rw[gM,gM];omega
 have t:¬ (!a.toArray.isEmpty&&Builtin.List.listTooLong (a.toArray.size+c.toArray.size))=true:=by
  rw[Ll f,Bool.and_false];exact U7
 refine call_meets F.slot_list_extend ⟨_,e,rfl⟩ F.entry_list_extend (F.args_list_extend_2 _ _)
  (AutoSeq1.list_extend_list_list_0 l a.toArray n b c.toArray m t (by rw[gM];omega) Zo) ⟨e,p,?_⟩
 refine⟨.non,_,I.lset (its':=a++c) d e Zs (r.append o) ?_,rfl,q⟩;rw[lZ];omega
def Lm:V->List V->Hp->VK->Prop:=λx vs H Q=>∃l a i k y,x=.ref l/\vs=[.int i]/\H l=some (.lst a)/\-(2^63)<=i/\i<2^63/\seqIndex? i a.length=some k/\a[k]?=some y/\Q y (aI H l (.lst (a.eraseIdx k)))
def Ln:MtM X "list.pop" Lm:=by
 intro D s G H x vs v E Q I c d h;revert h;refine yE5 λl f i k y=>yA8 λζ η b g j m o q=>?_;subst ζ η;cases c;obtain⟨u,rfl,p⟩:=d.one;obtain⟨t,rfl⟩:=p;obtain⟨z,a,n,r,A,e⟩:=I.lstM b;obtain⟨w,B,C⟩:=r.get o;refine call_meets F.slot_list_pop ⟨_,e,rfl⟩ F.entry_list_pop (F.args_list_pop_2 _ _)
  (MeetsSeq.list_pop_at l a.toArray n i t k w (fitsIndex_both g j) (by rw[gM,<- A];exact m) (by rw[<- Array.getElem?_toList];exact B) (by rw[gM];omega)) ⟨e,?_⟩
 refine⟨y,_,I.lset (its':=a.eraseIdx k) b e ?_ (r.eraseIdx k) ?_,C,q⟩
 ·show a.toArray.eraseIdxIfInBounds k=(a.eraseIdx k).toArray;rw[List.eraseIdxIfInBounds_toArray]
 ·have:=pP f k;omega
def aC5:R2:=λx y H Q=>∃l b a c,x=.ref l/\y=.ref b/\H l=some (.lst a)/\H b=some (.lst c)/\a.length+c.length<=sizeLine/\∀p,H p=none->Q (.ref p) (aI H p (.lst (a++c)))
def Zl:OpR X (binaryOp .Add) aC5:=by
 intro o s E H x y v u Q I d f h;obtain⟨l,b,p,t,rfl,rfl,g,i,w,q⟩:=h;cases d;cases f;obtain⟨z,a,n,r,A,e⟩:=I.lstM g;obtain⟨B,c,C,j,D,k⟩:=I.lstM i;refine PySem.P.add_list e k ?_ (by rw[gM,gM];omega);have m:a.toArray++c.toArray=(a++c).toArray:=by simp
 rw[m];exact⟨.ref _,_,I.lnew (t':=s.toks) (r.append j) (by rw[lZ];omega),rfl,q _ I.fresh⟩
end
section
variable {κ:Type} [DecidableEq κ]
def bB(kvs:List (κ×V))(k:κ):Option V:=(kvs.find? λa=>decide (a.1=k)).map (·.2)
def bI(kvs:List (κ×V))(k:κ)(v:V):List (κ×V):=
 if (kvs.any λa=>decide (a.1=k))=true then kvs.map (λa=>if a.1=k then (a.1,v) else a) else kvs++[(k,v)]
def cJ{p:κ×V}{r:List (κ×V)}{k:κ}(e:p.1=k):bB (p::r) k=some p.2:=by simp[bB,find?_cons,e]
def cK{p:κ×V}{r:List (κ×V)}{k:κ}(e:¬ p.1=k):bB (p::r) k=bB r k:=by simp[bB,find?_cons,e]
theorem dI(k:κ):∀kvs:List (κ×V),(kvs.any λa=>decide (a.1=k))=(bB kvs k).isSome
 | []=>rfl
 | p::r=>by
  rw[any_cons];by_cases e:p.1=k
  ·simp only [cJ e,UV e,Bool.true_or,Option.isSome_some]
  ·rw[cK e,UF e,Bool.false_or];exact dI k r
theorem zA(k j:κ)(y:V):∀kvs:List (κ×V),bB (kvs.map λa=>if a.1=k then (a.1,y) else a) j=(bB kvs j).map λx=>if j=k then y else x
 | []=>rfl
 | p::r=>by
  have b:=zA k j y r;rw[map_cons];by_cases h:p.1=k
  ·rw[QZY h];by_cases e:p.1=j
   ·rw[cJ (p:=(p.1,y)) e,cJ e,Option.map_some,QZY (e.symm.trans h)]
   ·rw[cK (p:=(p.1,y)) e,cK e,b]
  ·rw[QZX h];by_cases e:p.1=j
   ·rw[cJ (p:=p) e,cJ e,Option.map_some,QZX (λz=>h (e.trans z))]
   ·rw[cK (p:=p) e,cK e,b]
theorem vT(k j:κ)(y:V):∀kvs:List (κ×V),bB kvs k=none->bB (kvs++[(k,y)]) j=if j=k then some y else bB kvs j
 | [],_=>by
  by_cases e:k=j
  ·rw[QZY e.symm];exact cJ (p:=(k,y)) e
  ·rw[QZX (λz=>e z.symm)];exact cK (p:=(k,y)) e
 | p::r,a=>by
  rw[cons_append];have b:¬ p.1=k:=λz=>by rw[cJ z]at a;cases a
  rw[cK b]at a;have c:=vT k j y r a;by_cases e:p.1=j
  ·rw[cJ e,cJ e,QZX (λz=>b (e.trans z))]
  ·rw[cK e,cK e,c]
def cZ(kvs:List (κ×V))(k j:κ)(y:V):bB (bI kvs k y) j=if j=k then some y else bB kvs j:=by
 unfold bI;by_cases a:(kvs.any λb=>decide (b.1=k))=true
 ·rw[QZY a,zA];rw[dI]at a;by_cases e:j=k
  ·obtain⟨x,c⟩:=Option.isSome_iff_exists.mp a;rw[QZY e,e,c,Option.map_some,QZY rfl]
  ·rw[QZX e];cases bB kvs j with
   | none=>rfl
   | some x=>rw[Option.map_some,QZX e]
 ·rw[QZX a];refine vT k j y kvs ?_;rw[dI]at a;cases q:bB kvs k with
  | none=>rfl
  | some x=>rw[q]at a;exact(a rfl).elim
def cR(kvs:List (κ×V))(k:κ)(v:V):(bI kvs k v).length<=kvs.length+1:=by
 unfold bI;split
 ·rw[aS];omega
 ·rw[lZ,sA,length_nil];omega
def lI{kvs:List (κ×V)}{k:κ}(v:V)(h:bB kvs k=none):bI kvs k v=kvs++[(k,v)]:=by
 unfold bI;rw[dI,h];exact QZX Zd
def RelO.isSome_eq{o:Option V}{u:Option Q4}(r:RelO o u):o.isSome=u.isSome:=by
 cases o with
 | none=>cases u with
  | none=>rfl
  | some _=>exact(show False from r).elim
 | some _=>cases u with
  | none=>exact(show False from r).elim
  | some _=>rfl
def RelO.getD{o:Option V}{u:Option Q4}{d:V}{d':Q4}(r:RelO o u)(a:RelV d d'):RelV (o.getD d) (u.getD d'):=by
 cases o with
 | none=>cases u with
  | none=>exact a
  | some _=>exact(show False from r).elim
 | some _=>cases u with
  | none=>exact(show False from r).elim
  | some _=>exact r
def KV.val{kvs:List (κ×V)}{vs:List (κ×Q4)}(r:KV kvs vs)(k:κ):RelO (bB kvs k) (valueAt vs k):=by
 unfold KV at r;induction r with
 | nil=>exact True.intro
 | @cons p q ps a h t f=>
  obtain⟨d,g⟩:=h;by_cases e:p.1=k
  ·have c:q.1=k:=d.symm.trans e;have b:valueAt (q::a) k=some q.2:=by simp[valueAt,find?_cons,c]
   rw[cJ e,b];exact g
  ·have c:¬ q.1=k:=λz=>e (d.trans z)
   have b:valueAt (q::a) k=valueAt a k:=by simp[valueAt,find?_cons,c]
   rw[cK e,b];exact f
def KV.any{kvs:List (κ×V)}{vs:List (κ×Q4)}(r:KV kvs vs)(k:κ):(kvs.any λa=>decide (a.1=k))=vs.any λa=>decide (a.1=k):=by
 unfold KV at r;induction r with
 | nil=>rfl
 | cons h t b=>rw[any_cons,any_cons,b,h.1]
def KV.repl{kvs:List (κ×V)}{vs:List (κ×Q4)}(r:KV kvs vs)(k:κ){y:V}{u:Q4}(c:RelV y u) :
  KV (kvs.map λa=>if a.1=k then (a.1,y) else a) (vs.map λa=>if a.1=k then (a.1,u) else a):=by
 unfold KV at r ⊢
 induction r with
 | nil=>exact .nil
 | @cons p q ps g h t d=>
  rw[map_cons,map_cons];refine .cons ?_ d;obtain⟨b,f⟩:=h;by_cases e:p.1=k
  ·rw[QZY e,QZY (b.symm.trans e)];exact⟨b,c⟩
  ·rw[QZX e,QZX (λz=>e (b.trans z))];exact⟨b,f⟩
def KV.put{kvs:List (κ×V)}{vs:List (κ×Q4)}(r:KV kvs vs)(k:κ){y:V}{u:Q4}(a:RelV y u):KV (bI kvs k y) (stored vs k u):=by
 unfold bI stored;rw[r.any k];by_cases e:(vs.any λb=>decide (b.1=k))=true
 ·rw[QZY e,QZY e];exact r.repl k a
 ·rw[QZX e,QZX e];exact Paired.snoc r ⟨rfl,a⟩
def KV.keys{kvs:List (κ×V)}{vs:List (κ×Q4)}(r:KV kvs vs):kvs.map (·.1)=vs.map (·.1):=by
 unfold KV at r;induction r with
 | nil=>rfl
 | cons h t a=>rw[map_cons,map_cons,a,h.1]
def KV.length{kvs:List (κ×V)}{vs:List (κ×Q4)}(r:KV kvs vs):kvs.length=vs.length:=Paired.length r
end
def qX{P:Program}{w:World}{k:aV}{u:Q4}(r:RelV (kV k) u):(bC P w).is k u=true:=by
 cases k with
 | inl i=>obtain⟨t,e⟩:=(show ∃t,u=Value.int i t from r);subst e;exact yR P w i t
 | inr x=>obtain⟨t,e⟩:=(show ∃t,u=Value.str x t from r);subst e;exact yS P w x t
def vU{P:Program}{w:World}:∀ {ks:List aV}{us:List Q4},Vals (ks.map kV) us->ItemsAre (bC P w) ks us
 | [],_,r=>by rw[map_nil]at r;cases r;exact .nil
 | k::ks,_,r=>by
  rw[map_cons]at r;cases r with
  | cons h t=>exact .cons (qX h) (vU t)
abbrev KT(H:Hp):List (List aV×V)->List (List aV×TD×Q4)->Prop:=Paired λp q=>p.1=q.1/\H q.2.1=some (.tup (p.1.map kV))/\RelV p.2 q.2.2
def KT.val{H:Hp}{kvs:List (List aV×V)}{xs:List (List aV×TD×Q4)}(r:KT H kvs xs)(k:List aV):RelO (bB kvs k) ((atKey xs k).map (·.2)):=by
 induction r with
 | nil=>exact True.intro
 | @cons p q ps a h t f=>
  obtain⟨d,_,g⟩:=h;by_cases e:p.1=k
  ·have c:q.1=k:=d.symm.trans e;have b:atKey (q::a) k=some q.2:=by simp[atKey,find?_cons,c]
   rw[cJ e,b];exact g
  ·have c:¬ q.1=k:=λz=>e (d.trans z)
   have b:atKey (q::a) k=atKey a k:=by simp[atKey,find?_cons,c]
   rw[cK e,b];exact f
def KT.repl{H:Hp}{kvs:List (List aV×V)}{xs:List (List aV×TD×Q4)}(r:KT H kvs xs)(k:List aV){y:V}{u:Q4}(d:RelV y u) :
  KT H (kvs.map λb=>if b.1=k then (b.1,y) else b) (xs.map (putAt k u)):=by
 induction r with
 | nil=>exact .nil
 | @cons p q ps i h t f=>
  rw[map_cons,map_cons];refine .cons ?_ f;obtain⟨a,c,g⟩:=h;unfold putAt;by_cases e:p.1=k
  ·rw[QZY e,QZY (a.symm.trans e)];exact⟨a,c,d⟩
  ·rw[QZX e,QZX (λz=>e (a.trans z))];exact⟨a,c,g⟩
def KT.put{H:Hp}{kvs:List (List aV×V)}{xs:List (List aV×TD×Q4)}(r:KT H kvs xs)(k:List aV){b:TD}{y:V}{u:Q4}(c:H b=some (.tup (k.map kV)))(a:RelV y u) :
  KT H (bI kvs k y) (storedH xs k b u):=by
 have e:(kvs.any λd=>decide (d.1=k))=(atKey xs k).isSome:=by
  rw[dI,(r.val k).isSome_eq,Option.isSome_map]
 unfold bI storedH;rw[e];by_cases q:(atKey xs k).isSome=true
 ·rw[QZY q,QZY q];exact r.repl k a
 ·rw[QZX q,QZX q];exact Paired.snoc r ⟨rfl,c,a⟩
def KT.keeps{H a:Hp}{kvs:List (List aV×V)}{xs:List (List aV×TD×Q4)}(r:KT H kvs xs)(c:∀b ys,H b=some (.tup ys)->a b=some (.tup ys)):KT a kvs xs:=
 Paired.mapP r λ_ _ z=>⟨z.1,c _ _ z.2.1,z.2.2⟩
section
variable {P:Program}{w:World}{H:Hp}{h:Heap}{a:TD}
def Wo{u:HO}(ok:HOk P w H h)(e:Rd H a u):ObjOk P w H h a u:=e.ok ok
def oG{kvs:List (aV×V)}(ok:HOk P w H h)(e:Rd H a (.dK kvs)):kvs.length<=sizeLine/\(a==sysModules)=false/\∃vs,KV kvs vs/\h.DictOf (bC P w) a vs:=
 show ObjOk P w H h a (.dK kvs) from Wo ok e
def Em{kvs:List (aV×V)}(ok:HOk P w H h)(e:H a=some (.dK kvs)):kvs.length<=sizeLine/\(a==sysModules)=false/\∃vs,KV kvs vs/\h.DictOf (bC P w) a vs:=oG ok (.inl e)
def pQ{ks:List aV}(ok:HOk P w H h)(e:H a=some (.tup (ks.map kV))):(tupleKind (bC P w)).is h ks a:=by
 obtain⟨_,b,r,o,c,d,n,f⟩:=(show ObjOk P w H h a (.tup (ks.map kV)) from ok a _ e);exact⟨o,b.toArray,n,c,d,f,by simpa using vU r⟩
def sM{kvs:List (List aV×V)}(ok:HOk P w H h)(e:Rd H a (.dT kvs)):kvs.length<=sizeLine/\(a==sysModules)=false ∧
  ∃xs,KT H kvs xs/\h.DictOfH (tupleKind (bC P w)) a xs:=by
 obtain⟨z,y,xs,r,o,d,f,g,i,j,k,n⟩:=(show ObjOk P w H h a (.dT kvs) from Wo ok e);refine⟨z,y,xs,r,o,d,f,g,i,j,k,λx b=>?_,n⟩;have all:∀ {l:List (List aV×V)}{m:List (List aV×TD×Q4)},KT H l m->∀x∈m,(tupleKind (bC P w)).is h x.1 x.2.1:=by
  intro l m q;induction q with
  | nil=>intro x b;exact nomatch b
  | @cons p q ps u c t s=>
   intro x b;rcases mem_cons.mp b with e|b
   ·subst e;exact pQ ok (by rw[<- c.1];exact c.2.1)
   ·exact s x b
 exact all r x b
def aBH{kvs:List (List aV×V)}(ok:HOk P w H h)(e:H a=some (.dT kvs)):kvs.length<=sizeLine/\(a==sysModules)=false ∧
  ∃xs,KT H kvs xs/\h.DictOfH (tupleKind (bC P w)) a xs:=sM ok (.inl e)
end
def DGet(H:Hp)(a:TD)(y:V)(r:Option V):Prop:=
 (∃c k,Rd H a (.dK c)/\y=kV k/\r=bB c k)∨∃c k b,Rd H a (.dT c)/\y=.ref b/\H b=some (.tup (k.map kV))/\r=bB c k
def DPut(H:Hp)(a:TD)(y v:V)(d:Hp):Prop:=
 (∃c k,H a=some (.dK c)/\y=kV k/\c.length<sizeLine/\d=aI H a (.dK (bI c k v)))∨
 ∃c k b,H a=some (.dT c)/\y=.ref b/\H b=some (.tup (k.map kV))/\c.length<sizeLine/\d=aI H a (.dT (bI c k v))
def DGet.k{H:Hp}{a:TD}{kvs:List (aV×V)}{k:aV}(e:H a=some (.dK kvs)):DGet H a (kV k) (bB kvs k):=.inl ⟨kvs,k,.inl e,rfl,rfl⟩
def DPut.k{H:Hp}{a:TD}{kvs:List (aV×V)}{k:aV}{v:V}(e:H a=some (.dK kvs))(b:kvs.length<sizeLine):DPut H a (kV k) v (aI H a (.dK (bI kvs k v))):=.inl ⟨kvs,k,e,rfl,b,rfl⟩
def DPut.t{H:Hp}{a b:TD}{kvs:List (List aV×V)}{k:List aV}{v:V}(e:H a=some (.dT kvs))(c:H b=some (.tup (k.map kV)))(d:kvs.length<sizeLine) :
  DPut H a (.ref b) v (aI H a (.dT (bI kvs k v))):=.inr ⟨kvs,k,b,e,rfl,c,d,rfl⟩
section
variable {X:Cx}{pins:ZB}{σ:St}{H:Hp}{s:QZZ}{a:TD}{y v:V}{u r:Q4}{o:Option V}{A:Around}{E:XV}
def Inv.big(I:Inv X pins σ H s):sysModules<s.heap.objs.size:=by
 have h:mainGlobals<s.heap.objs.size:=(I.mod.glob.keeps I.bk).lt;exact lt_trans Zd h
def Hw{Q:XV}(w:A.units+1<cLine)(I:Inv X pins σ H s)(g:DGet H a y (some v))(n:RelV y u)(h:∀c q,Inv X pins σ H q->RelV v c->Q c q) :
  wpAny (model X.prog X.w) A (getItem (.ref a) u) Q E s:=by
 rcases g with⟨t,k,e,f,l⟩|⟨t,k,b,e,f,x,l⟩
 ·subst f;obtain⟨z,B,vs,d,i⟩:=oG I.hok e;obtain⟨c,j,m⟩:=RelO.some_of (v:=v) (o:=valueAt vs k) (by rw[l];exact d.val k);exact wpAny_getItem_of (qX n) i.mapOf j (h c _ (I.tok _) m)
 ·subst f;cases(show u=Value.ref b from n);obtain⟨z,B,C,d,i⟩:=sM I.hok e;obtain⟨c,j,m⟩:=RelO.some_of (v:=v) (o:=(atKey C k).map (·.2)) (by rw[l];exact d.val k);obtain⟨p,D,F⟩:=Option.map_eq_some_iff.mp j;refine wpAny_getItem_heap (tupleKind_room_in1 w) (pQ I.hok x) i D ?_;rw[F];exact h c _ (I.tok _) m
def aBI{Q:XV}(p:A.units+1<cLine)(I:Inv X pins σ H s)(g:DGet H a y o)(j:RelV y u)(h:∀m,Inv X pins σ H m->Q (.bool o.isSome) m) :
  wpAny (model X.prog X.w) A (compareOp .In u (.ref a)) Q E s:=by
 rcases g with⟨n,k,e,d,l⟩|⟨n,k,b,e,d,t,l⟩
 ·subst d;obtain⟨z,f,vs,c,i⟩:=oG I.hok e;refine wpAny_in_of (qX j) f i.mapOf ?_;rw[<- (c.val k).isSome_eq,<- l];exact h _ (I.tok _)
 ·subst d;cases(show u=Value.ref b from j);obtain⟨z,f,w,c,i⟩:=sM I.hok e;refine wpAny_in_heap (tupleKind_room_in1 p) (pQ I.hok t) f i ?_;have q:=(c.val k).isSome_eq;rw[Option.isSome_map]at q;rw[<- q,<- l];exact h _ (I.tok _)
def En{Q:XV}(p:A.units+1<cLine)(I:Inv X pins σ H s)(g:DGet H a y o)(j:RelV y u)(h:∀m,Inv X pins σ H m->Q (.bool (!o.isSome)) m) :
  wpAny (model X.prog X.w) A (compareOp .NotIn u (.ref a)) Q E s:=by
 rcases g with⟨n,k,e,d,l⟩|⟨n,k,b,e,d,t,l⟩
 ·subst d;obtain⟨z,f,vs,c,i⟩:=oG I.hok e;refine wpAny_notIn_of (qX j) f i.mapOf ?_;rw[<- (c.val k).isSome_eq,<- l];exact h _ (I.tok _)
 ·subst d;cases(show u=Value.ref b from j);obtain⟨z,f,w,c,i⟩:=sM I.hok e;refine wpAny_notIn_heap (tupleKind_room_in1 p) (pQ I.hok t) f i ?_;have q:=(c.val k).isSome_eq;rw[Option.isSome_map]at q;rw[<- q,<- l];exact h _ (I.tok _)
def xH{h':Heap}{t':Nat}{c:HO}(I:Inv X pins σ H s)(d:Mut (H a))(hs:Heap.SameBut a s.heap h')(f:∃q,h'.get? a=some q)(new:ObjOk X.prog X.w (aI H a c) h' a c) :
  Inv X pins σ (aI H a c) {s with heap:=h',toks:=t' }:=
 I.write (x:=a) (e:=a) d (.inl rfl) (λb q g z=>(hs.2 b g).trans z) f new
def Lo{P:Program}{w:World}{c:Hp}{h':Heap}{kvs:List (aV×V)}{vs:List (aV×Q4)}(z:kvs.length<=sizeLine)(d:(a==sysModules)=false)(b:KV kvs vs)(e:h'.DictOf (bC P w) a vs) :
  ObjOk P w c h' a (.dK kvs):=⟨z,d,vs,b,e⟩
def Hy{C:Hp}{Q:Unit->QZZ->Prop}(M:A.units+1<cLine)(I:Inv X pins σ H s)(g:DPut H a y v C)(D:RelV y u)(F:RelV v r)(h:∀G,Inv X pins σ C G->Q () G) :
  wpAny (model X.prog X.w) A (setItem (.ref a) u r) Q E s:=by
 rcases g with⟨d,k,e,m,l,n⟩|⟨d,k,b,e,m,J,l,n⟩
 ·subst m n;obtain⟨z,p,vs,f,t⟩:=Em I.hok e;have w:vs.length<=sizeLine:=by rw[<- f.length];exact z
  have x:(bI d k v).length<=sizeLine:=by have:=cR d k v;omega
  refine wpAny_setItem_pairs (hsz:=w) (qX D) t λK i B=>h _ ?_;have N:∃q,K.get? a=some q:=let ⟨q,_,_,j,_⟩:=i;⟨q,j⟩;exact xH I (by rw[e];exact True.intro) B N (Lo x p (f.put k F) i)
 ·subst m n;cases(show u=Value.ref b from D);obtain⟨z,p,O,f,t⟩:=aBH I.hok e;have w:O.length<=sizeLine:=by rw[<- Paired.length f];exact z
  have x:(bI d k v).length<=sizeLine:=by have:=cR d k v;omega
  refine wpAny_setItem_heap (hsz:=w) (tupleKind_room_in1 M) (pQ I.hok J) t λK i B=>h _ ?_;revert i;refine yE3 λq P R=>yA6 λj S T U _ V=>?_;refine xH I (by rw[e];exact True.intro) B ⟨q,j⟩ ⟨x,p,_,(f.put k J F).keeps λc W L=>?_,q,P,R,j,S,T,U,V⟩;rw[aD (cI L e nofun)];exact L
end
section
variable {X:Cx}{pins:ZB}{σ:St}{H:Hp}{s:QZZ}{a:TD}{kvs:List (aV×V)}{k:aV}{u:Q4}{A:Around}{E:XV}
def aBJ{Q:XV}(I:Inv X pins σ H s)(e:Rd H a (.dK kvs))(h:∀t c,Inv X pins σ H c->Q (.int kvs.length t) c):wpAny (model X.prog X.w) A (call (.builtin "len") [.ref a]) Q E s:=by
 obtain⟨z,d,vs,b,f⟩:=oG I.hok e;refine call_len_dict d f (by rw[<- b.length];rw[sizeLine_eq]at z;omega) ?_;rw[<- b.length];exact h _ _ (I.tok _)
end
def Zm(i:Expr):Prop:=∀a b,subscripted i false a b=operate [a,b] (getItem a b)
def Sz{prog:Program}{w:World}{A:Around}{E:XV}{s:QZZ}{env:Env}{b slice:Expr}{pos:Pos}{T id:String}{Q:XV}(l:typeLookup (.type T) "__getitem__"=pure (some (.builtin id)))(hs:Zm slice)(h:wpAny (model prog w) A (eval b env) (λo e=>wpAny (model prog w) A (eval slice env) (λi a=>a.TypeIs o T/\wpAny (model prog w) A (getItem o i) Q E a) E e) E s) :
  wpAny (model prog w) A (eval (.Subscript b slice pos) env) Q E s:=by
 refine Subscript_ (wpAny_mono h (λo e j=>wpAny_mono j (λi a c=>?_) λ_ _ x=>x) λ_ _ x=>x);obtain⟨g,c⟩:=c;unfold subscriptTail;refine U9 ?_;rw[getitemInPython_of_ne g.not_modules];refine U9 (wpAny_specialOf g l ?_);have d:wpAny (model prog w) A (subscripted slice false o i) (λr f=>wpAny (model prog w) A (letTemporaryGo b o r>>=λ_=>pure r) Q E f) E a:=by
  rw[hs o i];exact wpAny_operating (wpAny_mono c (λr f k=>U9 (wpAny_letTemporaryGo (U8 k))) λ_ _ x=>x)
 first
  | exact U8 (U9 d)
  | exact U9 (U8 (U9 d))
  | exact U9 d
def zB{X:Cx}{d:ZB}{h:St}{H:Hp}{s:QZZ}{a:TD}{y:V}{o:Option V}(I:Inv X d h H s)(g:DGet H a y o):s.TypeIs (.ref a) "dict":=by
 rcases g with⟨f,k,e,_,_⟩|⟨f,k,b,e,_,_,_⟩
 ·obtain⟨_,_,vs,_,c⟩:=oG I.hok e;exact c.typeIs
 ·obtain⟨_,_,i,_,c⟩:=sM I.hok e;exact c.typeIs
def Wp(d ty:TE):TE:=λc H Q=>d c H λx e=>ty c e λy b=>∃a v,x=.ref a/\DGet b a y (some v)/\Q v b
section
variable {X:Cx}{o i e value:Expr}{pos pos' sk:Pos}{td ty tv:TE}
def Ta(f:X.A.units+1<cLine)(j:PE X o td)(k:PE X i ty)(hs:Zm i):PE X (.Subscript o i pos) (Wp td ty):=by
 intro b s d H Q I h;refine Sz PySem.F.slot_dict_getitem.lookup hs (cA (j b s d H _ I h) λu l ⟨x,m,n,p,q⟩=>cA (k b l d m _ n q) ?_);rintro C D ⟨y,r,c,t,a,v,w,g,z⟩;subst w;obtain rfl:u=Value.ref a:=p;exact⟨zB c g,Hw f c g t λE F A B=>⟨v,r,A,B,z⟩⟩
end
def zC{P:Program}{w:World}{H:Hp}(h:Heap)(a:sysModules<h.objs.size):ObjOk P w H (h.push {cls:=.type "dict",data:=.dict #[] }) h.objs.size (.dK []):=
 ⟨zero_le _,beq_eq_false_iff_ne.mpr (Ne.symm (ne_of_lt a)),[],.nil,Heap.DictOf.new h⟩
def Lp{P:Program}{w:World}{H:Hp}(h:Heap)(a:sysModules<h.objs.size):ObjOk P w H (h.push {cls:=.type "dict",data:=.dict #[] }) h.objs.size (.dT []):=
 ⟨zero_le _,beq_eq_false_iff_ne.mpr (Ne.symm (ne_of_lt a)),[],.nil,_,#[],0,TW _ rfl,⟨rfl,rfl,rfl⟩,rfl,rfl,nodup_nil⟩
def Lq:TE:=λ_ H Q=>∀p,H p=none->Q (.ref p) (aI H p (.dK []))
def Lr:TE:=λ_ H Q=>∀p,H p=none->Q (.ref p) (aI H p (.dT []))
section
variable {X:Cx}{pos:Pos}
def Ls:PE X (.Dict [] [] pos) Lq:=λb s c H Q I h=>
 wpAny_Dict_empty ⟨.ref s.heap.objs.size,_,I.laid (a:=s.heap.objs.size) (o:=.dK []) (t':=s.toks) (λ_ _ q=>eX _ q) (aZ _) (zC s.heap I.big),rfl,h _ (I.hok.fresh (aZ _))⟩
def Lu:PE X (.Dict [] [] pos) Lr:=λb s c H Q I h=>
 wpAny_Dict_empty ⟨.ref s.heap.objs.size,_,I.laid (a:=s.heap.objs.size) (o:=.dT []) (t':=s.toks) (λ_ _ q=>eX _ q) (aZ _) (Lp s.heap I.big),rfl,h _ (I.hok.fresh (aZ _))⟩
end
def By:List (TE×TE)->St->Hp->(List (V×V)->Hp->Prop)->Prop
 | [],_,H,Q=>Q [] H
 | (tk,b)::r,a,H,Q=>tk a H λx c=>b a c λy d=>By r a d λps e=>Q ((x,y)::ps) e
abbrev VV:List (V×V)->List (Q4×Q4)->Prop:=Paired λp q=>RelV p.1 q.1/\RelV p.2 q.2
def PPs(X:Cx)(pos:Pos)(keys:List (Option Expr))(d:List Expr)(e:List (TE×TE)):Prop:=
 ∀(b:ZB)(s:QZZ)(a:St)(H:Hp)(Q:List (V×V)->Hp->Prop),Inv X b a H s->By e a H Q →
  wpAny (model X.prog X.w) X.A (evalPairs (pairTrees keys d X.env pos)) (λvs f=>∃ps c,Inv X b a c f/\VV ps vs/\Q ps c) X.xe s
def Tb{X:Cx}{pos:Pos}:PPs X pos [] [] []:=λa s b H Q I h=>pairTrees_nil_walk ⟨[],H,I,.nil,h⟩
def Lv{X:Cx}{pos:Pos}{k v:Expr}{ks:List (Option Expr)}{vs:List Expr}{tk d:TE}{c:List (TE×TE)}(f:PE X k tk)(g:PE X v d)(i:PPs X pos ks vs c) :
  PPs X pos (some k::ks) (v::vs) ((tk,d)::c):=λa s b H Q I h=>
 pairTrees_cons_walk (cA (f a s b H _ I h) λu j ⟨x,l,m,n,o⟩=>cA (g a j b l _ m o) λC p ⟨y,q,r,t,w⟩=>
  cA (i a p b q _ r w) λD E ⟨ps,z,A,e,B⟩=>⟨(x,y)::ps,z,A,.cons ⟨n,t⟩ e,B⟩)
def aN(kvs more:List (aV×V)):List (aV×V):=more.foldl (λb a=>bI b a.1 a.2) kvs
def KV.merge:∀ {more:List (aV×V)}{rs:List (aV×Q4)}{kvs:List (aV×V)}{vs:List (aV×Q4)},KV more rs->KV kvs vs->KV (aN kvs more) (merged vs rs):=by
 intro more rs kvs vs r;unfold KV at r;induction r generalizing kvs vs with
 | nil=>intro q;exact q
 | @cons p q ps c h t a=>
  intro b;have e:KV (bI kvs p.1 p.2) (stored vs q.1 q.2):=by
   have:=b.put p.1 h.2;rw[<- h.1];exact this
  exact a e
theorem dZ:∀(more kvs:List (aV×V)),(aN kvs more).length<=kvs.length+more.length
 | [],kvs=>by show kvs.length<=kvs.length+0;omega
 | p::r,kvs=>by
  have a:=dZ r (bI kvs p.1 p.2);have b:=cR kvs p.1 p.2;show(aN (bI kvs p.1 p.2) r).length<=_;rw[sA];omega
theorem sN{P:Program}{w:World}:∀ {kvs:List (aV×V)}{d:List (Q4×Q4)},VV (kvs.map λe=>(kV e.1,e.2)) d->∃rs,Carries (bC P w) d rs/\KV kvs rs
 | [],_,r=>by rw[map_nil]at r;cases r;exact⟨[],True.intro,.nil⟩
 | p::kvs,_,r=>by
  rw[map_cons]at r;cases r with
  | @cons a b g bs h t=>
   obtain⟨rs,c,q⟩:=sN (P:=P) (w:=w) t;obtain⟨i,f⟩:=b;exact⟨(p.1,f)::rs,⟨qX h.1,rfl,c⟩,.cons ⟨rfl,h.2⟩ q⟩
def Wq(d:List (TE×TE)):TE:=λe H Q=>∀p,H p=none->By d e (aI H p (.dK [])) λps b=>b p=some (.dK [])/\∃a:List (aV×V),ps=a.map (λc=>(kV c.1,c.2))/\a.length<=15/\Q (.ref p) (aI b p (.dK (aN [] a)))
def Tc{X:Cx}{pos:Pos}{keys:List (Option Expr)}{b:List Expr}{d:List (TE×TE)}(h:PPs X pos keys b d)(l:keys.all (·.isSome)=true)(m:keys.length=b.length)(n:keys≠[])(p:keys.length<=15):PE X (.Dict keys b pos) (Wq d):=by
 intro j s K H Q I q;have r:=I.hok.fresh (aZ s.heap.objs.size);have t:=I.laid (a:=s.heap.objs.size) (o:=.dK []) (h':=s.heap.push {cls:=.type "dict",data:=.dict #[] }) (t':=s.toks) (λ_ _ q=>eX _ q) (aZ _) (zC s.heap I.big);refine wpAny_Dict_walk (knd:=bC X.prog X.w) l m n p (cA (h j _ K _ _ t (q _ r)) ?_);rintro M N ⟨ps,O,g,k,e,f,u,lk,v⟩;subst u;obtain⟨x,c,y⟩:=sN (P:=X.prog) (w:=X.w) k;obtain⟨z,A,L,B,C⟩:=Em g.hok e;cases B;refine⟨x,c,C,λh' i D=>⟨.ref s.heap.objs.size,_,?_,rfl,v⟩⟩;have E:(aN [] f).length<=sizeLine:=by
  have F:=dZ f [];rw[length_nil]at F;rw[sizeLine_eq];omega
 have G:∃q,h'.get? s.heap.objs.size=some q:=let ⟨q,_,_,J,_⟩:=i;⟨q,J⟩;exact xH g (by rw[e];exact True.intro) D G (Lo E A (y.merge .nil) i)
structure M2(X:Cx)(o:Expr)(m:Str)(apos:Pos)(e f:Expr)(cpos:Pos):Prop where
 base:attributeBase o m X.env (eval o X.env)=eval o X.env
 few:((backTo cpos (starEach [e,f] X.env)).all (λx=>!x.1)&&(backToKw cpos (keywordEach [] X.env)).all (λx=>x.1.isSome)
  && decide (([e,f]:List Expr).length+([]:List Keyword).length+(if ([]:List Keyword).isEmpty then 0 else 1)<30))=true
 line:(apos.endLine==cpos.line)=true
 trees:backTo cpos (starEach [e,f] X.env)=[(false,eval e X.env),(false,eval f X.env)]
def IsD(H:Hp)(a:TD):Prop:=(∃b,Rd H a (.dK b))∨∃b,Rd H a (.dT b)
def Lw{X:Cx}{j:ZB}{l:St}{H:Hp}{s:QZZ}{a:TD}(I:Inv X j l H s)(d:IsD H a) :
  s.TypeIs (.ref a) "dict"/\(∀b,Value.ref a=.ref b->∃c,s.heap.get? b=some c/\c.dict=none)/\(a==sysModules)=false:=by
 rcases d with⟨k,e⟩|⟨k,e⟩
 ·obtain⟨_,g,vs,_,f⟩:=oG I.hok e;refine⟨f.typeIs,λb q=>?_,g⟩;cases q;obtain⟨c,_,_,h,i,_⟩:=f;exact⟨c,h,i.2.1⟩
 ·obtain⟨_,g,m,_,f⟩:=sM I.hok e;refine⟨f.typeIs,λb q=>?_,g⟩;cases q;obtain⟨c,_,_,h,i,_⟩:=f;exact⟨c,h,i.2.1⟩
section
variable {X:Cx}{pins:ZB}{σ:St}{H:Hp}{s:QZZ}{a:TD}{y d:V}{u r:Q4}{o:Option V}{A:Around}{E:XV}
def Zp{Q:XV}(v:A.units+1<cLine)(I:Inv X pins σ H s)(g:DGet H a y o)(m:RelV y u)(n:RelV d r)(h:∀p q,Inv X pins σ H q->RelV (o.getD d) p->Q p q) :
  wpAny (model X.prog X.w) A (call (.builtin "dict.get") [.ref a,u,r]) Q E s:=by
 rcases g with⟨t,k,e,i,l⟩|⟨t,k,b,e,i,w,l⟩
 ·subst i;obtain⟨z,j,vs,f,c⟩:=oG I.hok e;refine call_meetsIn PySem.F.slot_dict_get c.typeIs PySem.F.entry_dict_get (PySem.F.args_dict_get_3 _ _ _) (meets_dict_get_default (bC X.prog X.w) a (qX m) j r) ⟨_,c.mapOf,h _ _ (I.tok _) ?_⟩;rw[l];exact(f.val k).getD n
 ·subst i;cases(show u=Value.ref b from m);obtain⟨z,j,x,f,c⟩:=sM I.hok e;refine call_meetsIn PySem.F.slot_dict_get c.typeIs PySem.F.entry_dict_get (PySem.F.args_dict_get_3 _ _ _) (meetsH_dict_get_default (tupleKind (bC X.prog X.w)) a b j r) ⟨tupleKind_room_in1 v,k,x,pQ I.hok w,c,h _ _ (I.tok _) ?_⟩;rw[l];exact(f.val k).getD n
end
def Lx(e ty tx:TE):TE:=λb H Q=>e b H λx c=>∃a,x=.ref a/\IsD c a/\ty b c λy f=>tx b f λz d=>∃o,DGet d a y o/\Q (o.getD z) d
section
variable {X:Cx}{o e f:Expr}{apos cpos:Pos}{td ty tx:TE}
def Ly(j:X.A.units+1<cLine)(k:PE X o td)(l:PE X e ty)(n:PE X f tx)(m:M2 X o "get" apos e f cpos):PE X (.Call (.Attribute o "get" apos) [e,f] [] cpos) (Lx td ty tx):=by
 intro b s c H Q I h;refine wpAny_Call_method m.base m.few m.line PySem.F.plainAttrs_dict PySem.F.slot_dict_get PySem.F.type_dict_get (cA (k b s c H _ I h) ?_);rintro u p ⟨x,q,i,r,a,t,d,v⟩;subst t;obtain rfl:u=Value.ref a:=r;obtain⟨w,A,_⟩:=Lw i d;refine⟨w,A,?_⟩;rw[m.trees];refine Calls.callWith_builtin rfl (Calls.evalArgs_plain (Calls.spliced_cons (cA (l b p c q _ i v) λO B ⟨y,C,D,E,F⟩=>
  Calls.spliced_cons (cA (n b B c C _ D F) λP R ⟨z,G,J,K,S,g,L⟩=>Calls.spliced_nil ?_))))
 exact Zp j J g E K λT U M N=>⟨_,G,M,N,L⟩
end
end L2
namespace OD
open PySem PySem.W PySem.Calls PyProof.Rows
def rF{P:Params}{h:Heap}:∀(c:List Int)(vs:List Q4),WellAll P h vs (c.map WData.int)->IntsAre vs c:=by
 intro c;induction c with
 | nil=>
  intro vs w;rw[map_nil]at w;cases w;exact .nil
 | cons n c d=>
  intro vs w;rw[map_cons]at w;cases w with
  | cons a b=>
   cases a;exact .cons _ _ (d _ b)
def Hz{l:OpenLaw}{n:Nat}(k:l.most=some n){P:Params}{h:Heap}{args:List WData}{f:List Q4}(g:l.row.toRowW.claim.pre args=true)(m:WellAll P h f args) :
  ∃a vs b,f=[Value.ref a]/\args=[WData.list (b.map WData.int)]/\h.get? a=some {cls:=.type "list",data:=.seq vs.toArray }/\IntsAre vs b/\b.length<=n:=by
 have o:WShape.hasAll [] args [.list .int]=true:=(pre_splitW g).1;have i:l.pre.holds [] {args:=args }=true:=(pre_splitW g).2;obtain⟨d,r,rfl,p,s⟩:=hasAllW_cons o;obtain rfl:=hasAllW_nil s;obtain⟨z,rfl,t⟩:=hasW_list p;obtain⟨b,rfl⟩:=items_int t;have j:b.length<=n:=by
  unfold OpenLaw.pre at i;have c:(WTm.not (.lt (.lit (.int (n:Int))) (.len (.arg 0)))).holds [] {args:=[.list (b.map .int)] }=true:=by
   have c:=(holds_andW i).1;rw[k]at c;exact c
  have e:=condW_of c (w_not (w_lt w_lit (w_len_list (w_arg rfl))));rw[aS]at e;refine Nat.le_of_not_lt λq=>?_
  have u:(n:Int)<((b.length:Nat):Int):=by omega
  first
   | (rw[UV u]at e;exact QZW e Zd)
   | (simp at e;omega)
 cases m with
 | cons v w=>
  cases w
  cases v with
  | list x y=>exact⟨_,_,b,rfl,rfl,x,rF b _ y,j⟩
def Ia(l:OpenLaw)(args:List WData):l.row.toRowW.claim.post args (.bool true) args=true:=
 postW_of (r:=l.row.toRowW) (X:=(true==true))
  (show WShape.has [] (.bool true) .bool=true by first|rfl|decide|simp[WShape.has,WShape.arms,WShape.armsAll])
  (show(WTm.eq .res (.lit (.bool true))).value [] {args:=args,res:=some (.bool true),after:=args }=some (.bool (true==true)) from w_eq_bool (w_res rfl) w_lit) rfl
def attach_call{l:OpenLaw}{n:Nat}{q:Program}{m:List Str}{p:(Str->Option Q4)->Heap->Prop}{s:World->Heap->Prop}{d:DefRec}(x:l.most=some n)(y:d.params.defaults=[])(call:∀(w:World)(h b:QZZ)(mg j:V0)(fa:TD)(o:Obj)(k c i:Q4)(a:TD)(vs:List Q4)(e:List Int),
   Ground q m [] p w h mg j b.heap->s w b.heap →
   b.heap.get? fa=some o->o.data=.func (docDef d.name d.params d.body d.scope k c i)->b.heap.CodeRec c d.name->mg d.name=some (.ref fa) →
   b.heap.get? a=some {cls:=.type "list",data:=.seq vs.toArray }->IntsAre vs e->e.length<=n->b.gens=#[] →
   codeAny (model l.prog w) callerA (.call (.ref fa) ⟨[.ref a],[]⟩) (λr g=>r=.ok (.ret (.bool true))/\OldK b.heap g.heap/\g.os=b.os/\AllBare g.gens) b) :
  WalkO q m p s l.row.toRowW d [] (λf vs=>PySem.call f vs):=by
 intro w h b mg j G Y fa o k c i z kV A B C t D E O P Q F R S H T;obtain rfl:z=.none:=Dflts.none t y;obtain rfl:kV=.none:=Dflts.noKw t;obtain⟨a,vs,e,rfl,rfl,I,u,v⟩:=Hz x F H;refine enter_call (codeAny_mono (call w h b mg j fa o k c i a vs e G Y A (fd_plain B) C D I u v E) λr g J=>?_);obtain⟨rfl,K,L,M⟩:=J;exact⟨.inl ⟨.bool true,.bool true,[],rfl,λ_=>rfl,.bool true,Ia l _,λ_=>⟨List.Pairwise.nil,λ_ N=>(nomatch N)⟩⟩,K,L,M⟩
end OD
namespace L2
open PySem PySem.Spec PyProof.Rows
def vV:∀ {vs:List Q4}{a:List Int},IntsAre vs a->Vals (a.map V.int) vs
 | _,_,.nil=>.nil
 | _,_,.cons n t h=>.cons ⟨t,rfl⟩ (vV h)
def Zq(H:Hp):Prop:=∀b,H b=none∨∃o a,H b=some (.frz o (.lst a))
def Lz{P:Program}{w:World}{K:W.Frag}{mg B:V0}{CX:Rs}{k:Nat}{fa a:TD}{I:FuncData}{x:Str}{sp:Sp}{c:QZZ}{vs:List Q4}{i:List Int}(J:K.In c.heap)(L:c.heap.Ns mainGlobals mg)(f:c.heap.Ns builtinsNs B)(Y:∀x:Str,x≠"__name__"->B x=bootBuiltins x)(Z:c.heap.NoLimit)(hg:c.gens=#[])(t:c.heap.get? a=some {cls:=.type "list",data:=.seq vs.toArray })(M:IntsAre vs i)(N:i.length<=sizeLine)(hr:Room k callerA)(F:∀A:Heap,K.In A->A.Ns mainGlobals mg->lE P w K mg A CX k fa I [x] sp)(EL:∀(s:QZZ)(u:Q4),BindsTo s I ⟨[u],[]⟩ [(x,u)])(xa:∀H:Hp,Zq H->SqL K H a (i.map V.int)->sp [.ref a] H (λv _=>v=.bl true) λ_ _ _=>False)(KH:∀H e g,CX [] H c (λ_ _ _=>False) e g->False) :
  codeAny (model P w) callerA (.call (.ref fa) ⟨[.ref a],[]⟩) (λr g=>r=.ok (.ret (.bool true))/\OldK c.heap g.heap/\g.os=c.os/\AllBare g.gens) c:=by
 have O:=vV M;have KJ:=M.length;have E:∀H:Hp,Zq H->SqL K H a (i.map V.int)->HOk P w H c.heap->(∀b,H b≠none->b=a)->(H a≠none->K.lookup a=none) →
   codeAny (model P w) callerA (.call (.ref fa) ⟨[.ref a],[]⟩) (λr g=>r=.ok (.ret (.bool true))/\OldK c.heap g.heap/\g.os=c.os/\AllBare g.gens) c:=by
  intro H Q hS G R hK;have S:∀ {b:TD}{o:Obj},c.heap.get? b=some o->H b=none->(wU c.heap H).get? b=some o:=λe n=>Ki e n
  have EE:∀ {b:TD}{o:Obj}{j:Array DictEntry}{l:Nat},c.heap.get? b=some o->o.data=.dict j l->H b=none:=λ{b o j l} e d=>by
   cases q:H b with
   | none=>rfl
   | some u=>
    have C:b=a:=R b (by rw[q];simp);subst C;rw[t]at e;cases e;have d':Data.seq vs.toArray _=Data.dict j l:=d;cases d'
  have y:∀ {b:TD}{m:V0},c.heap.Ns b m->(wU c.heap H).Ns b m:=λ{b m} ⟨o,j,l,e,d,r⟩=>⟨o,j,l,S e (EE e d),d,r⟩
  have T:K.In (wU c.heap H):=λb o e=>S (J b o e) (by
   cases q:H b with
   | none=>rfl
   | some u=>
    have C:b=a:=R b (by rw[q];simp);subst C;rw[hK (by rw[q];simp)]at e;cases e)
  have hM:Mod K mg (wU c.heap H):=⟨T,y L,⟨B,y f,Y⟩,let ⟨mc,h1,h2⟩:=Z;⟨mc,y h1,h2⟩⟩;have e0:Env0 P w K mg (wU c.heap H) callerA [] c H:=⟨rfl,hM,λb o e=>Ru e,le_of_eq (Gq _ _),trivial,λb f=>QZW (show b∈([]:List TD) from f) Zs,G,.of_eq hg⟩;refine codeAny_mono ((F _ T (y L)).run callerA [] c H ⟨[.ref a],[]⟩ [.ref a] [.ref a] _ _ hr e0 (EL c (.ref a)) (.cons rfl .nil) (xa H Q hS)) λr g h=>?_
  cases r with
  | error e=>exact(KH H e g h).elim
  | ok fl=>
   cases fl with
   | next=>exact False.elim h
   | brk=>exact False.elim h
   | cont=>exact False.elim h
   | ret u=>
    obtain⟨v,H',os,X,un,KN,r',q⟩:=h;have q':v=.bl true:=q;subst q';obtain rfl:u=Value.bool true:=r';refine⟨rfl,OldK.of_keep λb o e=>?_,os,X⟩
    cases q:H b with
    | none=>exact un.keep b o e q (by intro z;exact QZW (show b∈([]:List TD) from z) Zs) Zs
    | some u=>
     rcases Q b with z|⟨ob,xs,z⟩
     ·rw[q]at z;cases z
     ·have z2:=un.frzs b ob _ z;obtain⟨U,_⟩:=G b _ z;obtain⟨e2,_⟩:=KN b _ z2;rw[e]at U;cases U;exact e2
 cases D:K.lookup a with
 | some o=>
  have e:=J a o D;rw[t]at e;cases e;refine E (λ_=>none) (λ_=>.inl rfl) (.inr ⟨_,vs.toArray,_,D,rfl,rfl,rfl,by rw[gM,KJ];exact N,by simpa using O⟩) (λb u z=>by have p:(none:Option HO)=some u:=z;cases p) (λb z=>QZW rfl z) λz=>QZW rfl z
 | none=>
  refine E (λb=>if b=a then some (.frz {cls:=.type "list",data:=.seq vs.toArray } (.lst (i.map V.int))) else none) (λb=>?_) (.inl (.inr ⟨{cls:=.type "list",data:=.seq vs.toArray },QZY rfl⟩)) (λb u z=>?_) (λb z=>?_) λ_=>D
  ·by_cases f:b=a
   ·exact .inr ⟨_,_,QZY f⟩
   ·exact .inl (QZX f)
  ·by_cases f:b=a
   ·have p:=(QZY f).symm.trans z;cases p;subst f;exact⟨t,by rw[aS];exact N,vs,_,O,t⟩
   ·have p:=(QZX f).symm.trans z;cases p
  ·by_cases f:b=a
   ·exact f
   ·exact QZW (QZX f) z
def Eo{l:W.OpenLaw}{n k:Nat}{q:Program}{o:List Str}{t:(Str->Option Q4)->Heap->Prop}{j:World->Heap->Prop}{d:DefRec}{K:Params->W.Frag}{CX:World->Rs}{sp:World->Sp}{x:Str}(y:l.most=some n)(z:n<=sizeLine)(A:d.params.defaults=[])(B:Room k callerA)(C:∀(w:World)(h:Heap),j w h->(K w.params).In h)(F:∀(w:World)(mg:V0)(fa:TD)(h:Heap),(K w.params).In h->h.Ns mainGlobals mg->mg d.name=some (.ref fa) →
   ∃c:FuncData,(∀(s:QZZ)(u:Q4),BindsTo s c ⟨[u],[]⟩ [(x,u)]) ∧
    ∀base:Heap,(K w.params).In base->base.Ns mainGlobals mg->lE l.prog w (K w.params) mg base (CX w) k fa c [x] (sp w))(D:∀(w:World)(H:Hp)(a:TD)(b:List Int),b.length<=n->Zq H->SqL (K w.params) H a (b.map V.int)->sp w [.ref a] H (λv _=>v=.bl true) λ_ _ _=>False)(E:∀(w:World)(H:Hp)(s:QZZ)(e:Q4)(g:QZZ),CX w [] H s (λ_ _ _=>False) e g->False) :
  W.WalkO q o t j l.row.toRowW d [] (λf vs=>PySem.call f vs):=by
 refine OD.attach_call y A λw Q r mg S fa a0 T U R a vs b G Y X Z V5 I J p i L=>?_;have m:=C w _ Y;obtain⟨c,M,N⟩:=F w mg fa _ m G.T.g I;exact Lz m G.T.g G.T.b G.T.builtins G.T.nolimit L J p (gL i z) B N M (λH O P=>D w H a b i O P) λH e g=>E w H r e g
end L2
/- THE UZ HY (shape;LID,My.* are OF):
   My.Adr: a structure of the addresses that VA OG names (classes,CS);My.Txt K t: a structure (Prop) of the equations over K;
   My.txt_mk:{K} {implicit addresses ..} (e1:nsIn K mainGlobals "law"=some (some (.ref f))) (e2:K.lookup f=some ⟨oc,od,.func (fnOf "law" "law" params body scope dV kV doc pm an cdv ct),sl⟩) (e3:codeIn K cdv "law"=true) ..:∃t,My.Txt K t
set_option maxRecDepth 100000 in
set_option maxHeartbeats 0 in
def PySem.Challenge.cw_LID_holds : PySem.Challenge.rw_LID.Holds := by
 w_on;o_law;k_head;(case hw=>w_witness2)
 k_fill
 refine L2.Eo (l:=PySem.Challenge.rw_LID) (n:=63) (k:=40) (x:="script") (CX:=λw=>..) (sp:=λ_=>My.sp_law) rfl Zd rfl ⟨rfl,Zd,Zd⟩ (λw h Y=>W.kIn_of Y) ?F ?S ?C
 case F=>
  intro w mg fa h KX G zg;have T:∃t,My.Txt (L2.KOf KX) t:=by
   dsimp only [L2.KOf]                          -- K VB OH as «<heap const> w.params» for k_is
   refine' My.txt_mk ?e1 ?e2 ?e3 ..
   (case e1=>W.k_is)                    -- in the order: a name->its address->its object->its parts
   (case e2=>W.k_is)
   ..
  obtain⟨t,T⟩:=T;have e0:=zg.symm.trans (W.mg_of KX G T.law);cases e0                                       -- fa is the OI own address;exact⟨_,λs u=>.of_eq rfl,λbase kb nb=>My.law_fn T kb nb⟩     -- if «.of_eq rfl» comes too early: refine' ⟨_,?b,λbase kb nb=>My.law_fn T kb nb⟩;exact λs u=>.of_eq rfl
 case S=>exact λw H a ns hl hO hS=>..
 case C=>exact ..
(the tactic k_is has no namespace: write k_is) -/
namespace L2
open PySem PySem.Spec PyProof.Rows
def fT(s:Stmt)(j:Nat):Stmt:=match s with
 | .ClassDef _ _ _ a _ _ _ _ _ _ _=>a.getD j (.Pass ⟨0,0,0,0⟩)
 | _=>.Pass ⟨0,0,0,0⟩
def cG(s:Stmt):Arguments:=match s with
 | .FunctionDef _ a _ _ _ _ _ _ _ _=>a
 | _=>{posonlyargs:=[],args:=[],vararg:=none,kwonlyargs:=[],kw_defaults:=[],kwarg:=none,defaults:=[] }
def bF(s:Stmt):List Stmt:=match s with
 | .FunctionDef _ _ b _ _ _ _ _ _ _=>b
 | _=>[]
def aB(s:Stmt):Scope:=match s with
 | .FunctionDef _ _ _ _ _ _ sc _ _ _=>sc
 | _=>{kind:=.function,names:=[],isGenerator:=false,isCoroutine:=false }
abbrev sO:Rs:=λ_ _ _ _ _ _=>False
abbrev E0:XK:=λ_ _ _=>False
def zD{X:Cx}:pO sO X E0:=λ_ _ _ _ _ _ _ h=>h.elim
structure Fun(K:W.Frag)(x qual:Str)(st:Stmt)(f:TD)(fd:FuncData):Prop where
 ex:∃(oc:Q4)(od:Option TD)(kV doc pm:Q4)(an:Option TD)(cdv ct:Q4)(osl:Array (Option Q4)),
  fd=W.fnOf x qual (cG st) (bF st) (aB st) .none kV doc pm an cdv ct/\K.lookup f=some ⟨oc,od,.func fd,osl⟩/\W.codeIn K cdv qual=true
 kp:W.keepIn K (.ref f)=true
section
variable {P:Program}{w:World}{K:W.Frag}{mg:V0}{base:Heap}
def Fun.ok{x b:Str}{st:Stmt}{f:TD}{c:FuncData}{N ps:List Str}{k:Nat}{sp:Sp}(F:Fun K x b st f c)(S:aK N ps (aB st))(len:∀vs H Q E,sp vs H Q E->vs.length=ps.length)(d:∀(a:Q4)(A:Around)(outer:List Env)(s:QZZ)(H:Hp)(vs:List V)(Q:VK)(E:XK),Room k (A.deeper (envOfC b (aB st) s.heap.objs.size f a))->sp vs H Q E →
   ∃t,PSs (nB sO P w K mg base N b (aB st) f a A outer s H E).nox (bF st) t/\t {nx:=λ_ e=>Q .non e,rt:=Q } (start N vs) H):lE P w K mg base sO (k+1) f c ps sp:=by
 obtain⟨n,o,kV,l,p,r,a,u,m,rfl,lk,g⟩:=F.ex;refine Wm lk g S len λA outer s H vs Q E i j=>?_;obtain⟨t,h,q⟩:=d a A outer s H vs Q E i j;exact⟨t,h.nox,q⟩
def Fun.binds{x g:Str}{st:Stmt}{f:TD}{i:FuncData}{ps:List Str}(F:Fun K x g st f i)(h:∀(kV a c:Q4)(d:Option TD)(b e:Q4)(us:List Q4),us.length=ps.length->bindArgs (W.fnOf x g (cG st) (bF st) (aB st) .none kV a c d b e) ⟨us,[]⟩=pure (ps.zip us)):Binds K i ps []:=by
 obtain⟨k,l,kV,a,c,d,b,e,j,rfl,lk,m⟩:=F.ex;exact .all (h kV a c d b e)
def sP{x a:Str}{st:Stmt}{f:TD}{j:Q4}{m e:Option TD}{i:Array (Option Q4)}{kV d g b h:Q4}(l:K.lookup f=some ⟨j,m,.func (W.fnOf x a (cG st) (bF st) (aB st) .none kV d g e b h),i⟩)(c:W.codeIn K b a=true)(k:W.keepIn K (.ref f)=true):Fun K x a st f (W.fnOf x a (cG st) (bF st) (aB st) .none kV d g e b h):=⟨⟨j,m,kV,d,g,e,b,h,i,rfl,l,c⟩,k⟩
end
def dH{A:Around}{k:Nat}(a:Room k A):A.units+1<cLine:=oC (Nat.add_le_add_left (by decide:1<=64) _) a.units
section
variable {X:Cx}
def Ib:CallR X (.builtin "len") (λxs H Q=>∃a kvs,xs=[V.ref a]/\H a=some (.dK kvs)/\Q (.int kvs.length) H):=by
 intro e s i H xs f Q I r h;obtain⟨a,kvs,rfl,b,q⟩:=h;obtain⟨u,rfl,c⟩:=iJ r;cases c;exact aBJ I (.inl b) λt g d=>⟨.int kvs.length,H,d,⟨t,rfl⟩,q⟩
end
def Same(H a:Hp):Prop:=∀b o,H b=some o->a b=some o
def Same.refl(H:Hp):Same H H:=λ_ _ h=>h
def Same.trans{H d H2:Hp}(a:Same H d)(b:Same d H2):Same H H2:=λc o h=>b c o (a c o h)
def Same.free{H a:Hp}(e:Same H a){l:TD}(h:a l=Option.none):H l=Option.none:=by
 cases q:H l with
 | none=>rfl
 | some o=>
  rw[e l o q]at h;cases h
def Same.seq{K:W.Frag}{H b:Hp}{a:TD}{xs:List V}(e:Same H b)(h:SqL K H a xs):SqL K b a xs:=by
 rcases h with(h|⟨o,h⟩)|h
 ·exact .inl (.inl (e _ _ h))
 ·exact .inl (.inr ⟨o,e _ _ h⟩)
 ·exact .inr h
section
variable {κ:Type} [DecidableEq κ]
def zE{kvs:List (κ×V)}{k:κ}(h:bB kvs k=none):¬ k∈kvs.map (·.1):=by
 intro m;obtain⟨p,a,e⟩:=Zmm.mp m;have q:(kvs.any λb=>decide (b.1=k))=true:=any_eq_true.mpr ⟨p,a,UV e⟩;rw[dI,h]at q;exact QZW q Zs
def Ep{kvs:List (κ×V)}{k:κ}{v:V}(h:bB kvs k=some v):k∈kvs.map (·.1):=by
 have q:(kvs.any λa=>decide (a.1=k))=true:=by
  rw[dI,h];all_goals rfl
 obtain⟨p,b,e⟩:=any_eq_true.mp q;exact Zmm.mpr ⟨p,b,U6 e⟩
def xI:∀ {l:List κ}{k:κ},l.Nodup->¬ k∈l->(l++[k]).Nodup
 | [],k,_,_=>by simp
 | a::r,k,h,b=>by
  obtain⟨c,d⟩:=nodup_cons.mp h;show(a::(r++[k])).Nodup;refine nodup_cons.mpr ⟨λm=>?_,xI d λm=>b (mem_cons.mpr (Or.inr m))⟩;rcases Zma.mp m with q|q
  ·exact c q
  ·exact b (mem_cons.mpr (Or.inl (Zms.mp q).symm))
def Td{kvs:List (κ×V)}{k:κ}(v:V)(a:(kvs.map (·.1)).Nodup)(h:bB kvs k=none):((bI kvs k v).map (·.1)).Nodup:=by
 rw[lI v h,dW];exact xI a (zE h)
end
def lJ(env:Env):List (Str×NameKind)->List (Str×TD)->List (Str×TD)
 | [],a=>a
 | (n,k)::r,a=>lJ env r (if k=.free then (match env.cells.lookup n with|some c=>(n,c)::a|none=>a) else a)
theorem nK{env:Env}:∀(names:List (Str×NameKind))(a:List (Str×TD)),(∀x∈names,x.2=.free->∃c,env.cells.lookup x.1=some c) →
  (forIn names a λ(x:Str × NameKind) (r:List (Str × Addr))=>(do
   if x.2 == .free then do
    let c←cellOf env x.1
    pure (ForInStep.yield ((x.1,c)::r))
   else pure (ForInStep.yield r):Sem _))=pure (lJ env names a)
 | [],a,_=>rfl
 | (n,k)::r,a,h=>by
  rw[forIn_cons];by_cases b:k=.free
  ·subst b;obtain⟨c,f⟩:=h (n,.free) gJ rfl;have e:env.cells.lookup n=some c:=f;have g:cellOf env n=pure c:=by unfold cellOf;rw[e]
   simp only [beq_self_eq_true,if_true,g,pure_bind];rw[nK r ((n,c)::a) λx d=>h x (kY _ d)];simp[lJ,e]
  ·have i:(k==NameKind.free)=false:=by simpa using b
   simp only [i,Bool.false_eq_true,if_false,pure_bind];rw[nK r a λx d=>h x (kY _ d)];simp[lJ,b]
def sQ{a:Scope}{env:Env}(h:∀x∈a.names,x.2=.free->∃c,env.cells.lookup x.1=some c):closureFor a env=pure (lJ env a.names []):=by
 have e:=nK a.names [] h;unfold closureFor;exact(congrArg (λz=>z>>=λ(r:List (Str×TD))=>(pure r:Sem _)) e).trans (pure_bind _ _)
theorem zF{env:Env}:∀(names:List (Str×NameKind))(b:List (Str×TD)),(∀y d,(y,d)∈b->env.cells.lookup y=some d)->∀y d,(y,d)∈lJ env names b->env.cells.lookup y=some d
 | [],_,h=>h
 | (n,k)::r,b,h=>by
  unfold lJ;refine zF r _ λy d a=>?_
  split at a
  ·split at a
   ·rename_i c f;rcases mem_cons.mp a with e|e
    ·cases e;exact f
    ·exact h y d e
   ·exact h y d a
  ·exact h y d a
def Er{env:Env}:∀(names:List (Str×NameKind))(a:List (Str×TD))(y:Str)(d:TD),(y,d)∈lJ env names a->(y,.free)∈names∨(y,d)∈a
 | [],_,_,_,h=>.inr h
 | (n,k)::r,a,y,d,h=>by
  unfold lJ at h;rcases Er r _ y d h with e|hm
  ·exact .inl (kY _ e)
  ·split at hm
   ·rename_i b;split at hm
    ·rcases mem_cons.mp hm with e|e
     ·cases e;subst b;exact .inl gJ
     ·exact .inr e
    ·exact .inr hm
   ·exact .inr hm
theorem Ma{env:Env}:∀(names:List (Str×NameKind))(a:List (Str×TD))(y:Str),((∃d,(y,d)∈a)∨(y,.free)∈names)->(∀x∈names,x.2=.free->∃c,env.cells.lookup x.1=some c)->∃d,(y,d)∈lJ env names a
 | [],_,_,h,_=>by
  rcases h with h|h
  ·exact h
  ·cases h
 | (n,k)::r,a,y,h,f=>by
  unfold lJ;refine Ma r _ y ?_ λx g=>f x (kY _ g)
  rcases h with⟨d,b⟩|h
  ·refine .inl ⟨d,?_⟩;split
   ·split
    ·exact kY _ b
    ·exact b
   ·exact b
  ·rcases mem_cons.mp h with e|e
   ·have i:y=n:=congrArg Prod.fst e;have j:NameKind.free=k:=congrArg Prod.snd e;subst i j;obtain⟨c,l⟩:=f (y,.free) gJ rfl;have m:env.cells.lookup y=some c:=l;refine .inl ⟨c,?_⟩;rw[QZY rfl,m];exact gJ
   ·exact .inr e
theorem sR{a:Type}:∀ {l:List (Str×a)}{y:Str}{d:a},(y,d)∈l->∃d',l.lookup y=some d'/\(y,d')∈l
 | (n,c)::r,y,d,h=>by
  by_cases e:y=n
  ·subst e;exact⟨c,by simp[lookup_cons],gJ⟩
  ·rcases mem_cons.mp h with q|q
   ·cases q;exact QZW rfl e
   ·obtain⟨d',b,f⟩:=sR q;have g:(y==n)=false:=by simpa using e
    exact⟨d',by rw[lookup_cons,g];exact b,kY _ f⟩
def eU{env:Env}{names:List (Str×NameKind)}{y:Str}{c:TD}(h:(lJ env names []).lookup y=some c):env.cells.lookup y=some c/\(y,.free)∈names:=by
 have a:=PySem.mem_of_lookup h;refine⟨zF names [] (λ_ _ z=>nomatch z) y c a,?_⟩;rcases Er names [] y c a with e|e
 ·exact e
 ·cases e
def Es{env:Env}{names:List (Str×NameKind)}{y:Str}(h:(y,.free)∈names)(b:∀x∈names,x.2=.free->∃c,env.cells.lookup x.1=some c):∃c,(lJ env names []).lookup y=some c/\env.cells.lookup y=some c:=by
 obtain⟨d,e⟩:=Ma names [] y (.inr h) b;obtain⟨c,a,_⟩:=sR e;exact⟨c,a,(eU a).1⟩
def xJ{a:Scope}{env:Env}(d:∀y∈a.names,y.2≠.cell){x:Str}(h:(relabel a env).names.lookup x=some .cell∨(relabel a env).names.lookup x=some .free):(x,.free)∈a.names:=by
 have go:∀ {k:NameKind},k=.cell∨k=.free->(relabel a env).names.lookup x=some k->(x,.free)∈a.names:=λ{k} f h=>by
  have c:=PySem.mem_of_lookup h;unfold relabel at c;obtain⟨⟨n,j⟩,b,e⟩:=Zmm.mp c;dsimp only at e;split at e
  ·rename_i g;cases e;have:j=.free:=by
    have:=(Bool.and_eq_true_iff.mp (Bool.and_eq_true_iff.mp g).1).1;simpa using this
   subst this;exact b
  ·cases e;rcases f with q|q
   ·exact QZW q (d _ b)
   ·subst q;exact b
 rcases h with h|h
 ·exact go (.inl rfl) h
 ·exact go (.inr rfl) h
theorem oH{env:Env}:∀ {names:List (Str×NameKind)}{x:Str},names.lookup x=some .free →
  (names.map λ(n,k)=>if (k==NameKind.free&&env.scope.kind == .function&&env.kindOf n==some .cell) then (n,NameKind.cell) else (n,k)).lookup x=some .cell∨
  (names.map λ(n,k)=>if (k==NameKind.free&&env.scope.kind == .function&&env.kindOf n==some .cell) then (n,NameKind.cell) else (n,k)).lookup x=some .free
 | [],_,h=>by simp at h
 | (n,k)::r,x,h=>by
  have b:=@oH env r x;rw[map_cons];dsimp only;cases a:x==n with
  | true=>
   simp only [lookup_cons,a]at h;cases h;split
   ·left;simp[lookup_cons,a]
   ·right;simp[lookup_cons,a]
  | false=>
   simp only [lookup_cons,a]at h;split
   ·simp only [lookup_cons,a];exact b h
   ·simp only [lookup_cons,a];exact b h
def pI(X:Cx)(a:Scope)(C:TD)(N:List Str)(b:QZZ)(c:Hp)(fp:List TD):Cx where
 prog:=X.prog
 w:=X.w
 K:=X.K
 mg:=X.mg
 base:=X.base
 A:=X.A
 N:=N
 s₀:=b
 H₀:=c
 env:=compEnvC a (lJ X.env a.names []) C X.env
 outer:=X.stack
 stack:=X.stack
 ex:=fp
 fn:=λ_=>false
 calm:=X.calm
 pn:=[]
 xe:=λ_ _=>False
def xK(js:List (Option Nat))(a:St):St:=js.map λo=>match o with|some j=>(a[j]?).getD none|none=>none
structure CompScope(X:Cx)(scope:Scope)(N:List Str)(js:List (Option Nat)):Prop where
 kind:scope.kind=.function
 nocell:∀y∈scope.names,y.2≠.cell
 loc:∀y∈scope.names,y.2=.local->scope.names.lookup y.1=some .local
 len:js.length=N.length
 cap:∀(i j:Nat),js[i]?=some (some j)->∃x,N[i]?=some x/\X.N[j]?=some x/\scope.names.lookup x=some .free
 out:∀y∈scope.names,y.2=.free->X.env.kindOf y.1=some .cell∨X.env.kindOf y.1=some .free
def Bz(js:List (Option Nat))(g:TG):Prop:=∀x a H Q,g x a H Q->g x a H λb c=>Q b c/\b.length=a.length/\∀(i j:Nat),js[i]?=some (some j)->b[i]?=a[i]?
def Et(js:List (Option Nat))(g:Ec):Prop:=∀c a H Q,g c a H Q->g c a H λb d=>Q b d/\b.length=a.length/\∀(i j:Nat),js[i]?=some (some j)->b[i]?=a[i]?
def aQ{js:List (Option Nat)}{k:Nat}(h:js[k]?=some none):Bz js (aJ k):=λx a H Q q=>by
 refine⟨q,Zs,λi j e=>?_⟩;have:k≠i:=λz=>by subst z;rw[h]at e;cases e
 rw[List.getElem?_set_ne this]
def pS{js:List (Option Nat)}:Et js Yh:=λa b H Q q=>⟨q.1,q.2,rfl,λ_ _ _=>rfl⟩
def fM{js:List (Option Nat)}{k:Nat}{u:Ec}(h:js[k]?=some none)(m:Et js u):Et js (Km (aJ k) u):=λs f H Q q=>by
 obtain⟨v,r,e,q⟩:=q;refine⟨v,r,e,?_⟩;obtain⟨_,n⟩:=aQ h v f H (λ_ _=>True) trivial;have o:=m r _ _ _ q;have p:(λd g=>Q d g/\d.length=(f.set k (some v)).length/\∀(i j:Nat),js[i]?=some (some j)->d[i]?=(f.set k (some v))[i]?)=(λd (g:Hp)=>Q d g/\d.length=f.length/\∀(i j:Nat),js[i]?=some (some j)->d[i]?=f[i]?):=by
  funext d g
  have l:∀(i j:Nat),js[i]?=some (some j)->(f.set k (some v))[i]?=f[i]?:=n.2;apply propext;constructor
  ·rintro⟨a,b,c⟩;exact⟨a,by simpa using b,λi j e=>(c i j e).trans (l i j e)⟩
  ·rintro⟨a,b,c⟩;exact⟨a,by simpa using b,λi j e=>(c i j e).trans (l i j e).symm⟩
 show u r (f.set k (some v)) H _;rw[<- p];exact o
def sU{K:W.Frag}{n:Nat}{js:List (Option Nat)}{t:Ec}(h:Et js t):Bz js (Sf K n t):=λx f H Q q=>by
 obtain⟨a,b,e,c,d,q⟩:=q;exact⟨a,b,e,c,d,h b f H Q q⟩
section
variable {X:Cx}{pins:ZB}{σ:St}{H H':Hp}{s:QZZ}
def Un.more{fs e:List TD}{H H':Hp}{h h':Heap}{D:TD}{o:HO}(u:Un fs e H H' h h')(f:h.get? D=none)(a:H D=none):Un fs e H (aI H' D o) h h' where
 keep:=u.keep
 slot:=u.slot
 free:=λb c q n g=>by
  have:b≠D:=λz=>by rw[z,f]at q;cases q
  rw[aD this];exact u.free b c q n g
 there:=u.there
 tups:=λb d q=>by rw[aD (aF q a)];exact u.tups b d q
 frzs:=λb c d q=>by rw[aD (aF q a)];exact u.frzs b c d q
 tbls:=λb ps q=>by rw[aD (aF q a)];exact u.tbls b ps q
def HOk.more{P:Program}{w:World}{h:Heap}{D:TD}{o:HO}(k:HOk P w H h)(a:H D=none)(new:ObjOk P w (aI H D o) h D o):HOk P w (aI H D o) h:=λb u e=>by
 by_cases d:b=D
 ·subst d;rw[aA]at e;cases e;exact new
 ·rw[aD d]at e;exact(k b u e).stay (λ_ _ _ q=>q) (λc q=>by rw[aD (aF q a)];exact q) λc f q=>by rw[aD (aF q a)];exact q
def CompScope.ok{f:Scope}{N:List Str}{js:List (Option Nat)}{C:TD}{fp:List TD}(S:CompScope X f N js)(I:Inv X pins σ H s)(i:s.heap.objs.size<=C)(d:∀b∈fp,pL X pins H b)(j:∀b∈fp,b<s.heap.objs.size) :
  (pI X f C N s H fp).Ok where
 mod:=I.ok.mod
 kind:=S.kind
 glob:=I.ok.glob
 blt:=I.ok.blt
 above:=i
 inj:=λx y c g k=>I.ok.inj x y c (eU g).1 (eU k).1
 has:=λx l=>by
  have h:(x,.free)∈f.names:=xJ S.nocell l;obtain⟨c,g,_⟩:=Es (env:=X.env) h λy m n=>I.ok.has y.1 (S.out y m n)
  exact⟨c,g⟩
 cab:=λx c z=>nomatch z
 hd:=I.ok.hd
 frames:=I.ok.frames
 stk:=.inl rfl
 exf:=λb a=>⟨ne_of_lt (QZS (j b a) i),λx c e=>(d b a).2.2.2.2.1 x c (eU e).1⟩
 bs:=I.bs
 bsz:=gL I.ok.bsz I.sz
 noex:=λb o e a=>by
  rcases(d b a).2.2.2.1 with z|z
  ·exact I.ok.noex b o e z
  ·exact QZW (QZS (Heap.lt_size e) (gL I.ok.bsz z)) (lt_irrefl _)
 exfs:=λb a h=>by
  rcases mem_cons.mp (I.stkSub b h) with z|z
  ·exact(d b a).2.1 z
  ·exact(d b a).2.2.1 z
 funs:=I.stack
 frf:=I.stkFree
def CompScope.start{n:Scope}{N:List Str}{js:List (Option Nat)}{C D:TD}{fp:List TD}{h:Obj}{h₁:Heap}{m:V0}{tk:Nat}(S:CompScope X n N js)(I:Inv X pins σ H s)(A:s.heap.objs.size<=C)(r:s.heap.objs.size<=D)(L:D≠C)(M:∀b∈fp,pL X pins H b)(O:∀b∈fp,b<s.heap.objs.size)(k:∀b o,s.heap.get? b=some o->h₁.get? b=some o)(P:h₁.Ns C m)(Q:h₁.get? D=some h)(R:∀v,h.data≠.cell v) :
  Inv (pI X n C N s H fp) [(D,h)] (xK js σ) H {s with heap:=h₁,toks:=tk } where
 ok:=S.ok I A M O
 os:=rfl
 bare:=I.bare
 base:=Un.kept k
 loc:=by
  refine⟨m,P,λi x v t a h3=>?_⟩;have t:N[i]?=some x:=t;unfold xK at a;rw[fK]at a;cases e:js[i]? with
  | none=>rw[e]at a;cases a
  | some o=>
   rw[e]at a;cases o with
   | none=>cases a
   | some j=>
    have l:(σ[j]?).getD none=some v:=Option.some.inj a;have K:σ[j]?=some (some v):=by
     cases q:σ[j]? with
     | none=>rw[q]at l;cases l
     | some z=>rw[q]at l;exact congrArg some l
    obtain⟨y,B,T,E⟩:=S.cap i j e;rw[t]at B;cases B;have F:(x,.free)∈n.names:=PySem.mem_of_lookup E;have G:=S.out (x,.free) F rfl;obtain⟨mX,_,U⟩:=I.loc;have V:Vis X.env.scope x:=by
     rcases G with z|z
     ·exact .inr (.inl z)
     ·exact .inr (.inr z)
    obtain⟨a0,a1,a2⟩:=U j x v T K V;refine⟨a0,a1,.inr ?_⟩;rcases a2 with⟨d,_⟩|⟨d,c,W,Y⟩
    ·rcases G with z|z
     ·have f:X.env.kindOf x=some .cell:=z;rw[d]at f;cases f
     ·have f:X.env.kindOf x=some .free:=z;rw[d]at f;cases f
    ·obtain⟨c',Z,J⟩:=Es (env:=X.env) F λy hy d=>I.ok.has y.1 (S.out y hy d)
     rw[W]at J;cases J;refine⟨oH E,c,Z,?_⟩;obtain⟨g,u,w⟩:=Y;exact⟨g,k c g u,w⟩
 cell:=λx c e=>by
  obtain⟨v,g,u,w⟩:=I.cell x c (eU e).1;exact⟨v,g,k c g u,w⟩
 free:=I.hok.fresh A
 freeC:=λx c e=>I.freeC x c (eU e).1
 pin:=λp hp=>by
  have e:p=(D,h):=by
   rcases Zma.mp hp with z|z
   ·exact QZW (show p∈([]:List (TD×Obj)) from z) Zs
   ·simpa using z
  subst e;refine⟨Q,I.hok.fresh r,L,λhm=>?_,R⟩;rcases mem_cons.mp (I.stkSub D hm) with z|z
  ·have z:D=X.env.locals:=z;have:=I.lt;rw[<- z]at this;exact QZW (QZS this r) (lt_irrefl _)
  ·exact I.nofs r z
 hok:=I.hok.kept k
 len:=by
  unfold xK;rw[aS];exact S.len
end
def PTs(X:Cx)(d:List Expr)(t:TT):Prop:=
 ∀(b:ZB)(s:QZZ)(a:St)(H:Hp)(Q:Bool->Hp->Prop)(E:XV),Inv X b a H s->t a H Q →
  wpAny (model X.prog X.w) X.A (forIn d true λc r=>if r=true then do let ok←isTrue c X.env (eval c X.env);pure (ForInStep.yield ok) else pure (ForInStep.yield r)) (TP X b a Q) E s
def Mb:TT:=λ_ H Q=>Q true H
def Te{X:Cx}:PTs X [] Mb:=λa s b H Q E I h=>wpAny_tests_nil ⟨H,I,h⟩
def Tf{X:Cx}{c:Expr}{t:TT}(h:PT X c t)(b:X.xe=λ_ _=>False:=by rfl):PTs X [c] t:=λa s d H Q E I q=>
 wpAny_tests_one (wpAny_mono (h a s d H Q I q) (λ_ _ z=>z) λe f z=>by rw[b]at z;exact z.elim)
def iK(js:List (Option Nat))(g:TG)(j:TT)(k:TE)(p:St)(J:It)(l:Hp)(Q:List V->Hp->Prop):Prop:=
 ∃W:Nat->Nat->List V->Hp->Prop,(∃m,W 0 m [] l)/\∀i m a H,W i m a H →
  (J.stop i H/\Q a H)∨
  (J.go i H/\a.length<sizeLine/\∃N:List V->Hp->Prop,(∀e c,N e c->∃f,f<m/\W (i+1) f e c) ∧
   ∀x c,J.yld i H x c->g x (xK js p) c λd n=>j d n λb h=>if b=true then k d h λy o=>N (a++[y]) o else N a h)
def Wr(c:TI)(js:List (Option Nat))(g:TG)(d:TT)(e:TE):TE:=λb H Q=>c b H λJ f=>
 iK js g d e b J f λh a=>∀p,a p=none->Q (.ref p) (aI a p (.lst h))
def Ws(i:Nat)(c:TI)(js:List (Option Nat))(g:TG)(d:TT)(e:TE):TS:=λD a H=>c a H λJ f=>
 iK js g d e a J f λh b=>∀p,b p=none->D.nx (a.set i (some (.ref p))) (aI b p (.lst h))
section
variable {X:Cx}{tg iter elt:Expr}{ifs:List Expr}{scope:Scope}{N:List Str}{js:List (Option Nat)}{wi:TI}{g:TG}{tt:TT}{te:TE}{pos:Pos}
def sV{O:ZB}{h:St}{H2:Hp}{a:QZZ}{it:TD}{fp:List TD}{P:Nat->Heap->Prop}{a1:It}{Qf:List V->Hp->Prop}{RR:Q4->TD->Result->QZZ->Prop}{E:XV}(hc:X.calm=true)(S:CompScope X scope N js)(go:Bz js g)(c:∀(C:TD)(s₂:QZZ)(H₂:Hp)(fp:List TD),PG (pI X scope C N s₂ H₂ fp) tg g/\PTs (pI X scope C N s₂ H₂ fp) ifs tt/\PE (pI X scope C N s₂ H₂ fp) elt te)(K:Inv X O h H2 a)(T:sC X.prog X.w X.K tg a1 fp it P)(xj:P 0 a.heap)(f2:∀b∈fp,pL X O H2 b)(hw:iK js g tt te h a1 H2 Qf)(VE:∀(C D:TD)(ys:List V)(l:Hp)(u:QZZ)(m:V0),a.heap.objs.size<=C->a.heap.objs.size<=D->D≠C->Inv X O h (aI l D (.lst ys)) u->l C=none->l D=none->u.heap.Ns C m->Qf ys l->RR (.ref D) C (.ok .next) u) :
  wpAny (model X.prog X.w) X.A (newList []) (λacc J=>wpAny (model X.prog X.w) X.A (newFunctionEnv scope X.env.globals (lJ X.env scope.names []) [] X.env.qual none .none (some X.env)) (λEN s₄=>
   codeAny (model X.prog X.w) X.A (.compStart (.ListComp elt [⟨tg,iter,ifs,0⟩] scope pos) 0 (.ref it) acc {EN with scope:=relabel scope X.env }) (RR acc EN.locals) s₄) E J) E a:=by
 obtain⟨W,⟨m0,w0⟩,turn⟩:=hw;refine wpAny_newObj_type (wpAny_newFunctionEnv S.nocell (by intro y hy;simp at hy) (λh₁ Q R=>?_) S.kind);dsimp only at Q R ⊢;generalize KO:a.heap.push {cls:=.type "list",dict:=none,data:=.seq ([]:List Q4).toArray }=U at Q R ⊢;have hC:U.objs.size=a.heap.objs.size+1:=by rw[<- KO,Heap.size_push]
 have L:a.heap.objs.size≠U.objs.size:=by rw[hC];exact ne_of_lt (lt_succ_self _)
 have AJ:a.heap.objs.size<=U.objs.size:=by rw[hC];exact le_succ _
 have old:∀b o,a.heap.get? b=some o->h₁.get? b=some o:=λb o e=>R.extBut b o (by rw[hC];exact ne_of_lt (lt_succ_of_lt (Heap.lt_size e))) (eX _ (KO▸eX _ e))
 have uy:h₁.get? a.heap.objs.size=some {cls:=.type "list",data:=.seq ([]:List Q4).toArray 0 }:=R.extBut _ _ L (eX _ (KO▸TW _ rfl));have Y:∀b∈fp,b<a.heap.objs.size:=λb c=>by
  obtain⟨o,e,_⟩:=T.obj _ _ xj b c;exact Heap.lt_size e
 generalize OJ:a.heap.objs.size=D at L AJ uy ⊢;generalize hCn:U.objs.size=C at L AJ Q ⊢;have Z:a.heap.objs.size<=C:=by rw[OJ];exact AJ
 have w:a.heap.objs.size<=D:=le_of_eq OJ;obtain⟨pg,pt,pe⟩:=c C a H2 fp;have I0:=S.start (D:=D) (fp:=fp) (tk:=a.toks+([]:List (Str×Q4)).length) K Z w L f2 Y old Q uy (λv z=>nomatch z);have KP:∀ {I:Hp}{r:ZB},(∀b∈fp,I b=none)->(∀p∈r,p.1∉fp)->∀b∈fp,pL (pI X scope C N a H2 fp) r I b:=λhn s b c=>
  ⟨hn b c,ne_of_lt (QZS (Y b c) Z),(S.ok K Z f2 Y).exfs b c,.inl c,λx a0 e=>(f2 b c).2.2.2.2.1 x a0 (eU e).1,λp M z=>by
   rcases Zma.mp M with q|q
   ·exact QZW (show p∈([]:List (TD×Obj)) from q) Zs
   ·exact s p q (z ▸ c)⟩
 have OK:D∉fp:=λz=>QZW (QZS (Y D z) w) (lt_irrefl _)
 have one:∀ {ob:Obj},∀p∈[(D,ob)],p.1∉fp:=λp s=>by
  have e:=Zms.mp s;subst e;exact OK
 have loop:∀J:QZZ,J={a with heap:=h₁,toks:=a.toks+([]:List (Str×Q4)).length } →
   codeAny (model X.prog X.w) X.A (.compLoop (.ListComp elt [⟨tg,iter,ifs,0⟩] scope pos) 0 (.ref it) (.ref D) (compEnvC scope (lJ X.env scope.names []) C X.env)) (RR (.ref D) C) J:=by
  rintro J rfl;refine codeAny_loop rfl (λn s'=>∃(i:Nat)(ys:List V)(I:Hp)(d:List Q4)(k:Nat),Inv (pI X scope C N a H2 fp) [(D,{cls:=.type "list",data:=.seq d.toArray k })] (xK js h) I s'/\Vals ys d/\ys.length<=sizeLine/\P i s'.heap/\(∀b∈fp,I b=none)/\W i n ys I) ?_ m0 ?_
  ·refine λn u=>yE5 λi ys l d k=>yA6 λI3 rv hz EC ED w3=>?_;show wpAny _ X.A ((compTurn (.ListComp elt [⟨tg,iter,ifs,0⟩] scope pos) 0 (.ref it) (.ref D) (compEnvC scope (lJ X.env scope.names []) C X.env)).onRaise (λx=>do noteFrame x _;theTreesLotGoes x)) _ _ u;refine wpAny_noted (wpAny_noRaise ?_);rw[compTurn_list];rcases turn i n ys l w3 with⟨stop,qn⟩|⟨KQ,l9,Nx,hN,step⟩
   ·refine U9 (wpAny_standAt (U9 (cA (T.done (pI X scope C N a H2 fp) rfl rfl rfl hc i _ u (xK js h) l (λ_ _=>False) I3 (KP ED one) EC stop) ?_)));rintro a3 s4 ⟨hr,A⟩;subst hr;refine U8 ?_;have f:=A.pin (D,{cls:=.type "list",data:=.seq d.toArray k }) (by simp[pI]);obtain⟨mC,VF,_⟩:=id A.loc;have IX:Inv X O h (aI l D (.lst ys)) s4:=by
     refine K.call' (ch:=fp) A.os (Un.more A.base (Heap.get?_none_of_le w) (K.hok.fresh w)) (HOk.more A.hok f.2.1 ⟨hz,d,k,rv,f.1⟩) A.bare λb c=>?_;refine yE0 (f2 b c) (yA6 λ_ f1 _ f3 f4 f5=>?_);exact⟨f3,f1,f4,f5⟩
    exact VE C D ys l s4 mC Z w L IX A.free f.2.1 VF qn
   ·refine U9 (wpAny_standAt (U9 (cA (T.item (pI X scope C N a H2 fp) rfl rfl rfl hc i _ u (xK js h) l (λ_ _=>False) I3 (KP ED one) EC KQ) ?_)));rintro a3 s4 ⟨a4,hr,h4⟩;subst hr;refine U9 (cA h4 ?_);refine λ_ s5=>yE2 λx H5=>yA5 λI5 r5 y5 AF JX=>?_;have JY:=I5.pinned (KP JX one) (T.obj _ _ AF);refine U9 (cA (pg _ s5 (xK js h) H5 x a4 _ JY r5 (go _ _ _ _ (step x H5 y5))) ?_);rintro _ s6 ⟨σ6,H6,I6,⟨q6,l6,e6⟩⟩;have weak:∀ {r:ZB}{j:Hp}{t:QZZ},Inv (pI X scope C N a H2 fp) r σ6 j t->Inv (pI X scope C N a H2 fp) r (xK js h) j t:=λ{r j t} B=>by
     refine B.weak l6.symm λa2 v G=>?_
     cases e:js[a2]? with
     | none=>unfold xK at G;rw[fK,e]at G;cases G
     | some o=>
      cases o with
      | none=>unfold xK at G;rw[fK,e]at G;cases G
      | some j'=>rw[e6 a2 j' e];exact G
    have zi:∀ {j:Hp}{t:QZZ}{r:ZB},Inv (pI X scope C N a H2 fp) (r++sE fp s5.heap) (xK js h) j t->P (i+1) t.heap/\∀b∈fp,j b=none:=λ{j t r} B=>by
     refine⟨T.keep _ _ _ AF λb c o e=>(B.pin (b,o) (QZT _ (QZT _ (kA c e)))).1,λb c=>?_⟩;obtain⟨o,e,a5⟩:=T.obj _ _ AF b c;exact(B.pin (b,o) (QZT _ (QZT _ (kA c e)))).2.1
    refine U9 (cA (pt _ s6 σ6 H6 _ _ I6 q6) ?_);rintro ok t ⟨j,B,q7⟩
    cases ok with
    | false=>
     rw[QZX U7]at q7;refine U8 ⟨rfl,?_⟩;obtain⟨m',M,w7⟩:=hN ys j q7;have OL:=weak B;obtain⟨k1,k2⟩:=zi OL;exact⟨m',M,i+1,ys,j,d,k,OL.unpinned,rv,hz,k1,k2,w7⟩
    | true=>
     rw[QZY rfl]at q7;show wpAny _ _ ((eval elt _>>=λx=>call (.builtin "list.append") [.ref D,x]>>=λ_=>pure ())>>=λ_=>again _) _ _ _;refine U9 (U9 (cA (pe _ t σ6 j _ B q7) ?_));refine λy H=>yE2 λyv H8=>yA3 λI8 r8 q8=>?_;obtain⟨m',M,w8⟩:=hN (ys++[yv]) H8 q8;have KR:=weak I8;obtain⟨k1,k2⟩:=zi KR;have f:=KR.pin (D,{cls:=.type "list",data:=.seq d.toArray k }) (by simp[pI]);have OM:=rv.length;refine U9 (call_meets F.slot_list_append ⟨_,f.1,rfl⟩ F.entry_list_append (F.args_list_append_2 _ _) (PySem.list_append D d.toArray k y (by rw[gM];omega)) ⟨f.1,?_⟩);refine U8 (U8 ⟨rfl,m',M,i+1,ys++[yv],H8,d++[y],?_⟩);have q:=PySem.IsL.update f.1 (λz=>z.push y);have eA:d.toArray.push y=(d++[y]).toArray:=by simp
     rw[eA]at q;have I9:Inv (pI X scope C N a H2 fp) [] (xK js h) H8 H:=KR.pins_of λp s=>QZW s Zs
     have zj:∀b o,b≠D->H.heap.get? b=some o->(H.heap.update D (Obj.mapSeq λz=>z.push y)).get? b=some o:=λb o c hu=>(Heap.get?_update_other H.heap _ (Ne.symm c)).trans hu
     have VG:Inv (pI X scope C N a H2 fp) [] (xK js h) H8 {H with heap:=H.heap.update D (Obj.mapSeq λz=>z.push y),toks:=H.toks }:=I9.turned zj f.2.1 f.2.2.1 (.inr w)
      (λx a0 e z=>by
       obtain⟨v,oc,q1,q2⟩:=K.cell x a0 (eU e).1;rw[z]at q1;exact QZW (QZS (Heap.lt_size q1) w) (lt_irrefl _))
      (λp s=>by
       rcases Zma.mp s with q|q
       ·exact QZW (show p∈([]:List (TD×Obj)) from q) Zs
       ·exact QZW q Zs)
     refine⟨(if ((d++[y]).toArray).size==d.toArray.size then k else k+1),VG.pins_of λp s=>?_,rv.append (.cons r8 .nil),?_,?_,k2,w8⟩
     ·have e:=Zms.mp s;subst e;exact⟨q,f.2.1,f.2.2.1,f.2.2.2.1,λv z=>nomatch z⟩
     ·rw[lZ,length_singleton];omega
     ·exact T.keep _ _ _ k1 λb c o e=>zj b o (λz=>OK (z▸c)) e
  ·exact⟨0,[],H2,[],0,I0,.nil,zero_le _,T.keep _ _ _ xj λb _ o e=>old b o e,λb c=>(f2 b c).1,w0⟩
 exact codeAny_compStart_list (loop _ rfl) (T.self _ 0 _ _ _ (T.keep _ _ _ xj λb _ o e=>old b o e) (loop _ rfl))
def Th(r:X.calm=true)(S:CompScope X scope N js)(go:Bz js g)(t:PI X tg iter wi)(j:∀(C:TD)(f:QZZ)(i:Hp)(fp:List TD),PG (pI X scope C N f i fp) tg g/\PTs (pI X scope C N f i fp) ifs tt/\PE (pI X scope C N f i fp) elt te)(hs:∀x,foldedSetIterable iter X.env x=pure x:=by intro _;rfl):PE X (.ListComp elt [⟨tg,iter,ifs,0⟩] scope pos) (Wr wi js g tt te):=by
 intro k s n H Q I h;rw[eval_ListComp];refine wpAny_comprehension_free (use:=none) rfl hs (sQ λy u w=>I.ok.has y.1 (S.out y u w)) S.kind S.loc (cA (t k s n H _ I h) λv W A=>cA A λY Z B=>?_);revert B;refine yE5 λit fp tn a0 H2=>yA6 λe a T E f2 F=>?_;subst e;refine sV (RR:=λo C=>compPost (model X.prog X.w) X.A X.xe none (EP X k n Q) o C) r S go j a T E f2 F ?_;intro C D G J K m d hD L M O P R q;refine⟨m,R,λh' U=>?_⟩;refine⟨.ref D,aI J D (.lst G),M.turned (it:=C) (t':=K.toks) (λb a1 j e=>(U.2 b j).trans e) (by rw[aD (Ne.symm L)];exact O) ?_ (.inr (gL a.sz d)) ?_ ?_,rfl,q D P⟩
 ·exact ne_of_gt (QZS a.lt d)
 ·intro x c e z;obtain⟨v,oc,l,q2⟩:=a.cell x c e;rw[z]at l;exact QZW (QZS (Heap.lt_size l) d) (lt_irrefl _)
 ·intro p V z;have:=Heap.lt_size (a.pin p V).1;rw[z]at this;exact QZW (QZS this d) (lt_irrefl _)
def Ti{i:Nat}{y:Str}{b o:Pos}(t:X.N.Nodup)(m:X.N[i]?=some y)(u:Wh X.env.scope y)(w:X.calm=true)(S:CompScope X scope N js)(go:Bz js g)(A:PI X tg iter wi)(n:∀(C:TD)(j:QZZ)(k:Hp)(fp:List TD),PG (pI X scope C N j k fp) tg g/\PTs (pI X scope C N j k fp) ifs tt/\PE (pI X scope C N j k fp) elt te)(B:swapsWith (.ListComp elt [⟨tg,iter,ifs,0⟩] scope pos) (some (.Name y b)) o.line X.env=pure true)(hs:∀x,foldedSetIterable iter X.env x=pure x:=by intro _;rfl)(E:X.fn y=true∨X.env.scope.names.lookup y=some .local:=by first|exact .inl rfl|exact .inr rfl|assumption) :
  PS X (.Assign [.Name y b] (.ListComp elt [⟨tg,iter,ifs,0⟩] scope pos) o) (Ws i wi js g tt te):=by
 intro l s σ a0 D I a1;rw[exec_Assign_Name_used _ _ _ _ B];refine U9 (wpAny_standAt (U9 ?_));show wpAny _ X.A (do let _ ← comprehension (.ListComp elt [⟨tg,iter,ifs,0⟩] scope pos) scope X.env _ (newList []) false (eval iter X.env) (some (assign (.Name y b) X.env))) _ _ s;refine U9 (cA (wpAny_comprehension_free (use:=some (assign (.Name y b) X.env)) (Q:=λ_ f=>SP X l D .next f) rfl hs (sQ λy m F=>I.ok.has y.1 (S.out y m F)) S.kind S.loc
  (cA (A l s σ a0 _ I a1) λv s1 G=>cA G λHS s2 H=>?_)) λ_ f J=>U8 (U8 J))
 revert H;refine yE5 λit fp tn a7 H2=>yA6 λe d a2 K f2 L=>?_;subst e;refine sV (RR:=λr C=>compPost (model X.prog X.w) X.A X.xe (some (assign (.Name y b) X.env)) (λ_ f=>SP X l D .next f) r C) w S go n d a2 K f2 L ?_;intro C Da ys H3 s3 a3 h hD M O P R T a4;have cne:∀x c,X.env.cells.lookup x=some c->c≠C:=λx c e z=>by
  obtain⟨v,oc,p,q2⟩:=d.cell x c e;rw[z]at p;exact QZW (QZS (Heap.lt_size p) h) (lt_irrefl _)
 have q:C≠X.env.locals:=ne_of_gt (QZS d.lt h);show wpAny _ X.A (assign (.Name y b) X.env (.ref Da)) _ _ _;refine wpAny_assign_Name (vO (v:=.ref Da) O t m u rfl (λU V W=>?_) E);obtain⟨a,Y,Z⟩:=W;have aC:C≠a:=by
  rcases Z with z|z
  ·rw[z];exact q
  ·exact Ne.symm (cne y a z)
 refine⟨a3,T.sameBut Y aC,λh' KS=>?_⟩;refine⟨_,_,V.turned (it:=C) (t':=U.toks) (λa5 a8 n e=>(KS.2 a5 n).trans e) (by rw[aD (Ne.symm M)];exact P) q (.inr (gL d.sz h)) cne ?_,a4 Da R⟩;intro a6 hp z;have:=Heap.lt_size (d.pin a6 hp).1;rw[z]at this;exact QZW (QZS this h) (lt_irrefl _)
end
def Its(x:Str):It:=⟨λi _=>i<x.cps.size,λi H v a=>a=H/\∃c,x.cps[i]?=some c/\v=.str ⟨#[c]⟩,λi _=>x.cps.size<=i⟩
def Ca{P:Program}{w:World}{K:W.Frag}{G:Expr}(it:TD)(x:Str)(t:Tok):sC P w K G (Its x) [it] it (λi h=>h.IsStrIter it "str_ascii_iterator" x t i) where
 mem:=by simp
 obj:=λi h st b a=>by
  have e:b=it:=by simpa using a
  subst e;obtain⟨o,e,c,d⟩:=st;exact⟨o,e,λv z=>by rw[d]at z;cases z⟩
 keep:=λi h f st k=>let ⟨o,J,r⟩:=st;⟨o,k it Zs o J,r⟩
 item:=by
  intro X l m n C i B s F H E I g st p;subst l m n;refine yE0 (g it Zs) (yA6 λq f1 f2 u y A=>?_);have j:i<x.cps.size:=p;refine wpAny_pyNext_ascii_item st (c:=x.cps[i]) (by simp[j]) λf D L=>?_;have M:Inv X B F H {s with heap:=f,toks:=s.toks+1 }:=I.turned (λb o a e=>(L.2 b a).trans e) q f1 u y A;obtain⟨o,e,c,d⟩:=id D;exact⟨_,rfl,sD (s:={s with heap:=f,toks:=s.toks+1 }) e c d Zd ⟨.str ⟨#[x.cps[i]]⟩,H,M,⟨_,rfl⟩,⟨rfl,_,by simp[j],rfl⟩,D,λb a=>(g b a).1⟩⟩
 done:=by
  intro X l m n C i B s F H E I g st p;subst l m n;obtain⟨q,f1,f2,u,y,A⟩:=g it Zs;have j:x.cps.size<=i:=p;exact wpAny_pyNext_ascii_end (I.ok.hd C) st (by simp[j]) λf N=>⟨rfl,I.turned (t':=s.toks) (λb o a e=>N b o a e) q f1 u y A⟩
 self:=λ_ _ _ _ _ st h=>wpAny_pyIter_striter_ascii st h
def Ic{P:Program}{w:World}{K:W.Frag}{G:Expr}(it:TD)(x:Str)(t:Tok):sC P w K G (Its x) [it] it (λi h=>h.IsStrIter it "str_iterator" x t i) where
 mem:=by simp
 obj:=λi h st b a=>by
  have e:b=it:=by simpa using a
  subst e;obtain⟨o,e,c,d⟩:=st;exact⟨o,e,λv z=>by rw[d]at z;cases z⟩
 keep:=λi h f st k=>let ⟨o,J,r⟩:=st;⟨o,k it Zs o J,r⟩
 item:=by
  intro X l m n C i B s F H E I g st p;subst l m n;refine yE0 (g it Zs) (yA6 λq f1 f2 u y A=>?_);have j:i<x.cps.size:=p;refine wpAny_pyNext_wide_item st (c:=x.cps[i]) (by simp[j]) λf D L=>?_;have M:Inv X B F H {s with heap:=f,toks:=s.toks+1 }:=I.turned (λb o a e=>(L.2 b a).trans e) q f1 u y A;obtain⟨o,e,c,d⟩:=id D;exact⟨_,rfl,sD (s:={s with heap:=f,toks:=s.toks+1 }) e c d Zd ⟨.str ⟨#[x.cps[i]]⟩,H,M,⟨_,rfl⟩,⟨rfl,_,by simp[j],rfl⟩,D,λb a=>(g b a).1⟩⟩
 done:=by
  intro X l m n C i B s F H E I g st p;subst l m n;obtain⟨q,f1,f2,u,y,A⟩:=g it Zs;have j:x.cps.size<=i:=p;exact wpAny_pyNext_wide_end (I.ok.hd C) st (by simp[j]) λf N=>⟨rfl,I.turned (t':=s.toks) (λb o a e=>N b o a e) q f1 u y A⟩
 self:=λ_ _ _ _ _ st h=>wpAny_pyIter_striter_wide st h
section
variable {X:Cx}{tg:Expr}
def aBL(a:TE):TI:=λc H R=>a c H λx b=>∃z,x=.str z/\R (Its z) b
def Zr{l:Expr}{g:TE}(k:PE X l g):PI X tg l (aBL g):=by
 intro f s r H R I h;refine cA (k f s r H _ I h) ?_;rintro v a ⟨x,d,c,m,n⟩
 obtain⟨z,rfl,q⟩:=n;obtain⟨t,rfl⟩:=m;have i:∀b∈[a.heap.objs.size],pL X f d b:=λb p=>by
  have e:b=a.heap.objs.size:=by simpa using p
  subst e;exact c.fpOk (aZ _) (c.hok.fresh (aZ _))
 cases j:z.cps.all (·<128)
 ·refine wpAny_pyIter_wide j ?_;exact⟨a.heap.objs.size,[a.heap.objs.size],_,_,d,rfl,c.kept (t':=a.toks) λb o e=>eX _ e,Ic _ z t,⟨_,TW _ rfl,rfl,rfl⟩,i,q⟩
 ·refine wpAny_pyIter_ascii j ?_;exact⟨a.heap.objs.size,[a.heap.objs.size],_,_,d,rfl,c.kept (t':=a.toks) λb o e=>eX _ e,Ca _ z t,⟨_,TW _ rfl,rfl,rfl⟩,i,q⟩
end
abbrev tx(l:List Nat):Str:=⟨l.toArray⟩
def Cb(x:Str):tx x.cps.toList=x:=by cases x;simp
def hZ(l:List Nat):(tx l).length=l.length:=by simp[Str.length]
def xL(a b:List Nat):tx a++tx b=tx (a++b):=by
 show Str.append (tx a) (tx b)=_;unfold Str.append;simp
def jZ{a:Type}(xs:List a)(lo b:Option Int):List a:=(xs.drop (HT.sIx xs.length 0 lo)).take (HT.sIx xs.length xs.length b-HT.sIx xs.length 0 lo)
def Eu(n d:Nat)(v:Option Int):(match v with|none=>(d:Int)|some i=>max 0 (min (if i<0 then i+(n:Int) else i) (n:Int)))=((HT.sIx n d v:Nat):Int):=by
 cases v with
 | none=>rfl
 | some i=>
  show max 0 (min (if i<0 then i+(n:Int) else i) (n:Int))=(((if i<0 then (i+(n:Int)).toNat else min i.toNat n):Nat):Int);by_cases h:i<0
  ·rw[QZY h,QZY h];omega
  ·rw[QZX h,QZX h];omega
def Mc(lo a:Option Int)(n:Nat):Builtin.Str.strSliceIndices lo a 1 n=(List.range (HT.sIx n n a-HT.sIx n 0 lo)).map (HT.sIx n 0 lo+·):=by
 rw[<- sliceRange_one,<- Eu n 0 lo,<- Eu n n a];unfold Builtin.Str.strSliceIndices;simp only [show(1:Int)>0 by decide,if_true];cases lo<;>cases a<;>rfl
def Tj(n d:Nat)(a:d<=n)(v:Option Int):HT.sIx n d v<=n:=by
 cases v with
 | none=>exact a
 | some i=>
  show(if i<0 then (i+(n:Int)).toNat else min i.toNat n)<=n;split<;>omega
def Id(x:Str)(lo a:Option Int):(Txt.slice x lo a).cps.toList=jZ x.cps.toList lo a:=by
 have c:x.cps.toList.length=x.length:=by simp[Str.length]
 unfold Txt.slice jZ;rw[c,Mc];have d:=pick_run x.cps (HT.sIx x.length 0 lo) (HT.sIx x.length x.length a-HT.sIx x.length 0 lo);split
 ·rename_i h;have f:(HT.sIx x.length x.length a-HT.sIx x.length 0 lo)=x.length:=by simpa using h
  have g:=Tj x.length x.length (aZ _) a;have b:HT.sIx x.length 0 lo=0∨x.length=0:=by omega
  rw[f];rcases b with b|b
  ·rw[b,drop_zero,iI (by rw[c];exact aZ _)]
  ·have e:x.cps.toList=[]:=List.eq_nil_of_length_eq_zero (by rw[c];exact b);rw[e];simp
 ·simpa using d
def Md(x:Str)(lo a:Option Int):Txt.slice x lo a=tx (jZ x.cps.toList lo a):=by
 rw[<- Id,Cb]
section
variable {X:Cx}
def aC7:V->Option Int->Option Int->Hp->VK->Prop:=λx lo a H Q=>∃z,x=.str z/\z.length<=sizeLine/\Q (.str (tx (jZ z.cps.toList lo a))) H
def Cc{h:Heap}{sl:TD}{a b:Q4}{lo c:Option Int}(hs:h.IsSliceOf sl a b .none)(pl:IsPart a lo)(d:IsPart b c):∃l u:Option (Int×Tok),h.IsSlice sl l u none/\l.map (·.1)=lo/\u.map (·.1)=c:=by
 cases pl with
 | none=>
  cases d with
  | none=>exact⟨none,none,hs,rfl,rfl⟩
  | int j t=>exact⟨none,some (j,t),hs,rfl,rfl⟩
 | int i t=>
  cases d with
  | none=>exact⟨some (i,t),none,hs,rfl,rfl⟩
  | int j u=>exact⟨some (i,t),some (j,u),hs,rfl,rfl⟩
def Zt:SlR X aC7:=by
 intro c s p H x v r w lo b sl Q I e f g i h;obtain⟨z,rfl,j,q⟩:=h;obtain⟨t,rfl⟩:=e;obtain⟨l,u,m,n,o⟩:=Cc f g i;refine⟨"str",_,F.slot_str_getitem.lookup,typeIs_str _ _ _,wpAny_getItem_str_slice m rfl ?_⟩;have d:∀a k,EP X c p Q (.str (Txt.slice z lo b) a) {s with toks:=k }:=λa k=>⟨.str (tx (jZ z.cps.toList lo b)),H,I.tok _,⟨a,by rw[Md]⟩,q⟩
 subst n o;exact post_val_or_str ⟨gL (Txt.slice_le z _ _) j,λa k=>d a k⟩
def nL{a:List Str}:∀ {us:List Q4},Vals (a.map V.str) us->StrsAre us a:=by
 induction a with
 | nil=>intro us r;rw[map_nil]at r;cases r;exact .nil
 | cons n a b=>
  intro us r;rw[map_cons]at r;cases r with
  | cons c d=>
   obtain⟨t,e⟩:=c;subst e;exact .cons n t (b d)
def Me(K:W.Frag):V->List V->Hp->VK->Prop:=λx vs H Q=>∃b p a,x=.str b/\vs=[.ref p]/\SqL K H p (a.map V.str)/\(a.map (·.length)).sum+a.length*b.length<=16777216/\Q (.str (Txt.join b a)) H
def Tk:MtR X "str.join" (Me X.K):=by
 intro g s o H x vs v l Q I a b h;obtain⟨i,p,m,rfl,rfl,c,d,q⟩:=h;obtain⟨t,rfl⟩:=a;obtain⟨u,rfl,e⟩:=b.one;cases e;obtain⟨j,r,f,_⟩:=I.list c;exact join_list f.isList (by simpa using nL r) d λn k=>⟨.str _,H,I.tok _,⟨_,rfl⟩,q⟩
def aC8(K:W.Frag):List V->Hp->VK->Prop:=λvs H Q=>∃x T t b,vs=[x,.ty T]/\oE K H x t/\W.kitOne K t (.type T)=some b/\Q (.bl b) H
def Mf:CallR X (.builtin "isinstance") (aC8 X.K):=by
 intro j s l H k a Q I r h;obtain⟨x,T,t,b,rfl,ty,e,q⟩:=h;obtain⟨u,c,rfl,d,f⟩:∃u c,a=[u,c]/\RelV x u/\RelV (.ty T) c:=by
  cases r with
  | cons p q=>
   cases q with
   | cons g i=>
    cases i;exact⟨_,_,rfl,p,g⟩
 cases(show c=Value.type T from f);exact Ho I d ty e λtk=>⟨.bl b,H,I.tok _,rfl,q⟩
def zG{a:List Bool}:∀ {us:List Q4},Vals (a.map V.bl) us->PyProof.Rows.LSm.BoolsAre us a:=by
 induction a with
 | nil=>intro us r;rw[map_nil]at r;cases r;exact .nil
 | cons n a b=>
  intro us r;rw[map_cons]at r;cases r with
  | cons c d=>
   have e:=c;cases(show _=Value.bool n from e);exact .cons n (b d)
def Zu(K:W.Frag):List V->Hp->VK->Prop:=λvs H Q=>∃(p:TD)(bs:List Bool),vs=[.ref p]/\SqL K H p (bs.map V.bl)/\Q (.bl (bs.all id)) H
def Zv(K:W.Frag):List V->Hp->VK->Prop:=λvs H Q=>∃(p:TD)(a:List Int),vs=[.ref p]/\SqL K H p (a.map V.int)/\Q (.int (List.sum a)) H
def Mg(g:X.calm=true):CallR X (.builtin "all") (Zu X.K):=by
 intro w s F H x y Q I r h;obtain⟨p,bs,rfl,j,q⟩:=h;obtain⟨u,rfl,k⟩:=iJ r;cases k;obtain⟨a,l,m,z⟩:=I.list j;have c:=m.isList;have d:=zG l;have n:p<s.heap.objs.size:=by obtain⟨_,e,_⟩:=c;exact Heap.lt_size e
 refine call_all_walk (wpAny_pyIter_list c ?_);refine⟨s.heap.objs.size,[s.heap.objs.size,p],[s.heap.objs.size],a.toArray.size,_,_,λi=>(bs[i]?).getD true,rfl,Walks.list (A:=X.A.in1) (I.ok.hd g) _ p (ne_of_lt n) a.toArray,
  ⟨⟨_,TW _ rfl,rfl,rfl⟩,c.push _⟩,λi v B C D o f=>?_,λE tk t=>?_⟩
 ·obtain⟨b,e,rfl⟩:=d.get i v (by simpa using o);simp only [e,Option.getD_some]at f;exact wpAny_truthy_bool f
 ·have e:((List.range a.toArray.size).all λi=>(bs[i]?).getD true)=bs.all id:=by
   rw[gM,d.length];exact PyProof.Rows.LSm.range_all bs
  rw[e];exact⟨.bl _,H,I.kept (PyProof.Rows.LSm.kept_iter t),rfl,q⟩
def Mh(f:X.calm=true):CallR X (.builtin "sum") (Zv X.K):=by
 intro t s z H a v Q I r h;obtain⟨p,b,rfl,g,q⟩:=h;obtain⟨u,rfl,i⟩:=iJ r;cases i;obtain⟨e,j,k,w⟩:=I.list g;have c:=sJ j;obtain⟨a,d⟩:=c.allInts.items;have l:s.heap.IsList p (intItems a):=d▸k.isList;refine sum_intListG (I.ok.hd f) l λx tk y m=>?_;have n:b=a.toList.map (·.1):=by
  rw[<- nums_intItems,<- d];exact(show numsOf e.toArray.toList=b from c.numsOf).symm
 have o:preSum (numAt a) a.size=b.sum:=by
  rw[preSum_eq,iI Zs,n]
 rw[o];exact⟨.int _,H,I.kept m,⟨_,rfl⟩,q⟩
end
section
variable {X:Cx}
def pT(K:W.Frag)(d:Bool):R2:=λx y H Q=>∃(a b:TD)(c:List V),x=.ref a/\y=.ref b/\SqL K H a c/\SqL K H b []/\Q (.bl (if d then !c.isEmpty else c.isEmpty)) H
def mD{us:List Q4}(r:Vals [] us):us=[]:=by cases r;rfl
def Mi(c:X.A.units<cLine):OpR X (compareOp .Eq) (pT X.K false):=by
 intro w s D H x y v u Q I i k h;obtain⟨a,b,l,rfl,rfl,m,n,q⟩:=h;cases i;cases k;obtain⟨A,d,f,_⟩:=I.list m;obtain⟨B,o,g,_⟩:=I.list n;have p:=mD o;subst p;have r:=d.length
 cases l with
 | nil=>
  have t:=mD d;subst t;exact SeqAt.eq_listAt (e:=λ_=>true) f.isList g.isList rfl c (λj h=>QZW h Zs) ⟨.bl true,H,I,rfl,q⟩
 | cons z C=>
  exact SeqAt.eq_list_lengthsAt f.isList g.isList (by simp only [gM,<- r];simp) c ⟨.bl false,H,I,rfl,q⟩
def Mj(c:X.A.units<cLine):OpR X (compareOp .NotEq) (pT X.K true):=by
 intro w s D H x y v u Q I i k h;obtain⟨a,b,l,rfl,rfl,m,n,q⟩:=h;cases i;cases k;obtain⟨A,d,f,_⟩:=I.list m;obtain⟨B,o,g,_⟩:=I.list n;have p:=mD o;subst p;have r:=d.length
 cases l with
 | nil=>
  have t:=mD d;subst t;exact SeqAt.RcNeAt.lists (e:=λ_=>true) f.isList g.isList rfl c (λj h=>QZW h Zs) _ _ _ _ ⟨.bl false,H,I,rfl,q⟩
 | cons z C=>
  exact SeqAt.RcNeAt.lists_lengths f.isList g.isList (by simp only [gM,<- r];simp) c _ _ _ _ ⟨.bl true,H,I,rfl,q⟩
end
def mB(x:V)(k:Bool->Prop):Prop:=match x with|.bl b=>k b|_=>False
def mI(x:V)(k:Int->Prop):Prop:=match x with|.int b=>k b|_=>False
def mS(x:V)(k:Str->Prop):Prop:=match x with|.str b=>k b|_=>False
def mR(x:V)(k:TD->Prop):Prop:=match x with|.ref b=>k b|_=>False
def zH(x:V)(k:Bool->Prop):mB x k=∃b,x=.bl b/\k b:=by
 cases x<;>simp[mB]
def oI(x:V)(k:Int->Prop):mI x k=∃b,x=.int b/\k b:=by
 cases x<;>simp[mI]
def sW(x:V)(k:Str->Prop):mS x k=∃b,x=.str b/\k b:=by
 cases x<;>simp[mS]
def dU(x:V)(k:TD->Prop):mR x k=∃b,x=.ref b/\k b:=by
 cases x<;>simp[mR]
def eL{n:Nat}(h:Nat.ble n 1000=true):n<=sizeLine:=gL (QZV h) Zd
def eZ{n:Nat}(h:n<=1000):n<=sizeLine:=gL h Zd
section
variable {X:Cx}{a b c e:Expr}{ta tb tc te:TE}{pos:Pos}
def vr(i:Nat):TE:=λd H Q=>match d[i]? with|some (some v)=>Q v H|_=>False
def aBM(i:Nat):vr i=Xu i:=by
 funext d H Q
 unfold vr Xu;apply propext
 cases d[i]? with
 | none=>simp
 | some o=>cases o<;>simp
def xv(i:Nat){x:Str}{pos:Pos}(d:X.N[i]?=some x:=by rfl)(f:Vis X.env.scope x:=by first|exact Or.inl rfl|exact Or.inr (Or.inl rfl)|exact Or.inr (Or.inr rfl))(g:(x==("__debug__":Str))=false:=by decide)(h:(x==("__classdict__":Str))=false:=by decide):PE X (.Name x pos) (vr i):=by
 rw[aBM];exact Xv d f g h
def OpR.imp{f:Q4->Q4->Sem Value}{r d:R2}(h:OpR X f r)(i:∀x y H Q,d x y H Q->r x y H Q):OpR X f d:=λg s l H x y v u Q I j k q=>h g s l H x y v u Q I j k (i x y H Q q)
def UnR.imp{f:Q4->Sem Value}{r d:V->Hp->VK->Prop}(h:UnR X f r)(i:∀x H Q,d x H Q->r x H Q):UnR X f d:=λg s k H x v Q I j q=>h g s k H x v Q I j (i x H Q q)
def CallR.imp{f:Q4}{r d:List V->Hp->VK->Prop}(h:CallR X f r)(i:∀xs H Q,d xs H Q->r xs H Q):CallR X f d:=λg s l H xs j Q I k q=>h g s l H xs j Q I k (i xs H Q q)
def IxR.imp{r d:R2}(h:IxR X r)(i:∀x y H Q,d x y H Q->r x y H Q):IxR X d:=λf slice g s l H x y v u Q I j k q=>h f slice g s l H x y v u Q I j k (i x y H Q q)
def SlR.imp{r d:V->Option Int->Option Int->Hp->VK->Prop}(h:SlR X r)(i:∀x l u H Q,d x l u H Q->r x l u H Q):SlR X d:=λg s t H x v j k lo f sl Q I m n o p q=>h g s t H x v j k lo f sl Q I m n o p (i x lo f H Q q)
def m2(C:Int->Int->Prop)(g:Int->Int->V):R2:=λx y H Q=>mI x λi=>mI y λj=>C i j/\Q (g i j) H
def Bl(g:Int->Int->V):R2:=λx y H Q=>mI x λi=>mI y λj=>Q (g i j) H
def mE{g:Int->Int->V}(x y:V)(H:Hp)(Q:VK)(h:Bl g x y H Q):Sh g x y H Q:=by
 unfold Bl at h;rw[oI]at h;obtain⟨i,rfl,h⟩:=h;rw[oI]at h;obtain⟨j,rfl,h⟩:=h;exact⟨i,j,rfl,rfl,h⟩
def xM{C:Int->Int->Prop}{g:Int->Int->V}(x y:V)(H:Hp)(Q:VK)(h:m2 C g x y H Q):rI C g x y H Q:=by
 unfold m2 at h;rw[oI]at h;obtain⟨i,rfl,h⟩:=h;rw[oI]at h;obtain⟨j,rfl,d,h⟩:=h;exact⟨i,j,rfl,rfl,d,h⟩
def aBN:OpR X (binaryOp .Add) (Bl λi j=>.int (i+j)):=Yr.imp mE
def aBO:OpR X (binaryOp .Sub) (Bl λi j=>.int (i-j)):=Ys.imp mE
def aBP:OpR X (binaryOp .Mult) (m2 CMul λi j=>.int (i*j)):=Yt.imp xM
def aBQ:OpR X (binaryOp .Mod) (m2 (λ_ j=>0<j) λi j=>.int (i%j)):=Yu.imp xM
def aBR:OpR X (binaryOp .Pow) (m2 Yq λi j=>.int (i^j.toNat)):=Yv.imp xM
def aC9:OpR X (compareOp .Lt) (Bl λi j=>.bl (decide (i<j))):=Wk.imp mE
def aDa:OpR X (compareOp .LtE) (Bl λi j=>.bl (decide (i<=j))):=aBx.imp mE
def aDb:OpR X (compareOp .Gt) (Bl λi j=>.bl (decide (j<i))):=aBy.imp mE
def aDc:OpR X (compareOp .GtE) (Bl λi j=>.bl (decide (j<=i))):=aBz.imp mE
def Ml:R2:=λx y H Q=>mS x λi=>mS y λj=>i.length+j.length<=sizeLine/\Q (.str (i++j)) H
def Zw:OpR X (binaryOp .Add) Ml:=Bo.imp λx y H Q h=>by
 unfold Ml at h;rw[sW]at h;obtain⟨i,rfl,h⟩:=h;rw[sW]at h;obtain⟨j,rfl,d,h⟩:=h;exact⟨i,j,rfl,rfl,d,h⟩
def mEq:R2:=λx y H Q=>match x,y with
 | .int i,.int j=>Q (.bl (decide (i=j))) H
 | .str i,.str j=>Q (.bl (decide (i=j))) H
 | .bl i,.bl j=>Q (.bl (decide (i=j))) H
 | .non,.non=>Q (.bl true) H
 | .int _,.non=>Q (.bl false) H|.non,.int _=>Q (.bl false) H
 | .str _,.non=>Q (.bl false) H|.non,.str _=>Q (.bl false) H
 | .bl _,.non=>Q (.bl false) H|.non,.bl _=>Q (.bl false) H
 | .int _,.str _=>Q (.bl false) H|.str _,.int _=>Q (.bl false) H
 | .bl _,.str _=>Q (.bl false) H|.str _,.bl _=>Q (.bl false) H
 | _,_=>False
def mNe:R2:=λx y H Q=>match x,y with
 | .int i,.int j=>Q (.bl (!decide (i=j))) H
 | .str i,.str j=>Q (.bl (!decide (i=j))) H
 | .bl i,.bl j=>Q (.bl (!decide (i=j))) H
 | .non,.non=>Q (.bl false) H
 | .int _,.non=>Q (.bl true) H|.non,.int _=>Q (.bl true) H
 | .str _,.non=>Q (.bl true) H|.non,.str _=>Q (.bl true) H
 | .bl _,.non=>Q (.bl true) H|.non,.bl _=>Q (.bl true) H
 | .int _,.str _=>Q (.bl true) H|.str _,.int _=>Q (.bl true) H
 | .bl _,.str _=>Q (.bl true) H|.str _,.bl _=>Q (.bl true) H
 | _,_=>False
def aDd:OpR X (compareOp .Eq) mEq:=aBv.imp λx y H Q h=>by
 unfold rEq;cases x<;>cases y<;>first|exact h.elim|exact⟨rfl,h⟩|(refine⟨rfl,?_⟩;have h:Q (.bl _) H:=h;simpa using h)
def aDe:OpR X (compareOp .NotEq) mNe:=aBw.imp λx y H Q h=>by
 unfold rNe;cases x<;>cases y<;>first|exact h.elim|exact⟨rfl,h⟩|(refine⟨rfl,?_⟩;have h:Q (.bl _) H:=h;simpa using h)
def Zx(d:Bool):R2:=λx y H Q=>mS x λi=>mS y λj=>∃c,i=tx [c]/\Q (.bl (if d then !decide (c∈j.cps.toList) else decide (c∈j.cps.toList))) H
def aBS:OpR X (compareOp .In) (Zx false):=Gy.imp λx y H Q h=>by
 unfold Zx at h;rw[sW]at h;obtain⟨i,rfl,h⟩:=h;rw[sW]at h;obtain⟨j,rfl,c,rfl,h⟩:=h;refine⟨_,j,rfl,rfl,?_⟩;have e:=StrLaws.found_one j c;have d:(!(Builtin.Str.occurrences j (tx [c]) 0 j.length 1).isEmpty)=decide (c∈j.cps.toList):=e;rw[d];exact h
def aBT:OpR X (compareOp .Is) (λx y H Q=>match y with|.non=>Q (.bl (decide (x=.non))) H|_=>False):=Yx.imp λx y H Q h=>by
 cases y<;>first|exact⟨rfl,h⟩|exact h.elim
def Zy:OpR X (compareOp .IsNot) (λx y H Q=>match y with|.non=>Q (.bl (!decide (x=.non))) H|_=>False):=Sj.imp λx y H Q h=>by
 cases y<;>first|exact⟨rfl,h⟩|exact h.elim
def mT(t:TE):TT:=λf H Q=>t f H λx d=>mB x λk=>Q k d
def Wt(t:TE):mT t=Eg t:=by
 funext f H Q
 unfold mT Eg;congr 1
 funext x d
 exact zH x _
def Zz(t:TE):mT t=tB t:=by
 funext f H Q
 unfold mT tB;congr 1
 funext x d
 exact zH x _
def aBU{op:CmpOp}{r:R2}(d:OpR X (compareOp op) r)(f:PE X a ta)(g:PE X b tb)(h:behindInMarks op b=false:=by first|exact wW _|rfl):PT X (.Compare a [op] [b] pos) (mT (nF r ta tb)):=by
 rw[Wt];exact Sl d f g h
def aBV{op:CmpOp}{r:R2}(d:OpR X (compareOp op) r)(f:PE X a ta)(g:PE X b tb)(h:behindInMarks op b=false:=by first|exact wW _|rfl):PE X (.Compare a [op] [b] pos) (nF r ta tb):=Sk d f g h
def pU(r g:R2)(ta tb tc:TE):TE:=λd H Q=>ta d H λx h=>tb d h λy i=>r x y i λz f=>mB z λk=>(if k=true then tc d f λj l=>g y j l Q else Q (.bl false) f)
def vW(r d:R2)(ta tb tc:TE):pU r d ta tb tc=wX r d ta tb tc:=by
 funext i H Q
 unfold pU wX;congr 1
 funext x f
 congr 1
 funext y g
 congr 1
 funext z h
 exact zH z _
def Tl{op d:CmpOp}{r f:R2}(g:OpR X (compareOp op) r)(h:OpR X (compareOp d) f)(i:PE X a ta)(j:PE X b tb)(k:PE X c tc)(l:lastMarks [op,d] [b,c]=false:=by with_unfolding_all rfl):PE X (.Compare a [op,d] [b,c] pos) (pU r f ta tb tc):=by
 rw[vW];exact Kt g h i j k l
def Tm{op d:CmpOp}{r f:R2}(g:OpR X (compareOp op) r)(h:OpR X (compareOp d) f)(i:PE X a ta)(j:PE X b tb)(k:PE X c tc)(l:lastMarks [op,d] [b,c]=false:=by with_unfolding_all rfl):PT X (.Compare a [op,d] [b,c] pos) (mT (pU r f ta tb tc)):=by
 rw[Wt,vW];exact Ku g h i j k l
def aBW{t:TE}(h:PE X e t)(d:∀whole,isTrue e X.env whole=(do let v←whole;standAt e.pos;holding [v] (truthy v)):=by intro _;rfl):PT X e (mT t):=by
 rw[Zz];exact Xz h d
def Ev(ta tb:TE):TE:=λf H Q=>ta f H λx d=>mB x λc=>if c=true then tb f d Q else Q (.bl false) d
def To(ta tb:TE):TE:=λf H Q=>ta f H λx d=>mB x λc=>if c=true then Q (.bl true) d else tb f d Q
def aBX{rest:List Expr}(d:PE X a ta)(f:PE X (.BoolOp .And (b::rest) pos) tb):PE X (.BoolOp .And (a::b::rest) pos) (Ev ta tb):=by
 have:Ev ta tb=Kk ta tb:=by
  funext h H Q;unfold Ev Kk;congr 1;funext x g;exact zH x _
 rw[this];exact Yf d f
def aDf{rest:List Expr}(d:PE X a ta)(f:PE X (.BoolOp .Or (b::rest) pos) tb):PE X (.BoolOp .Or (a::b::rest) pos) (To ta tb):=by
 have:To ta tb=Yd ta tb:=by
  funext h H Q;unfold To Yd;congr 1;funext x g;exact zH x _
 rw[this];exact aBm d f
def aBY(d:PE X a ta):PE X (.UnaryOp .USub a pos) (tUn (λx H Q=>mI x λi=>Q (.int (-i)) H) ta):=aBt (Yw.imp λx H Q h=>by
 rw[oI]at h;obtain⟨i,rfl,h⟩:=h;exact⟨i,rfl,h⟩) d
def Tp(K:W.Frag):R2:=λx y H Q=>mR x λp=>mI y λi=>∃d,SqL K H p d/\∃v,nC d i=some v/\Q v H
def lF(K:W.Frag):R2:=λx y H Q=>mR x λp=>mI y λi=>∃d,SqT K H p d/\∃v,nC d i=some v/\Q v H
def aAa:R2:=λx y H Q=>mS x λz=>mI y λi=>z.length<=sizeLine/\∃c,nC z.cps.toList i=some c/\Q (.str (tx [c])) H
def aAb:IxR X (Tp X.K):=Sw.imp λx y H Q h=>by
 unfold Tp at h;rw[dU]at h;obtain⟨p,rfl,h⟩:=h;rw[oI]at h;obtain⟨i,rfl,d,f,v,g,h⟩:=h;exact⟨p,d,i,v,rfl,rfl,f,g,h⟩
def aBZ:IxR X (lF X.K):=Zf.imp λx y H Q h=>by
 unfold lF at h;rw[dU]at h;obtain⟨p,rfl,h⟩:=h;rw[oI]at h;obtain⟨i,rfl,d,f,v,g,h⟩:=h;exact⟨p,d,i,v,rfl,rfl,f,g,h⟩
def aB0:IxR X aAa:=Zh.imp λx y H Q h=>by
 unfold aAa at h;rw[sW]at h;obtain⟨z,rfl,h⟩:=h;rw[oI]at h;obtain⟨i,rfl,d,c,f,h⟩:=h;exact⟨z,i,c,rfl,rfl,d,f,h⟩
def aDg{r:R2}(d:IxR X r)(f:PE X a ta)(g:PE X b tb)(hs:xB b:=by exact λ_ _=>rfl):PE X (.Subscript a b pos) (nF r ta tb):=aBE d f g hs
def Ew(t:TE):TO:=λf H Q=>t f H λx d=>mI x λi=>Q (some i) d
def aAc(h:PE X e te):PO X (some e) (Ew te):=by
 have:Ew te=Kz te:=by
  funext f H Q;unfold Ew Kz;congr 1;funext x d;exact oI x _
 rw[this];exact Su h
def aAd:V->Option Int->Option Int->Hp->VK->Prop:=λx lo d H Q=>mS x λz=>z.length<=sizeLine/\Q (.str (tx (jZ z.cps.toList lo d))) H
def aB1:SlR X aAd:=Zt.imp λx l u H Q h=>by
 unfold aAd at h;rw[sW]at h;obtain⟨z,rfl,d,h⟩:=h;exact⟨z,rfl,d,h⟩
def Tq(K:W.Frag):V->Option Int->Option Int->Hp->VK->Prop:=λx lo f H Q=>mR x λa=>∃d,SqL K H a d/\∀p,H p=none->Q (.ref p) (aI H p (.lst (jZ d lo f)))
def aAe:SlR X (Tq X.K):=Sx.imp λx l u H Q h=>by
 unfold Tq at h;rw[dU]at h;obtain⟨a,rfl,d,f,h⟩:=h;exact⟨a,d,rfl,f,h⟩
def aAf:CallR X (.builtin "len") (λvs H Q=>match vs with|[.str z]=>z.length<=sizeLine/\Q (.int z.length) H|_=>False):=xF.imp λvs H Q h=>by
 split at h
 ·rename_i z;exact⟨z,rfl,h.1,h.2⟩
 ·exact h.elim
def aAg:CallR X (.builtin "len") (λvs H Q=>match vs with|[.ref p]=>∃ys,(SqL X.K H p ys∨SqT X.K H p ys)/\Q (.int ys.length) H|_=>False):=xE.imp λvs H Q h=>by
 split at h
 ·rename_i p;obtain⟨ys,d,h⟩:=h;exact⟨p,ys,rfl,d,h⟩
 ·exact h.elim
def aB2:CallR X (.type "int") (λvs H Q=>match vs with|[.bl k]=>Q (.int (if k then 1 else 0)) H|_=>False):=Hl.imp λvs H Q h=>by
 split at h
 ·rename_i k;exact .inr ⟨k,rfl,h⟩
 ·exact h.elim
end
inductive Kd where|non|bl|int|str|lst|tup|dct
def Tr:Kd->String|.non=>"NoneType"|.bl=>"bool"|.int=>"int"|.str=>"str"|.lst=>"list"|.tup=>"tuple"|.dct=>"dict"
def Wu(H:Hp):V->Kd->Prop
 | .non,.non=>True|.bl _,.bl=>True|.int _,.int=>True|.str _,.str=>True
 | .ref a,.lst=>(∃b,H a=some (.lst b))∨∃o b,H a=some (.frz o (.lst b))
 | .ref a,.tup=>∃b,H a=some (.tup b)
 | .ref a,.dct=>∃c,H a=some (.dK c)
 | _,_=>False
def isK:Kd->Kd->Bool|.non,.non=>true|.bl,.bl=>true|.int,.int=>true|.int,.bl=>true|.str,.str=>true|.lst,.lst=>true|.tup,.tup=>true|.dct,.dct=>true|_,_=>false
def aB4(K:W.Frag)(a k:Kd):W.kitOne K (.type (Tr k)) (.type (Tr a))=some (isK a k):=by
 cases a<;>cases k<;>first|rfl|kernel_rfl
def aDh{K:W.Frag}{H:Hp}{x:V}{k:Kd}(h:Wu H x k):oE K H x (.type (Tr k)):=by
  cases x<;>cases k<;>first
    | exact h.elim
    | exact .non
    | exact .bl _
    | exact .int _
    | exact .str _
    | (obtain⟨a,e⟩:=h;exact .tup e)
    | (obtain⟨a,e⟩:=h;exact .dK e)
    | (rcases h with⟨a,e⟩ | ⟨o,a,e⟩
       . exact .lst e
       . exact .frz e)
def aAh(a:Kd):List V->Hp->VK->Prop:=λvs H Q=>match vs with
 | [x,y]=>y=.ty (Tr a)/\∃k,Wu H x k/\Q (.bl (isK a k)) H
 | _=>False
section
variable {X:Cx}
def aB5(a:Kd):CallR X (.builtin "isinstance") (aAh a):=Mf.imp λvs H Q h=>by
 unfold aAh at h;split at h
 ·rename_i x y;obtain⟨rfl,k,b,h⟩:=h;exact⟨x,_,_,_,rfl,aDh b,aB4 X.K a k,h⟩
 ·exact h.elim
variable {e:Expr}{te:TE}{p p2 pos:Pos}{T:Str}
def aAi(b:Kd)(te:TE):TE:=λc H Q=>te c H λx a=>∃k,Wu a x k/\Q (.bl (isK b k)) a
def aB6(a:Kd)(f:PE X e te)(g:Gl X "isinstance")(i:X.mg "isinstance"=none)(j:Gl X T)(l:X.mg T=none)(m:bootBuiltins T=some (.type (Tr a)))(hs:starEach [e,.Name T p2] X.env=(false,eval e X.env)::starEach [.Name T p2] X.env:=by rfl)(n:starEach [.Name T p2] X.env=(false,eval (.Name T p2) X.env)::starEach [] X.env:=by rfl)(o:T≠"__name__":=by decide)(r:(T==("__debug__":Str))=false:=by decide)(t:(backTo pos (starEach [.Name T p2] X.env)).any (·.1)=false:=by rfl) :
  PE X (.Call (.Name "isinstance" p) [e,.Name T p2] [] pos) (aAi a te):=by
 have h:=yY (X:=X) (x:="isinstance") (p:=p) (pos:=pos) (aB5 a) g i PyProof.Rows.boot_isinstance (wZ f (wZ (Rv (v:=.ty (Tr a)) (pos:=p2) j l m rfl o r) wY n) hs) Zd Zd hs t;intro d s c H Q I q;exact h d s c H Q I (by
  show te c H _;have:(λ(x:V) (b:Hp)=>aAh a [x,.ty (Tr a)] b Q)=(λx b=>∃k,Wu b x k/\Q (.bl (isK a k)) b):=by
   funext x b
   apply propext;constructor
   ·rintro⟨_,z⟩;exact z
   ·intro z;exact⟨rfl,z⟩
  exact this ▸ q)
end
structure aG(P:Program)(w:World)(K:W.Frag)(mg:V0)(base:Heap)(n:Nat)(x:Str)(ps:List Str)(sp:Sp):Prop where
 ex:∃(f:TD)(fd:FuncData),lE P w K mg base sO n f fd ps sp/\mg x=some (.ref f)/\W.keepIn K (.ref f)=true/\Binds K fd ps []
section
variable {X:Cx}{n:Nat}{x:Str}{ps:List Str}{sp:Sp}{p pos:Pos}{e:Expr}{es:List Expr}{t:TA}
def tFn(sp:Sp)(t:TA):TE:=λb H Q=>t b H λvs a=>sp vs a Q E0
def aDj(c:aG X.prog X.w X.K X.mg X.base n x ps sp)(g:Room n X.A)(i:Gl X x)(j:PA X (e::es) t)(k:(x==("__debug__":Str))=false:=by decide)(l:starEach (e::es) X.env=(false,eval e X.env)::starEach es X.env:=by rfl)(m:(backTo pos (starEach es X.env)).any (·.1)=false:=by rfl):PE X (.Call (.Name x p) (e::es) [] pos) (tFn sp t):=by
 obtain⟨f,v,F,o,r,u⟩:=c.ex;have h:=Sq (X:=X) (p:=p) (pos:=pos) (E:=E0) F g i o r u (dvs:=[]) .nil zD j k l m;intro d s b H Q I q;exact h d s b H Q I (by
  show t b H _;have:(λ(vs:List V) (a:Hp)=>sp (vs++[]) a Q E0)=(λvs a=>sp vs a Q E0):=by
   funext vs a;rw[append_nil]
  rw[this];exact q)
end
structure DefAt(K:W.Frag)(mg:V0)(x:Str)(st:Stmt)(ps:List Str):Prop where
 ex:∃(f:TD)(fd:FuncData),Fun K x x st f fd/\mg x=some (.ref f)/\Binds K fd ps []
def DefAt.ok{P:Program}{w:World}{K:W.Frag}{mg:V0}{base:Heap}{x:Str}{st:Stmt}{N ps:List Str}{k:Nat}{sp:Sp}(D:DefAt K mg x st ps)(S:aK N ps (aB st))(len:∀vs H Q E,sp vs H Q E->vs.length=ps.length)(b:∀(f:TD)(a:Q4)(A:Around)(outer:List Env)(s:QZZ)(H:Hp)(vs:List V)(Q:VK)(E:XK),Room k (A.deeper (envOfC x (aB st) s.heap.objs.size f a))->sp vs H Q E →
   ∃t,PSs (nB sO P w K mg base N x (aB st) f a A outer s H E).nox (bF st) t/\t {nx:=λ_ c=>Q .non c,rt:=Q } (start N vs) H):aG P w K mg base (k+1) x ps sp:=by
 obtain⟨f,d,F,e,g⟩:=D.ex;exact⟨f,d,F.ok S len (b f),e,F.kp,g⟩
def Mm(a:Scope)(b:List Str)(scope:Scope)(N:List Str)(js:List (Option Nat)):Bool:=
 (scope.kind == .function)&&scope.names.all (λy=>y.2 != .cell)&&scope.names.all (λy=>y.2 != .local||scope.names.lookup y.1==some .local)&&(js.length==N.length)&&
 (List.range js.length).all (λi=>match js[i]? with|some (some j)=>(match N[i]? with|some x=>b[j]? == some x&&scope.names.lookup x==some .free|none=>false)|_=>true)&&
 scope.names.all (λy=>y.2 != .free||a.names.lookup y.1==some .cell||a.names.lookup y.1==some .free)
def CompScope.by{X:Cx}{d:Scope}{N:List Str}{js:List (Option Nat)}(a:Scope)(f:List Str)(g:X.env.scope=a)(h:X.N=f)(ok:Mm a f d N js=true):CompScope X d N js:=by
 unfold Mm at ok;simp only [Bool.and_eq_true]at ok;obtain⟨⟨⟨⟨⟨k,l⟩,m⟩,n⟩,o⟩,p⟩:=ok;refine⟨by simpa using k,λy b=>?_,λy b c=>?_,by simpa using n,λi j e=>?_,λy b c=>?_⟩
 ·have:=all_eq_true.mp l y b;simpa using this
 ·have:=all_eq_true.mp m y b;rw[c]at this;simpa using this
 ·have r:i<js.length:=(Zgs.mp e).1;have:=all_eq_true.mp o i (mem_range.mpr r);rw[e]at this;cases q:N[i]? with
  | none=>simp[q]at this
  | some x=>
   simp only [q,Bool.and_eq_true,beq_iff_eq]at this;exact⟨x,rfl,by rw[h];exact this.1,this.2⟩
 ·have:=all_eq_true.mp p y b;rw[c]at this;have z:(a.names.lookup y.1==some .cell)=true∨(a.names.lookup y.1==some .free)=true:=by simpa using this
  have s:X.env.kindOf y.1=a.names.lookup y.1:=by rw[<- g];rfl
  rw[s];rcases z with z|z
  ·exact .inl (by simpa using z)
  ·exact .inr (by simpa using z)
def aW:Expr->Bool|.Starred _ _=>false|_=>true
def bQ{e:Expr}{es:List Expr}{env:Env}(h:aW e=true):starEach (e::es) env=(false,eval e env)::starEach es env:=by
 cases e<;>first|rfl|cases h
def iA{es:List Expr}{env:Env}{pos:Pos}(h:es.all aW=true):(backTo pos (starEach es env)).any (·.1)=false:=by
 induction es with
 | nil=>rfl
 | cons e es a=>
  rw[all_cons,Bool.and_eq_true]at h;rw[bQ h.1];have:=a h.2;show(false||(backTo pos (starEach es env)).any (·.1))=false;rw[this];rfl
section
variable {X:Cx}{e o:Expr}{es:List Expr}{te to:TE}{t:TA}{x:Str}{p pos apos cpos:Pos}{id T:String}{r:List V->Hp->VK->Prop}
def xN(a:PE X e te)(b:PA X es t)(h:aW e=true:=by rfl):PA X (e::es) (hX te t):=wZ a b (bQ h)
def Ts(a:CallR X (.builtin id) r)(b:Gl X x)(c:X.mg x=none)(d:bootBuiltins x=some (.builtin id))(f:PA X (e::es) t)(g:x≠"__name__":=by decide)(h:(x==("__debug__":Str))=false:=by decide)(i:aW e=true:=by rfl)(j:es.all aW=true:=by rfl):PE X (.Call (.Name x p) (e::es) [] pos) (tCB r t):=yY a b c d f g h (bQ i) (iA j)
def Mn(a:CallR X (.type T) r)(b:Gl X x)(c:X.mg x=none)(d:bootBuiltins x=some (.type T))(f:PA X (e::es) t)(g:x≠"__name__":=by decide)(h:(x==("__debug__":Str))=false:=by decide)(i:aW e=true:=by rfl)(j:es.all aW=true:=by rfl):PE X (.Call (.Name x p) (e::es) [] pos) (tCB r t):=Hs a b c d f g h (bQ i) (iA j)
def aB7{n:Nat}{ps:List Str}{sp:Sp}(c:aG X.prog X.w X.K X.mg X.base n x ps sp)(a:Room n X.A)(b:Gl X x)(d:PA X (e::es) t)(f:(x==("__debug__":Str))=false:=by decide)(g:aW e=true:=by rfl)(h:es.all aW=true:=by rfl):PE X (.Call (.Name x p) (e::es) [] pos) (tFn sp t):=aDj c a b d f (bQ g) (iA h)
def Mo{es:List Expr}{env:Env}{cpos:Pos}(h:es.all aW=true):(backTo cpos (starEach es env)).all (λx=>!x.1)=true:=by
 induction es with
 | nil=>rfl
 | cons e es a=>
  rw[all_cons,Bool.and_eq_true]at h;rw[bQ h.1];show(!false&&(backTo cpos (starEach es env)).all (λx=>!x.1))=true;rw[a h.2];rfl
def aDk{name:Str}{r:V->List V->Hp->VK->Prop}(c:PlainAttrs T)(slot:Slot T name id)(d:typeOf (.builtin id)=pure (.type "method_descriptor"))(f:MtR X id r)(g:PE X o to)(h:PA X (e::es) t)(i:attributeBase o name X.env (eval o X.env)=eval o X.env:=by rfl)(j:(apos.endLine==cpos.line)=true:=by rfl)(a:aW e=true:=by rfl)(b:es.all aW=true:=by rfl)(k:es.length+1<30:=by decide) :
  PE X (.Call (.Attribute o name apos) (e::es) [] cpos) (tBM X.K T r to t):=by
 refine aBF c slot d f g h i ?_ j (bQ a) (iA b);rw[Mo (by rw[all_cons,a,b];rfl)];show(true&&true&&decide (es.length+1+0+0<30))=true;simp;omega
def aAj{b:Pos}{T:Str}(a:Kd)(c:PE X e te)(d:Gl X "isinstance")(f:X.mg "isinstance"=none)(g:Gl X T)(h:X.mg T=none)(i:bootBuiltins T=some (.type (Tr a)))(j:T≠"__name__":=by decide)(k:(T==("__debug__":Str))=false:=by decide)(l:aW e=true:=by rfl):PE X (.Call (.Name "isinstance" p) [e,.Name T b] [] pos) (aAi a te):=
 aB6 a c d f g h i (bQ l) (bQ rfl) j k (iA rfl)
end
def bN:bootBuiltins "len"=some (.builtin "len"):=by decide +kernel
def Mp:bootBuiltins "all"=some (.builtin "all"):=by decide +kernel
def aAk:bootBuiltins "sum"=some (.builtin "sum"):=by decide +kernel
def pV:bootBuiltins "sorted"=some (.builtin "sorted"):=by decide +kernel
def lK:bootBuiltins "max"=some (.builtin "max"):=by decide +kernel
def aAl:bootBuiltins "min"=some (.builtin "min"):=by decide +kernel
def Tt:bootBuiltins "list"=some (.type "list"):=by decide +kernel
def Mq:bootBuiltins "str"=some (.type "str"):=by decide +kernel
def pW:bootBuiltins "int"=some (.type "int"):=by decide +kernel
def Tu:bootBuiltins "bool"=some (.type "bool"):=by decide +kernel
def zI:bootBuiltins "tuple"=some (.type "tuple"):=by decide +kernel
def rO:bootBuiltins "dict"=some (.type "dict"):=by decide +kernel
structure Dk(H:Hp)(d b:TD):Prop where
 ex:∃(ns:List Int)(s k:Int),H d=some (.lst [.ref b,.int s,.int k])/\H b=some (.lst (ns.map V.int))/\ns.length<=63
def Kp(d b:TD)(H a:Hp):Prop:=∀c o,H c=some o->c≠d->c≠b->a c=some o
def Kp.refl{d b:TD}{H:Hp}:Kp d b H H:=λ_ _ e _ _=>e
def Kp.trans{d b:TD}{H a H2:Hp}(x:Kp d b H a)(y:Kp d b a H2):Kp d b H H2:=λc o e f g=>y c o (x c o e f g) f g
def Kp.new{d b p:TD}{H:Hp}{o:HO}(h:H p=none):Kp d b H (aI H p o):=λc u e _ _=>by rw[aD (aF e h)];exact e
def Dk.new{d b p:TD}{H:Hp}{o:HO}(x:Dk H d b)(h:H p=none):Dk (aI H p o) d b:=by
 obtain⟨e,s,k,a,c,f⟩:=x.ex;exact⟨e,s,k,by rw[aD (aF a h)];exact a,by rw[aD (aF c h)];exact c,f⟩
def Mr(K:W.Frag):Sp:=λvs H Q _=>∃(a:TD)(e:List Int),vs=[.ref a]/\SqL K H a (e.map V.int)/\∀d b c,H d=none->H b=none->Dk c d b->Same H c->Q (.ref d) c
end L2
namespace L2
def Ie{c:Bool}{A B:Prop}(h:c=true)(k:A):if c=true then A else B:=by rw[QZY h];exact k
def xO{c:Bool}{A B:Prop}(h:c=false)(k:B):if c=true then A else B:=by rw[QZX (by rw[h];exact U7)];exact k
def bA{c:Bool}{A B:Prop}(a:c=true->A)(b:c=false->B):if c=true then A else B:=by
 cases h:c with
 | true=>rw[QZY rfl];exact a h
 | false=>rw[QZX U7];exact b h
open PySem PySem.Spec PyProof.Rows
structure xP(J:It)(xs:List V)(A:Hp->Prop):Prop where
 go:∀i H,i<xs.length->A H->J.go i H
 yld:∀i H x H',i<xs.length->A H->J.yld i H x H'->H'=H/\xs[i]?=some x
 stop:∀H,A H->J.stop xs.length H
def vX(x:Str):List V:=x.cps.toList.map λc=>V.str (tx [c])
def Tv(x:Str):xP (Its x) (vX x) (λ_=>True):=by
 have a:(vX x).length=x.cps.size:=by simp[vX]
 refine⟨λi H b _=>by rw[a]at b;exact b,λi H v g _ _ ⟨e,c,d,f⟩=>⟨e,?_⟩,λH _=>by rw[a];exact aZ _⟩;subst f;unfold vX;rw[fK,Array.getElem?_toList,d];rfl
def lM(lo:Int)(n:Nat):List V:=(List.range n).map λ(i:Nat)=>V.int (lo+(i:Int))
def eV(lo:Int)(n:Nat):xP (Itr lo n) (lM lo n) (λ_=>True):=by
 have b:(lM lo n).length=n:=by simp[lM]
 refine⟨λi H a _=>by rw[b]at a;exact a,λi H v d a _ ⟨e,c⟩=>⟨e,?_⟩,λH _=>by rw[b];exact aZ _⟩;subst c;rw[b]at a;unfold lM;rw[fK,List.getElem?_range a];rfl
def aY(K:W.Frag)(a:TD)(xs:List V):xP (Rr K a) xs (λH=>SqL K H a xs):=
 ⟨λi H b h=>⟨xs,xs[i],h,by simp[b]⟩,λi H x c _ h ⟨e,y⟩=>⟨e,y xs h⟩,λH h=>⟨xs,h,aZ _⟩⟩
def kB(K:W.Frag)(a:TD)(xs:List V):xP (Itt K a) xs (λH=>SqT K H a xs):=
 ⟨λi H b h=>⟨xs,xs[i],h,by simp[b]⟩,λi H x c _ h ⟨e,y⟩=>⟨e,y xs h⟩,λH h=>⟨xs,h,aZ _⟩⟩
def aX{J:It}{xs:List V}{A:Hp->Prop}{js:List (Option Nat)}{g:TG}{h:TT}{j:TE}{l:St}{H:Hp}{Q:List V->Hp->Prop}(S:xP J xs A)(hz:xs.length<=100000)(Pv:Nat->List V->Hp->Prop)(n:∀i ys H,Pv i ys H->A H/\ys.length<=i)(o:Pv 0 [] H)(hs:∀i x ys H,xs[i]?=some x->Pv i ys H->g x (xK js l) H λf H2=>h f H2 λb k=>if b=true then j f k λy q=>Pv (i+1) (ys++[y]) q else Pv (i+1) ys k)(r:∀ys H,Pv xs.length ys H->Q ys H):iK js g h j l J H Q:=by
 refine⟨λi m ys H=>m=xs.length-i/\i<=xs.length/\Pv i ys H,⟨xs.length,Zs,zero_le _,o⟩,?_⟩;rintro i m ys H ⟨rfl,u,p⟩;obtain⟨a,v⟩:=n i ys H p;by_cases c:i<xs.length
 ·refine .inr ⟨S.go i H c a,oC (m:=100000) Zo Zd,Pv (i+1),λw d s=>⟨xs.length-(i+1),Zo,rfl,c,s⟩,λx d y=>?_⟩;obtain⟨rfl,t⟩:=S.yld i H x d c a y;exact hs i x ys d t p
 ·have e:i=xs.length:=by omega
  subst e;exact .inl ⟨S.stop H a,r ys H p⟩
def Ig{J:It}{xs:List V}{A:Hp->Prop}{js:List (Option Nat)}{g:TG}{l:TT}{m:TE}{o:St}{H:Hp}{Q:List V->Hp->Prop}(S:xP J xs A)(hz:xs.length<=100000)(p:V->Bool)(f:V->V)(q:A H)(hs:∀(x:V)(ys:List V)(N:List V->Hp->Prop),x∈xs->(p x=true->N (ys++[f x]) H)->(p x=false->N ys H)->g x (xK js o) H λj H2=>l j H2 λb d=>if b=true then m j d λy r=>N (ys++[y]) r else N ys d)(s:Q ((xs.filter p).map f) H):iK js g l m o J H Q:=by
 refine aX S hz (λi ys a=>ys=((xs.take i).filter p).map f/\a=H) (λi ys a ⟨e,c⟩=>⟨by rw[c];exact q,?_⟩) ⟨Zs,rfl⟩ (?_) (?_)
 ·rw[e,aS];exact gL (length_filter_le _ _) (by rw[oA];exact min_le_left _ _)
 ·rintro i x ys a n ⟨e,c⟩;subst c;have k:(xs.take (i+1)).filter p=(xs.take i).filter p++(if p x=true then [x] else []):=take_succ_filter p xs i x n;refine hs x ys (λt d=>t=((xs.take (i+1)).filter p).map f/\d=a) (jI n) (λh=>⟨?_,rfl⟩) (λh=>⟨?_,rfl⟩)
  ·rw[k,QZY h,dW,e];rfl
  ·rw[k,QZX (by rw[h];exact U7),append_nil,e]
 ·rintro ys a ⟨e,c⟩;subst c;rw[e,iI (aZ _)];exact s
def cD{J:It}{xs:List V}{A:Hp->Prop}{g:TG}{j:TS}{D:pJ}{a:St}{H:Hp}(S:xP J xs A)(Pv:Nat->St->Hp->Prop)(l:∀i a H,Pv i a H->A H)(n:Pv 0 a H)(hs:∀(i:Nat)(x:V) a H,xs[i]?=some x->Pv i a H->g x a H λc H2=>j {D with nx:=Pv (i+1),ct:=Pv (i+1),bk:=D.nx } c H2)(o:∀ a H,Pv xs.length a H->D.nx a H) :
  ∃W:Nat->Nat->St->Hp->Prop,(∃m,W 0 m a H)/\∀i m a H,W i m a H →
   (J.stop i H/\D.nx a H)∨(J.go i H/\∃N:St->Hp->Prop,(∀ d b,N d b->∃k,k<m/\W (i+1) k d b)/\∀x b,J.yld i H x b->g x a b λc H2=>j {D with nx:=N,ct:=N,bk:=D.nx } c H2):=by
 refine⟨λi m a H=>m=xs.length-i/\i<=xs.length/\Pv i a H,⟨xs.length,Zs,zero_le _,n⟩,?_⟩;rintro i m a H ⟨rfl,s,p⟩;have f:=l i a H p;by_cases h:i<xs.length
 ·refine .inr ⟨S.go i H h f,Pv (i+1),λd b q=>⟨xs.length-(i+1),Zo,rfl,h,q⟩,λx b y=>?_⟩;obtain⟨rfl,r⟩:=S.yld i H x b h f y;exact hs i x a b r p
 ·have e:i=xs.length:=by omega
  subst e;exact .inl ⟨S.stop H f,o a H p⟩
end L2
namespace L2
open PySem
def aE{H:Hp}{p:TD}{o:HO}(h:H p=none):Same H (aI H p o):=λb u q=>by rw[aD (aF q h)];exact q
def xQ{a:Type}(xs:List a)(k:Nat):jZ xs none (some (k:Int))=xs.take k:=by
 unfold jZ;rw[HT.sIx_none,HT.sIx_nat,drop_zero,Nat.sub_zero,<- List.take_take,iI (aZ _)]
def zJ{a:Type}(xs:List a)(k:Nat):jZ xs (some (k:Int)) none=xs.drop k:=by
 unfold jZ;rw[HT.sIx_none,HT.sIx_nat];by_cases h:k<=xs.length
 ·rw[min_eq_left h,iI (by rw[length_drop];exact aZ _)]
 ·rw[Nat.min_eq_right Zo,List.drop_of_length_le (aZ _),List.drop_of_length_le Zo,List.take_nil]
def Tw{b c:Type}(f:b->c)(xs:List b)(lo a:Option Int):jZ (xs.map f) lo a=(jZ xs lo a).map f:=by
 unfold jZ;rw[aS,<- List.map_drop,<- map_take]
open PySem PySem.Spec PyProof.Rows
def aL{H:Hp}{p q:TD}{o u:HO}(h:H p=some o)(a:H q=none):aI H q u p=some o:=by rw[aD (aF h a)];exact h
def Ms{c:Type}{xs:List c}{i:Int}(b:0<=i)(d:i<xs.length):∃v,nC xs i=some v/\v∈xs:=by
 obtain⟨j,rfl⟩:=Int.eq_ofNat_of_zero_le b;have a:j<xs.length:=by omega
 exact⟨xs[j],eY (by simp[a]),getElem_mem a⟩
theorem Ex(g:Array Nat):∀(ps:List Str)(a:Array Nat),(ps.foldl (λa p=>a++g++p.cps) a).toList=a.toList++(ps.map λp=>g.toList++p.cps.toList).flatten
 | [],a=>by simp
 | p::ps,a=>by
  rw[foldl_cons,Ex g ps];simp
def Mt(ps:List Str):(Txt.join (tx []) ps).cps.toList=(ps.map λp=>p.cps.toList).flatten:=by
 unfold Txt.join Builtin.Str.glued;rw[Ex];cases ps with
 | nil=>simp[Str.empty]
 | cons p ps=>simp
def Tx(ps:List Str):Txt.join (tx []) ps=tx (ps.map λp=>p.cps.toList).flatten:=by rw[<- Mt,Cb]
def Cd(a:List Nat):Txt.join (tx []) (a.map λc=>tx [c])=tx a:=by
 rw[Tx,map_map];congr 1
 congr 1
 induction a with
 | nil=>rfl
 | cons c r b=>rw[map_cons,List.flatten_cons,b];rfl
def Mu:("":Str)=tx []:=by decide +kernel
end L2
namespace L2
open PySem
def Dk.ne{H:Hp}{d b p:TD}(x:Dk H d b)(h:H p=none):p≠d/\p≠b:=by
 obtain⟨e,s,k,a,c,f⟩:=x.ex;exact⟨(aF a h).symm,(aF c h).symm⟩
def oJ(x:Str):x=tx x.cps.toList:=(Cb x).symm
end L2
namespace L2
open PySem
theorem zK:∀a:List Nat,((a.map λc=>tx [c]).map (·.length)).sum=a.length
 | []=>rfl
 | c::a=>by
  rw[map_cons,map_cons,List.sum_cons,zK a,sA];show 1+a.length=_;omega
end L2
namespace L2
open PySem
def aB8{t:TT}{b:St}{H:Hp}{Q:Bool->Hp->Prop}(R:Bool->Hp->Prop)(h:∀k:Bool->Hp->Prop,(∀v a,R v a->k v a)->t b H k)(c:∀v a,R v a->Q v a):t b H Q:=h Q c
def aAm{t:TS}{D:pJ}{c:St}{H:Hp}(R:St->Hp->Prop)(h:∀nx:St->Hp->Prop,(∀ a b,R a b->nx a b)->t {D with nx:=nx } c H)(d:∀ a b,R a b->D.nx a b):t D c H:=h D.nx d
def Dk.same{H a:Hp}{d b:TD}(s:Same H a)(h:Dk H d b):Dk a d b:=by
 obtain⟨c,e,k,f,g,i⟩:=h.ex;exact⟨c,e,k,s _ _ f,s _ _ g,i⟩
open PySem PySem.Spec PyProof.Rows
structure XE(X:Cx)(e:Expr)(t:TE):Prop where
 h:PE X e t
structure XT(X:Cx)(e:Expr)(t:TT):Prop where
 h:PT X e t
structure XW(X:Cx)(e:Expr)(t:TT):Prop where
 h:PW X e t
structure XA(X:Cx)(es:List Expr)(t:TA):Prop where
 h:PA X es t
structure XS(X:Cx)(st:Stmt)(t:TS):Prop where
 h:PS X st t
structure XB(X:Cx)(st:List Stmt)(t:TS):Prop where
 h:PSs X st t
structure XI(X:Cx)(tg iter:Expr)(t:TI):Prop where
 h:PI X tg iter t
structure XG(X:Cx)(e:Expr)(t:TG):Prop where
 h:PG X e t
structure XGs(X:Cx)(es:List Expr)(t:Ec):Prop where
 h:PGs X es t
structure XO(X:Cx)(e:Option Expr)(t:TO):Prop where
 h:PO X e t
structure XTs(X:Cx)(cs:List Expr)(t:TT):Prop where
 h:PTs X cs t
structure aAn(X:Cx)(t:Gs):Prop where
 h:Sc X t
structure lA(X:Cx)(f:Q4->Q4->Sem Value)(r:R2):Prop where
 h:OpR X f r
structure XIx(X:Cx)(r:R2):Prop where
 h:IxR X r
structure XSl(X:Cx)(r:V->Option Int->Option Int->Hp->VK->Prop):Prop where
 h:SlR X r
structure XC(X:Cx)(f:Q4)(r:List V->Hp->VK->Prop):Prop where
 h:CallR X f r
structure XM(X:Cx)(id:String)(r:V->List V->Hp->VK->Prop):Prop where
 h:MtR X id r
namespace R
section
variable {X:Cx}{a b c e o i:Expr}{es rest:List Expr}{ta tb tc te to ti:TE}{tA xi:TT}{t u:TA}{pos p p2 apos cpos pos':Pos}{x:Str}{n:Nat}{r r':R2}
def v(i:Nat){x:Str}{pos:Pos}(d:X.N[i]?=some x:=by rfl)(f:Vis X.env.scope x:=by first|exact Or.inl rfl|exact Or.inr (Or.inl rfl)|exact Or.inr (Or.inr rfl))(g:(x==("__debug__":Str))=false:=by decide)(h:(x==("__classdict__":Str))=false:=by decide):XE X (.Name x pos) (vr i):=⟨xv i d f g h⟩
def ad{i j pos}:XE X (.Constant (.int i) j pos) (tC (.int i)):=⟨Xw⟩
def bl{b j pos}:XE X (.Constant (.bool b) j pos) (tC (.bl b)):=⟨aBj⟩
def bw{j pos}:XE X (.Constant .none j pos) (tC .non):=⟨Xx⟩
def ag{x j pos}:XE X (.Constant (.str x) j pos) (tC (.str x)):=⟨Xy⟩
def gS{z:Str}(f:Gl X x)(d:∃t,X.mg x=some (.str z t))(g:(x==("__debug__":Str))=false:=by decide):XE X (.Name x pos) (tC (.str z)):=by
 obtain⟨t,d⟩:=d;exact⟨wV f d ⟨t,rfl⟩ g⟩
def gI{z:Int}(f:Gl X x)(d:∃t,X.mg x=some (.int z t))(g:(x==("__debug__":Str))=false:=by decide):XE X (.Name x pos) (tC (.int z)):=by
 obtain⟨t,d⟩:=d;exact⟨wV f d ⟨t,rfl⟩ g⟩
def gR{a:TD}(d:Gl X x)(f:X.mg x=some (.ref a))(g:(x==("__debug__":Str))=false:=by decide):XE X (.Name x pos) (tC (.ref a)):=⟨wV d f rfl g⟩
def op{op:Operator}(d:lA X (binaryOp op) r)(f:XE X a ta)(g:XE X b tb):XE X (.BinOp a op b pos) (nF r ta tb):=⟨aBs d.h f.h g.h⟩
def av:lA X (binaryOp .Add) (Bl λi j=>.int (i+j)):=⟨aBN⟩
def cf:lA X (binaryOp .Sub) (Bl λi j=>.int (i-j)):=⟨aBO⟩
def gm:lA X (binaryOp .Mult) (m2 CMul λi j=>.int (i*j)):=⟨aBP⟩
def di:lA X (binaryOp .Mod) (m2 (λ_ j=>0<j) λi j=>.int (i%j)):=⟨aBQ⟩
def bu:lA X (binaryOp .Pow) (m2 Yq λi j=>.int (i^j.toNat)):=⟨aBR⟩
def iu:lA X (binaryOp .Add) Ml:=⟨Zw⟩
def lt:lA X (compareOp .Lt) (Bl λi j=>.bl (decide (i<j))):=⟨aC9⟩
def le:lA X (compareOp .LtE) (Bl λi j=>.bl (decide (i<=j))):=⟨aDa⟩
def gt:lA X (compareOp .Gt) (Bl λi j=>.bl (decide (j<i))):=⟨aDb⟩
def ge:lA X (compareOp .GtE) (Bl λi j=>.bl (decide (j<=i))):=⟨aDc⟩
def eq:lA X (compareOp .Eq) mEq:=⟨aDd⟩
def ne:lA X (compareOp .NotEq) mNe:=⟨aDe⟩
def jp:lA X (compareOp .In) (Zx false):=⟨aBS⟩
def inQ:lA X (compareOp .In) (Zi X.K false):=⟨Hu⟩
def notInQ:lA X (compareOp .NotIn) (Zi X.K true):=⟨xD⟩
def jn:lA X (compareOp .Is) (λx y H Q=>match y with|.non=>Q (.bl (decide (x=.non))) H|_=>False):=⟨aBT⟩
def fm:lA X (compareOp .IsNot) (λx y H Q=>match y with|.non=>Q (.bl (!decide (x=.non))) H|_=>False):=⟨Zy⟩
def eqNil(d:X.A.units<cLine):lA X (compareOp .Eq) (pT X.K false):=⟨Mi d⟩
def neNil(d:X.A.units<cLine):lA X (compareOp .NotEq) (pT X.K true):=⟨Mj d⟩
def ba{op:CmpOp}(d:lA X (compareOp op) r)(f:XE X a ta)(g:XE X b tb)(h:behindInMarks op b=false:=by first|exact wW _|rfl):XE X (.Compare a [op] [b] pos) (nF r ta tb):=⟨aBV d.h f.h g.h h⟩
def aq{op:CmpOp}(d:lA X (compareOp op) r)(f:XE X a ta)(g:XE X b tb)(h:behindInMarks op b=false:=by first|exact wW _|rfl):XT X (.Compare a [op] [b] pos) (mT (nF r ta tb)):=⟨aBU d.h f.h g.h h⟩
def ie{op d:CmpOp}(f:lA X (compareOp op) r)(g:lA X (compareOp d) r')(h:XE X a ta)(j:XE X b tb)(k:XE X c tc)(l:lastMarks [op,d] [b,c]=false:=by with_unfolding_all rfl):XE X (.Compare a [op,d] [b,c] pos) (pU r r' ta tb tc):=⟨Tl f.h g.h h.h j.h k.h l⟩
def ir{op d:CmpOp}(f:lA X (compareOp op) r)(g:lA X (compareOp d) r')(h:XE X a ta)(j:XE X b tb)(k:XE X c tc)(l:lastMarks [op,d] [b,c]=false:=by with_unfolding_all rfl):XT X (.Compare a [op,d] [b,c] pos) (mT (pU r r' ta tb tc)):=⟨Tm f.h g.h h.h j.h k.h l⟩
def az(d:XE X a ta):XE X (.UnaryOp .USub a pos) (tUn (λx H Q=>mI x λi=>Q (.int (-i)) H) ta):=⟨aBY d.h⟩
def cx{t:TE}(h:XE X e t)(d:∀whole,isTrue e X.env whole=(do let v←whole;standAt e.pos;holding [v] (truthy v)):=by intro _;rfl):XT X e (mT t):=⟨aBW h.h d⟩
def dr(d:XT X a tA):XT X (.UnaryOp .Not a pos) (aBk tA):=⟨Yc d.h⟩
def dj(d:XT X a tA):XW X (.BoolOp .And [a] pos) tA:=⟨Rx d.h⟩
def fh(d:XT X a tA):XW X (.BoolOp .Or [a] pos) tA:=⟨Ya d.h⟩
def da(d:XT X a tA)(f:XW X (.BoolOp .And (b::rest) pos) xi):XW X (.BoolOp .And (a::b::rest) pos) (Rw tA xi):=⟨Yb d.h f.h⟩
def dy(d:XT X a tA)(f:XW X (.BoolOp .Or (b::rest) pos) xi):XW X (.BoolOp .Or (a::b::rest) pos) (tOr tA xi):=⟨aBl d.h f.h⟩
def tw(h:XW X e tA):XT X e tA:=⟨h.h.pt⟩
def br{op}(h:XE X a ta):XE X (.BoolOp op [a] pos) ta:=⟨Ye h.h⟩
def bv(d:XE X a ta)(f:XE X (.BoolOp .And (b::rest) pos) tb):XE X (.BoolOp .And (a::b::rest) pos) (Ev ta tb):=⟨aBX d.h f.h⟩
def or(d:XE X a ta)(f:XE X (.BoolOp .Or (b::rest) pos) tb):XE X (.BoolOp .Or (a::b::rest) pos) (To ta tb):=⟨aDf d.h f.h⟩
def ix(d:XIx X r)(f:XE X a ta)(g:XE X b tb)(hs:xB b:=by exact λ_ _=>rfl):XE X (.Subscript a b pos) (nF r ta tb):=⟨aDg d.h f.h g.h hs⟩
def iL:XIx X (Tp X.K):=⟨aAb⟩
def iT:XIx X (lF X.K):=⟨aBZ⟩
def iS:XIx X aAa:=⟨aB0⟩
def pn:XO X none Ej:=⟨Ss⟩
def ps(h:XE X e te):XO X (some e) (Ew te):=⟨aAc h.h⟩
def sl{r:V->Option Int->Option Int->Hp->VK->Prop}{lo d:Option Expr}{f g:TO}(h:XSl X r)(j:XE X e te)(k:XO X lo f)(l:XO X d g):XE X (.Subscript e (.Slice lo d none p2) pos) (tSl r te f g):=⟨Lg h.h j.h k.h l.h⟩
def sS:XSl X aAd:=⟨aB1⟩
def sL:XSl X (Tq X.K):=⟨aAe⟩
def ae:XA X [] rE:=⟨wY⟩
def ac(d:XE X e te)(f:XA X es t)(h:aW e=true:=by rfl):XA X (e::es) (hX te t):=⟨xN d.h f.h h⟩
def jm{d}(h:XA X es t):XE X (.Tuple es d pos) (aBA t):=⟨Yz h.h⟩
def ax(h:XA X es t):XE X (.List es pos) (aBB t):=⟨Za h.h⟩
def ay{id:String}{r:List V->Hp->VK->Prop}(d:XC X (.builtin id) r)(f:Gl X x)(g:X.mg x=none)(h:bootBuiltins x=some (.builtin id))(j:XA X (e::es) t)(k:x≠"__name__":=by decide)(l:(x==("__debug__":Str))=false:=by decide)(m:aW e=true:=by rfl)(q:es.all aW=true:=by rfl):XE X (.Call (.Name x p) (e::es) [] pos) (tCB r t):=⟨Ts d.h f g h j.h k l m q⟩
def dh{T:String}{r:List V->Hp->VK->Prop}(d:XC X (.type T) r)(f:Gl X x)(g:X.mg x=none)(h:bootBuiltins x=some (.type T))(j:XA X (e::es) t)(k:x≠"__name__":=by decide)(l:(x==("__debug__":Str))=false:=by decide)(m:aW e=true:=by rfl)(q:es.all aW=true:=by rfl):XE X (.Call (.Name x p) (e::es) [] pos) (tCB r t):=⟨Mn d.h f g h j.h k l m q⟩
def ic:XC X (.builtin "len") (λvs H Q=>match vs with|[.str z]=>z.length<=sizeLine/\Q (.int z.length) H|_=>False):=⟨aAf⟩
def lenL:XC X (.builtin "len") (λvs H Q=>match vs with|[.ref p]=>∃ys,(SqL X.K H p ys∨SqT X.K H p ys)/\Q (.int ys.length) H|_=>False):=⟨aAg⟩
def ib:XC X (.type "int") (λvs H Q=>match vs with|[.bl k]=>Q (.int (if k then 1 else 0)) H|_=>False):=⟨aB2⟩
def all(d:X.calm=true):XC X (.builtin "all") (Zu X.K):=⟨Mg d⟩
def sum(d:X.calm=true):XC X (.builtin "sum") (Zv X.K):=⟨Mh d⟩
def fn{n d:Nat}{ps:List Str}{sp:Sp}(c:aG X.prog X.w X.K X.mg X.base n x ps sp)(f:Room d X.A)(g:Gl X x)(h:XA X (e::es) t)(j:(x==("__debug__":Str))=false:=by decide)(k:aW e=true:=by rfl)(l:es.all aW=true:=by rfl)(m:n<=d:=by decide):XE X (.Call (.Name x p) (e::es) [] pos) (tFn sp t):=⟨aB7 c (f.mono m) g h.h j k l⟩
def bm{T id:String}{name:Str}{r:V->List V->Hp->VK->Prop}(d:PlainAttrs T)(slot:Slot T name id)(f:typeOf (.builtin id)=pure (.type "method_descriptor"))(g:XM X id r)(h:XE X o to)(j:XA X (e::es) t)(k:attributeBase o name X.env (eval o X.env)=eval o X.env:=by rfl)(l:(apos.endLine==cpos.line)=true:=by rfl)(m:aW e=true:=by rfl)(q:es.all aW=true:=by rfl)(s:es.length+1<30:=by decide) :
  XE X (.Call (.Attribute o name apos) (e::es) [] cpos) (tBM X.K T r to t):=⟨aDk d slot f g.h h.h j.h k l m q s⟩
def de:XM X "list.append" El:=⟨Hv⟩
def ju:XM X "list.pop" Lm:=⟨Ln⟩
def join:XM X "str.join" (Me X.K):=⟨Tk⟩
def gv{T:Str}(d:Kd)(f:XE X e te)(g:Gl X "isinstance")(h:X.mg "isinstance"=none)(j:Gl X T)(k:X.mg T=none)(l:bootBuiltins T=some (.type (Tr d)))(m:T≠"__name__":=by decide)(q:(T==("__debug__":Str))=false:=by decide)(s:aW e=true:=by rfl):XE X (.Call (.Name "isinstance" p) [e,.Name T p2] [] pos) (aAi d te):=⟨aAj d f.h g h j k l m q s⟩
def dz:XE X (.Dict [] [] pos) (Lq):=⟨Ls⟩
variable {tg:Expr}
def wL(d:XE X e te):XI X tg e (Kq X.K te):=⟨Sg d.h⟩
def wT(d:XE X e te):XI X tg e (Ym X.K te):=⟨Yn d.h⟩
def wS(d:XE X e te):XI X tg e (aBL te):=⟨Zr d.h⟩
def eg(d:Gl X "range")(f:X.mg "range"=none)(g:XA X [a] t)(h:aW a=true:=by rfl):XI X tg (.Call (.Name "range" p) [a] [] pos) (Wj t):=⟨Gv d f g.h (bQ h)⟩
def gn{i:Nat}(d:X.N.Nodup)(f:X.N[i]?=some x:=by rfl)(g:Wh X.env.scope x:=by first|exact Or.inl rfl|exact Or.inr rfl)(h:X.fn x=true∨X.env.scope.names.lookup x=some .local:=by first|exact .inl rfl|exact .inr rfl|assumption):XG X (.Name x pos) (aJ i):=⟨Sd d f g h⟩
def dq:XGs X [] Yh:=⟨Se⟩
def bj{d:TG}{f:Ec}(g:XG X e d)(h:XGs X es f)(hs:(assignEach (e::es) X.env).map (·.2)=assign e X.env::(assignEach es X.env).map (·.2):=by rfl):XGs X (e::es) (Km d f):=⟨Kn g.h h.h hs⟩
def gt'{k:Nat}{d:Ec}(f:X.calm=true)(h:XGs X es d)(g:(assignEach es X.env).length=n:=by rfl)(j:(assignEach es X.env).findIdx? (·.1)=none:=by rfl):XG X (.Tuple es k pos) (Sf X.K n d):=⟨Yi f h.h g j⟩
def jl:aAn X Wn:=⟨Lk⟩
def cn{g:Gs}(h:XE X o to)(j:XE X i ti)(hs:aAn X g)(k:∀v,assign (.Subscript o i pos) X.env v=(do
   let d←holding [v] (eval o X.env)
   let f←holding [v,d] (eval i X.env)
   standAt pos
   holding [v,d,f] (setItem d f v)
   release [v,d,f] []):=by intro _;rfl):XG X (.Subscript o i pos) (aBq to ti g):=⟨Yj h.h j.h hs.h k⟩
end
section
variable {X:Cx}{c e tg iter elt:Expr}{ifs:List Expr}{te:TE}{tc tt:TT}{g:TG}{wi:TI}{st:Stmt}{ss sa sb:List Stmt}{t u:TS}{pos pos' uz py:Pos}{x y:Str}{scope:Scope}{N:List Str}{js:List (Option Nat)}
def cz:XTs X [] Mb:=⟨Te⟩
def bi(h:XT X c tt)(a:X.xe=λ_ _=>False:=by rfl):XTs X [c] tt:=⟨Tf h.h a⟩
def bc(h:X.calm=true)(S:CompScope X scope N js)(go:Bz js g)(i:XI X tg iter wi)(j:∀(C:TD)(d:QZZ)(f:Hp)(fp:List TD),XG (pI X scope C N d f fp) tg g/\XTs (pI X scope C N d f fp) ifs tt/\XE (pI X scope C N d f fp) elt te)(hs:∀x,foldedSetIterable iter X.env x=pure x:=by intro _;rfl):XE X (.ListComp elt [⟨tg,iter,ifs,0⟩] scope pos) (Wr wi js g tt te):=
 ⟨Th h S go i.h (λC d f fp=>let ⟨a,b,c⟩:=j C d f fp;⟨a.h,b.h,c.h⟩) hs⟩
def gs{i:Nat}(h:X.N.Nodup)(j:X.N[i]?=some y)(k:Wh X.env.scope y)(l:X.calm=true)(S:CompScope X scope N js)(go:Bz js g)(m:XI X tg iter wi)(n:∀(C:TD)(d:QZZ)(f:Hp)(fp:List TD),XG (pI X scope C N d f fp) tg g/\XTs (pI X scope C N d f fp) ifs tt/\XE (pI X scope C N d f fp) elt te)(o:swapsWith (.ListComp elt [⟨tg,iter,ifs,0⟩] scope pos) (some (.Name y py)) uz.line X.env=pure true)(hs:∀x,foldedSetIterable iter X.env x=pure x:=by intro _;rfl)(p:X.fn y=true∨X.env.scope.names.lookup y=some .local:=by first|exact .inl rfl|exact .inr rfl|assumption) :
  XS X (.Assign [.Name y py] (.ListComp elt [⟨tg,iter,ifs,0⟩] scope pos) uz) (Ws i wi js g tt te):=
 ⟨Ti h j k l S go m.h (λC d f fp=>let ⟨a,b,c⟩:=n C d f fp;⟨a.h,b.h,c.h⟩) o hs p⟩
def au:XB X [] yV:=⟨Ry⟩
def ai(a:XS X st t):XB X [st] t:=⟨Rz a.h⟩
def af(a:XS X st t)(b:XB X ss u):XB X (st::ss) (uX t u):=⟨Kl a.h b.h⟩
def ao(a:XE X e te):XS X (.Return (some e) pos) (aBn te):=⟨Yg a.h⟩
def bp(a:XE X e te)(hs:swapsWith e none pos.line X.env=pure false:=by rfl):XS X (.Expr e pos) (Wi te):=⟨Sb a.h hs⟩
def ar(a:XT X c tc)(b:XB X sa t)(d:XB X sb u):XS X (.If c sa sb pos) (Gr tc t u):=⟨aBo a.h b.h d.h⟩
def al{i:Nat}(a:X.N.Nodup)(b:XE X e te)(d:X.N[i]?=some x:=by rfl)(f:Wh X.env.scope x:=by first|exact Or.inl rfl|exact Or.inr rfl)(h:swapsWith e (some (.Name x pos')) pos.line X.env=pure false:=by rfl)(j:X.fn x=true∨X.env.scope.names.lookup x=some .local:=by first|exact .inl rfl|exact .inr rfl|assumption):XS X (.Assign [.Name x pos'] e pos) (Ko te (aJ i)):=⟨Yl a d f b.h h j⟩
def cj(a:XE X e te)(b:XG X tg g)(hs:swapsWithSole [tg] e pos.line X.env=pure false:=by rfl)(d:swappedStores [tg] e X.env=pure none:=by rfl)(f:(assignEach [tg] X.env).map (·.2)=[assign tg X.env]:=by rfl) :
  XS X (.Assign [tg] e pos) (Ko te g):=⟨Yk a.h b.h hs d f⟩
def bn(a:PassesOwn (model X.prog X.w) X.A X.env X.xe)(b:X.calm=true)(d:XI X tg iter wi)(f:XG X tg g)(h:XB X ss t)(hs:∀x,foldedSetIterable iter X.env x=pure x:=by intro _;rfl):XS X (.For tg iter ss [] pos) (aBr wi g t):=⟨Yo a b d.h f.h h.h hs⟩
end
end R
def DefAt.go{P:Program}{w:World}{K:W.Frag}{mg:V0}{base:Heap}{x:Str}{st:Stmt}{N ps:List Str}{k:Nat}{sp:Sp}(D:DefAt K mg x st ps)(S:aK N ps (aB st))(len:∀vs H Q E,sp vs H Q E->vs.length=ps.length)(b:∀(f:TD)(a:Q4)(A:Around)(outer:List Env)(s:QZZ)(H:Hp)(vs:List V)(Q:VK)(E:XK),Room k (A.deeper (envOfC x (aB st) s.heap.objs.size f a))->sp vs H Q E →
   ∃t,XB (nB sO P w K mg base N x (aB st) f a A outer s H E).nox (bF st) t/\t {nx:=λ_ c=>Q .non c,rt:=Q } (start N vs) H):aG P w K mg base (k+1) x ps sp:=
 D.ok S len λf a A outer s H vs Q E d h=>let ⟨t,e,g⟩:=b f a A outer s H vs Q E d h;⟨t,e.h,g⟩
def DefAt.gg{P:Program}{w:World}{K:W.Frag}{mg:V0}{base:Heap}{x:Str}{st:Stmt}{N ps:List Str}{k:Nat}{sp:Sp}(D:DefAt K mg x st ps)(S:aK N ps (aB st))(b:∀(f:TD)(a:Q4)(A:Around)(outer:List Env)(s:QZZ)(H:Hp)(vs:List V)(Q:VK)(E:XK),Room k (A.deeper (envOfC x (aB st) s.heap.objs.size f a))->sp vs H Q E →
   ∃t,XB (nB sO P w K mg base N x (aB st) f a A outer s H E).nox (bF st) t/\t {nx:=λ_ c=>Q .non c,rt:=Q } (start N vs) H)(len:∀vs H Q E,sp vs H Q E->vs.length=ps.length:=by intro vs H Q E h;repeat (first | (obtain⟨rfl,_⟩:=h;rfl) | obtain⟨_,h⟩:=h)):aG P w K mg base (k+1) x ps sp:=
 D.ok S len λf a A outer s H vs Q E d h=>let ⟨t,e,g⟩:=b f a A outer s H vs Q E d h;⟨t,e.h,g⟩
def Fun.go{P:Program}{w:World}{K:W.Frag}{mg:V0}{base:Heap}{x b:Str}{st:Stmt}{f:TD}{c:FuncData}{N ps:List Str}{k:Nat}{sp:Sp}(F:Fun K x b st f c)(S:aK N ps (aB st))(len:∀vs H Q E,sp vs H Q E->vs.length=ps.length)(d:∀(a:Q4)(A:Around)(outer:List Env)(s:QZZ)(H:Hp)(vs:List V)(Q:VK)(E:XK),Room k (A.deeper (envOfC b (aB st) s.heap.objs.size f a))->sp vs H Q E →
   ∃t,XB (nB sO P w K mg base N b (aB st) f a A outer s H E).nox (bF st) t/\t {nx:=λ_ e=>Q .non e,rt:=Q } (start N vs) H):lE P w K mg base sO (k+1) f c ps sp:=
 F.ok S len λa A outer s H vs Q E g h=>let ⟨t,i,j⟩:=d a A outer s H vs Q E g h;⟨t,i.h,j⟩
def Fun.gg{P:Program}{w:World}{K:W.Frag}{mg:V0}{base:Heap}{x b:Str}{st:Stmt}{f:TD}{c:FuncData}{N ps:List Str}{k:Nat}{sp:Sp}(F:Fun K x b st f c)(S:aK N ps (aB st))(d:∀(a:Q4)(A:Around)(outer:List Env)(s:QZZ)(H:Hp)(vs:List V)(Q:VK)(E:XK),Room k (A.deeper (envOfC b (aB st) s.heap.objs.size f a))->sp vs H Q E →
   ∃t,XB (nB sO P w K mg base N b (aB st) f a A outer s H E).nox (bF st) t/\t {nx:=λ_ e=>Q .non e,rt:=Q } (start N vs) H)(len:∀vs H Q E,sp vs H Q E->vs.length=ps.length:=by intro vs H Q E h;repeat (first | (obtain⟨rfl,_⟩:=h;rfl) | obtain⟨_,h⟩:=h)):lE P w K mg base sO (k+1) f c ps sp:=
 F.ok S len λa A outer s H vs Q E g h=>let ⟨t,i,j⟩:=d a A outer s H vs Q E g h;⟨t,i.h,j⟩
def aAp{K:W.Frag}{h:Heap}{mg:V0}{x:Str}{st:Stmt}{ps:List Str}{f:TD}{m b:Option TD}{sl:Array (Option Q4)}{n kV o d g e:Q4}(X:K.In h)(G:h.Ns mainGlobals mg)(a:W.nsIn K mainGlobals x=some (some (.ref f)))(l:K.lookup f=some ⟨n,m,.func (W.fnOf x x (cG st) (bF st) (aB st) .none kV o d b g e),sl⟩)(c:W.codeIn K g x=true)(k:W.keepIn K (.ref f)=true)(p:∀(kV i d:Q4)(b:Option TD)(j e:Q4)(us:List Q4),us.length=ps.length->bindArgs (W.fnOf x x (cG st) (bF st) (aB st) .none kV i d b j e) ⟨us,[]⟩=pure (ps.zip us)):DefAt K mg x st ps:=
 ⟨f,_,sP l c k,W.mg_of X G a,(sP (st:=st) l c k).binds p⟩
namespace R
section
variable {X:Cx}{K:W.Frag}{a b c e o i tg:Expr}{es rest:List Expr}{te to:TE}{t:TA}{pos p p2 apos cpos:Pos}{x:Str}{n:Nat}
def aw(d:X.K=K:=by rfl):XIx X (Tp K):=d▸iL
def ah(d:X.K=K:=by rfl):XIx X (lF K):=d▸iT
def ia(d:X.K=K:=by rfl):XSl X (Tq K):=d▸sL
def bo(d:X.K=K:=by rfl):lA X (compareOp .In) (Zi K false):=d▸inQ
def ko(d:X.K=K:=by rfl):lA X (compareOp .NotIn) (Zi K true):=d▸notInQ
def jx(d:X.A.units<cLine)(f:X.K=K:=by rfl):lA X (compareOp .Eq) (pT K false):=f▸eqNil d
def jt(d:X.A.units<cLine)(f:X.K=K:=by rfl):lA X (compareOp .NotEq) (pT K true):=f▸neNil d
def bg(f:X.K=K:=by rfl):XC X (.builtin "len") (λvs H Q=>match vs with|[.ref p]=>∃d,(SqL K H p d∨SqT K H p d)/\Q (.int d.length) H|_=>False):=f▸lenL
def jk(d:X.calm=true)(f:X.K=K:=by rfl):XC X (.builtin "all") (Zu K):=f▸all d
def jr(d:X.calm=true)(f:X.K=K:=by rfl):XC X (.builtin "sum") (Zv K):=f▸sum d
def jv(d:X.K=K:=by rfl):XM X "str.join" (Me K):=d▸join
def bt{T id:String}{name:Str}{r:V->List V->Hp->VK->Prop}(d:PlainAttrs T)(slot:Slot T name id)(f:typeOf (.builtin id)=pure (.type "method_descriptor"))(g:XM X id r)(h:XE X o to)(j:XA X (e::es) t)(k:X.K=K:=by rfl)(l:attributeBase o name X.env (eval o X.env)=eval o X.env:=by rfl)(m:(apos.endLine==cpos.line)=true:=by rfl)(q:aW e=true:=by rfl)(s:es.all aW=true:=by rfl)(u:es.length+1<30:=by decide) :
  XE X (.Call (.Attribute o name apos) (e::es) [] cpos) (tBM K T r to t):=k▸bm d slot f g h j l m q s u
def bb(d:XE X e te)(f:X.K=K:=by rfl):XI X tg e (Kq K te):=f▸wL d
def fi(d:XE X e te)(f:X.K=K:=by rfl):XI X tg e (Ym K te):=f▸wT d
def dm{k:Nat}{d:Ec}(f:X.calm=true)(h:XGs X es d)(g:X.K=K:=by rfl)(j:(assignEach es X.env).length=n:=by rfl)(l:(assignEach es X.env).findIdx? (·.1)=none:=by rfl):XG X (.Tuple es k pos) (Sf K n d):=g▸gt' f h j l
end
end R
section
variable {X:Cx}
def aDl:List V->Hp->VK->Prop:=λvs H Q=>match vs with
 | [.int i]=>(0<=i/\i<10^40)/\Q (.str (Str.ofString (toString i))) H
 | [.str z]=>Q (.str z) H
 | _=>False
def aDD:List V->Hp->VK->Prop:=λvs H Q=>match vs with
 | [.str z]=>NumText.AllDigits z.cps.toList/\z.cps.toList≠[]/\z.length<=640/\Q (.int (NumText.digitsVal z.cps.toList:Nat)) H
 | _=>False
end
def LET:List Nat:=[97,98,99,100,101,102,103,104,105,106,107,108,109,110,111,112,113,114,115,116,117,118,119,120,121,122]
def FIG:List Nat:=[48,49,50,51,52,53,54,55,56,57]
def Ce:(("abcdefghijklmnopqrstuvwxyz":Str)).cps.toList=LET:=by decide +kernel
def aAq:(("0123456789":Str)).cps.toList=FIG:=by decide +kernel
def lN(x:V)(a:List Nat)(n:Int):Bool:=match x with|.str z=>decide (1<=(z.length:Int))&&decide ((z.length:Int)<=n)&&z.cps.toList.all (λc=>decide (c∈a))|_=>false
def kC(z:Str)(a:List Nat)(n:Int):lN (.str z) a n=(decide (1<=(z.length:Int))&&decide ((z.length:Int)<=n)&&z.cps.toList.all (λc=>decide (c∈a))):=rfl
def Mv:Sp:=λvs H Q _=>∃x a n k,vs=[x,.str a,.int n]/\Wu H x k/\(∀z,x=.str z->z.length<=1000)/\∀b,Same H b->Q (.bl (lN x a.cps.toList n)) b
def Mw(b:List Nat)(n:Int):Sp:=λvs H Q _=>∃x k,vs=[x]/\Wu H x k/\(∀z,x=.str z->z.length<=1000)/\∀a,Same H a->Q (.bl (lN x b n)) a
def gB(z:Str):Prop:=1<=z.length/\z.length<=8/\∀c∈z.cps.toList,c∈LET
def Ty(z:Str)(a:List Str):qW (.str z) (a.map V.str)=decide (z∈a):=by
 unfold qW;rw[any_map,Bool.eq_iff_iff,any_eq_true,decide_eq_true_iff];constructor
 ·rintro⟨y,b,e⟩;have:y=z:=by simpa [yQ]using e
  rw[<- this];exact b
 ·intro h;exact⟨z,h,by simp[yQ]⟩
def Ih(a:List Str):(a.map V.str).all dY=true:=by
 rw[all_map];exact all_eq_true.mpr λ_ _=>rfl
namespace R
variable {X:Cx}
def jw(a:X.calm=true):XC X (.builtin "max") (λvs H Q=>match vs with | [.int i,.int j]=>Q (.int (if j > i then j else i)) H | _=>False):=⟨(Gz a).imp λvs H Q h=>by
 split at h
 ·rename_i i j;exact⟨i,j,rfl,h⟩
 ·exact h.elim⟩
end R
section
variable {prog:Program}{w:World}{A:Around}{E:XV}{s:QZZ}
def Ii{t:TD}{a:Array Value}{Q:Bool->QZZ->Prop}(b:IsTup s.heap t a)(h:Q true s):wpAny (model prog w) A (Builtin.Tuple.tupleIsExact (.ref t)) Q E s:=by
 unfold Builtin.Tuple.tupleIsExact;refine U9 (wpAny_typeOf b.typeIs ?_);exact U8 h
def nD{t sl:TD}{a:Array Value}{d e:Q4}{lo c:Option Int}{Q:XV}(b:IsTup s.heap t a)(hs:s.heap.IsSliceOf sl d e .none)(pl:IsPart d lo)(g:IsPart e c)(f:HT.sIx a.size 0 lo=0/\HT.sIx a.size a.size c=a.size)(h:Q (.ref t) s):wpAny (model prog w) A (getItem (.ref t) (.ref sl)) Q E s:=by
 obtain⟨os,i,j,m⟩:=id hs;have k:s.TypeIs (.ref sl) "slice":=⟨os,i,j⟩;unfold getItem;try with_reducible refine wpAny_holding ?_
 first|refine U9 (U8 ?_)|skip
 refine U9 (wpAny_sequenceKey b.typeIs Zd ?_);refine U9 (wpAny_callSpecial?_slot (name:=Str.ofString "__getitem__") b.typeIs PyProof.Rows.slot_tuple_getitem
  (wpAny_call_entry PyProof.Rows.slot_tuple_getitem b.typeIs entry_tuple_getitem ?_ (args_tuple_getitem _ _)))
 show wpAny _ _ (Builtin.Tuple.tupleItemsOf (.ref t)>>=_) _ _ s;refine U9 (tupleItemsOf_ b ?_);refine U9 (wpAny_typeOf k ?_);rw[QZY Zd];refine U9 (HT.sliceApplied_gen hs pl g ?_);have l:(((HT.sIx a.size 0 lo:Nat):Int)==0&&(1:Int)==1&&(HT.sIx a.size a.size c-HT.sIx a.size 0 lo)==a.size)=true:=by
  rw[f.1,f.2];simp
 show wpAny _ _ (if (((HT.sIx a.size 0 lo:Nat):Int)==0&&(1:Int)==1&&(HT.sIx a.size a.size c-HT.sIx a.size 0 lo)==a.size)=true then _ else _) _ _ s;rw[QZY l];refine U9 (Ii b ?_);rw[QZY rfl];exact U9 (wpAny_rule (U8 ⟨_,rfl,U8 h⟩))
def Mx{t b:TD}{c:List Q4}{Q:XV}(i:IsTup s.heap t ([]:List Q4).toArray)(j:IsTup s.heap b c.toArray)(k:Q (.ref b) s):wpAny (model prog w) A (binaryOp .Add (.ref t) (.ref b)) Q E s:=by
 obtain⟨⟨r,l,q,sl⟩,d,e,n,f⟩:=id i;obtain⟨⟨u,m,data2,o⟩,g,h,p,a⟩:=id j;simp only at e f h a;subst e f h a;exact concat_meets ⟨_,d,rfl⟩ ⟨_,g,rfl⟩ noFill_tuple_add seq_tuple_add PySem.F.slot_tuple_add PySem.F.entry_tuple_add (PySem.F.args_tuple_add_2 _ _)
   (tuple_addW0 t b _ c.toArray n p l m sl o Zs) ⟨d,g,k⟩
end
section
variable {X:Cx}{e o e1 e2:Expr}{te:TE}{pos p2 p3:Pos}
def aAr:V->Option Int->Option Int->Hp->VK->Prop:=λx lo d H Q=>mR x λa=>∃c,H a=some (.tup c)/\∀p b,Same H b->b p=some (.tup (jZ c lo d))->Q (.ref p) b
def aCb:SlR X aAr:=by
 intro m s z H x v u w lo f sl Q I g i j k h;unfold aAr at h;rw[dU]at h;obtain⟨a,rfl,b,d,q⟩:=h;by_cases c:HT.sIx b.length 0 lo=0/\HT.sIx b.length b.length f=b.length
 ·cases g;obtain⟨t,r,l,A⟩:=I.tuple (QYK d);have n:t.toArray.size=b.length:=by rw[gM];exact r.length.symm
  refine⟨"tuple",_,PyProof.Rows.slot_tuple_getitem.lookup,l.typeIs,?_⟩;refine nD l i j k (by rw[n];exact c) ⟨.ref a,H,I,rfl,q a H (Same.refl H) ?_⟩;rw[d];unfold jZ;rw[c.1,c.2,drop_zero,Nat.sub_zero,iI (aZ _)]
 ·exact Zc m s z H (.ref a) v u w lo f sl Q I g i j k ⟨a,b,rfl,QYK d,c,λp y=>q p _ (aE y) aA⟩
def Mz:R2:=λx y H Q=>mR x λa=>mR y λb=>∃c d,H a=some (.tup c)/\H b=some (.tup d)/\c.length+d.length<=1000/\∀p f,Same H f->f p=some (.tup (c++d))->Q (.ref p) f
def aAs:OpR X (binaryOp .Add) Mz:=by
 intro k s z H x y v u Q I f g h;unfold Mz at h;rw[dU]at h;obtain⟨a,rfl,h⟩:=h;rw[dU]at h;obtain⟨b,rfl,i,l,c,d,m,q⟩:=h;by_cases j:i=[]
 ·subst j;cases f;cases g;obtain⟨A,n,r,_⟩:=I.tuple (QYK c);obtain⟨B,C,p2,_⟩:=I.tuple (QYK d);cases n;exact Mx r p2 ⟨.ref b,H,I,rfl,q b H (Same.refl H) (by rw[d];rfl)⟩
 ·exact Sv k s z H _ _ v u Q I f g ⟨a,b,i,l,rfl,rfl,QYK c,QYK d,j,gL m Zd,(λt=>q a H (Same.refl H) (by rw[c,t,append_nil])),λ_ p w=>q p _ (aE w) aA⟩
end
def Tab(P:Params):List DictEntry->List (Str×Int)->Prop
 | [],[]=>True
 | e::r,(x,i)::q=>(∃t,e.key=.str x t)/\e.hash=PyData.keyHash P x/\(∃t,e.val=.int i t)/\Tab P r q
 | _,_=>False
def Tab.keys{P:Params}:∀ {es:List DictEntry}{a:List (Str×Int)},Tab P es a->W.KeysLit P es
 | [],[],_=>trivial
 | e::r,(x,i)::q,h=>⟨let ⟨t,b⟩:=h.1;⟨x,t,b,h.2.1⟩,Tab.keys h.2.2.2⟩
 | [],_::_,h=>h.elim
 | _::_,[],h=>h.elim
theorem Tab.find{P:Params}(z:Str):∀ {es:List DictEntry}{a:List (Str×Int)},Tab P es a->(match a.lookup z with|some i=>∃t,(es.find? λe=>Value.isStrOf z e.key).map (·.val)=some (.int i t)|none=>(es.find? λe=>Value.isStrOf z e.key).map (·.val)=none)
 | [],[],_=>rfl
 | [],_::_,h=>h.elim
 | _::_,[],h=>h.elim
 | e::r,(x,i)::q,h=>by
  obtain⟨⟨t,b⟩,k,⟨c,d⟩,f⟩:=h;have g:=Tab.find z f;rw[lookup_cons,find?_cons];have j:Value.isStrOf z e.key=(z==x):=by
   rw[b];show(x==z)=(z==x);exact Bool.beq_comm
  rw[j];cases l:z==x with
  | true=>exact⟨c,by rw[<- d];rfl⟩
  | false=>exact g
structure KTab(K:W.Frag)(P:Params)(a:TD)(ws:List (Str×Int)):Prop where
 ex:∃es n,K.lookup a=some ⟨.type "dict",none,.dict (toArray es) n,#[]⟩/\Tab P es ws/\(a==sysModules)=false
def KTab.map{K:W.Frag}{prog:Program}{w:World}{a:TD}{b:List (Str×Int)}{h:Heap}(T:KTab K w.params a b)(X:K.In h) :
  ∃f:Str->Option Q4,h.MapOf (strKind prog w) a f/\(a==sysModules)=false/\∀z,(match b.lookup z with|some i=>∃t,f z=some (.int i t)|none=>f z=none):=by
 obtain⟨e,n,d,c,lo⟩:=T.ex;refine⟨_,W.mapOf_K (prog:=prog) X d c.keys,lo,λz=>?_⟩;have:=c.find z;unfold findBy;rw[List.find?_toArray];exact this
section
variable {X:Cx}
def aAt(K:W.Frag)(P:Params):R2:=λx y H Q=>mR x λa=>mS y λz=>∃b i,KTab K P a b/\b.lookup z=some i/\Q (.int i) H
def i_K:IxR X (aAt X.K X.w.params):=by
 intro m slice n s p H x y v u Q I d e h g;unfold aAt at h;rw[dU]at h;obtain⟨a,rfl,h⟩:=h;rw[sW]at h;obtain⟨z,rfl,o,i,T,j,h⟩:=h;obtain⟨t,rfl⟩:=e;cases d;obtain⟨f,c,lo,k⟩:=T.map (prog:=X.prog) I.kIn;have b:=k z;rw[j]at b;obtain⟨l,b⟩:=b;exact tail_any c.typeIs slot_dict_getitem.lookup (wpAny_getItem_of (strKind_is X.prog X.w z t) c b ⟨.int i,H,I.tok _,⟨l,rfl⟩,h⟩) g
end
structure XPs(X:Cx)(pos:Pos)(keys:List (Option Expr))(values:List Expr)(trs:List (TE×TE)):Prop where
 h:PPs X pos keys values trs
namespace R
section
variable {X:Cx}{K:W.Frag}{P:Params}{e e1 k v o f:Expr}{te t1 tk tv td ty OP:TE}{pos p2 apos cpos:Pos}{ks:List (Option Expr)}{vs:List Expr}{trs:List (TE×TE)}
def sT:XSl X aAr:=⟨aCb⟩
def cp:lA X (binaryOp .Add) Mz:=⟨aAs⟩
def jo(a:X.K=K:=by rfl)(b:X.w.params=P:=by rfl):XIx X (aAt K P):=a▸b▸⟨i_K⟩
def jq(b:X.K=K:=by rfl):XC X (.type "list") (λvs H Q=>match vs with | [.ref p]=>∃a,(SqL K H p a∨SqT K H p a)/\∀l,H l=none->Q (.ref l) (aI H l (.lst a)) | _=>False):=b ▸ ⟨xG.imp λvs H Q h=>by
 split at h
 ·rename_i p;obtain⟨a,c,h⟩:=h;exact⟨p,a,rfl,c,h⟩
 ·exact h.elim⟩
def km(b:X.K=K:=by rfl):XC X (.type "tuple") (λvs H Q=>match vs with | [.ref p]=>∃a,SqL K H p a/\∀l,H l=none->Q (.ref l) (aI H l (.tup a)) | _=>False):=b ▸ ⟨uZ.imp λvs H Q h=>by
 split at h
 ·rename_i p;obtain⟨a,c,h⟩:=h;exact⟨p,a,rfl,.inl ⟨c,h⟩⟩
 ·exact h.elim⟩
def ii:XPs X pos [] [] []:=⟨Tb⟩
def df(a:XE X k tk)(b:XE X v tv)(c:XPs X pos ks vs trs):XPs X pos (some k::ks) (v::vs) ((tk,tv)::trs):=⟨Lv a.h b.h c.h⟩
def ig(h:XPs X pos ks vs trs)(a:ks.all (·.isSome)=true:=by rfl)(b:ks.length=vs.length:=by rfl)(c:ks≠[]:=by simp)(d:ks.length<=15:=by decide):XE X (.Dict ks vs pos) (Wq trs):=⟨Tc h.h a b c d⟩
def du(a:X.A.units+1<cLine)(b:XE X o td)(c:XE X e ty)(d:XE X f OP)(g:attributeBase o "get" X.env (eval o X.env)=eval o X.env:=by rfl)(h:(apos.endLine == cpos.line)=true:=by rfl)(i:((backTo cpos (starEach [e,f] X.env)).all (λx=>!x.1)&&(backToKw cpos (keywordEach [] X.env)).all (λx=>x.1.isSome)
  && decide (([e,f]:List Expr).length+([]:List Keyword).length+(if ([]:List Keyword).isEmpty then 0 else 1)<30))=true:=by rfl)(j:backTo cpos (starEach [e,f] X.env)=[(false,eval e X.env),(false,eval f X.env)]:=by rfl):XE X (.Call (.Attribute o "get" apos) [e,f] [] cpos) (Lx td ty OP):=⟨Ly a b.h c.h d.h ⟨g,i,h,j⟩⟩
end
end R
def nmV(x:V):Bool:=lN x LET 8
def Cf(lo a:Int)(x:V):Bool:=match x with|.int n=>decide (lo<=n)&&decide (n<=a)|_=>false
def Pt(H:Hp)(x:V):Prop:=∃k,Wu H x k/\∀z,x=.str z->z.length<=1000
def Ey:Sp:=λvs H Q _=>∃x lo a,vs=[x,.int lo,.int a]/\Pt H x/\∀b,Same H b->Q (.bl (Cf lo a x)) b
def aCc:R2:=λx y H Q=>mR x λl=>mR y λb=>∃a c,H l=some (.lst a)/\H b=some (.lst c)/\a.length+c.length<=sizeLine/\∀p,H p=none->Q (.ref p) (aI H p (.lst (a++c)))
def R.bq{X:Cx}:lA X (binaryOp .Add) aCc:=⟨Zl.imp λx y H Q h=>by
 unfold aCc at h;rw[dU]at h;obtain⟨a,rfl,h⟩:=h;rw[dU]at h;obtain⟨b,rfl,c,d,h⟩:=h;exact⟨a,b,c,d,rfl,rfl,h⟩⟩
def aAu{z:Str}(h:gB z):nmV (.str z)=true:=by
 unfold nmV;rw[kC,UV (by have:=h.1;omega),UV (by have:=h.2.1;omega),all_eq_true.mpr λc a=>UV (h.2.2 c a)];rfl
def Dk.tup_ne{H:Hp}{d b p:TD}{xs:List V}(D:Dk H d b)(h:H p=some (.tup xs)):p≠d/\p≠b:=by
 obtain⟨f,s,k,a,c,g⟩:=D.ex;exact⟨λe=>(by rw[e,a]at h;cases h),λe=>(by rw[e,c]at h;cases h)⟩
inductive TV where
 | sc (v:V)
 | tp (xs:List TV)
 | ls (xs:List TV)
def Na:V->Bool|.non=>true|.bl _=>true|.int _=>true|.str _=>true|_=>false
def Paired.map'{c d:Type}{R S:c->d->Prop}(f:∀a b,R a b->S a b){xs:List c}{ys:List d}(h:Paired R xs ys):Paired S xs ys:=by
 induction h with
 | nil=>exact .nil
 | cons h t e=>exact .cons (f _ _ h) e
def Paired.get'{a b:Type}{R:a->b->Prop}:∀ {xs:List a}{ys:List b}{j:Nat},Paired R xs ys->∀(h:j<ys.length),∃h':j<xs.length,R xs[j] ys[j]
 | _,_,0,.cons h t,_=>⟨Nat.succ_pos _,h⟩
 | _,_,j+1,.cons h t,c=>let ⟨h',r⟩:=Paired.get' (j:=j) t (by simpa using c);⟨by simpa using h',by simpa using r⟩
section
variable {X:Cx}
def R.ij{st:Stmt}:XS X st (λ_ _ _=>False):=⟨λa s b H D I h=>h.elim⟩
end
def aAv(a b:Str):ltCps b.cps.toList a.cps.toList=false↔a.cps.toList<=b.cps.toList:=by
 rw[ltCps_eq,decide_eq_false_iff_not];exact Iff.rfl
def Nb{a b:Str}(h:a.cps.toList=b.cps.toList):a=b:=by rw[oJ a,oJ b,h]
theorem jK:∀(l:List Str)(p:Str),risingS p l=true->(p::l).Pairwise (λa b=>a.cps.toList<=b.cps.toList)
 | [],p,_=>List.pairwise_singleton _ _
 | x::r,p,h=>by
  unfold risingS at h;rw[Bool.and_eq_true]at h;obtain⟨f,g⟩:=h;have d:=jK r x g;have e:p.cps.toList<=x.cps.toList:=(aAv p x).mp (by simpa using f);refine pairwise_cons.mpr ⟨λy c=>?_,d⟩;rcases mem_cons.mp c with rfl|c
  ·exact e
  ·exact le_trans e ((pairwise_cons.mp d).1 y c)
def pX:∀(l:List Str),sortedS l=true->l.Pairwise (λa b=>a.cps.toList<=b.cps.toList)
 | [],_=>List.Pairwise.nil
 | x::r,h=>jK r x h
theorem qY:∀(l m:List Str),l.Perm m->l.Pairwise (λa b=>a.cps.toList<=b.cps.toList)->m.Pairwise (λa b=>a.cps.toList<=b.cps.toList)->l=m
 | [],m,c,_,_=>(List.nil_perm.mp c).symm
 | a::l,[],c,_,_=>(List.perm_nil.mp c)
 | a::l,b::m,c,d,f=>by
  obtain⟨g,i⟩:=pairwise_cons.mp d;obtain⟨j,k⟩:=pairwise_cons.mp f;have e:a=b:=by
   have n:a∈b::m:=c.mem_iff.mp gJ;have o:b∈a::l:=c.mem_iff.mpr gJ;rcases mem_cons.mp n with h|h
   ·exact h
   ·rcases mem_cons.mp o with h'|h'
    ·exact h'.symm
    ·exact Nb (List.le_antisymm (g b h') (j a h))
  subst e;rw[qY l m (List.Perm.cons_inv c) i k]
def nM(c:List Str):List Str:=c.mergeSort (λa b=>decide (a.cps.toList<=b.cps.toList))
def iB(a:List Str):(nM a).Perm a:=List.mergeSort_perm _ _
def nN(d:List Str):(nM d).Pairwise (λa b=>a.cps.toList<=b.cps.toList):=by
 have:=List.pairwise_mergeSort (le:=λ(a b:Str)=>decide (a.cps.toList<=b.cps.toList)) (λa b c e f=>UV (le_trans (U6 e) (U6 f))) (λa b=>by
  rcases List.le_total a.cps.toList b.cps.toList with h|h
  ·simp[h]
  ·simp [h]) d
 exact this.imp λh=>U6 h
def Nc{a b:List Str}(c:b.Perm a)(hs:sortedS b=true):b=nM a:=
 qY _ _ (c.trans (iB a).symm) (pX _ hs) (nN a)
def mF(a:List Str):(nM a).length=a.length:=(iB a).length_eq
section
variable {prog:Program}{w:World}{A:Around}{E:XV}{s:QZZ}
def sX{l:TD}{T:String}{o:Obj}{vs:List Q4}{g:List Str}{n:Nat}{Q:XV}(k:T="list"∨T="tuple")(p:s.heap.get? l=some o)(q:o.cls=.type T)(r:o.data=.seq vs.toArray n)(d:StrsAre vs g)(f:vs.length<64)(h:∀(a h':Heap)(out:Array Value)(e:Nat),(∀b c,s.heap.get? b=some c->a.get? b=some c)->(∀b c,a.get? b=some c->h'.get? b=some c)->h'.get? a.objs.size=some (seqObj "list" out e)->StrsAre out.toList (nM g)->Q (.ref a.objs.size) {s with heap:=h' }) :
  wpAny (model prog w) A (call (.builtin "sorted") [.ref l]) Q E s:=by
 apply Calls.call_function_entry kind_sorted plain_sorted entry_sorted (args_sorted1 _);unfold Builtin.«sorted»;apply U9 (m:=checkCount "sorted" 1 1 _);apply U8;apply U9;refine wpAny_collect_seq l k p q r (λa t=>?_) (by rw[gM];exact gL (le_of_lt f) Zd);have u:vs.toArray.toList=vs:=by simp
 rw[u];apply U9;apply wpAny_newList
 ·have g2:(a.push (seqObj "list" vs.toArray 0)).get? a.objs.size=some (seqObj "list" vs.toArray 0):=TW _ rfl;apply U9;apply wpAny_holding;refine wpAny_call_entry slot_list_sort ⟨_,g2,rfl⟩ entry_list_sort (list_sort_treeK strKind_oneLt g2 d.keysOf (λF G rest e=>keyKind_strs (by rw[<- e];exact d)) f λv x y=>⟨_,rfl,U8 ⟨_,rfl,?_⟩⟩) (args_list_sort _);obtain⟨H,z,B,C⟩:=sorted_out_str d x y;obtain⟨e,D⟩:=sortedHeap_at (out:=(arrOf v).map (·.2)) g2;refine h a _ _ e t (λb c i=>?_) D (Nc B C▸z);have j:=Heap.lt_size i;rw[sortedHeap_old (ne_of_lt j) (by rw[size_push'];exact lt_succ_of_lt j)];exact eX _ i
 ·exact gL (le_of_lt f) Zd
end
def pY:∀ {vs:List Q4}{a:List Str},StrsAre vs a->Vals (a.map V.str) vs
 | _,_,.nil=>.nil
 | _,_,.cons x t h=>.cons ⟨t,rfl⟩ (pY h)
section
variable {X:Cx}
def xR(K:W.Frag):List V->Hp->VK->Prop:=λvs H Q=>match vs with
 | [.ref a]=>∃b:List Str,(SqL K H a (b.map V.str)∨SqT K H a (b.map V.str))/\b.length<64/\∀l,H l=none->Q (.ref l) (aI H l (.lst ((nM b).map V.str)))
 | _=>False
def Nd:CallR X (.builtin "sorted") (xR X.K):=by
 intro z s G H J K Q I r h;unfold xR at h;split at h
 ·rename_i a;obtain⟨x,d,B,q⟩:=h;obtain⟨u,rfl,C⟩:=iJ r;cases C;have w:∀(b j:Heap)(i:Array Value)(e:Nat),(∀c f,s.heap.get? c=some f->b.get? c=some f)->(∀c f,b.get? c=some f->j.get? c=some f)->j.get? b.objs.size=some (seqObj "list" i e)->StrsAre i.toList (nM x)->EP X z G Q (.ref b.objs.size) {s with heap:=j }:=λb j i e D k E F=>by
   have y:=I.kept (t':=s.toks) D;refine⟨.ref b.objs.size,_,y.laid (t':=s.toks) (o:=.lst ((nM x).map V.str)) k (aZ _) ?_,rfl,q _ (y.hok.fresh (aZ _))⟩;refine⟨?_,i.toList,e,pY F,E⟩;rw[aS,mF];exact gL (le_of_lt B) Zd
  rcases d with d|d
  ·obtain⟨A,g,l,_⟩:=I.list d;obtain⟨o,m,p,n,t⟩:=l.isList;have v:=g.length;rw[aS]at v;exact sX (.inl rfl) m p t (nL g) Zo w
  ·obtain⟨A,g,l,_⟩:=I.tuple d;obtain⟨o,m,p,n,t⟩:=l;have v:=g.length;rw[aS]at v;exact sX (.inr rfl) m p t (nL g) Zo w
 ·exact h.elim
def R.iw{K:W.Frag}(a:X.K=K:=by rfl):XC X (.builtin "sorted") (xR K):=a▸⟨Nd⟩
end
def TK(H c:Hp):Prop:=∀a b,H a=some (.tup b)->c a=some (.tup b)
def TK.refl{H:Hp}:TK H H:=λ_ _ h=>h
def TK.trans{H c H2:Hp}(a:TK H c)(b:TK c H2):TK H H2:=λp d h=>b p d (a p d h)
def Same.tk{H b:Hp}(s:Same H b):TK H b:=λa c h=>s _ _ h
def Kp.tk{H c:Hp}{d b:TD}(D:Dk H d b)(k:Kp d b H c):TK H c:=λa e h=>k _ _ h (D.tup_ne h).1 (D.tup_ne h).2
def fN{H:Hp}{l:TD}{xs ys:List V}(g:H l=some (.lst xs)):TK H (aI H l (.lst ys)):=λa b h=>by
 have:a≠l:=λe=>by rw[e,g]at h;cases h
 rw[aD this];exact h
def RepT(H:Hp):Nat->TV->V->Prop
 | 0,.sc v,x=>x=v/\Na v=true
 | _+1,.sc v,x=>x=v/\Na v=true
 | n+1,.tp c,x=>∃a b,x=.ref a/\H a=some (.tup b)/\Paired (RepT H n) c b
 | _,_,_=>False
def RepT.scal{H:Hp}{n:Nat}{v:V}(h:Na v=true):RepT H n (.sc v) v:=by
 cases n<;>exact⟨rfl,h⟩
def RepT.s{H:Hp}{n:Nat}{z:Str}:RepT H n (.sc (.str z)) (.str z):=.scal rfl
def RepT.i{H:Hp}{n:Nat}{z:Int}:RepT H n (.sc (.int z)) (.int z):=.scal rfl
section
variable {X:Cx}{es:List Expr}{t:TA}{pos:Pos}
def zL(t:TA):TE:=λd H Q=>t d H λb c=>b.length<=1000/\∀p a,Same c a->a p=some (.tup b)->Q (.ref p) a
def Tz{g}(h:PA X es t):PE X (.Tuple es g pos) (zL t):=by
 intro f s m H Q I i;refine wpAny_Tuple_spliced (cA (h pos f s m H _ I i) λj a ⟨k,c,d,r,z,q⟩=>⟨by rw[<- r.length];exact eZ z,?_⟩);have l:c a.heap.objs.size=none:=d.hok.fresh (aZ _);refine⟨.ref a.heap.objs.size,aI c a.heap.objs.size (.tup k),d.laid (t':=a.toks) (λb u e=>eX _ e) (aZ _) ?_,rfl,q _ _ (aE l) aA⟩;exact⟨eZ z,j,r,⟨_,TW _ rfl,rfl,_,rfl⟩⟩
def R.ap{a}(h:XA X es t):XE X (.Tuple es a pos) (zL t):=⟨Tz h.h⟩
end
section
def Ask(lt:Nat->Nat->Bool)(n:Nat){b:Type}:W.KasT b->(b->Prop)->Prop
 | .ret a,Q=>Q a
 | .ask i j k,Q=>i<n/\j<n/\Ask lt n (k (lt i j)) Q
theorem Ask.bind{lt:Nat->Nat->Bool}{n:Nat}{b c:Type}{f:b->W.KasT c}{Q:c->Prop}:∀(t:W.KasT b),Ask lt n t (λa=>Ask lt n (f a) Q)->Ask lt n (t.bind f) Q
 | .ret _,h=>h
 | .ask i j k,h=>⟨h.1,h.2.1,Ask.bind (k (lt i j)) h.2.2⟩
theorem Ask.wp{lt:Nat->Nat->Bool}{n:Nat}{d:Type}{b:Nat->Nat->(Bool->QZZ->Prop)->QZZ->Prop}{s:QZZ}{G:d->QZZ->Prop}(c:∀i j C,i<n->j<n->C (lt i j) s->b i j C s) :
  ∀(t:W.KasT d),Ask lt n t (λa=>G a s)->t.kasWp b G s
 | .ret _,h=>h
 | .ask i j k,h=>c i j _ h.1 h.2.1 (Ask.wp c (k (lt i j)) h.2.2)
variable {O:KeyOrd}{key:Nat->O.α}{n:Nat}
abbrev kg(key:Nat->O.α)(p:Array Nat)(i:Nat):O.α:=key (p.getD i 0)
abbrev oK(key:Nat->O.α)(i j:Nat):Bool:=O.blt (key i) (key j)
def Prm(n:Nat)(p:Array Nat):Prop:=p.Perm (List.range n).toArray
def Prm.size{p:Array Nat}(h:Prm n p):p.size=n:=by
 have:=h.size_eq;simpa using this
def Prm.lt{p:Array Nat}(h:Prm n p){i:Nat}(a:i<n):p.getD i 0<n:=by
 have b:i<p.size:=by rw[h.size];exact a
 have e:p.getD i 0=p[i]:=by simp[Array.getD,b]
 rw[e];have c:p[i]∈(List.range n).toArray.toList:=(Array.perm_iff_toList_perm.mp h).mem_iff.mp Zs;simpa using c
def gd{p q:Array Nat}{i j:Nat}(h:p[i]?=q[j]?):p.getD i 0=q.getD j 0:=by
 rw[Array.getD_eq_getD_getElem?,Array.getD_eq_getD_getElem?,h]
def Cg{p:Array Nat}{i j:Nat}(b:j<=p.size)(k:Nat):kg key (W.kas_rev p i j) k=if i<=k/\k<j then kg key p (i+j-1-k) else kg key p k:=by
 have e:=getElem?_mirror_all (xs:=p) (i:=i) b k;unfold kg W.kas_rev;by_cases a:i<=k/\k<j
 ·rw[QZY a]at e ⊢;rw[gd e]
 ·rw[QZX a]at e ⊢;rw[gd e]
def xS{p:Array Nat}{i j:Nat}(b:j<=p.size)(a:∀k,i<=k->k<j->kg key p k=kg key p (j-1))(k:Nat):kg key (W.kas_rev p i j) k=kg key p k:=by
 rw[Cg b];split
 ·rename_i h;rw[a (i+j-1-k) Zo Zo,a k h.1 h.2]
 ·rfl
def Nf{p:Array Nat}{a d:Nat}(hs:a<p.size)(f:d<=a)(k:Nat):kg key (bubble p a d) k=if k=a-d then kg key p a else if a-d<k/\k<=a then kg key p (k-1) else kg key p k:=by
 have e:=getElem?_bubble (xs:=p) hs d f k;unfold kg;by_cases b:k=a-d
 ·rw[QZY b]at e ⊢;rw[gd e]
 ·rw[QZX b]at e ⊢;by_cases c:a-d<k/\k<=a
  ·rw[QZY c]at e ⊢;rw[gd e]
  ·rw[QZX c]at e ⊢;rw[gd e]
def Prm.rev{p:Array Nat}(h:Prm n p)(i j:Nat):Prm n (W.kas_rev p i j):=(mirror_perm _ _ _ _).trans h
def Prm.bub{p:Array Nat}(h:Prm n p)(i j:Nat):Prm n (bubble p i j):=(bubble_perm _ _ _).trans h
def Up(key:Nat->O.α)(p:Array Nat)(m:Nat):Prop:=∀i j,i<=j->j<m->O.kle (kg key p i) (kg key p j)
def Dn(key:Nat->O.α)(p:Array Nat)(m:Nat):Prop:=∀i j,i<=j->j<m->O.kle (kg key p j) (kg key p i)
def Up.one{p:Array Nat}:Up key p 1:=λi j a b=>by
 have e:i=j:=by omega
 subst e;exact KeyOrd.kle_refl _
def Up.more{p:Array Nat}{m:Nat}(h:Up key p m)(d:1<=m)(hs:O.kle (kg key p (m-1)) (kg key p m)):Up key p (m+1):=λi j a e=>by
 by_cases b:j<m
 ·exact h i j a b
 ·obtain rfl:j=m:=by omega
  by_cases c:i=j
  ·subst c;exact KeyOrd.kle_refl _
  ·exact KeyOrd.kle_trans (h i (j-1) Zo Zo) hs
def Dn.more{p:Array Nat}{m:Nat}(h:Dn key p m)(d:1<=m)(hs:O.kle (kg key p m) (kg key p (m-1))):Dn key p (m+1):=λi j a e=>by
 by_cases b:j<m
 ·exact h i j a b
 ·obtain rfl:j=m:=by omega
  by_cases c:i=j
  ·subst c;exact KeyOrd.kle_refl _
  ·exact KeyOrd.kle_trans hs (h i (j-1) Zo Zo)
theorem xT{p:Array Nat}(c:Prm n p){Q:Nat->Prop}:∀(f a:Nat),1<=a->a+f<=n->Up key p a →
  (∀m,a<=m->m<=a+f->Up key p m->(m=a+f∨O.klt (kg key p m) (kg key p (m-1)))->Q m)->Ask (oK key) n (W.kas_asc p f a) Q
 | 0,a,_,_,b,h=>h a (aZ _) (aZ _) b (.inl rfl)
 | f+1,a,g,k,b,h=>by
  refine⟨c.lt Zo,c.lt Zo,?_⟩;show Ask (oK key) n (if O.blt (kg key p a) (kg key p (a-1))=true then _ else _) Q
  cases d:O.blt (kg key p a) (kg key p (a-1)) with
  | true=>exact h a (aZ _) Zo b (.inr d)
  | false=>
   refine xT c f (a+1) Zo Zo (b.more g d) λm l m2 i j=>h m Zo Zo i (j.imp (λe=>by omega) id)
theorem oM{Q:Array Nat×Nat×Nat->Prop}:∀(f:Nat)(p:Array Nat)(a q:Nat),Prm n p->1<=a->a+f<=n->Dn key p a->q+1<=a->(∀i,a-(q+1)<=i->i<a->kg key p i=kg key p (a-1)) →
  (∀b m d,Prm n b->1<=m->m<=a+f->Dn key b m->d+1<=m->(∀i,m-(d+1)<=i->i<m->kg key b i=kg key b (m-1))->Q (b,m,d))->Ask (oK key) n (W.kas_desc f p a q) Q
 | 0,p,a,q,c,g,_,k,s,l,h=>h p a q c g (aZ _) k s l
 | f+1,p,a,q,c,g,E,k,s,l,h=>by
  have B:a<=p.size:=by rw[c.size];omega
  have one:∀b:Array Nat,∀i,a+1-(0+1)<=i->i<a+1->kg key b i=kg key b (a+1-1):=λb i x y=>by
   have e:i=a+1-1:=by omega
   rw[e]
  refine⟨c.lt Zo,c.lt Zo,?_⟩;show Ask (oK key) n (if O.blt (kg key p a) (kg key p (a-1))=true then _ else _) Q
  cases t:O.blt (kg key p a) (kg key p (a-1)) with
  | true=>
   rw[QZY rfl];have u:=k.more g (KeyOrd.kle_of_klt t);by_cases v:q>0
   ·rw[QZY v];have w:=xS (key:=key) B l;refine oM f _ (a+1) 0 (c.rev _ _) Zo Zo (λi j x y=>by rw[w,w];exact u i j x y) Zo (one _) λb m d o r z=>h b m d o r Zo
   ·rw[QZX v];exact oM f _ (a+1) 0 c Zo Zo u Zo (one _) λb m d o r z=>h b m d o r Zo
  | false=>
   rw[QZX Zd];refine⟨c.lt Zo,c.lt Zo,?_⟩;show Ask (oK key) n (if O.blt (kg key p (a-1)) (kg key p a)=true then _ else _) Q
   cases A:O.blt (kg key p (a-1)) (kg key p a) with
   | true=>exact h p a q c g Zo k s l
   | false=>
    rw[QZX Zd];have C:kg key p a=kg key p (a-1):=KeyOrd.kle_antisymm A t;refine oM f p (a+1) (q+1) c Zo Zo (k.more g A) Zo (λi x y=>?_) λb m d o r z=>h b m d o r Zo;rw[show a+1-1=a from rfl];by_cases D:i=a
    ·rw[D]
    ·rw[C];exact l i Zo Zo
def vY{p:Array Nat}{a r:Nat}{Q:Nat×Array Nat->Prop}(b:Prm n p)(e:1<=a)(k:a<=r)(l:r<=n)(f:Dn key p a)(h:∀m c,Prm n c->1<=m->m<=r->Up key c m->Q (m,c)) :
  Ask (oK key) n (W.kas_tail3 a r p) Q:=by
 have d:a<=p.size:=by rw[b.size];omega
 refine Ask.bind _ (xT (b.rev 0 a) (r-a) a e Zo (λi j x y=>?_) λm o m2 g _=>h m _ (b.rev 0 a) Zo Zo g);rw[Cg d,Cg d,QZY Zo,QZY Zo];exact f _ _ Zo Zo
def oN{p:Array Nat}{a r:Nat}{Q:Nat×Array Nat->Prop}(o:Prm n p)(u:a+1<=r)(d:r<=n)(s:Dn key p (a+1))(h:∀m b,Prm n b->1<=m->m<=r->Up key b m->Q (m,b)) :
  Ask (oK key) n (W.kas_descPart a r p) Q:=by
 refine Ask.bind _ (oM (r-(a+1)) p (a+1) 0 o Zo Zo s Zo (λi x y=>by rw[show i=a+1-1 by omega]) λb m q c e v f w t=>?_);have l:m<=b.size:=by rw[c.size];omega
 dsimp only;by_cases g:q>0
 ·rw[QZY g];have k:=xS (key:=key) l t;exact vY (c.rev _ _) e Zo d (λi j x y=>by rw[k,k];exact f i j x y) h
 ·rw[QZX g];exact vY c e Zo d f h
def Ij{p:Array Nat}{r:Nat}{Q:Nat×Array Nat->Prop}(b:Prm n p)(B:1<=r)(o:r<=n)(h:∀m f,Prm n f->1<=m->m<=r->Up key f m->Q (m,f)) :
  Ask (oK key) n (W.kas_count r p) Q:=by
 refine Ask.bind _ (xT b (r-1) 1 (aZ _) Zo Up.one λa q C c v=>?_);by_cases e:a=r
 ·rw[QZY (by simpa using e)];exact h a p b q Zo c
 ·rw[QZX (by simpa using e)];have s:O.klt (kg key p a) (kg key p (a-1)):=v.resolve_left Zo;by_cases g:a>1
  ·rw[QZY g];refine⟨b.lt Zo,b.lt Zo,?_⟩;show Ask (oK key) n (if O.blt (kg key p 0) (kg key p (a-1))=true then _ else _) Q
   cases w:O.blt (kg key p 0) (kg key p (a-1)) with
   | true=>exact h a p b q Zo c
   | false=>
    rw[QZX Zd];have u:a<=p.size:=by rw[b.size];omega
    have d:∀k,0<=k->k<a->kg key p k=kg key p (a-1):=λk _ z=>KeyOrd.kle_antisymm (c k (a-1) Zo Zo) (KeyOrd.kle_trans w (c 0 k Zo z))
    have t:=xS (key:=key) u d;refine oN (b.rev _ _) Zo o (λi j x y=>?_) h;rw[t,t];by_cases A:j<a
    ·rw[d i Zo Zo,d j Zo A];exact KeyOrd.kle_refl _
    ·obtain rfl:j=a:=by omega
     by_cases l:i=j
     ·subst l;exact KeyOrd.kle_refl _
     ·rw[d i Zo Zo];exact KeyOrd.kle_of_klt s
  ·rw[QZX g];obtain rfl:a=1:=by omega
   refine oN b Zo o (λi j x y=>?_) h;by_cases l:i=j
   ·subst l;exact KeyOrd.kle_refl _
   ·obtain rfl:i=0:=by omega
    obtain rfl:j=1:=by omega
    exact KeyOrd.kle_of_klt s
theorem pZ{p:Array Nat}{k:Nat}{Q:Nat->Prop}(a:Prm n p)(j:k<n)(b:Up key p k):∀(f l r:Nat),l<=r->r<=k->r-l<=f->(∀i,i<l->O.kle (kg key p i) (kg key p k))->(∀i,r<=i->i<k->O.klt (kg key p k) (kg key p i)) →
  (∀l,l<=k->(∀i,i<l->O.kle (kg key p i) (kg key p k))->(∀i,l<=i->i<k->O.klt (kg key p k) (kg key p i))->Q l)->Ask (oK key) n (W.kas_place p k f l r) Q
 | 0,l,r,o,c,q,d,e,h=>by
  obtain rfl:l=r:=by omega
  exact h l c d e
 | f+1,l,r,o,c,q,d,e,h=>by
  unfold W.kas_place;by_cases g:l≥r
  ·rw[QZY g];obtain rfl:l=r:=by omega
   exact h l c d e
  ·rw[QZX g];refine⟨a.lt j,a.lt Zo,?_⟩;show Ask (oK key) n (if O.blt (kg key p k) (kg key p ((l+r)/2))=true then _ else _) Q
   cases m:O.blt (kg key p k) (kg key p ((l+r)/2)) with
   | true=>
    rw[QZY rfl];exact pZ a j b f l _ Zo Zo Zo d (λi x y=>KeyOrd.klt_of_klt_of_kle m (b _ _ x y)) h
   | false=>
    rw[QZX Zd];exact pZ a j b f _ r Zo c Zo (λi x=>KeyOrd.kle_trans (b i ((l+r)/2) Zo Zo) m) e h
theorem Ez{Q:Array Nat->Prop}:∀(f:Nat)(p:Array Nat)(k:Nat),Prm n p->k+f=n->Up key p k->(∀d,Prm n d->Up key d n->Q d)->Ask (oK key) n (W.kas_bin f p k) Q
 | 0,p,k,b,e,a,h=>h p b (by
  obtain rfl:k=n:=by omega
  exact a)
 | f+1,p,k,b,e,a,h=>by
  refine Ask.bind _ (pZ b Zo a k 0 k Zo Zo Zo (λi x=>by omega) (λi x y=>by omega) λl s lo r=>?_);have g:k<p.size:=by rw[b.size];omega
  refine Ez f _ (k+1) (b.bub _ _) Zo (λi j x y=>?_) h;rw[Nf g Zo,Nf g Zo,show k-(k-l)=l by omega];by_cases m:i=l
  ·rw[QZY m];by_cases c:j=l
   ·rw[QZY c];exact KeyOrd.kle_refl _
   ·rw[QZX c,QZY Zo];exact KeyOrd.kle_of_klt (r _ Zo Zo)
  ·rw[QZX m];by_cases c:j=l
   ·rw[QZY c,QZX Zo];exact lo _ Zo
   ·rw[QZX c];by_cases o:l<i/\i<=k
    ·rw[QZY o,QZY Zo];exact a _ _ Zo Zo
    ·rw[QZX o];by_cases q:l<j/\j<=k
     ·rw[QZY q];exact a _ _ Zo Zo
     ·rw[QZX q];exact a _ _ x Zo
def Ng{Q:Array Nat->Prop}(d:1<=n)(h:∀p,Prm n p->Up key p n->Q p):Ask (oK key) n (W.kas_sort n) Q:=by
 refine Ask.bind _ (Ij (p:=(List.range n).toArray) (Array.Perm.refl _) d (aZ _) λm p a e m2 b=>?_);dsimp only;by_cases c:m<n
 ·rw[QZY c];rw[show max m 1=m by omega];exact Ez _ p m a Zo b h
 ·rw[QZX c];obtain rfl:m=n:=by omega
  exact h p a b
end
abbrev Z:=Addr×Str×Int
def zle(x y:Z):Prop:=x.2.1.cps.toList<=y.2.1.cps.toList
def ZAt(H:Hp)(zs:List Z):Prop:=∀z∈zs,H z.1=some (.tup [.str z.2.1,.int z.2.2])
def ZAt.same{H a:Hp}{zs:List Z}(h:ZAt H zs)(s:Same H a):ZAt a zs:=λz b=>s _ _ (h z b)
def dA(zs:List Z):List V:=zs.map λz=>V.ref z.1
section
variable {X:Cx}{pins:ZB}{σ:St}{H:Hp}{s:QZZ}
theorem jL:∀ {xs:List V}{vs:List Q4} (i:Nat),Vals xs vs->i<xs.length->∀x,xs[i]?=some x->RelV x (vs.getD i Value.none)
 | x::xs,v::vs,0,.cons r b,_,y,a=>by
  cases a;exact r
 | x::xs,v::vs,i+1,.cons r b,c,y,a=>by
  have:=jL i b (by simpa using c) y (by simpa using a);simpa using this
def zM{c:Type}{f:c->V}{g:c->Q4}:∀ {l:List c},(∀a∈l,RelV (f a) (g a))->Vals (l.map f) (l.map g)
 | [],_=>.nil
 | a::l,h=>.cons (h a gJ) (zM λb d=>h b (kY _ d))
def aCd(K:W.Frag):List V->Hp->VK->Prop:=λvs H Q=>match vs with
 | [.ref a]=>∃b:List Z,SqL K H a (dA b)/\ZAt H b/\(b.map (·.2.1)).Nodup/\b.length<64/\∀l c,H l=none->c.Perm b->c.Pairwise zle->Q (.ref l) (aI H l (.lst (dA c)))
 | _=>False
end
theorem sY:∀ {ks:List Str}{vs:List Q4},vs.length=ks.length->(∀(i:Nat)(v:Q4),vs[i]?=some v->∃x t,ks[i]?=some x/\v=Value.str x t)->StrsAre vs ks
 | [],[],_,_=>.nil
 | k::ks,v::vs,a,h=>by
  obtain⟨x,t,b,rfl⟩:=h 0 v rfl;cases b;exact .cons k t (sY (by simpa using a) λi v c=>by simpa using h (i+1) v (by simpa using c))
section
variable {prog:Program}{w:World}{A:Around}{E:XV}{s:QZZ}
def zN{d:TD}{c:List Str}{kvs:List (aV×Q4)}{Q:XV}(D:A.handled=none)(lo:(d==sysModules)=false)(F:s.heap.DictOf (bC prog w) d kvs)(n:kvs.map (·.1)=c.map Sum.inr)(o:c.length<64)(h:∀(a h':Heap)(tk:Nat)(out:Array Value)(e:Nat),(∀b f,s.heap.get? b=some f->a.get? b=some f)->(∀b f,a.get? b=some f->h'.get? b=some f)->h'.get? a.objs.size=some (seqObj "list" out e)->StrsAre out.toList (nM c)->Q (.ref a.objs.size) {s with heap:=h',toks:=tk }) :
  wpAny (model prog w) A (call (.builtin "sorted") [.ref d]) Q E s:=by
 have p:kvs.length=c.length:=by simpa using congrArg length n
 obtain⟨X,G⟩:=F.dictAt;apply Calls.call_function_entry kind_sorted plain_sorted entry_sorted (args_sorted1 _);unfold Builtin.«sorted»;apply U9 (m:=checkCount "sorted" 1 1 _);apply U8;apply U9;refine W.kdu_collect (W.kdl_dict lo) D G (by rw[p];exact gL (le_of_lt o) Zd) λa tk l H q=>?_;have g:StrsAre l.toList c:=sY (by rw[Array.length_toList,q.1,p]) λi v I=>by
  obtain⟨k,x,J,K⟩:=q.2 i v (by simpa using I);have j:(kvs.map (·.1))[i]?=some k:=by rw[fK,J];rfl
  rw[n,fK]at j;cases r:c[i]? with
  | none=>rw[r]at j;cases j
  | some y=>
   rw[r]at j;cases j;rcases bL (show kZ (Sum.inr y) v=true from K) with⟨_,_,e,_⟩|⟨z,t,e,L⟩
   ·cases e
   ·cases e;exact⟨_,t,rfl,L⟩
 generalize l.toList=vs at g;have u:vs.length<64:=by rw[g.length];exact o
 apply U9;apply wpAny_newList
 ·have g2:(a.push (seqObj "list" vs.toArray 0)).get? a.objs.size=some (seqObj "list" vs.toArray 0):=TW _ rfl;apply U9;apply wpAny_holding;refine wpAny_call_entry slot_list_sort ⟨_,g2,rfl⟩ entry_list_sort (list_sort_treeK (s:={s with heap:=a.push (seqObj "list" vs.toArray 0),toks:=tk }) strKind_oneLt g2 g.keysOf (λU V rest e=>keyKind_strs (by rw[<- e];exact g)) u λM N O=>⟨_,rfl,U8 ⟨_,rfl,?_⟩⟩) (args_list_sort _);obtain⟨Y,P,R,S⟩:=sorted_out_str g N O;obtain⟨e,T⟩:=sortedHeap_at (out:=(arrOf M).map (·.2)) g2;refine h a _ _ _ e H (λb f B=>?_) T (Nc R S▸P);have C:=Heap.lt_size B;rw[sortedHeap_old (ne_of_lt C) (by rw[size_push'];exact lt_succ_of_lt C)];exact eX _ B
 ·exact gL (le_of_lt u) Zd
end
section
variable {X:Cx}
def sZ:List V->Hp->VK->Prop:=λvs H Q=>match vs with
 | [.ref a]=>∃(b:List Str)(c:List (aV×V)),Rd H a (.dK c)/\c.map (·.1)=b.map Sum.inr/\b.length<64/\∀l,H l=none->Q (.ref l) (aI H l (.lst ((nM b).map V.str)))
 | _=>False
def Ik(g:X.calm=true):CallR X (.builtin "sorted") sZ:=by
 intro y s D H A B Q I r h;unfold sZ at h;split at h
 ·rename_i a;obtain⟨i,z,j,l,b,q⟩:=h;obtain⟨u,rfl,m⟩:=iJ r;cases m;obtain⟨_,n,vs,d,p⟩:=oG I.hok j;refine zN (I.ok.hd g) n p (by rw[<- d.keys];exact l) b λt C tk f e v k w x=>?_;have c:=I.kept (t':=s.toks) v;refine⟨.ref t.objs.size,_,c.laid (t':=tk) (o:=.lst ((nM i).map V.str)) k (aZ _) ⟨?_,f.toList,e,pY x,w⟩,rfl,q _ (c.hok.fresh (aZ _))⟩;rw[aS,mF];exact gL (le_of_lt b) Zd
 ·exact h.elim
def R.iy(a:X.calm=true):XC X (.builtin "sorted") sZ:=⟨Ik a⟩
end
def xU:typeLookup (.type "list") "keys"=pure none:=am_miss_of_fast (by kernel_rfl)
def mG:plainId "dict.update.loop"=true:=by decide +kernel
def vZ:entryFor table "dict.update.loop"=some Builtin.«dict.update.loop»:=entryFor_of_tree (by kernel_rfl)
section
variable {prog:Program}{w:World}{A:Around}{E:XV}{s:QZZ}
def Ua{a:TD}{o:Obj}{xs:Array Value}{k:Nat}{Q:Option Q4->QZZ->Prop}(f:s.heap.get? a=some o)(i:o.cls=.type "list")(j:o.data=.seq xs k)(l:o.dict=none)(r:A.handled=none)(h:∀h' tk,(∀b m,s.heap.get? b=some m->h'.get? b=some m)->Q none {s with heap:=h',toks:=tk }):wpAny (model prog w) A (getAttr? (.ref a) "keys") Q E s:=by
 obtain⟨c,dct,v,sl⟩:=o;simp only at i j l;subst i j l;obtain⟨t,g,d,tk,os⟩:=s;have n:∀p,(⟨t,g,d,p,os⟩:QZZ).TypeIs (.ref a) "list":=λ_=>⟨_,f,rfl⟩
 have f1:=sub_AttributeError;have x:=F.slot_list_getattribute.lookup;have y:=F.slot_list_getattribute.bind (.ref a);have z:=am_list_getattr_none;have u:=xU;unfold getAttr? getAttrBy? getAttrBy
 repeat (any_goals (first|assumption|exact n _|((with_reducible show wpAny _ _ (call (Value.builtin "list.__getattribute__") _ _) _ _ _);refine call_meets F.slot_list_getattribute (n _) am_entry_list_getattribute (F.args_list_getattribute_2 _ _) (meets_getattribute_miss_list a xs k sl "keys" _ u Zk) ⟨f,r,λh' p e q=>?_⟩)|wp_step))
 obtain⟨B,C,D⟩:=q.there;show wpAny _ _ (getattributeRaised _ _ _ _ _ _ _) _ _ _;unfold getattributeRaised;repeat (any_goals (first|assumption|wp_step))
 exact h _ _ q.keeps
def Wv(h:Heap)(v:Q4)(q:aV×V):Prop:=∃a u x,v=Value.ref a/\IsTup h a #[u,x]/\RelV (kV q.1) u/\RelV q.2 x
def Nh(W:A.handled=none){I l d:TD}{its:List Q4}{qs:List (aV×V)}{R:Result->QZZ->Prop}{res:Q4}(X:I≠l)(B:I≠d)(Y:l≠d) :
  ∀(k i:Nat)(s:QZZ)(kvs:List (aV×V))(vs:List (aV×Q4))(z:Int),its.length-i=k->i<=its.length->qs.length=its.length->s.heap.IsListIter I l i->s.heap.IsList l its.toArray->(∀(j:Nat)(v:Q4)(q:aV×V),its[j]?=some v->qs[j]?=some q->Wv s.heap v q) →
  (∀(j:Nat)(v:Q4)(a:TD),its[j]?=some v->v=Value.ref a->a≠I/\a≠d)->s.heap.DictOf (bC prog w) d vs->KV kvs vs->kvs.length+k<=1000 →
  (∀h' tk g,(∀b c,b≠I->b≠d->s.heap.get? b=some c->h'.get? b=some c)->h'.DictOf (bC prog w) d g->KV (aN kvs (qs.drop i)) g->R (.ok (.ret res)) {s with heap:=h',toks:=tk }) →
  codeAny (model prog w) A (.builtin "dict.update.loop" ⟨[.ref d,.ref I,.int z 0,res],[]⟩) R s:=by
 intro k;induction k with
 | zero=>
  intro i s kvs vs z Z hi h y m C p D f hz F;obtain rfl:i=its.length:=by omega
  refine codeAny_builtin vZ ?_;rw[Around.under_plainId mG _];show wpAny _ A.in1 (pyNext (.ref I)>>=_) _ _ s;apply U9;refine wpAny_pyNext_list_end W y m Zs λh' M=>?_;show wpAny _ A.in1 (Builtin.Dict.addKeywords d []>>=_) _ _ _;apply U9;apply U8;apply U8;refine F h' s.toks vs (λb c hb _ e=>M b c hb e) (D.extBut M B.symm) ?_;rw[<- h,drop_length];exact f
 | succ k ih=>
  intro i s kvs vs z Z hi h y m C p D f hz F;have N:i<its.length:=by omega
  obtain⟨v,G⟩:∃v,its[i]?=some v:=⟨its[i],by simp[N]⟩;obtain⟨q,H⟩:∃q,qs[i]?=some q:=⟨qs[i],by simp[h,N]⟩;obtain⟨a,u,x,rfl,⟨c,zj,HR,n,VL⟩,ru,rx⟩:=C i v q G H;obtain⟨na,nd⟩:=p i _ a G rfl;refine codeAny_builtin vZ ?_;rw[Around.under_plainId mG _];show wpAny _ A.in1 (pyNext (.ref I)>>=_) _ _ s;apply U9;refine wpAny_pyNext_list_item y m (x:=.ref a) (by simpa using G) λh' ph J=>?_;have O:h'.get? a=some c:=(J.2 a na).trans zj;have qz:h'.DictOf (bC prog w) d vs:=D.extBut J.extBut B.symm;apply U9;apply wpAny_holding;apply U9;apply wpAny_tryCatch;unfold Builtin.Dict.pairItems;apply U9;refine wpAny_typeOf (T:="tuple") ⟨c,O,HR⟩ ?_;rw[QZY Zd];apply U9;refine wpAny_seqItems O VL ?_;apply U8;show wpAny _ _ (holding [u,x] (dictSet d u x)) _ _ _;apply wpAny_holding;have IA:vs.length<=sizeLine:=by rw[<- f.length];exact eZ Zo
  refine wpAny_dictSet_pairs (s:={s with heap:=h' }) (qX ru) qz (λh2 U P=>?_) IA;apply U8;refine⟨plainId_quiet mG _,?_⟩;have hl0:=cR kvs q.1 q.2;have K:∀b o,b≠I->b≠d->s.heap.get? b=some o->h2.get? b=some o:=λb o r t e=>(P.2 b t).trans ((J.2 b r).trans e)
  refine ih (i+1) _ (bI kvs q.1 q.2) (stored vs q.1 x) _ Zo Zo h ?_ ?_ ?_ p U (f.put q.1 rx) Zo λh3 tk g k3 CT KZ=>?_
  ·exact ph.at λo e=>(P.2 I B).trans e
  ·obtain⟨o,e,a0⟩:=m;exact⟨o,K l o X.symm Y e,a0⟩
  ·intro j v q' Q mr;obtain⟨L,u',x',rfl,⟨S,M0,r'⟩,rr⟩:=C j v q' Q mr;obtain⟨n1,n2⟩:=p j _ L Q rfl;exact⟨L,u',x',rfl,⟨S,K L S n1 n2 M0,r'⟩,rr⟩
  ·refine F h3 tk g (λb o r t e=>k3 b o r t (K b o r t e)) CT ?_;have e1:qs.drop i=q::qs.drop (i+1):=by
    rw[List.drop_eq_getElem_cons Zo]
    congr 1
    have:qs[i]?=some qs[i]:=eT Zo;rw[this]at H;exact Option.some.inj H
   rw[e1];exact KZ
def zO(H:A.handled=none){l:TD}{o:Obj}{n:Nat}{its:List Q4}{qs:List (aV×V)}{Q:XV}(I:s.heap.get? l=some o)(f:o.cls=.type "list")(m:o.data=.seq its.toArray n)(U:o.dict=none)(J:qs.length=its.length)(K:∀(j:Nat)(v:Q4)(q:aV×V),its[j]?=some v->qs[j]?=some q->Wv s.heap v q)(hz:its.length<=1000)(a0:∀h' tk g,(∀b c,s.heap.get? b=some c->h'.get? b=some c)->h'.DictOf (bC prog w) s.heap.objs.size g->KV (aN [] qs) g->Q (.ref s.heap.objs.size) {s with heap:=h',toks:=tk }) :
  wpAny (model prog w) A (call (.type "dict") [.ref l]) Q E s:=by
 refine callType_codes (Q₁:=λD C=>D=.ref s.heap.objs.size/\C={s with heap:=s.heap.push {cls:=.type "dict",data:=.dict #[] } }) F.kt_called_dict (F.kt_typeCall_dict_1 _) F.entry_dict_init (kt_code_dict_new _ ⟨rfl,rfl⟩) ?_;rintro D C ⟨rfl,rfl⟩;have p:(s.heap.push {cls:=.type "dict",data:=.dict #[] }).DictOf (bC prog w) s.heap.objs.size []:=Heap.DictOf.new s.heap;have t:(s.heap.push {cls:=.type "dict",data:=.dict #[] }).get? l=some o:=eX _ I;refine⟨p.typeIs,F.args_dict_init_2 _ _,?_⟩;unfold Builtin.«dict.__init__»;apply U9;unfold Builtin.Dict.selfAndRest;apply U9;refine wpAny_notOrdered_dict p.typeIs ?_;show wpAny _ _ (pure (s.heap.objs.size,[Value.ref l])) _ _ _;apply U8;show wpAny _ _ (Builtin.Dict.updateFrom "dict.__init__" s.heap.objs.size (.ref l) [] .none) _ _ _;unfold Builtin.Dict.updateFrom;apply U9;refine wpAny_typeOf (T:="list") ⟨o,t,f⟩ ?_;rw[QZY Zd];apply U9;refine Ua t f m U H λd tk h=>?_;rw[QZY (show(none:Option Q4).isNone=true from rfl)];apply U9;apply wpAny_rule;have L:d.get? l=some o:=h _ _ t;have W:d.IsList l its.toArray:=⟨o,L,f,n,m⟩;have G:d.DictOf (bC prog w) s.heap.objs.size []:=by
  obtain⟨M,N,O,y,r⟩:=p;exact⟨M,N,O,h _ _ y,r⟩
 have i:s.heap.objs.size<d.objs.size:=by
  obtain⟨M,N,O,y,r⟩:=G;exact Heap.lt_size y
 have P:l<s.heap.objs.size:=Heap.lt_size I;apply U9;refine wpAny_pyIter_list (s:={s with heap:=d,toks:=tk }) W ?_;apply U8;refine⟨plainId_quiet mG _,?_⟩;refine Nh (A:=A.in1) (s:={s with heap:=d.push {cls:=.type "list_iterator",data:=.fields #[.ref l,.int 0 0] },toks:=tk }) (its:=its) (qs:=qs) (l:=l) H (ne_of_gt (lt_trans P i)) (ne_of_gt i) (ne_of_lt P) its.length 0 [] [] 0 rfl (zero_le _) J ⟨_,TW _ rfl,rfl,rfl⟩ ?_ ?_ ?_ (G.push _) .nil (by simpa using hz) ?_
 ·exact⟨o,eX _ L,f,n,m⟩
 ·intro j v q k z;obtain⟨a,u,x,rfl,⟨c,B,r⟩,R⟩:=K j v q k z;exact⟨a,u,x,rfl,⟨c,eX _ (h _ _ (eX _ B)),r⟩,R⟩
 ·intro j v a k e;obtain⟨q,z⟩:∃q,qs[j]?=some q:=by
   have:j<its.length:=(Zgs.mp k).1;exact⟨qs[j],by simp[J,this]⟩
  obtain⟨a',u,x,S,⟨c,B,r⟩,R⟩:=K j v q k z;rw[e]at S;cases S;have:=Heap.lt_size B;exact⟨ne_of_lt (lt_trans this i),ne_of_lt this⟩
 ·intro h' X g Y Z LB;refine⟨rfl,a0 h' X g (λb c e=>?_) Z LB⟩;have:=Heap.lt_size e;exact Y b c (ne_of_lt (lt_trans this i)) (ne_of_lt this) (eX _ (h _ _ (eX _ e)))
end
section
variable {X:Cx}
abbrev W:=Addr×aV×V
def Ww(H:Hp)(zs:List W):Prop:=∀z∈zs,H z.1=some (.tup [kV z.2.1,z.2.2])
def xV(K:W.Frag):List V->Hp->VK->Prop:=λvs H Q=>match vs with
 | [.ref a]=>∃b:List W,SqL K H a (b.map λz=>V.ref z.1)/\Ww H b/\b.length<=1000/\∀d,H d=none->Q (.ref d) (aI H d (.dK (aN [] (b.map (·.2)))))
 | _=>False
def Ni(m:X.calm=true):CallR X (.type "dict") (xV X.K):=by
 intro Q s Z H R S a0 I r h;unfold xV at h;split at h
 ·rename_i a3;obtain⟨a,p,t,T,q⟩:=h;obtain⟨a4,rfl,u⟩:=iJ r;cases u;obtain⟨d,g,w,_⟩:=I.list p;obtain⟨o,n,x,y,A,f⟩:=w;have B:a.length=d.length:=by
   have:=g.length;rw[aS]at this;exact this
  refine zO (I.ok.hd m) x y f A (qs:=a.map (·.2)) (by rw[aS];exact B) (λj v U C b=>?_) Zo λW tk D k f l=>?_
  ·rw[fK]at b;cases c:a[j]? with
   | none=>rw[c]at b;cases b
   | some z=>
    rw[c]at b;cases b;have e:=t z (jI c);obtain⟨_,Y,E,F⟩:=(show ObjOk X.prog X.w H s.heap z.1 (.tup [kV z.2.1,z.2.2]) from I.hok _ _ e);have G:j<a.length:=(Zgs.mp c).1;have i:RelV (V.ref z.1) (d.getD j Value.none):=jL j g (by rw[aS];exact G) _ (by rw[fK,c];rfl);have J:d.getD j Value.none=v:=by rw[getD_eq_getElem?_getD,C];rfl
    rw[J]at i;cases i
    cases E with
    | cons K L=>
     cases L with
     | cons M N=>
      cases N;exact⟨z.1,_,_,rfl,F,K,M⟩
  ·have O:H s.heap.objs.size=none:=I.hok.fresh (aZ _);refine⟨.ref s.heap.objs.size,_,I.laid (t':=tk) (o:=.dK (aN [] (a.map (·.2)))) k (aZ _) ⟨?_,?_,D,l,f⟩,rfl,q _ O⟩
   ·have:=dZ (a.map (·.2)) [];rw[aS]at this;exact eZ (by simp at this;omega)
   ·have P:=I.big;exact beq_eq_false_iff_ne.mpr (ne_of_gt P)
 ·exact h.elim
def R.gu{K:W.Frag}(a:X.calm=true)(b:X.K=K:=by rfl):XC X (.type "dict") (xV K):=b▸⟨Ni a⟩
end
def Itd(a:TD)(o:Obj)(kvs:List (aV×V)):It:=
 ⟨λi H=>H a=some (.frz o (.dK kvs))/\i<kvs.length,λi H x b=>b=H/\(kvs.map λq=>kV q.1)[i]?=some x,λi H=>H a=some (.frz o (.dK kvs))/\kvs.length<=i⟩
def Fa(a:TD)(o:Obj)(kvs:List (aV×V)):xP (Itd a o kvs) (kvs.map λq=>kV q.1) (λH=>H a=some (.frz o (.dK kvs))):=
 ⟨λi H b e=>⟨e,by rwa [aS]at b⟩,λi H x c _ _ y=>y,λH e=>⟨e,by rw[aS];exact aZ _⟩⟩
section
variable {X:Cx}{pins:ZB}{σ:St}{H:Hp}{s:QZZ}{a:TD}{o:Obj}{kvs:List (aV×V)}
def Ch{P:Program}{w:World}{h:Heap}(ok:HOk P w H h)(e:H a=some (.frz o (.dK kvs))):h.get? a=some o/\(a==sysModules)=false/\∃vs b,KV kvs vs/\(∃es,o.data=.dict es b)/\h.DictAt (bC P w) a vs b:=by
 obtain⟨c,z,i,vs,f,j⟩:=(show ObjOk P w H h a (.frz o (.dK kvs)) from ok a _ e);obtain⟨b,d⟩:=j.dictAt;obtain⟨l,es,g,m,k,n⟩:=id d;rw[c]at g;cases g;exact⟨c,i,vs,b,f,⟨es,k⟩,d⟩
def Nj{P:Program}{w:World}{K:W.Frag}{S:Expr}(a it:TD){n:Nat}(N:∃es,o.data=.dict es n):sC P w K S (Itd a o kvs) [it] it (λi h=>h.IsKeyIter it a i kvs.length n) where
 mem:=by simp
 obj:=λi h st b f=>by
  obtain rfl:b=it:=by simpa using f
  obtain⟨g,e,c,d⟩:=st;exact⟨g,e,λv z=>by rw[d]at z;cases z⟩
 keep:=λi h p st k=>st.at λg e=>k it Zs g e
 item:=by
  intro X x y A O i pins s σ H a0 I q st B;subst x y A;obtain⟨C,T⟩:=B;obtain⟨U,lo,vs,D,m,⟨V,j⟩,E⟩:=Ch I.hok C;obtain⟨es,F⟩:=N;obtain rfl:D=n:=by
   rw[F]at j;cases j;rfl
  have r:=m.length;obtain⟨⟨k,a2⟩,Q⟩:∃a1,vs[i]?=some a1:=⟨vs[i],eT Zo⟩;have l:(kvs.map (·.1))[i]?=some k:=by rw[m.keys,fK,Q];rfl
  refine yE0 (q it Zs) (yA6 λG f1 f2 J L M=>?_);rw[r]at st;refine wpAny_pyNext_dict_item st E Q λu p Y R Z=>?_
  have I1:Inv X pins σ H {s with heap:=p }:=I.turned (t':=s.toks) (λb g f e=>(Z.2 b f).trans e) G f1 J L M;obtain⟨g,e,c,d⟩:=id R;have rk:RelV (kV k) u:=by
   rcases bL (show kZ k u=true from Y) with⟨a3,t,rfl,rfl⟩|⟨z,t,rfl,rfl⟩
   ·exact⟨t,rfl⟩
   ·exact⟨t,rfl⟩
  refine⟨u,rfl,sD (s:={s with heap:=p }) e c d Zd ⟨kV k,H,I1,rk,⟨rfl,?_⟩,by rw[r];exact R,λb f=>(q b f).1⟩⟩;rw[fK]at l ⊢;cases z:kvs[i]? with
  | none=>rw[z]at l;cases l
  | some a4=>rw[z]at l;cases l;rfl
 done:=by
  intro X x y A O i pins s σ H a0 I q st B;subst x y A;obtain⟨C,T⟩:=B;obtain⟨U,lo,vs,D,m,⟨V,j⟩,E⟩:=Ch I.hok C;obtain⟨es,F⟩:=N;obtain rfl:D=n:=by
   rw[F]at j;cases j;rfl
  have r:=m.length;rw[r]at st;obtain⟨G,f1,f2,J,L,M⟩:=q it Zs;exact wpAny_pyNext_dict_end (I.ok.hd O) st E (List.getElem?_eq_none Zo) λp eb=>⟨rfl,I.turned (t':=s.toks) (λb g f e=>eb b g f e) G f1 J L M⟩
 self:=λ_ _ _ _ _ st h=>wpAny_pyIter_keyiter st h
def Inv.freeze(I:Inv X pins σ H s)(e:H a=some (.dK kvs)):∃c,s.heap.get? a=some c/\Inv X pins σ (aI H a (.frz c (.dK kvs))) s:=by
 obtain⟨z,h,vs,f,d⟩:=Em I.hok e;obtain⟨c,i,j,g,r⟩:=id d;refine⟨c,g,?_⟩;have:=I.write (t':=s.toks) (h':=s.heap) (x:=a) (e:=a) (o:=.frz c (.dK kvs)) (by rw[e];exact True.intro) (.inl rfl) (λb u _ q=>q) ⟨c,g⟩ ⟨g,z,h,vs,f,d⟩;exact this
def Inv.thaw(I:Inv X pins σ H s)(e:H a=some (.frz o (.dK kvs)))(k:∀o' u,X.H₀ a≠some (.frz o' u)):Inv X pins σ (aI H a (.dK kvs)) s where
 ok:=I.ok
 os:=I.os
 bare:=I.bare
 base:=by
  have l:∀b,H b=none->b≠a:=λb z q=>by rw[q,e]at z;cases z
  refine⟨I.base.keep,I.base.slot,λb f q n m=>?_,I.base.there,λb i q=>?_,λb f u q=>?_,λb ps q=>?_⟩
  ·have:=I.base.free b f q n m;rw[aD (l b this)];exact this
  ·have:=I.base.tups b i q;rw[aD (cI this e nofun)];exact this
  ·have:=I.base.frzs b f u q;by_cases d:b=a
   ·subst d;exact QZW q (k f u)
   ·rw[aD d];exact this
  ·obtain⟨more,j⟩:=I.base.tbls b ps q;exact⟨more,by rw[aD (cI j e nofun)];exact j⟩
 loc:=I.loc
 cell:=I.cell
 free:=by
  have z:=I.free;rw[aD (λq=>by rw[q,e]at z;cases z)];exact z
 freeC:=λx c h=>by
  have z:=I.freeC x c h;rw[aD (λq=>by rw[q,e]at z;cases z)];exact z
 pin:=λp r=>by
  obtain⟨t,g,w⟩:=I.pin p r;refine⟨t,?_,w⟩;rw[aD (λq=>by rw[q,e]at g;cases g)];exact g
 hok:=by
  intro b u d;by_cases q:b=a
  ·subst q;rw[aA]at d;cases d;exact(show ObjOk X.prog X.w H s.heap b (.frz o (.dK kvs)) from I.hok b _ e).2
  ·rw[aD q]at d;refine(I.hok b u d).stay (λc v _ h=>h) (λc h=>?_) λc i h=>?_
   ·rw[aD (cI h e nofun)];exact h
   ·rw[aD (cI h e nofun)];exact h
 len:=I.len
def aCe(c:TE):TI:=λσ H R=>c σ H λx b=>mR x λa=>∃kvs,b a=some (.dK kvs)/\∀o,R (Itd a o kvs) (aI b a (.frz o (.dK kvs)))
def aAw{m l:Expr}{i:TE}(n:PE X l i):PI X m l (aCe i):=by
 intro pins s σ H R I h;refine cA (n pins s σ H _ I h) ?_;rintro v c ⟨x,p,r,t,f⟩
 (try dsimp only at f);rw[dU]at f;obtain⟨a,rfl,kvs,e,q⟩:=f;cases t;obtain⟨j,g,d⟩:=r.freeze e;obtain⟨A,lo,vs,B,k,u,w⟩:=Ch d.hok (aA (a:=a));have y:(aI p a (.frz j (.dK kvs))) c.heap.objs.size=none:=d.hok.fresh (aZ _);refine wpAny_pyIter_dict lo w ?_;refine⟨c.heap.objs.size,[c.heap.objs.size],_,_,_,rfl,d.kept (t':=c.toks) λb o e=>eX _ e,Nj a _ u,⟨_,TW _ rfl,rfl,?_⟩,λb z=>?_,q j⟩
 ·rw[k.length];rfl
 ·obtain rfl:b=c.heap.objs.size:=by simpa using z
  exact d.fpOk (aZ _) y
def Wx(t:TE):TE:=λσ H Q=>t σ H λv b=>∃a kvs o,(∃c,H a=some (.dK c))/\b a=some (.frz o (.dK kvs))/\Q v (aI b a (.dK kvs))
def Ub{e:Expr}{t:TE}(b:PE X e t):PE X e (Wx t):=by
 intro pins s σ H Q I h;refine cA (b pins s σ H _ I h) λu k ⟨v,l,c,d,a,kvs,o,⟨m,f⟩,g,q⟩=>⟨v,_,c.thaw g (λi j z=>?_),d,q⟩
 have:=I.base.frzs a i j z;rw[f]at this;cases this
end
def aCf(K:W.Frag)(c:TE)(f:Str):TE:=λe H Q=>c e H λx b=>mR x λa=>∃C d fs v,b a=some (.ins C d fs)/\Cls K C/\NoAttr K C f/\fs.lookup f=some v/\Q v b
def Wy(K:W.Frag)(e g:TE)(f:Str):TS:=λD b H=>g b H λy h=>e b h λx c=>mR x λa=>∃C d fs,c a=some (.ins C d fs)/\Cls K C/\NoAttr K C f/\fs.length<1000/\D.nx b (aI c a (.ins C d (bT f y fs)))
section
variable {X:Cx}{e o value:Expr}{f:Str}{pos pos':Pos}{te ta tv:TE}{K:W.Frag}
def Uc(g:PE X e te)(i:attributeBase e f X.env (eval e X.env)=eval e X.env):PE X (.Attribute e f pos) (aCf X.K te f):=by
 intro d s w H Q I h;refine So i (cA (g d s w H _ I h) ?_);rintro u y ⟨x,j,k,m,b⟩;(try dsimp only at b);rw[dU]at b;obtain⟨a,rfl,C,z,fs,v,p,c,n,l,q⟩:=b;obtain rfl:u=Value.ref a:=m;exact Bp k p c n l λA B r t=>⟨v,j,r,t,q⟩
def Ud(i:PE X o ta)(j:PE X value tv)(hs:swapsWith value (some (.Attribute o f pos')) pos.line X.env=pure false):PS X (.Assign [.Attribute o f pos'] value pos) (Wy X.K ta tv f):=by
 intro g s d H D I h;refine plainObj_wpAny_Assign_Attribute (cA (j g s d H _ I h) λu k ⟨y,m,p,r,q⟩=>cA (i g k d m _ p q) ?_) hs;rintro t E ⟨x,F,v,w,b⟩;(try dsimp only at b);rw[dU]at b;obtain⟨a,rfl,C,G,fs,z,c,n,l,A⟩:=b;obtain rfl:t=Value.ref a:=w;exact Bq v z c n l r λJ B=>⟨d,_,B,A⟩
end
structure rG(P:Program)(w:World)(K:W.Frag)(mg:V0)(base:Heap)(n:Nat)(C:TD)(m:Str)(ps:List Str)(sp:Sp):Prop where
 ex:∃f fd,Cls K C/\Yy K C m f/\lE P w K mg base sO n f fd ps sp/\Binds K fd ps []
structure Mkr(P:Program)(w:World)(K:W.Frag)(mg:V0)(base:Heap)(n:Nat)(x:Str)(C:TD)(ps:List Str)(dvs:List V)(sp:Sp):Prop where
 ex:∃f fd ds,mg x=some (.ref C)/\Mk K C f/\lE P w K mg base sO n f fd ps sp/\Binds K fd ps ds/\Vals dvs ds
def Fc(C:TD)(m:Str)(sp:Sp)(d:TE)(t:TA):TE:=λc H Q=>d c H λx b=>mR x λa=>∃e fs,b a=some (.ins C e fs)/\fs.lookup m=none/\t c b λvs f=>sp (.ref a::vs) f Q E0
section
variable {X:Cx}{e o:Expr}{es:List Expr}{m x:Str}{p pos apos:Pos}{ta:TE}{t:TA}{C:TD}{n:Nat}{ps:List Str}{sp:Sp}{dvs:List V}
def Nk{pl:Sem Bool}(w:PE X o ta)(c:rG X.prog X.w X.K X.mg X.base n C m ps sp)(y:Room n X.A)(z:PA X (e::es) t)(hs:aW e=true)(A:(backTo pos (starEach es X.env)).any (·.1)=false)(B:eval (.Call (.Attribute o m apos) (e::es) [] pos) X.env=(do
   let g←eval o X.env
   standAt apos.atName
   let (f,first)←holding [g] (getMethod g m pl)
   callWith pos f first (backTo pos (starEach (e::es) X.env)) (backToKw pos (keywordEach [] X.env)))) :
  PE X (.Call (.Attribute o m apos) (e::es) [] pos) (Fc C m sp ta t):=by
 obtain⟨f,N,D,i,F,E⟩:=c.ex;intro d s v H Q I h;refine W.methodCall_KW (pl:=pl) (cA (w d s v H _ I h) ?_) B;rintro u G ⟨x,J,j,K,b⟩;(try dsimp only at b);rw[dU]at b;obtain⟨a,rfl,O,fs,L,l,q⟩:=b;obtain rfl:u=Value.ref a:=K;refine sF j L D i l ?_;refine W.callWith_K (first:=[.ref a]) (h₀:=X.base) I.ok.mod.kin i.kp (cA (z pos d G v J _ j q) λus P ⟨vs,R,k,r,M⟩=>⟨k.kIn,?_⟩) (bQ hs) A;exact Bt (us:=.ref a::us) (vs:=.ref a::vs) (dvs:=[]) (ds:=[]) F y E .nil zD k (.cons rfl r) (by rw[append_nil];exact M)
def Il{pl:Sem Bool}(k:PE X o ta)(c:rG X.prog X.w X.K X.mg X.base n C m ps sp)(r:Room n X.A)(v:eval (.Call (.Attribute o m apos) [] [] pos) X.env=(do
   let g←eval o X.env
   standAt apos.atName
   let (f,first)←holding [g] (getMethod g m pl)
   callWith pos f first (backTo pos (starEach [] X.env)) (backToKw pos (keywordEach [] X.env)))) :
  PE X (.Call (.Attribute o m apos) [] [] pos) (Fc C m sp ta rE):=by
 obtain⟨f,D,w,i,F,y⟩:=c.ex;intro j s B H Q I h;refine W.methodCall_KW (pl:=pl) (cA (k j s B H _ I h) ?_) v;rintro u E ⟨x,G,b,z,d⟩;(try dsimp only at d);rw[dU]at d;obtain⟨a,rfl,J,fs,A,l,q⟩:=d;obtain rfl:u=Value.ref a:=z;refine sF b A w i l ?_;exact W.callWith_K0 (first:=[.ref a]) b.kIn i.kp (Bt (us:=[.ref a]) (vs:=[.ref a]) (dvs:=[]) (ds:=[]) F r y .nil zD b (.cons rfl .nil) (by rw[append_nil];exact q))
end
structure FunD(K:W.Frag)(x qual:Str)(st:Stmt)(dv:Q4)(f:TD)(fd:FuncData):Prop where
 ex:∃(oc:Q4)(od:Option TD)(kV doc pm:Q4)(an:Option TD)(cdv ct:Q4)(osl:Array (Option Q4)),
  fd=W.fnOf x qual (cG st) (bF st) (aB st) dv kV doc pm an cdv ct/\K.lookup f=some ⟨oc,od,.func fd,osl⟩/\W.codeIn K cdv qual=true
section
variable {P:Program}{w:World}{K:W.Frag}{mg:V0}{base:Heap}{x qual:Str}{st:Stmt}{dv:Q4}{f C:TD}{fd:FuncData}{N ps:List Str}{k:Nat}{sp:Sp}
def FunD.go(F:FunD K x qual st dv f fd)(S:aK N ps (aB st))(len:∀vs H Q E,sp vs H Q E->vs.length=ps.length)(b:∀(a:Q4)(A:Around)(outer:List Env)(s:QZZ)(H:Hp)(vs:List V)(Q:VK)(E:XK),Room k (A.deeper (envOfC qual (aB st) s.heap.objs.size f a))->sp vs H Q E →
   ∃t,XB (nB sO P w K mg base N qual (aB st) f a A outer s H E).nox (bF st) t/\t {nx:=λ_ c=>Q .non c,rt:=Q } (start N vs) H):lE P w K mg base sO (k+1) f fd ps sp:=by
 obtain⟨l,m,kV,i,n,o,a,p,j,rfl,lk,d⟩:=F.ex;refine Wm lk d S len λA outer s H vs Q E e g=>?_;obtain⟨t,h,q⟩:=b a A outer s H vs Q E e g;exact⟨t,h.h.nox,q⟩
structure MethAt(K:W.Frag)(C:TD)(m qual:Str)(st:Stmt)(ps:List Str):Prop where
 cl:Cls K C
 ex:∃f fd,Fun K m qual st f fd/\Yy K C m f/\Binds K fd ps []
def MethAt.gg{m:Str}(D:MethAt K C m qual st ps)(S:aK N ps (aB st))(b:∀(f:TD)(a:Q4)(A:Around)(outer:List Env)(s:QZZ)(H:Hp)(vs:List V)(Q:VK)(E:XK),Room k (A.deeper (envOfC qual (aB st) s.heap.objs.size f a))->sp vs H Q E →
   ∃t,XB (nB sO P w K mg base N qual (aB st) f a A outer s H E).nox (bF st) t/\t {nx:=λ_ c=>Q .non c,rt:=Q } (start N vs) H)(len:∀vs H Q E,sp vs H Q E->vs.length=ps.length:=by intro vs H Q E h;repeat (first | (obtain⟨rfl,_⟩:=h;rfl) | obtain⟨_,h⟩:=h)):rG P w K mg base (k+1) C m ps sp:=by
 obtain⟨f,fd,F,d,e⟩:=D.ex;exact⟨f,fd,D.cl,d,F.go S len (b f),e⟩
structure ClsAt(K:W.Frag)(mg:V0)(x:Str)(C:TD)(qual:Str)(st:Stmt)(ps:List Str)(dvs:List (List V)):Prop where
 ex:∃f fd dv,mg x=some (.ref C)/\FunD K "__init__" qual st dv f fd/\Mk K C f/\∀d∈dvs,∃ds,Binds K fd ps ds/\Vals d ds
def ClsAt.gg{dvs:List (List V)}(D:ClsAt K mg x C qual st ps dvs)(S:aK N ps (aB st))(c:∀(f:TD)(a:Q4)(A:Around)(outer:List Env)(s:QZZ)(H:Hp)(vs:List V)(Q:VK)(E:XK),Room k (A.deeper (envOfC qual (aB st) s.heap.objs.size f a))->sp vs H Q E →
   ∃t,XB (nB sO P w K mg base N qual (aB st) f a A outer s H E).nox (bF st) t/\t {nx:=λ_ g=>Q .non g,rt:=Q } (start N vs) H)(len:∀vs H Q E,sp vs H Q E->vs.length=ps.length:=by intro vs H Q E h;repeat (first | (obtain⟨rfl,_⟩:=h;rfl) | obtain⟨_,h⟩:=h)):∀d∈dvs,Mkr P w K mg base (k+1) x C ps d sp:=by
 intro d i;obtain⟨f,fd,dv,e,F,M,j⟩:=D.ex;obtain⟨l,b,v⟩:=j d i;exact⟨f,fd,l,e,M,F.go S len (c f),b,v⟩
end
namespace R
section
variable {X:Cx}{e o i value:Expr}{es:List Expr}{m x f:Str}{p pos pos' apos:Pos}{te ta tv td ty:TE}{t:TA}{C:TD}{n:Nat}{ps:List Str}{sp:Sp}{dvs:List V}{K:W.Frag}{tg:Expr}
def wD(a:XE X e te):XI X tg e (aCe te):=⟨aAw a.h⟩
def kh(a:XE X e te):XE X e (Wx te):=⟨Ub a.h⟩
def be(a:XE X e te)(b:X.K=K:=by rfl)(c:attributeBase e f X.env (eval e X.env)=eval e X.env:=by rfl):XE X (.Attribute e f pos) (aCf K te f):=b▸⟨Uc a.h c⟩
def dl(a:XE X o ta)(b:XE X value tv)(c:X.K=K:=by rfl)(d:swapsWith value (some (.Attribute o f pos')) pos.line X.env=pure false:=by rfl):XS X (.Assign [.Attribute o f pos'] value pos) (Wy K ta tv f):=c▸⟨Ud a.h b.h d⟩
def cg(a:X.A.units+1<cLine)(b:XE X o td)(c:XE X i ty)(hs:Zm i:=by exact λ_ _=>rfl):XE X (.Subscript o i pos) (Wp td ty):=⟨Ta a b.h c.h hs⟩
def db{pl:Sem Bool}{a:Nat}(c:rG X.prog X.w X.K X.mg X.base n C m ps sp)(d:Room a X.A)(g:XE X o ta)(h:XA X (e::es) t)(hs:aW e=true:=by rfl)(j:es.all aW=true:=by rfl)(k:eval (.Call (.Attribute o m apos) (e::es) [] pos) X.env=(do
   let b←eval o X.env
   standAt apos.atName
   let (f,first)←holding [b] (getMethod b m pl)
   callWith pos f first (backTo pos (starEach (e::es) X.env)) (backToKw pos (keywordEach [] X.env))):=by rfl)(l:n<=a:=by decide):XE X (.Call (.Attribute o m apos) (e::es) [] pos) (Fc C m sp ta t):=⟨Nk g.h c (d.mono l) h.h hs (iA j) k⟩
def ke{pl:Sem Bool}{a:Nat}(c:rG X.prog X.w X.K X.mg X.base n C m ps sp)(d:Room a X.A)(g:XE X o ta)(h:eval (.Call (.Attribute o m apos) [] [] pos) X.env=(do
   let b←eval o X.env
   standAt apos.atName
   let (f,first)←holding [b] (getMethod b m pl)
   callWith pos f first (backTo pos (starEach [] X.env)) (backToKw pos (keywordEach [] X.env))):=by rfl)(j:n<=a:=by decide):XE X (.Call (.Attribute o m apos) [] [] pos) (Fc C m sp ta rE):=⟨Il g.h c (d.mono j) h⟩
def jy{a:Nat}(c:Mkr X.prog X.w X.K X.mg X.base n x C ps [] sp)(b:Room a X.A)(d:Gl X x)(g:XA X (e::es) t)(h:(x==("__debug__":Str))=false:=by decide)(j:aW e=true:=by rfl)(k:es.all aW=true:=by rfl)(l:n+1<=a:=by decide) :
  XE X (.Call (.Name x p) (e::es) [] pos) (Eh C sp [] E0 t):=by
 obtain⟨f,u,v,q,M,F,r,s⟩:=c.ex;exact⟨Sr M F (b.mono l) d q r s zD g.h h (bQ j) (iA k)⟩
def ki{a:Nat}(c:Mkr X.prog X.w X.K X.mg X.base n x C ps dvs sp)(b:Room a X.A)(d:Gl X x)(g:(x==("__debug__":Str))=false:=by decide)(h:n+1<=a:=by decide) :
  XE X (.Call (.Name x p) [] [] pos) (Eh C sp dvs E0 rE):=by
 obtain⟨f,q,r,j,M,F,k,l⟩:=c.ex;exact⟨Kx M F (b.mono h) d j k l zD g⟩
end
end R
def jH(prs:List (Str×Int)):List (aV×V):=prs.map λq=>(Sum.inr q.1,V.int q.2)
def cM(prs:List (Str×Int))(n:Str):Int:=(prs.lookup n).getD 0
def tD(prs:List (Str×Int)):(jH prs).map (·.1)=(prs.map (·.1)).map Sum.inr:=by
 unfold jH;rw[map_map,map_map];rfl
theorem rP(n:Str):∀(prs:List (Str×Int)),bB (jH prs) (Sum.inr n)=(prs.lookup n).map V.int
 | []=>rfl
 | q::r=>by
  unfold jH;rw[map_cons,lookup_cons];by_cases h:n=q.1
  ·subst h;rw[cJ rfl];simp
  ·have a:(n==q.1)=false:=beq_eq_false_iff_ne.mpr h;rw[cK (by intro z;exact h (Sum.inr.inj z).symm),a];exact rP n r
def mH(prs:List (Str×Int))(n:Str):(bB (jH prs) (Sum.inr n)).getD (V.int 0)=V.int (cM prs n):=by
 rw[rP];unfold cM;cases prs.lookup n<;>rfl
theorem jM:∀(more kvs:List (aV×V)),(more.map (·.1)).Nodup->(∀k∈more.map (·.1),bB kvs k=none)->aN kvs more=kvs++more
 | [],kvs,_,_=>(append_nil _).symm
 | p::r,kvs,b,h=>by
  obtain⟨c,d⟩:=nodup_cons.mp b;show aN (bI kvs p.1 p.2) r=_;have e:bB kvs p.1=none:=h p.1 Zs;rw[jM r _ d λk a=>?_,lI _ e]
  ·simp
  ·rw[cZ,QZX (λ(z:k=p.1)=>c (by dsimp only;rw[<- z];exact a))];exact h k (kY _ a)
def wA:∀ {l:List Str},l.Nodup->(l.map (Sum.inr:Str->aV)).Nodup
 | [],_=>nodup_nil
 | a::l,h=>by
  obtain⟨c,d⟩:=nodup_cons.mp h;refine nodup_cons.mpr ⟨λz=>?_,wA d⟩;obtain⟨b,f,e⟩:=Zmm.mp z;cases e;exact c f
def qA{prs:List (Str×Int)}(h:(prs.map (·.1)).Nodup):aN [] (jH prs)=jH prs:=by
 rw[jM _ _ (by rw[tD];exact wA h) λ_ _=>rfl];rfl
def Ci(prs:List (Str×Int)):List (Str×Int):=((nM (prs.map (·.1))).filter λn=>decide (0<cM prs n)).map λn=>(n,cM prs n)
theorem nO{n:Str}:∀ {prs:List (Str×Int)},n∈prs.map (·.1)->∃a,prs.lookup n=some a
 | q::r,h=>by
  rw[lookup_cons];by_cases e:n=q.1
  ·subst e;exact⟨q.2,Zs⟩
  ·have b:(n==q.1)=false:=beq_eq_false_iff_ne.mpr e;rw[b];rcases mem_cons.mp h with z|z
   ·exact QZW z e
   ·exact nO z
structure Wz(K:W.Frag)(C:TD):Prop where
 cl:Cls K C
 nA:NoAttr K C "amounts"
structure BookAt(C:TD)(H:Hp)(p:TD)(prs:List (Str×Int)):Prop where
 ex:∃dx d,H p=some (.ins C dx [("amounts",.ref d)])/\H d=some (.dK (jH prs))
 nd:(prs.map (·.1)).Nodup
def BookAt.same{C:TD}{H a:Hp}{p:TD}{prs:List (Str×Int)}(B:BookAt C H p prs)(s:Same H a):BookAt C a p prs:=by
 obtain⟨b,d,c,e⟩:=B.ex;exact⟨⟨b,d,s _ _ c,s _ _ e⟩,B.nd⟩
def aAy(H:Hp)(r:V)(prs:List (Str×Int)):Prop:=(r=.non/\prs=[])∨∃l a,r=.ref l/\H l=some (.lst (dA a))/\ZAt H a/\a.map (·.2)=prs
def kD(C:TD):Sp:=λvs H Q _=>∃(p:TD)(n:Str)(a:List (Str×Int)),vs=[.ref p,.str n]/\BookAt C H p a/\Q (.int (cM a n)) H
def zP(C:TD):Sp:=λvs H Q _=>∃(p:TD)(b:List (Str×Int)),vs=[.ref p]/\BookAt C H p b/\b.length<64 ∧
 ∀(l:TD)(c:List Z)(a:Hp),Same H a->H l=none->a l=some (.lst (dA c))->ZAt a c->c.map (·.2)=Ci b->Q (.ref l) a
def wz(zs:List Z):List W:=zs.map λz=>(z.1,Sum.inr z.2.1,V.int z.2.2)
def aAz(zs:List Z):((wz zs).map λz=>V.ref z.1)=dA zs:=by
 unfold wz dA;rw[map_map];rfl
def aCg{H:Hp}{zs:List Z}(h:ZAt H zs):Ww H (wz zs):=λz a=>by
 obtain⟨y,b,rfl⟩:=Zmm.mp a;exact h y b
def aAA(zs:List Z):(wz zs).map (·.2)=jH (zs.map (·.2)):=by
 unfold wz jH;rw[map_map,map_map];rfl
def aDm(y:V):bT "amounts" y []=[(("amounts":Str),y)]:=rfl
def put1(x y:V):bT "amounts" y [(("amounts":Str),x)]=[(("amounts":Str),y)]:=by
 unfold bT;rw[QZY rfl]
def gC(y:V):([(("amounts":Str),y)]:List (Str×V)).lookup ("amounts":Str)=some y:=by
 rw[lookup_cons];simp
def nP{m:Str}(y:V)(h:(m==("amounts":Str))=false):([(("amounts":Str),y)]:List (Str×V)).lookup m=none:=by
 rw[lookup_cons,h];rfl
section
variable {X:Cx}
def R.iz(a:X.calm=true):XC X (.builtin "min") (λvs H Q=>match vs with | [.int i,.int j]=>Q (.int (if j<i then j else i)) H | _=>False):=⟨(Hk a).imp λvs H Q h=>by
 split at h
 ·exact⟨_,_,rfl,h⟩
 ·exact h.elim⟩
end
inductive DW(one other nm:Str)(n:Int):Str->List V->List (Str×Int)->List (Str×List V)->Prop
 | add:DW one other nm n "add" [.str "add",.str nm,.int n] [(nm,n)] []
 | take:DW one other nm n "take" [.str "take",.str nm,.int n] [(nm,-n)] []
 | move:DW one other nm n "move" [.str "move",.str one,.str other,.int n] [(one,-n),(other,n)] []
 | send:DW one other nm n "send" [.str "send",.str one,.str nm,.int n] [(nm,-n)] [(one,[.str "add",.str nm,.int n])]
 | fetch:DW one other nm n "fetch" [.str "fetch",.str one,.str nm,.int n] [(nm,n)] [(one,[.str "take",.str nm,.int n])]
 | pass:DW one other nm n "pass" [.str "pass",.str one,.str other,.str nm,.int n] [] [(one,[.str "take",.str nm,.int n]),(other,[.str "add",.str nm,.int n])]
structure Xa(wd:Str)(xs:List V)(cs:List (Str×Int))(as:List (Str×List V)):Prop where
 ex:∃one other nm n,DW one other nm n wd xs cs as
def aCh(H:Hp)(q:Str×List V)(v:V):Prop:=∃a d,v=.ref a/\H a=some (.tup [.str q.1,.ref d])/\H d=some (.tup q.2)
def qB:Sp:=λvs H Q _=>∃p wd c d e,vs=[.ref p]/\H p=some (.tup c)/\Xa wd c d e/\∀t b a,Same H a->a t=some (.tup (dA b))->ZAt a b->b.map (·.2)=d->Q (.ref t) a
def nQ:Sp:=λvs H Q _=>∃p wd b e c,vs=[.ref p]/\H p=some (.tup b)/\Xa wd b e c/\∀t d a,Same H a->a t=some (.tup d)->Paired (aCh a) c d->Q (.ref t) a
abbrev tS(z:Str):TV:=.sc (.str z)
abbrev tI(n:Int):TV:=.sc (.int n)
def isT(f:Str->Int)(a:List (Str×Int)):List V:=.str "is"::a.map λq=>V.int (f q.1+q.2)
def qC(C:TD):Sp:=λvs H Q _=>∃b p wd d e f c,vs=[.ref b,.ref p]/\BookAt C H b c/\H p=some (.tup d)/\Xa wd d e f/\∀t a,Same H a->a t=some (.tup (isT (cM c) e))->Q (.ref t) a
def kE(f:Str->Int)(a:TV):List (Str×Int)->TV
 | []=>a
 | q::r=>if q.2<0/\f q.1+q.2<0 then .tp [tS "short",tI (f q.1)] else if 0<q.2/\1000000000000<f q.1+q.2 then .tp [tS "full",tI (f q.1)] else kE f a r
def zQ(f:Str->Int)(a:TV)(q:Str×Int)(r:List (Str×Int)):kE f a (q::r)=if q.2<0/\f q.1+q.2<0 then .tp [tS "short",tI (f q.1)] else if 0<q.2/\1000000000000<f q.1+q.2 then .tp [tS "full",tI (f q.1)] else kE f a r:=rfl
def oO(f:Str->Int)(a:List (Str×Int))(b:List (Str×List V)):TV:=if b=[] then .tp ((isT f a).map .sc) else .sc .non
def Fd(C:TD):Sp:=λvs H Q _=>∃b p wd e c f a,vs=[.ref b,.ref p]/\BookAt C H b a/\H p=some (.tup e)/\Xa wd e c f/\∀v d,Same H d->RepT d 1 (kE (cM a) (oO (cM a) c f) c) v->Q v d
theorem xW{H:Hp}{n:Nat}:∀ {xs:List V},(∀y∈xs,Na y=true)->Paired (RepT H n) (xs.map TV.sc) xs
 | [],_=>.nil
 | y::r,h=>.cons (RepT.scal (h y gJ)) (xW λz m=>h z (kY _ m))
def Nl(f:Str->Int)(a:List (Str×Int)):∀y∈isT f a,Na y=true:=λy b=>by
 rcases mem_cons.mp b with rfl|h
 ·rfl
 ·obtain⟨q,_,rfl⟩:=Zmm.mp h;rfl
def Nm:Bool->String|true=>"list_iterator"|false=>"tuple_iterator"
def oP(k:Bool)(a:TD):Obj:={cls:=.type (Nm k),data:=.fields #[.ref a,.int 0 0] }
def ItAt(k:Bool)(h:Heap)(it a:TD)(i:Nat):Prop:=∃o,h.get? it=some o/\o.cls=.type (Nm k)/\o.data=.fields #[.ref a,.int i 0]
def SeqIn(k:Bool)(h:Heap)(a:TD)(vs:Array Value):Prop:=match k with|true=>h.IsList a vs|false=>h.IsTuple a vs
def ItAt.by{k:Bool}{h h':Heap}{it a:TD}{i:Nat}(x:ItAt k h it a i)(g:∀o,h.get? it=some o->h'.get? it=some o):ItAt k h' it a i:=let ⟨o,e,r⟩:=x;⟨o,g o e,r⟩
def SeqIn.by{k:Bool}{h h':Heap}{a:TD}{vs:Array Value}(x:SeqIn k h a vs)(g:∀o,h.get? a=some o->h'.get? a=some o):SeqIn k h' a vs:=by
 cases k
 ·obtain⟨o,e,r⟩:=x;exact⟨o,g o e,r⟩
 ·obtain⟨o,e,r⟩:=x;exact⟨o,g o e,r⟩
def SeqIn.lt{k:Bool}{h:Heap}{a:TD}{vs:Array Value}(x:SeqIn k h a vs):a<h.objs.size:=by
 cases k
 ·obtain⟨o,e,r⟩:=x;exact Heap.lt_size e
 ·obtain⟨o,e,r⟩:=x;exact Heap.lt_size e
section
variable {prog:Program}{w:World}{A:Around}{E:XV}{s:QZZ}
def Nn{k:Bool}{a:TD}{vs:Array Value}{Q:XV}(h:SeqIn k s.heap a vs)(q:Q (.ref s.heap.objs.size) {s with heap:=s.heap.push (oP k a) }):wpAny (model prog w) A (pyIter (.ref a)) Q E s:=by
 cases k
 ·exact wpAny_pyIter_tuple (show s.heap.IsTuple a vs from h) q
 ·exact wpAny_pyIter_list (show s.heap.IsList a vs from h) q
def xX{k:Bool}{it a:TD}{i:Nat}{vs:Array Value}{x:Q4}{Q:XV}(d:ItAt k s.heap it a i)(hs:SeqIn k s.heap a vs)(e:vs[i]?=some x)(q:∀h',ItAt k h' it a (i+1)->Heap.SameBut it s.heap h'->Q x {s with heap:=h' }):wpAny (model prog w) A (Builtin.SmallTypes.nextOf (.ref it)) Q E s:=by
 cases k with
 | true=>exact wpAny_nextOf_list_item (show s.heap.IsListIter it a i from d) (show s.heap.IsList a vs from hs) e q
 | false=>
  have f:s.heap.IsTupleIter it a i:=d;obtain⟨o,c,g,b⟩:=d;obtain⟨l,h,_,m,j⟩:=hs;unfold Builtin.SmallTypes.nextOf;refine U9 (wpAny_callSpecial?_slot (name:=Str.ofString "__next__") f.typeIs F.slot_tuple_iterator_next (wpAny_call_entry F.slot_tuple_iterator_next f.typeIs F.entry_tuple_iterator_next ?_ (F.args_tuple_iterator_next_1 _)));show wpAny (model prog w) _ (field (.ref it) 0>>=_) _ _ s;refine U9 (wpAny_field c b (x:=.ref a) rfl ?_);show wpAny (model prog w) _ (if (Value.ref a==Value.none)=true then _ else _) _ _ s;rw[QZX (show ¬ ((Value.ref a==Value.none)=true) from U7)];show wpAny (model prog w) _ (field (.ref it) 1>>=_) _ _ s;refine U9 (wpAny_field (x:=.int i 0) c b rfl ?_);show wpAny (model prog w) _ (seqItems? (.ref a)>>=_) _ _ s;refine U9 (wpAny_seqItems (h) j ?_);simp only [e,Int.toNat_natCast];refine U9 (wpAny_setField c b Zs (U8 ⟨x,rfl,U8 (q _ ?_ (Heap.SameBut.update ..))⟩));exact⟨_,Heap.get?_update_self _ c (Obj.isFreed_of_fields (Obj.data_mapFields b _)),(Obj.cls_mapFields ..).trans g,by rw[Obj.data_mapFields b];simp[rawInt]⟩
def No{k:Bool}{it a:TD}{i:Nat}{vs:Array Value}{Q:XV}(c:A.handled=none)(b:ItAt k s.heap it a i)(hs:SeqIn k s.heap a vs)(g:vs[i]?=none)(h:∀h' e,Heap.ExtBut it s.heap h'->(∃o,h'.get? e=some o/\o.cls=.type "StopIteration")->E (.ref e) {s with heap:=h' }):wpAny (model prog w) A (Builtin.SmallTypes.nextOf (.ref it)) Q E s:=by
 cases k with
 | true=>exact wpAny_nextOf_list_end c (show s.heap.IsListIter it a i from b) (show s.heap.IsList a vs from hs) g h
 | false=>
  have j:s.heap.IsTupleIter it a i:=b;obtain⟨o,d,p,f⟩:=b;obtain⟨q,l,_,r,n⟩:=hs;unfold Builtin.SmallTypes.nextOf;refine U9 (wpAny_callSpecial?_slot (name:=Str.ofString "__next__") j.typeIs F.slot_tuple_iterator_next (wpAny_call_entry F.slot_tuple_iterator_next j.typeIs F.entry_tuple_iterator_next ?_ (F.args_tuple_iterator_next_1 _)));show wpAny (model prog w) _ (field (.ref it) 0>>=_) _ _ s;refine U9 (wpAny_field d f (x:=.ref a) rfl ?_);show wpAny (model prog w) _ (if (Value.ref a==Value.none)=true then _ else _) _ _ s;rw[QZX (show ¬ ((Value.ref a==Value.none)=true) from U7)];show wpAny (model prog w) _ (field (.ref it) 1>>=_) _ _ s;refine U9 (wpAny_field (x:=.int i 0) d f rfl ?_);show wpAny (model prog w) _ (seqItems? (.ref a)>>=_) _ _ s;refine U9 (wpAny_seqItems (l) n ?_);simp only [g,Int.toNat_natCast];refine U9 (wpAny_rule (U9 (wpAny_setField (d) f Zs ?_)));show wpAny (model prog w) _ (newExc (.type "StopIteration") []>>=_) _ _ _;refine U9 ?_;simp only [newTuple,newExc];refine U9 (wpAny_newObj_type ?_ (by size_fits));refine U9 (m:=firstArgMember _ _) (wpAny_of_eq (a:=Value.none) (by first|rfl|(simp only [firstArgMember];rfl)) ?_);refine wpAny_newObj_type ?_ (by size_fits);simp only [raiseNew];refine U9 (wpAny_handled ?_)
  first|rw[show A.in1.handled=none from(c)]|rw[c]
  refine U9 (U8 (wpAny_throw ?_));exact h _ _ (((Heap.SameBut.update ..).extBut.push _).push _) ⟨_,TW _ rfl,rfl⟩
structure Ue(z ti to j1 j2 a1 a2:TD):Prop where
 i:ti≠z
 o:to≠z
 p:j1≠z
 q:j2≠z
 io:ti≠to
 ip:ti≠j1
 iq:ti≠j2
 op:to≠j1
 oq:to≠j2
 pq:j1≠j2
 a:∀b,b=a1∨b=a2->b≠z/\b≠to/\b≠j1/\b≠j2
structure ZSt(k1 k2:Bool)(h:Heap)(z ti to j1 j2 a1 a2:TD)(f0:Q4)(n1 n2:Nat):Prop where
 z:IsZip h z ti to f0
 i:IsPair h ti (.ref j1) (.ref j2)
 o:∃a b,IsPair h to a b
 x:ItAt k1 h j1 a1 n1
 y:ItAt k2 h j2 a2 n2
def Uf{u B:Bool}{z d a f g j k:TD}{n:Nat}{xs ys:Array Value}{x y:Q4}{Q:XV}(D:Ue z d a f g j k)(S:ZSt u B s.heap z d a f g j k .none n n)(pj:SeqIn u s.heap j xs)(E1:SeqIn B s.heap k ys)(hx:xs[n]?=some x)(hy:ys[n]?=some y)(hQ:∀h',ZSt u B h' z d a f g j k (rawInt s.heap.objs.size) (n+1) (n+1)->IsPair h' s.heap.objs.size x y->h'.objs.size=s.heap.objs.size+1 →
   (∀c o,c≠z->c≠a->c≠f->c≠g->s.heap.get? c=some o->h'.get? c=some o)->Q (.ref s.heap.objs.size) {s with heap:=h' }) :
  wpAny (model prog w) A (Builtin.«zip.__next__» ⟨[.ref z],[]⟩) (λfin s'=>∃v,fin=.done (.ret v)/\Q v s') E s:=by
 obtain⟨p,R,⟨u1,H,hO⟩,h1,h2⟩:=S;obtain⟨ID,VO,VP,VQ⟩:=D.a j (.inl rfl);obtain⟨LD,LF,LG,VR⟩:=D.a k (.inr rfl);show wpAny (model prog w) _ (field (.ref z) 2>>=_) _ _ _;refine U9 (wpAny_field (x:=.bool false) p rfl rfl ?_);show wpAny (model prog w) _ (field (.ref z) 3>>=_) _ _ _;refine U9 (wpAny_field (x:=.ref d) p rfl rfl ?_);refine U9 (wpAny_seqItems R rfl ?_);show wpAny (model prog w) _ (Builtin.SmallTypes.ownedTupleIsFree (.ref z)>>=_) _ _ _;refine U9 ?_;unfold Builtin.SmallTypes.ownedTupleIsFree;refine U9 (wpAny_field (x:=.none) p rfl rfl (U8 ?_));simp only [if_true];refine U9 (wpAny_rule ?_);refine U9 (wpAny_field (x:=.ref a) p rfl rfl ?_);refine U9 (wpAny_setField_rec p Zs λg1 I h=>?_);have I:IsZip g1 z d a .ellipsis:=I;refine U9 ?_;simp only [List.zipIdx_nil,List.zipIdx_cons,List.forIn_nil,forIn_cons];refine U9 (U9 (wpAny_onRaise ?_));show wpAny (model prog w) _ (Builtin.SmallTypes.nextOf (.ref f)>>=_) _ _ _;refine U9 (xX (h1.by λo e=>h.extBut _ _ D.p e) (pj.by λo e=>h.extBut _ _ ID e) hx λg2 i2 l=>U8 ?_);have T:IsPair g2 a u1 H:=l.extBut _ _ D.op (h.extBut _ _ D.o hO);refine U9 (wpAny_seqItems T rfl ?_);refine U9 (wpAny_updateSeq_pair T λg3 J m=>?_);have J:IsPair g3 a x H:=J;refine U9 (wpAny_letGo (U8 ?_));refine U9 (U9 (wpAny_onRaise ?_));show wpAny (model prog w) _ (Builtin.SmallTypes.nextOf (.ref g)>>=_) _ _ _;refine U9 (xX (h2.by λo e=>m.extBut _ _ D.oq.symm (l.extBut _ _ D.pq.symm (h.extBut _ _ D.q e))) (E1.by λo e=>m.extBut _ _ LF (l.extBut _ _ LG (h.extBut _ _ LD e))) hy λg4 i4 q=>U8 ?_);have U:IsPair g4 a x H:=q.extBut _ _ D.oq J;refine U9 (wpAny_seqItems U rfl ?_);refine U9 (wpAny_updateSeq_pair U λb C r=>?_);have C:IsPair b a x y:=C;refine U9 (wpAny_letGo (U8 (U8 ?_)));refine U9 (wpAny_seqItems C rfl ?_);refine U9 (wpAny_newTuple ?_);have P:b.objs.size=s.heap.objs.size:=by rw[r.1,q.1,m.1,l.1,h.1]
 have V:IsZip b z d a .ellipsis:=r.extBut _ _ D.o.symm (q.extBut _ _ D.q.symm (m.extBut _ _ D.o.symm (l.extBut _ _ D.p.symm I)));have W:∀c o,c≠z->c≠a->c≠f->c≠g->s.heap.get? c=some o->b.get? c=some o:=λc o i F K L e=>r.extBut _ _ F (q.extBut _ _ L (m.extBut _ _ F (l.extBut _ _ K (h.extBut _ _ i e))))
 have i5:ItAt u b f j (n+1):=i2.by λo e=>r.extBut _ _ D.op.symm (q.extBut _ _ D.pq (m.extBut _ _ D.op.symm e))
 have j5:ItAt B b g k (n+1):=i4.by λo e=>r.extBut _ _ D.oq.symm e
 have X:z<b.objs.size:=Heap.lt_size V;show wpAny (model prog w) _ (Builtin.SmallTypes.ownedTupleHandOut (.ref z) (.ref b.objs.size)>>=_) _ _ _;refine U9 ?_;unfold Builtin.SmallTypes.ownedTupleHandOut;have z6:IsZip (b.push {cls:=.type "tuple",data:=.seq #[x,y] }) z d a .ellipsis:=eX _ V;refine U9 (wpAny_setField_rec z6 Zs λg7 M N=>?_);have M:IsZip g7 z d a (rawInt b.objs.size):=M;refine wpAny_setField_rec M Zs λt G O=>?_;have G:IsZip t z d a (rawInt b.objs.size):=G;have up:∀c o,c≠z->b.get? c=some o->t.get? c=some o:=λc o i e=>O.extBut _ _ i (N.extBut _ _ i (eX _ e))
 have Y:IsPair t b.objs.size x y:=O.extBut _ _ (ne_of_gt X) (N.extBut _ _ (ne_of_gt X) (TW _ rfl));have Z:t.objs.size=b.objs.size+1:=by rw[O.1,N.1,Heap.size_push]
 rw[P]at G Y Z;refine U8 ⟨_,rfl,?_⟩;show Q (.ref b.objs.size) _;rw[P];exact hQ t ⟨G,up _ _ D.i (W _ _ D.i D.io D.ip D.iq R),⟨_,_,up _ _ D.o C⟩,i5.by λo e=>up _ o D.p e,j5.by λo e=>up _ o D.q e⟩ Y Z λc o i F K L e=>up c o i (W c o i F K L e)
def aAB{C F:Bool}{z h b l m p r:TD}{n:Nat}{xs ys:Array Value}{Q:Fin->QZZ->Prop}(G:A.handled=none)(D:Ue z h b l m p r)(S:ZSt C F s.heap z h b l m p r .none n n)(H:SeqIn C s.heap p xs)(R:SeqIn F s.heap r ys)(T:xs[n]?=none∨ys[n]?=none)(I:∀h' e,(∀c o,c≠z->c≠b->c≠l->c≠m->s.heap.get? c=some o->h'.get? c=some o)->(∃o,h'.get? e=some o/\o.cls=.type "StopIteration")->E (.ref e) {s with heap:=h' }) :
  wpAny (model prog w) A (Builtin.«zip.__next__» ⟨[.ref z],[]⟩) Q E s:=by
 obtain⟨i,U,⟨V,W,X⟩,J,Y⟩:=S;obtain⟨K,VO,VP,VQ⟩:=D.a p (.inl rfl);obtain⟨Z,LF,LG,VR⟩:=D.a r (.inr rfl);show wpAny (model prog w) _ (field (.ref z) 2>>=_) _ _ _;refine U9 (wpAny_field (x:=.bool false) i rfl rfl ?_);show wpAny (model prog w) _ (field (.ref z) 3>>=_) _ _ _;refine U9 (wpAny_field (x:=.ref h) i rfl rfl ?_);refine U9 (wpAny_seqItems U rfl ?_);show wpAny (model prog w) _ (Builtin.SmallTypes.ownedTupleIsFree (.ref z)>>=_) _ _ _;refine U9 ?_;unfold Builtin.SmallTypes.ownedTupleIsFree;refine U9 (wpAny_field (x:=.none) i rfl rfl (U8 ?_));simp only [if_true];refine U9 (wpAny_rule ?_);refine U9 (wpAny_field (x:=.ref b) i rfl rfl ?_);refine U9 (wpAny_setField_rec i Zs λg1 t a=>?_);have t:IsZip g1 z h b .ellipsis:=t;refine U9 ?_;simp only [List.zipIdx_nil,List.zipIdx_cons,List.forIn_nil,forIn_cons];refine U9 (U9 (wpAny_onRaise ?_));show wpAny (model prog w) _ (Builtin.SmallTypes.nextOf (.ref l)>>=_) _ _ _
 cases u:xs[n]? with
 | none=>
  refine U9 (No G (J.by λo e=>a.extBut _ _ D.p e) (H.by λo e=>a.extBut _ _ K e) u λg2 e d v=>?_);obtain⟨y,f,j⟩:=v;have L:IsZip g2 z h b .ellipsis:=d _ _ D.p.symm t;have ne:e≠z:=λ(q:e=z)=>by subst q;rw[L]at f;cases f;simp at j
  exact wpAny_setField_rec L Zs λg3 _ g=>I g3 e (λc o k _ B _ q=>g.extBut _ _ k (d _ _ B (a.extBut _ _ k q))) ⟨y,g.extBut _ _ ne f,j⟩
 | some x=>
  have hy:ys[n]?=none:=T.resolve_left (by rw[u];exact λq=>nomatch q);refine U9 (xX (J.by λo e=>a.extBut _ _ D.p e) (H.by λo e=>a.extBut _ _ K e) u λg2 i2 d=>U8 ?_);have M:IsPair g2 b V W:=d.extBut _ _ D.op (a.extBut _ _ D.o X);refine U9 (wpAny_seqItems M rfl ?_);refine U9 (wpAny_updateSeq_pair M λg3 o3 g=>?_);refine U9 (wpAny_letGo (U8 ?_));refine U9 (U9 (wpAny_onRaise ?_));show wpAny (model prog w) _ (Builtin.SmallTypes.nextOf (.ref m)>>=_) _ _ _;refine U9 (No G (Y.by λo e=>g.extBut _ _ D.oq.symm (d.extBut _ _ D.pq.symm (a.extBut _ _ D.q e))) (R.by λo e=>g.extBut _ _ LF (d.extBut _ _ LG (a.extBut _ _ Z e))) hy λg4 e N v=>?_);obtain⟨y,f,j⟩:=v;have O:IsZip g4 z h b .ellipsis:=N _ _ D.q.symm (g.extBut _ _ D.o.symm (d.extBut _ _ D.p.symm t));have ne:e≠z:=λ(q:e=z)=>by subst q;rw[O]at f;cases f;simp at j
  exact wpAny_setField_rec O Zs λg5 _ P=>I g5 e (λc o k n2 B n4 q=>P.extBut _ _ k (N _ _ n4 (g.extBut _ _ n2 (d.extBut _ _ B (a.extBut _ _ k q))))) ⟨y,P.extBut _ _ ne f,j⟩
end
section
variable {X:Cx}{pins:ZB}{σ:List (Option V)}{H:Hp}{s:QZZ}{h':Heap}
def Inv.turnLaid{t':Nat}{ch:List TD}{a:TD}{o:HO}(I:Inv X pins σ H s)(g:∀b∈ch,pL X pins H b)(k:∀b u,b∉ch->s.heap.get? b=some u->h'.get? b=some u)(i:s.heap.objs.size<=a)(new:ObjOk X.prog X.w (aI H a o) h' a o) :
  Inv X pins σ (aI H a o) {s with heap:=h',toks:=t' }:=by
 have h:=I.hok.fresh i;have j:∀b u,H b=some u->b∉ch:=λb u e z=>by rw[(g b z).1]at e;cases e
 refine I.step (g':=s.gens) (d':=s.drawn) (ch:=ch) (λb d=>⟨(g b d).2.2.2.1,(g b d).2.1,(g b d).2.2.2.2.1,(g b d).2.2.2.2.2⟩) (λb u _ _ f e _=>k b u f e) (λb u _ _ f e _=>⟨u.slots,k b u f e⟩)
  (λb u _ e n=>by rw[aD (ne_of_lt (QZS (Heap.lt_size e) i))];exact n) (λb u f e=>⟨u,k b u f e⟩) (λb l e=>by rw[aD (aF e h)];exact e) (λb v u e=>by rw[aD (aF e h)];exact e)
  (λb ps e=>⟨#[],by rw[aD (aF e h),e];simp⟩) (λm p=>?_) (λb u e=>?_) I.bare
 ·obtain⟨u,t,w,x,r⟩:=p;exact⟨u,t,w,k _ u (λz=>(g _ z).2.1 rfl) x,r⟩
 ·by_cases d:b=a
  ·subst d;rw[aA]at e;cases e;exact new
  ·rw[aD d]at e;refine(I.hok b u e).stay (λc v f q=>k c v ?_ q) (λc q=>by rw[aD (aF q h)];exact q) λc l q=>by rw[aD (aF q h)];exact q
   rcases f with z|z
   ·rw[z];exact j b u e
   ·exact j c _ z
def Inv.turnL{t':Nat}{ch:List TD}(I:Inv X pins σ H s)(d:∀b∈ch,pL X pins H b)(k:∀b u,b∉ch->s.heap.get? b=some u->h'.get? b=some u):Inv X pins σ H {s with heap:=h',toks:=t' }:=by
 have g:∀b u,H b=some u->b∉ch:=λb u e z=>by rw[(d b z).1]at e;cases e
 refine I.step (g':=s.gens) (d':=s.drawn) (ch:=ch) (λb f=>⟨(d b f).2.2.2.1,(d b f).2.1,(d b f).2.2.2.2.1,(d b f).2.2.2.2.2⟩) (λb u _ _ a e _=>k b u a e) (λb u _ _ a e _=>⟨u.slots,k b u a e⟩)
  (λ_ _ _ _ n=>n) (λb u a e=>⟨u,k b u a e⟩) (λ_ _ e=>e) (λ_ _ _ e=>e) (λb ps e=>⟨#[],by rw[e];simp⟩) (λm h=>?_) (λb u e=>?_) I.bare
 ·obtain⟨u,i,j,l,r⟩:=h;exact⟨u,i,j,k _ u (λz=>(d _ z).2.1 rfl) l,r⟩
 ·refine(I.hok b u e).stay (λc v a q=>k c v ?_ q) (λ_ q=>q) λ_ _ q=>q;rcases a with z|z
  ·rw[z];exact g b u e
  ·exact g c _ z
end
def Cj(K:W.Frag)(k:Bool)(H:Hp)(a:TD)(xs:List V):Prop:=match k with|true=>SqL K H a xs|false=>SqT K H a xs
def Itz(K:W.Frag)(c d:Bool)(e f:TD):It:=
  ⟨λi H=>∃a b x y,Cj K c H e a/\Cj K d H f b/\a[i]?=some x/\b[i]?=some y,
   λi H v g=>∃t x y,H t=none/\v=.ref t/\g=aI H t (.tup [x,y])/\(∀a,Cj K c H e a->a[i]?=some x)/\∀b,Cj K d H f b->b[i]?=some y,
   λi H=>∃a b,Cj K c H e a/\Cj K d H f b/\(a.length<=i∨b.length<=i)⟩
def Inv.sqk{X:Cx}{b:ZB}{c:St}{H:Hp}{s:QZZ}(I:Inv X b c H s){k:Bool}{a:TD}{xs:List V}(h:Cj X.K k H a xs):∃its,Vals xs its/\SeqIn k s.heap a its.toArray:=by
 cases k
 ·obtain⟨its,r,p,_⟩:=I.tuple h;exact⟨its,r,p⟩
 ·obtain⟨its,r,p,_⟩:=I.list h;exact⟨its,r,p.isList⟩
def Inv.sqk_inj{X:Cx}{c:ZB}{d:St}{H:Hp}{s:QZZ}(I:Inv X c d H s){k:Bool}{a:TD}{xs ys:List V}(h:Cj X.K k H a xs)(b:Cj X.K k H a ys):xs=ys:=by
 cases k
 ·exact I.tuple_inj h b
 ·exact I.list_inj h b
def Np{P:Program}{w:World}{K:W.Frag}{es:List Expr}{n:Nat}{pos:Pos}{Z k2:Bool}{z d f j k C E:TD}(D:Ue z d f j k C E) :
  sC P w K (.Tuple es n pos) (Itz K Z k2 C E) [z,d,f,j,k] z (λi h=>ZSt Z k2 h z d f j k C E .none i i) where
 mem:=by simp
 obj:=λi h st b a=>by
  obtain⟨G,H,m⟩:=st.o;obtain⟨o1,J,_,d1⟩:=st.x;obtain⟨o2,L,_,d2⟩:=st.y;simp only [mem_cons,QZR,or_false]at a;rcases a with rfl|rfl|rfl|rfl|rfl
  ·exact⟨_,st.z,λv q=>by have r:Data.fields _=Data.cell v:=q;cases r⟩
  ·exact⟨_,st.i,λv q=>by have r:Data.seq _ _=Data.cell v:=q;cases r⟩
  ·exact⟨_,m,λv q=>by have r:Data.seq _ _=Data.cell v:=q;cases r⟩
  ·exact⟨_,J,λv q=>by rw[d1]at q;cases q⟩
  ·exact⟨_,L,λv q=>by rw[d2]at q;cases q⟩
 keep:=λi h h' st g=>by
  obtain⟨G,H,m⟩:=st.o;exact⟨g z Zs _ st.z,g d Zs _ st.i,⟨G,H,g f Zs _ m⟩,st.x.by λo e=>g j Zs o e,st.y.by λo e=>g k Zs o e⟩
 item:=by
  intro X M N O hc i pins s σ a0 a5 I y st Q;subst M N O;revert Q;refine yE4 λxs ys a3 a4=>yA4 λA B ex ey=>?_;obtain⟨its,R,p⟩:=I.sqk A;obtain⟨OV,S,U⟩:=I.sqk B;obtain⟨u,hu,ru⟩:=R.get ex;obtain⟨v,hv,VS⟩:=S.get ey;have t:s.TypeIs (.ref z) "zip":=⟨_,st.z,rfl⟩;unfold pyNext;refine U9 (wpAny_attempt (wpAny_callSpecial?_slot (name:=Str.ofString "__next__") t F.slot_zip_next (wpAny_call_entry F.slot_zip_next t F.entry_zip_next (Uf D st p U (by simpa using hu) (by simpa using hv) λh1 x t1 z1 V=>U8 ?_) (F.args_zip_next_1 _))));refine⟨_,rfl,?_⟩;refine wpAny_letOwnedTupleGo_zip x.z λh2 z2 l=>?_;obtain⟨w1,w2,m⟩:=x.o;have EX:z<s.heap.objs.size:=Heap.lt_size st.z;have t2:IsPair h2 s.heap.objs.size u v:=l.extBut _ _ (ne_of_gt EX) t1;refine⟨.ref s.heap.objs.size,aI a0 s.heap.objs.size (.tup [a3,a4]),I.turnLaid (t':=s.toks) y (λb o a e=>?_) (aZ _) ⟨by show 2<=sizeLine;decide,[u,v],.cons ru (.cons VS .nil),⟨_,t2,rfl,_,rfl⟩⟩,rfl,?_,?_,λb a=>?_⟩
  ·have c:b≠z/\b≠d/\b≠f/\b≠j/\b≠k:=by simpa using a
   exact l.extBut _ _ c.1 (V b o c.1 c.2.2.1 c.2.2.2.1 c.2.2.2.2 e)
  ·exact⟨s.heap.objs.size,a3,a4,I.hok.fresh (aZ _),rfl,rfl,λzs Y=>by rw[I.sqk_inj Y A];exact ex,λzs Y=>by rw[I.sqk_inj Y B];exact ey⟩
  ·exact⟨z2,l.extBut _ _ D.i x.i,⟨_,_,l.extBut _ _ D.o m⟩,x.x.by λo e=>l.extBut _ _ D.p e,x.y.by λo e=>l.extBut _ _ D.q e⟩
  ·have l9:b<s.heap.objs.size:=by
    obtain⟨G,H,VT⟩:=st.o;obtain⟨o1,J,_⟩:=st.x;obtain⟨o2,L,_⟩:=st.y;simp only [mem_cons,QZR,or_false]at a;rcases a with rfl|rfl|rfl|rfl|rfl
    ·exact EX
    ·exact Heap.lt_size st.i
    ·exact Heap.lt_size VT
    ·exact Heap.lt_size J
    ·exact Heap.lt_size L
   rw[aD (ne_of_lt l9)];exact(y b a).1
 done:=by
  intro X M N O hc i pins s σ a0 a5 I y st Q;subst M N O;obtain⟨xs,ys,A,B,he⟩:=Q;obtain⟨its,R,p⟩:=I.sqk A;obtain⟨OV,S,U⟩:=I.sqk B;have t:s.TypeIs (.ref z) "zip":=⟨_,st.z,rfl⟩;have l1:=R.length;have l2:=S.length;unfold pyNext;refine U9 (wpAny_attempt (wpAny_callSpecial?_slot (name:=Str.ofString "__next__") t F.slot_zip_next (wpAny_call_entry F.slot_zip_next t F.entry_zip_next (aAB (I.ok.hd hc) D st p U (he.imp (λh=>by simp;omega) (λh=>by simp;omega)) λh1 e V M1=>?_) (F.args_zip_next_1 _))));obtain⟨o,ho,IE⟩:=M1;refine U9 (wpAny_isInstance (T:="StopIteration") (b:=true) ⟨o,ho,IE⟩ isSubtype_stop ?_);refine U8 ⟨rfl,I.turnL (t':=s.toks) y λb u a e'=>?_⟩;have c:b≠z/\b≠d/\b≠f/\b≠j/\b≠k:=by simpa using a
  exact V b u c.1 c.2.2.1 c.2.2.2.1 c.2.2.2.2 e'
 self:=λ_ _ _ _ _ st h=>wpAny_pyIter_zip st.z h
def zpH(a b:Bool)(h:Heap)(c d:TD):Heap:=
 ((((h.push (oP a c)).push (oP b d)).push {cls:=.type "tuple",data:=.seq #[.ref h.objs.size,.ref (h.objs.size+1)] }).push {cls:=.type "tuple",data:=.seq #[.none,.none] }).push {cls:=.type "zip",data:=.fields #[.none,.bool false,.bool false,.ref (h.objs.size+2),.ref (h.objs.size+3)] }
def aAC(b f:Bool)(a c:TD)(xs ys:Array Value) :
  Meets (Builtin.«zip.__new__» ⟨[.type "zip",.ref a,.ref c],[]⟩) (λ_ R s=>SeqIn b s.heap a xs/\SeqIn f s.heap c ys/\R (.ok (.ret (.ref (s.heap.objs.size+4)))) {s with heap:=zpH b f s.heap a c }):=
 .of_wp λm w A R s h=>by
  obtain⟨i,g,d,tk,os⟩:=s;obtain⟨j,k,h⟩:=h;have n:=sub_zip;have l:SeqIn b (Shared.heap ⟨i,g,d,tk,os⟩) a xs:=j;have L2:SeqIn f (Shared.heap ⟨i.push (oP b a),g,d,tk,os⟩) c ys:=SeqIn.by k λo e=>eX _ e
  wp_walk using Nn l,Nn L2
  refine⟨_,rfl,?_⟩;simp only [Heap.size_push];exact h
def aAD{n d e:TD}(g:d<n)(h:e<n):Ue (n+4) (n+2) (n+3) n (n+1) d e where
 i:=ne_of_lt (add_lt_add_left Zd n)
 o:=ne_of_lt (add_lt_add_left Zd n)
 p:=ne_of_lt (Nat.lt_add_of_pos_right Zd)
 q:=ne_of_lt (add_lt_add_left Zd n)
 io:=ne_of_lt (add_lt_add_left Zd n)
 ip:=ne_of_gt (Nat.lt_add_of_pos_right Zd)
 iq:=ne_of_gt (add_lt_add_left Zd n)
 op:=ne_of_gt (Nat.lt_add_of_pos_right Zd)
 oq:=ne_of_gt (add_lt_add_left Zd n)
 pq:=ne_of_lt (Nat.lt_add_of_pos_right Zd)
 a:=λb f=>by
  have c:b<n:=by rcases f with rfl|rfl<;>assumption
  exact⟨ne_of_lt (QZS c (le_add_right n 4)),ne_of_lt (QZS c (le_add_right n 3)),ne_of_lt c,ne_of_lt (QZS c (le_add_right n 1))⟩
section
variable {prog:Program}{w:World}{A:Around}{E:XV}{s:QZZ}
def Ug{d i:Bool}{a g:TD}{xs ys:Array Value}{Q:XV}(r:SeqIn d s.heap a xs)(t:SeqIn i s.heap g ys)(h:∀h',ZSt d i h' (s.heap.objs.size+4) (s.heap.objs.size+2) (s.heap.objs.size+3) s.heap.objs.size (s.heap.objs.size+1) a g .none 0 0->(∀c o,s.heap.get? c=some o->h'.get? c=some o)->Q (.ref (s.heap.objs.size+4)) {s with heap:=h' }) :
  wpAny (model prog w) A (call (.type "zip") [.ref a,.ref g]) Q E s:=by
 refine callType_new F.called_zip Zd (F.typeCall_zip_2 _ _) (F.newCall_zip_2 _ _) (λq=>F.args_object_init_3 q _ _) F.entry_zip_new (aAC d i a g xs ys) ⟨r,t,?_⟩;have l:(s.heap.push (oP d a)).objs.size=s.heap.objs.size+1:=Heap.size_push ..;have k:((s.heap.push (oP d a)).push (oP i g)).objs.size=s.heap.objs.size+2:=by rw[Heap.size_push,l]
 have up:∀ {u v x y z:Obj}{b:TD}{o:Obj},s.heap.get? b=some o->(((((s.heap.push u).push v).push x).push y).push z).get? b=some o:=λe=>eX _ (eX _ (eX _ (eX _ (eX _ e))))
 have j:∀ {m:Heap}{o:Obj}{n:Nat},m.objs.size=n->o.isFreed=false->(m.push o).get? n=some o:=λe f=>by subst e;exact TW _ f
 have g1:(zpH d i s.heap a g).get? s.heap.objs.size=some (oP d a):=eX _ (eX _ (eX _ (eX _ (TW _ rfl))));have g2:(zpH d i s.heap a g).get? (s.heap.objs.size+1)=some (oP i g):=eX _ (eX _ (eX _ (j l rfl)));have g3:IsPair (zpH d i s.heap a g) (s.heap.objs.size+2) (.ref s.heap.objs.size) (.ref (s.heap.objs.size+1)):=eX _ (eX _ (j k rfl));have B:IsPair (zpH d i s.heap a g) (s.heap.objs.size+3) .none .none:=eX _ (j (by rw[Heap.size_push,k]) rfl);have p:IsZip (zpH d i s.heap a g) (s.heap.objs.size+4) (s.heap.objs.size+2) (s.heap.objs.size+3) .none:=j (by rw[Heap.size_push,Heap.size_push,k]) rfl;exact⟨⟨_,p,rfl⟩,h _ ⟨p,g3,⟨_,_,B⟩,⟨_,g1,rfl,rfl⟩,⟨_,g2,rfl,rfl⟩⟩ λc o e=>up e⟩
end
section
variable {X:Cx}{a b:Expr}{ta tb:TE}{p pos sk:Pos}{es:List Expr}{n:Nat}
def aCj(K:W.Frag)(ta tb:TE):TI:=λh H R=>ta h H λx i=>tb h i λy c=>mR x λd=>mR y λe=>∃f g j k,Cj K f c d j/\Cj K g c e k/\R (Itz K f g d e) c
def Nq:bootBuiltins "zip"=some (.type "zip"):=by decide +kernel
def aAE(J:Gl X "zip")(K:X.mg "zip"=none)(L:PE X a ta)(f:PE X b tb)(v:aW a=true)(g:aW b=true):PI X (.Tuple es n sk) (.Call (.Name "zip" p) [a,b] [] pos) (aCj X.K ta tb):=by
 intro u s G H R I h;have M:starEach [a,b] X.env=[(false,eval a X.env),(false,eval b X.env)]:=by rw[bQ v,bQ g];rfl
 have w:starEach [b] X.env=[(false,eval b X.env)]:=by rw[bQ g];rfl
 have N:PA X [a,b] (hX ta (hX tb rE)):=xN L (xN f wY g) v;refine Call_ (pK I J K Nq (PyProof.Rows.callWith_type1 (cA (N pos u s G H (λvs i=>match vs with|[x,y]=>(mR x λj=>mR y λl=>∃m o z A,Cj X.K m i j z/\Cj X.K o i l A/\R (Itz X.K m o j l) i)|_=>False) I ?_) ?_) (by rw[M,w]) (by rw[w];rfl)))
 ·exact h
 ·rintro W d ⟨vs,B,e,O,c⟩;(try dsimp only at c);split at c
  rotate_left
  ·exact c.elim
  rename_i x y;rw[dU]at c;obtain⟨j,rfl,c⟩:=c;rw[dU]at c;obtain⟨l,rfl,m,o,z,A,P,Q,q⟩:=c
  cases O with
  | cons r t=>
   cases t with
   | cons T t=>
    cases t;cases r;cases T;obtain⟨V,Y,C⟩:=e.sqk P;obtain⟨Z,mm,D⟩:=e.sqk Q;refine Ug C D λE S k=>?_;have U:Inv X u G B {d with heap:=E }:=e.kept (t':=d.toks) k;refine wpAny_pyIter_zip (s:={d with heap:=E }) S.z ?_;refine⟨d.heap.objs.size+4,_,_,_,B,rfl,U,Np (aAD C.lt D.lt),S,λb f=>?_,q⟩;have F:d.heap.objs.size<=b:=by
     simp only [mem_cons,QZR,or_false]at f;rcases f with rfl|rfl|rfl|rfl|rfl
     ·exact le_add_right _ 4
     ·exact le_add_right _ 2
     ·exact le_add_right _ 3
     ·exact aZ _
     ·exact le_add_right _ 1
    exact e.fpOk F (e.hok.fresh F)
def R.ja{K:W.Frag}(c:Gl X "zip")(d:X.mg "zip"=none)(e:XE X a ta)(f:XE X b tb)(g:X.K=K:=by rfl)(h:aW a=true:=by rfl)(i:aW b=true:=by rfl):XI X (.Tuple es n sk) (.Call (.Name "zip" p) [a,b] [] pos) (aCj K ta tb):=
 g▸⟨aAE c d e.h f.h h i⟩
end
def Nr{K:W.Frag}{h j:Bool}{k l:TD}{xs ys:List V}{js:List (Option Nat)}{g:TG}{n:TT}{o:TE}{r:St}{H:Hp}{Q:List V->Hp->Prop}(hz:xs.length<=100000)(Pv:Nat->List V->Hp->Prop)(s:∀i zs H,Pv i zs H->Cj K h H k xs/\Cj K j H l ys/\zs.length<=i)(u:Pv 0 [] H)(hs:∀i x y zs H t,xs[i]?=some x->ys[i]?=some y->Pv i zs H->H t=none->g (.ref t) (xK js r) (aI H t (.tup [x,y])) λf H2=>n f H2 λb q=>if b=true then o f q λv w=>Pv (i+1) (zs++[v]) w else Pv (i+1) zs q)(z:∀zs H,Pv (min xs.length ys.length) zs H->Q zs H):iK js g n o r (Itz K h j k l) H Q:=by
 refine⟨λi m zs H=>m=min xs.length ys.length-i/\i<=min xs.length ys.length/\Pv i zs H,⟨_,rfl,zero_le _,u⟩,?_⟩;rintro i m zs H ⟨rfl,I,p⟩;obtain⟨a,c,J⟩:=s i zs H p;by_cases d:i<min xs.length ys.length
 ·have A:i<xs.length:=QZS d (min_le_left _ _);have B:i<ys.length:=QZS d (min_le_right _ _);refine .inr ⟨⟨xs,ys,xs[i],ys[i],a,c,by simp[A],by simp[B]⟩,oC (m:=100000) Zo Zd,Pv (i+1),λL C D=>⟨_,Zo,rfl,d,D⟩,λv C y=>?_⟩;obtain⟨t,x,y,E,rfl,rfl,F,G⟩:=y;exact hs i x y zs H t (F xs a) (G ys c) p E
 ·have e:i=min xs.length ys.length:=by omega
  subst e;exact .inl ⟨⟨xs,ys,a,c,Zo⟩,z zs H p⟩
def rH(x:V)(zs:List Str):Bool:=match x with|.str z=>decide (z∈zs)|_=>false
section
variable {X:Cx}
def Im(A:Around):A.in1.units=A.units+1:=rfl
def jN(xs ys:List V):Bool:=(List.range (min xs.length ys.length)).all (λj=>yQ (xs.getD j .non) (ys.getD j .non))&&xs.length==ys.length
end
def nIs:Option aV->Q4->Bool
 | none,.none=>true
 | none,_=>false
 | some k,v=>kZ k v
def dD:∀ {k:Option aV}{v:Q4},nIs k v=true->(k=none/\v=.none)∨∃j,k=some j/\kZ j v=true
 | none,v,h=>by cases v<;>first|exact .inl ⟨rfl,rfl⟩|exact QZW (show false=true from h) U7
 | some j,v,h=>.inr ⟨j,rfl,h⟩
def tE{j:aV}:kZ j .none=false:=by cases j<;>rfl
def zR:Int:=4238894112
section
variable {prog:Program}{w:World}{A:Around}{E:XV}{s:QZZ}
def Io{Q:Int->QZZ->Prop}(h:Q zR {s with toks:=s.toks+1 }):wpAny (model prog w) A (PySem.pyHash .none) Q E s:=by
 have a:s.TypeIs Value.none "NoneType":=rfl;unfold PySem.pyHash;refine U9 ?_;rw[cRoomFor,QZX (show ¬ ([Value.none].any Value.onHeap=true) from U7)];refine U8 ?_;refine U9 (wpAny_specialOf a PySem.F.slot_NoneType_hash.lookup ?_);show wpAny (model prog w) A (if (some (Value.builtin "NoneType.__hash__")==some Value.none)=true then _ else _) Q E s;rw[QZX (show ¬ ((some (Value.builtin "NoneType.__hash__")==some Value.none)=true) from U7)];refine U9 (wpAny_specialOf a PySem.F.slot_NoneType_hash.lookup ?_);show wpAny (model prog w) A (callSpecialIfBoundUnlessNone? Value.none "__hash__" _>>=_) Q E s;refine U9 (wpAny_callSpecialIfBoundUnlessNone?_slot a PySem.F.slot_NoneType_hash (wpAny_call_entry PySem.F.slot_NoneType_hash a PySem.F.entry_NoneType_hash (show wpAny (model prog w) _ (do ret (← mkInt zR)) _ _ s from wpAny_ret_mkInt ?_) (PySem.F.args_NoneType_hash_1 _)));show wpAny (model prog w) A (if (decide (-(2:Int)^63<=zR)&&decide (zR<2^63))=true then _ else _) Q E _;rw[QZY Zd];exact U8 h
end
def Nt(prog:Program)(w:World):PySem.KeyKind prog w (Option aV) where
 is:=nIs
 hash:=λk=>match k with|none=>zR|some j=>aBg w j
 inj:=λv a b m l=>by
  rcases dD m with⟨rfl,rfl⟩|⟨i,rfl,c⟩
  ·rcases dD l with⟨rfl,_⟩|⟨j,rfl,d⟩
   ·rfl
   ·rw[tE]at d;cases d
  ·rcases dD l with⟨rfl,rfl⟩|⟨j,rfl,d⟩
   ·rw[tE]at c;cases c
   ·rw[(bC prog w).inj v i j c d]
 byValue:=λk v h=>by
  rcases dD h with⟨rfl,rfl⟩|⟨i,rfl,c⟩
  ·rfl
  ·exact(bC prog w).byValue i v c
 pyHash:=λ{A E s k v Q} g h=>by
  rcases dD g with⟨rfl,rfl⟩|⟨i,rfl,c⟩
  ·exact Io h
  ·exact(bC prog w).pyHash c h
 eqBool:=λ{A E s a b u v Q} o g h=>by
  rcases dD o with⟨rfl,rfl⟩|⟨i,rfl,c⟩
  ·rcases dD g with⟨rfl,rfl⟩|⟨j,rfl,d⟩
   ·exact SeqAt.EqAt.same _ _ _ _ _ (by simpa using h)
   ·have f:Q false s:=by simpa using h
    rcases bL d with⟨n,t,rfl,rfl⟩|⟨x,t,rfl,rfl⟩
    ·exact SeqAt.EqAt.none_int n t _ _ _ _ f
    ·exact SeqAt.EqAt.none_str x t _ _ _ _ f
  ·rcases dD g with⟨rfl,rfl⟩|⟨j,rfl,d⟩
   ·have f:Q false s:=by simpa using h
    rcases bL c with⟨n,t,rfl,rfl⟩|⟨x,t,rfl,rfl⟩
    ·exact SeqAt.EqAt.int_none n t _ _ _ _ f
    ·exact SeqAt.EqAt.str_none x t _ _ _ _ f
   ·refine(bC prog w).eqBool c d ?_;have e:decide (some i=some j)=decide (i=j):=by simp
    rw[<- e];exact h
 «strs»:=λk x t v h=>by
  rcases dD h with⟨rfl,e⟩|⟨i,rfl,c⟩
  ·cases e
  ·exact(bC prog w).strs i x t v c
def Nu{prog:Program}{w:World}{h:Heap}{a:TD}{f:aV->Option Q4}(m:h.MapOf (bC prog w) a f):∃g:Option aV->Option Q4,h.MapOf (Nt prog w) a g/\g none=none:=by
 obtain⟨o,c,p,q,r,s,j,t⟩:=m;refine⟨_,⟨o,c,p,q,r,s,λe d=>?_,λk=>rfl⟩,?_⟩
 ·obtain⟨k,b,l⟩:=j e d;exact⟨some k,b,l⟩
 ·show findBy nIs c none=none;unfold findBy;have:c.find? (λe=>nIs none e.key)=none:=by
   rw[Array.find?_eq_none];intro e d z;obtain⟨k,b,l⟩:=j e d;rcases dD z with⟨_,i⟩|⟨_,i,_⟩
   ·rw[i]at b;have n:kZ k .none=true:=b;rw[tE]at n;cases n
   ·cases i
  rw[this];rfl
section
variable {X:Cx}
def aAF(c:Bool):R2:=λx y H Q=>mR y λa=>match x with
 | .non=>(∃b,H a=some (.dK b))/\Q (.bl c) H
 | .str z=>∃b,H a=some (.dK b)/\Q (.bl (if c then !(bB b (Sum.inr z)).isSome else (bB b (Sum.inr z)).isSome)) H
 | _=>False
def aAG(b:Bool)(f:X.A.units+1<cLine):OpR X (compareOp (if b then .NotIn else .In)) (aAF b):=by
 intro r s w H x y v u Q I c n h;unfold aAF at h;rw[dU]at h;obtain⟨a,rfl,h⟩:=h;cases n
 cases x with
 | non=>
  obtain⟨⟨m,e⟩,q⟩:=h;cases c;obtain⟨z,i,vs,t,o⟩:=Em I.hok e;obtain⟨g,j,l⟩:=Nu o.mapOf;cases b
  ·refine wpAny_in_of (knd:=Nt X.prog X.w) (k:=none) rfl i j ⟨.bl _,H,I.tok _,rfl,?_⟩;rw[l];exact q
  ·refine wpAny_notIn_of (knd:=Nt X.prog X.w) (k:=none) rfl i j ⟨.bl _,H,I.tok _,rfl,?_⟩;rw[l];exact q
 | str z=>
  obtain⟨m,e,q⟩:=h;cases b
  ·exact aBI f I (DGet.k (k:=Sum.inr z) e) c λp d=>⟨.bl _,H,d,rfl,q⟩
  ·exact En f I (DGet.k (k:=Sum.inr z) e) c λp d=>⟨.bl _,H,d,rfl,q⟩
 | _=>exact h.elim
def R.jb(a:X.A.units+1<cLine):lA X (compareOp .In) (aAF false):=⟨aAG false a⟩
end
def Pc(H:Hp)(y:V):Prop:=(dY y=true/\∀z,y=.str z->z.length<=1000)∨(∃a b,y=.ref a/\(H a=some (.lst b)∨H a=some (.tup b)))∨∃a c,y=.ref a/\H a=some (.dK c)
def Tg(H:Hp)(x:V):Prop:=Pc H x/\∀a b,x=.ref a->H a=some (.tup b)->b.length<=1000/\∀y∈b,Pc H y
def Pc.same{H b:Hp}{y:V}(s:Same H b)(h:Pc H y):Pc b y:=by
 rcases h with h|⟨a,d,e,h⟩|⟨a,c,e,h⟩
 ·exact .inl h
 ·exact .inr (.inl ⟨a,d,e,h.imp (s _ _) (s _ _)⟩)
 ·exact .inr (.inr ⟨a,c,e,s _ _ h⟩)
def Pc.kd{H:Hp}{y:V}(h:Pc H y):∃k,Wu H y k:=by
 rcases h with⟨h,_⟩|⟨a,b,rfl,h|h⟩|⟨a,c,rfl,h⟩
 ·cases y with
  | non=>exact⟨.non,trivial⟩
  | bl _=>exact⟨.bl,trivial⟩
  | int _=>exact⟨.int,trivial⟩
  | str _=>exact⟨.str,trivial⟩
  | _=>exact QZW (show false=true from h) U7
 ·exact⟨.lst,.inl ⟨b,h⟩⟩
 ·exact⟨.tup,⟨b,h⟩⟩
 ·exact⟨.dct,⟨c,h⟩⟩
def Pc.pt{H:Hp}{y:V}(h:Pc H y):Pt H y:=by
 obtain⟨k,a⟩:=h.kd;refine⟨k,a,λz e=>?_⟩;subst e;rcases h with⟨_,h⟩|⟨_,_,e,_⟩|⟨_,_,e,_⟩
 ·exact h z rfl
 ·cases e
 ·cases e
def Pc.int{H:Hp}{n:Int}:Pc H (.int n):=.inl ⟨rfl,λ_ e=>nomatch e⟩
def Pc.str{H:Hp}{z:Str}(h:z.length<=1000):Pc H (.str z):=.inl ⟨rfl,λ_ e=>by injection e with e;rw[<- e];exact h⟩
def Pc.tup{H:Hp}{a:TD}{ys:List V}(h:H a=some (.tup ys)):Pc H (.ref a):=.inr (.inl ⟨a,ys,rfl,.inr h⟩)
def Tg.tup{H:Hp}{a:TD}{xs:List V}(h:H a=some (.tup xs))(c:xs.length<=1000)(d:∀y∈xs,Pc H y):Tg H (.ref a):=
 ⟨.tup h,λb f e g=>by cases e;rw[h]at g;cases g;exact⟨c,d⟩⟩
def lO(H:Hp)(x:V):Option (List V):=match x with|.ref a=>(match H a with|some (.tup b)=>some b|_=>none)|_=>none
def Xb(xs:List V):V:=match xs with|.str u::_=>.str u|_=>.non
def lP(H:Hp)(x:V):V:=match lO H x with|some a=>Xb a|none=>.non
def tF{H:Hp}{a:TD}{xs:List V}(h:H a=some (.tup xs)):lO H (.ref a)=some xs:=by unfold lO;dsimp only;rw[h]
def Nv(wd:Str)(n:Int):List (Str×List (Int×Int)):=
 if wd="pass" then [] else if wd="move" then [("is",[(0,1000000000000-n),(n,1000000000000)]),("short",[(0,n-1)]),("full",[(1000000000000-n+1,1000000000000)])]
 else if wd="take"∨wd="send" then [("is",[(0,1000000000000-n)]),("short",[(0,n-1)])] else [("is",[(n,1000000000000)]),("full",[(1000000000000-n+1,1000000000000)])]
def bD(xs:List V)(bs:List (Int×Int)):Bool:=decide (xs.length=bs.length)&&(xs.zip bs).all λq=>Cf q.2.1 q.2.2 q.1
def Ip(wd:Str)(hs:List Str)(n:Int)(xs:List V):Bool:=match xs with
 | .str u::r=>
  if u="no" then (match r with|[y]=>rH y hs|_=>false)
  else if u="ok" then decide (wd="pass")&&r.isEmpty
  else match (Nv wd n).lookup u with|some bs=>bD r bs|none=>false
 | _=>false
def Ck(H:Hp)(wd:Str)(hs:List Str)(n:Int)(x:V):Bool:=match lO H x with|some a=>Ip wd hs n a|none=>false
abbrev B2:=Addr×Int×Int
def BAt(H:Hp)(bs:List B2):Prop:=∀z∈bs,H z.1=some (.tup [.int z.2.1,.int z.2.2])
def xY(bs:List B2):List V:=bs.map λz=>V.ref z.1
def zS(H:Hp)(o:Option (List (Int×Int)))(v:Option V):Prop:=match o with
 | some bs=>∃t a,v=some (.ref t)/\H t=some (.tup (xY a))/\BAt H a/\a.map (·.2)=bs
 | none=>v=none
def BAt.same{H a:Hp}{bs:List B2}(s:Same H a)(h:BAt H bs):BAt a bs:=λz b=>s _ _ (h z b)
structure DWN(wd:Str)(n:Int)(xs:List V)(as:List (Str×List V)):Prop where
 ex:∃one other nm cs,DW one other nm n wd xs cs as
 nm:∀q∈as,gB q.1
def DWN.dwx{wd:Str}{n:Int}{xs:List V}{b:List (Str×List V)}(h:DWN wd n xs b):∃a,Xa wd xs a b:=by
 obtain⟨one,c,nm,a,d⟩:=h.ex;exact⟨a,one,c,nm,n,d⟩
def zT:Sp:=λvs H Q _=>∃x,vs=[x]/\Tg H x/\Q (lP H x) H
def Xc(xs:List V):Bool:=match xs with|[_,y]=>nmV y|_=>false
def Nw:Sp:=λvs H Q _=>∃a b,vs=[.ref a]/\H a=some (.tup b)/\(∀y∈b,Pc H y)/\∀c,Same H c->Q (.bl (Xc b)) c
def zU:Sp:=λvs H Q _=>∃p wd n c e,vs=[.ref p]/\H p=some (.tup c)/\DWN wd n c e/\∀d b a,Same H a->a d=some (.dK b)->(∀u:Str,zS a ((Nv wd n).lookup u) (bB b (Sum.inr u)))->Q (.ref d) a
def zV:Sp:=λvs H Q _=>∃a t b bs,vs=[.ref a,.ref t]/\H a=some (.tup b)/\b.length<=1000/\(∀y∈b,Pc H y)/\H t=some (.tup (xY bs))/\BAt H bs/\∀c,Same H c->Q (.bl (bD b (bs.map (·.2)))) c
def Fe:Sp:=λvs H Q _=>∃p wd n a b x,vs=[.ref p,x]/\H p=some (.tup a)/\DWN wd n a b/\Tg H x/\∀c,Same H c->Q (.bl (Ck H wd (b.map (·.1)) n x)) c
section
variable {X:Cx}{o:Expr}{to:TE}{p pos apos cpos:Pos}
def Xd:Gs:=λo i v H Q=>∃a b,o=.ref a/\DPut H a i v b/\Q b
def Ny(b:X.A.units+1<cLine):Sc X Xd:=by
 intro k s r H o i v l m u Q I c d e h;obtain⟨a,f,rfl,g,q⟩:=h;cases c;exact Hy b I g d e λn j=>⟨f,j,q⟩
def R.cv(a:X.A.units+1<cLine):aAn X Xd:=⟨Ny a⟩
def aDn:List V->Hp->VK->Prop:=λvs H Q=>match vs with
 | [.ref a]=>∃b,H a=some (.dK b)/\∀p,H p=none->Q (.ref p) (aI H p (.dK b))
 | _=>False
def xZ:V->List V->Hp->VK->Prop:=λx vs H Q=>match x,vs with
 | .ref l,[.str z]=>∃a:List Str,H l=some (.lst (a.map V.str))/\z∈a/\∀j:Nat,a[j]?=some z->Q (.int j) H
 | _,_=>False
theorem zW{z:Str}:∀ {a:List Str},z∈a->∃j:Nat,a[j]?=some z/\∀m,m<j->a[m]?≠some z
 | [],h=>nomatch h
 | y::r,h=>by
  by_cases e:y=z
  ·subst e;exact⟨0,rfl,λm b=>QZW b (Nat.not_lt_zero _)⟩
  ·rcases mem_cons.mp h with c|h
   ·exact QZW c.symm e
   ·obtain⟨j,d,b⟩:=zW h;refine⟨j+1,by simpa using d,λm f=>?_⟩
    cases m with
    | zero=>simp;exact e
    | succ m=>simpa using b m Zo
def Iq:MtR X "list.index" xZ:=by
 intro K s N H x vs v L Q I w d h;unfold xZ at h;split at h
 ·rename_i l z;obtain⟨b,A,B,q⟩:=h;cases w;obtain⟨u,rfl,f,rfl⟩:=d.one;obtain⟨a,n,r,i,t⟩:=I.lst A;obtain⟨j,g,C⟩:=zW B;have D:=r.length;rw[aS]at D;have M:j<b.length:=(Zgs.mp g).1;have E:(b.map V.str).all dY=true:=by simp[dY]
  have k:∀(m:Nat)(e:m<a.length),yZ (.str z) a[m]=decide (b[m]?=some z):=λm e=>by
   have c:m<b.length:=by omega
   have d:RelV (V.str b[m]) (a.getD m Value.none):=jL m r (by rw[aS];exact c) _ (by rw[fK,eT c];rfl);have F:a.getD m Value.none=a[m]:=by rw[getD_eq_getElem?_getD,eT e];rfl
   rw[F]at d;rw[Bx d rfl,eT c];show decide (b[m]=z)=_;simp
  refine call_meets PySem.F.slot_list_index ⟨_,i,rfl⟩ PySem.F.entry_list_index (PySem.F.args_list_index_2 _ _)
   (SeqAt.list_indexAt l a.toArray n none #[] (.str z f) (yZ (.str z)) j (by simp;omega) (by rw[sizeLine_eq,aS]at t;omega) ?_ ?_) ⟨i,λy G=>jJ (x:=.str z) (show RelV (V.str z) (Value.str z f) from⟨f,rfl⟩) rfl r E y (by simpa using G),⟨.int j,H,I.tok _,⟨_,rfl⟩,q j g⟩⟩
  ·have:=k j Zo;simp only [getElem_toArray];rw[this];exact UV g
  ·intro m e J;have c:m<a.length:=by simpa using e
   have:=k m c;simp only [getElem_toArray];rw[this];exact UF (C m J)
 ·exact h.elim
def R.jc:XM X "list.index" xZ:=⟨Iq⟩
end
def Nz(prs:List (Str×Int))(n:Str)(v:Int):List (Str×Int):=prs.map λq=>if q.1=n then (q.1,v) else q
def Ir(prs:List (Str×Int))(n:Str)(v:Int):(Nz prs n v).map (·.1)=prs.map (·.1):=by
 unfold Nz;rw[map_map];refine map_congr_left λq _=>?_
 show(if q.1=n then (q.1,v) else q).1=q.1;split<;>rfl
def Uh{prs:List (Str×Int)}{n:Str}{v:Int}(h:n∈prs.map (·.1)):bI (jH prs) (Sum.inr n) (.int v)=jH (Nz prs n v):=by
 unfold bI;rw[QZY (by rw[dI,rP];obtain⟨a,b⟩:=nO h;rw[b];rfl)];unfold jH Nz;rw[map_map,map_map];refine map_congr_left λq _=>?_
 show(if (Sum.inr q.1:aV)=Sum.inr n then (Sum.inr q.1,V.int v) else ((Sum.inr q.1:aV),V.int q.2))=((Sum.inr (if q.1=n then (q.1,v) else q).1:aV),V.int (if q.1=n then (q.1,v) else q).2);by_cases e:q.1=n
 ·rw[QZY (by rw[e]),QZY e]
 ·rw[QZX (λz=>e (Sum.inr.inj z)),QZX e]
def Ff(C:TD):Sp:=λvs H Q _=>∃(p e:TD)(r:V)(a:List (Str×Int)),vs=[.ref p,r]/\H p=some (.ins C e [])/\aAy H r a/\(a.map (·.1)).Nodup/\a.length<=1000 ∧
 ∀c d,H d=none->c p=some (.ins C e [("amounts",.ref d)])->c d=some (.dK (jH a))->(∀b o,H b=some o->b≠p->c b=some o)->Q .non c
section
variable {X:Cx}
def Oa(i j:Int):Prop:=0<j/\j<2^64
def Ui:OpR X (binaryOp .FloorDiv) (m2 Oa λi j=>.int (i / j)):=(opI (C:=Oa) (g:=λi j=>i / j) λi j _ _ s Q E a q=>by
 have b:i.fdiv j=i/j:=Int.fdiv_eq_ediv_of_nonneg _ (by have:=a.1;omega);refine floordiv_int (by have:=a.1;omega) (by rw[b];exact q) (.inl (PyProof.noPylong_of_log2 ?_));have c:j.natAbs<2^64:=by have:=a.1;have:=a.2;omega
 exact QZS (Nat.log2_lt (by have:=a.1;omega) |>.mpr c) Zd).imp xM
def R.ik:lA X (binaryOp .FloorDiv) (m2 Oa λi j=>.int (i/j)):=⟨Ui⟩
end
def K1(p:TD)(H a:Hp):Prop:=∀c o,H c=some o->c≠p->a c=some o
def KLET:List Nat:=LET++FIG
def zX(z:Str):Prop:=1<=z.length/\z.length<=12/\∀c∈z.cps.toList,c∈KLET
def Ite(K:W.Frag)(a:TD):It:=
  ⟨λi H=>∃b x,SqL K H a b/\b[i]?=some x,
   λi H v c=>∃t x,H t=none/\v=.ref t/\c=aI H t (.tup [.int i,x])/\∀b,SqL K H a b->b[i]?=some x,
   λi H=>∃b,SqL K H a b/\b.length<=i⟩
structure ESt(h:Heap)(e it a:TD)(i:Nat):Prop where
 e:∃old,IsEnum h e it i old
 i:h.IsListIter it a i
def Iu{P:Program}{w:World}{K:W.Frag}{es:List Expr}{n:Nat}{pos:Pos}{e it a:TD}(G:e≠it)(hea:a≠e)(hia:a≠it) :
  sC P w K (.Tuple es n pos) (Ite K a) [e,it] e (λi h=>ESt h e it a i) where
 mem:=by simp
 obj:=λi h st b c=>by
  obtain⟨f,d⟩:=st.e;obtain⟨j,k,_,Q⟩:=st.i;simp only [mem_cons,QZR,or_false]at c;rcases c with rfl|rfl
  ·exact⟨_,d,λv q=>by have R:Data.fields _=Data.cell v:=q;cases R⟩
  ·exact⟨_,k,λv q=>by rw[Q]at q;cases q⟩
 keep:=λi h h' st g=>by
  obtain⟨f,d⟩:=st.e;obtain⟨j,k,a0⟩:=st.i;exact⟨⟨f,g e Zs _ d⟩,⟨j,g it Zs _ k,a0⟩⟩
 item:=by
  intro X r t y J i N s σ H a1 I m st z;subst r t y;obtain⟨S,x,o,L⟩:=z;obtain⟨O,A,p,_⟩:=I.list o;obtain⟨u,T,U⟩:=A.get L;obtain⟨f,d⟩:=st.e;refine wpAny_pyNext_enum_item d st.i p.isList (by simpa using T) G λV k Y Z z1 B=>?_;refine⟨_,rfl,?_⟩;refine wpAny_letOwnedTupleGo_enum k λh2 e2 C=>?_;have F:e<s.heap.objs.size:=Heap.lt_size d;have t2:h2.get? s.heap.objs.size=some {cls:=.type "tuple",data:=.seq #[.int i s.toks,u] }:=C.extBut _ _ (ne_of_gt F) Z;refine⟨.ref s.heap.objs.size,aI H s.heap.objs.size (.tup [.int i,x]),I.turnLaid (t':=s.toks+1) m (λb a2 c D=>?_) (aZ _) ⟨by show 2<=sizeLine;decide,[.int i s.toks,u],.cons ⟨_,rfl⟩ (.cons U .nil),⟨_,t2,rfl,_,rfl⟩⟩,rfl,?_,?_,λb c=>?_⟩
  ·have l:b≠e/\b≠it:=by simpa using c
   exact C.extBut _ _ l.1 (B b a2 l.1 l.2 D)
  ·exact⟨s.heap.objs.size,x,I.hok.fresh (aZ _),rfl,rfl,λzs hz=>by rw[I.list_inj hz o];exact L⟩
  ·obtain⟨j,E,M⟩:=Y;exact⟨⟨_,by simpa using e2⟩,⟨j,C.extBut _ _ G.symm E,M⟩⟩
  ·have l9:b<s.heap.objs.size:=by
    obtain⟨j,E,M⟩:=st.i;simp only [mem_cons,QZR,or_false]at c;rcases c with rfl|rfl
    ·exact F
    ·exact Heap.lt_size E
   rw[aD (ne_of_lt l9)];exact(m b c).1
 done:=by
  intro X r t y J i N s σ H a1 I m st z;subst r t y;obtain⟨S,o,hl⟩:=z;obtain⟨O,A,p,_⟩:=I.list o;obtain⟨f,d⟩:=st.e;have l1:=A.length;refine wpAny_pyNext_enum_end (I.ok.hd J) d st.i p.isList (by simp;omega) λV B=>?_;refine⟨rfl,I.turnL (t':=s.toks) m λb u c D=>?_⟩;have l:b≠e/\b≠it:=by simpa using c
  exact B b u l.2 D
 self:=λ_ _ _ _ _ st h=>by
  obtain⟨f,d⟩:=st.e;exact wpAny_pyIter_enum d h
section
variable {X:Cx}{a b:Expr}{ta tb:TE}{p pos sk:Pos}{es:List Expr}{n:Nat}
def Xe(K:W.Frag)(ta:TE):TI:=λe H R=>ta e H λx c=>mR x λa=>∃d,SqL K c a d/\R (Ite K a) c
def Uj(B:Gl X "enumerate")(C:X.mg "enumerate"=none)(D:PE X a ta)(i:aW a=true):PI X (.Tuple es n sk) (.Call (.Name "enumerate" p) [a] [] pos) (Xe X.K ta):=by
 intro g s A H R I h;have E:starEach [a] X.env=[(false,eval a X.env)]:=by rw[bQ i];rfl
 have F:PA X [a] (hX ta rE):=xN D wY i;refine Call_ (pK I B C boot_enumerate (PyProof.Rows.callWith_type1 (cA (F pos g s A H (λvs j=>match vs with|[x]=>(mR x λe=>∃l,SqL X.K j e l/\R (Ite X.K e) j)|_=>False) I ?_) ?_) (by rw[E];rfl) rfl))
 ·exact h
 ·rintro P c ⟨vs,m,f,G,d⟩;(try dsimp only at d);split at d
  rotate_left
  ·exact d.elim
  rename_i x;rw[dU]at d;obtain⟨e,rfl,l,J,q⟩:=d
  cases G with
  | cons r K=>
   cases K;cases r;obtain⟨O,Q,t,_⟩:=f.list J;refine call_enumerate_list t.isList λu v L S k=>?_;have M:Inv X g A m {c with heap:=u }:=f.kept (t':=c.toks) k;have w:e<c.heap.objs.size:=by
    obtain⟨o,N,_⟩:=t.isList;exact Heap.lt_size N
   refine wpAny_pyIter_enum (s:={c with heap:=u }) v ?_;refine⟨c.heap.objs.size+1,_,_,_,m,rfl,M,Iu (ne_of_gt (lt_succ_self _)) (ne_of_lt (lt_succ_of_lt w)) (ne_of_lt w),⟨⟨_,v⟩,L⟩,λb y=>?_,q⟩;have z:c.heap.objs.size<=b:=by
    simp only [mem_cons,QZR,or_false]at y;rcases y with rfl|rfl
    ·exact le_add_right _ 1
    ·exact aZ _
   exact f.fpOk z (f.hok.fresh z)
def R.il{K:W.Frag}(c:Gl X "enumerate")(d:X.mg "enumerate"=none)(e:XE X a ta)(f:X.K=K:=by rfl)(g:aW a=true:=by rfl):XI X (.Tuple es n sk) (.Call (.Name "enumerate" p) [a] [] pos) (Xe K ta):=
 f▸⟨Uj c d e.h g⟩
end
def zY{K:W.Frag}{a:TD}{xs:List V}{g:TG}{h:TS}{D:pJ}{b:St}{H:Hp}(Pv:Nat->St->Hp->Prop)(l:∀i b H,Pv i b H->SqL K H a xs)(o:Pv 0 b H)(hs:∀(i:Nat)(x:V) b H t,xs[i]?=some x->Pv i b H->H t=none->g (.ref t) b (aI H t (.tup [.int i,x])) λd H2=>h {D with nx:=Pv (i+1),ct:=Pv (i+1),bk:=D.nx } d H2)(q:∀ b H,Pv xs.length b H->D.nx b H) :
  ∃W:Nat->Nat->St->Hp->Prop,(∃m,W 0 m b H)/\∀i m b H,W i m b H →
   ((Ite K a).stop i H/\D.nx b H)∨((Ite K a).go i H/\∃N:St->Hp->Prop,(∀ e c,N e c->∃j,j<m/\W (i+1) j e c)/\∀x c,(Ite K a).yld i H x c->g x b c λd H2=>h {D with nx:=N,ct:=N,bk:=D.nx } d H2):=by
 refine⟨λi m b H=>m=xs.length-i/\i<=xs.length/\Pv i b H,⟨_,rfl,zero_le _,o⟩,?_⟩;rintro i m b H ⟨rfl,u,p⟩;have f:=l i b H p;by_cases k:i<xs.length
 ·refine .inr ⟨⟨xs,xs[i],f,eT k⟩,Pv (i+1),λe c n=>⟨xs.length-(i+1),Zo,rfl,k,n⟩,?_⟩;rintro v c ⟨t,x,r,rfl,rfl,s⟩;exact hs i x b H t (s xs f) p r
 ·have:i=xs.length:=by omega
  subst this;exact .inl ⟨⟨xs,f,aZ _⟩,q b H p⟩
section
variable {prog:Program}{w:World}{A:Around}{E:XV}{s:QZZ}
def zZ{a:Q4}{Q:Bool->QZZ->Prop}(b:(a==a)=true)(h:Q true s):wpAny (model prog w) A (eqBool a a) Q E s:=by
 unfold eqBool;refine wpAny_holding ?_;rw[QZY b];exact U9 (wpAny_rule (U8 h))
def Ob(a:Q4):(a==a)=true:=beq_self_eq_true a
def Aa{b a:Bool}{Q:Bool->QZZ->Prop}:∀(l:List Q4)(i:Nat),Q a s->W.KatLex prog w A b a Q (l.zip l) i s
 | [],i,h=>W.kat_nil h
 | x::l,i,h=>W.kat_cons (zZ (Ob x) (W.kat_yes (Aa l (i+1) h)))
end
section
variable {X:Cx}{pins:ZB}{σ:St}{H:Hp}{s:QZZ}{a:TD}{o:Obj}{kvs:List (aV×V)}
def Xf(t:TS):TS:=λD σ H=>t {nx:=λc b=>∃a kvs o,(∃d,H a=some (.dK d))/\b a=some (.frz o (.dK kvs))/\D.nx c (aI b a (.dK kvs)),rt:=λ_ _=>False } σ H
def Uk{e:Stmt}{t:TS}(c:PS X e t):PS X e (Xf t):=by
 intro pins s σ H D I h;refine cA (c pins s σ H _ I h) λf l q=>?_
 cases f with
 | next=>
  obtain⟨b,m,d,a,kvs,o,⟨n,g⟩,i,q⟩:=q;refine⟨b,_,d.thaw i (λj k z=>?_),q⟩;have:=I.base.frzs a j k z;rw[g]at this;cases this
 | brk=>obtain⟨_,_,_,q⟩:=q;exact q.elim
 | cont=>obtain⟨_,_,_,q⟩:=q;exact q.elim
 | ret u=>obtain⟨_,_,_,_,_,q⟩:=q;exact q.elim
end
namespace R
section
variable {X:Cx}{tg l:Expr}{tl:TE}{apos cpos:Pos}{e:Stmt}{t:TS}
def jz(h:XS X e t):XS X e (Xf t):=⟨Uk h.h⟩
end
end R
section
variable {X:Cx}{o e f:Expr}{apos cpos:Pos}{td ty tx:TE}
def R.jd{pos:Pos}:XE X (.Dict [] [] pos) Lr:=⟨Lu⟩
end
section
variable {κ:Type} [DecidableEq κ]
def Oc{kvs:List (κ×V)}{k:κ}{v:V}{p:κ×V}(h:p∈bI kvs k v):p=(k,v)∨(p∈kvs/\p.1≠k):=by
 cases a:bB kvs k with
 | none=>
  rw[lI v a]at h;rcases Zma.mp h with h|h
  ·exact .inr ⟨h,λe=>zE a (e▸Zmm.mpr ⟨p,h,rfl⟩)⟩
  ·exact .inl (Zms.mp h)
 | some x=>
  unfold bI at h;rw[dI,a]at h;simp only [Option.isSome_some,if_true]at h;obtain⟨b,c,rfl⟩:=Zmm.mp h;by_cases e:b.1=k
  ·rw[QZY e];left;rw[e]
  ·rw[QZX e];exact .inr ⟨c,e⟩
def Iv{kvs:List (κ×V)}{k:κ}{v:V}(j:κ):j∈(bI kvs k v).map (·.1)↔j=k∨j∈kvs.map (·.1):=by
 cases a:bB kvs k with
 | none=>
  rw[lI v a,dW,Zma];simp only [map_cons,map_nil,Zms];exact Or.comm
 | some x=>
  have e:(bI kvs k v).map (·.1)=kvs.map (·.1):=by
   unfold bI;rw[dI,a];simp only [Option.isSome_some,if_true,map_map];refine map_congr_left λp _=>?_;simp only [Function.comp];split<;>rfl
  rw[e];exact⟨.inr,λz=>z.elim (λz=>z▸Ep a) id⟩
def Ul{kvs:List (κ×V)}{k:κ}{v:V}(a:(kvs.map (·.1)).Nodup):((bI kvs k v).map (·.1)).Nodup:=by
 cases b:bB kvs k with
 | none=>exact Td v a b
 | some x=>
  have e:(bI kvs k v).map (·.1)=kvs.map (·.1):=by
   unfold bI;rw[dI,b];simp only [Option.isSome_some,if_true,map_map];refine map_congr_left λp _=>?_;simp only [Function.comp];split<;>rfl
  rw[e];exact a
end
@[reducible] def kG:KeyOrd where
 α:=Int
 blt a b:=decide (a<b)
 irrefl a:=by simp
 trans a b c d e:=by simp only [decide_eq_true_eq]at *;omega
 negTrans a b c h:=by simp only [decide_eq_true_eq]at *;omega
 total a b d e:=by simp only [decide_eq_false_iff_not]at *;omega
def Ab(h:Heap)(v:Q4)(q:Int×TD):Prop:=∃t rest,v=Value.ref q.2/\IsTup h q.2 (Value.int q.1 t::rest).toArray
def TnsAt(h:Heap):List Q4->List (Int×TD)->Prop
 | [],[]=>True
 | v::vs,q::a=>Ab h v q/\TnsAt h vs a
 | _,_=>False
def TnsAt.len{h:Heap}:∀ {vs:List Q4}{qs:List (Int×TD)},TnsAt h vs qs->vs.length=qs.length
 | [],[],_=>rfl
 | _::_,_::_,x=>congrArg (·+1) x.2.len
def TnsAt.keep{h h':Heap}(k:∀v q,Ab h v q->Ab h' v q):∀ {vs:List Q4}{qs:List (Int×TD)},TnsAt h vs qs->TnsAt h' vs qs
 | [],[],_=>True.intro
 | _::_,_::_,x=>⟨k _ _ x.1,x.2.keep k⟩
def TnsAt.get{h:Heap}:∀ {vs:List Q4}{qs:List (Int×TD)} (i:Nat),TnsAt h vs qs->i<vs.length->Ab h (vs.getD i Value.none) (qs.getD i ((0:Int),0))
 | v::vs,q::qs,0,x,_=>x.1
 | v::vs,q::qs,i+1,x,a=>by
  have:=TnsAt.get i x.2 (by simpa using a);simpa using this
def TnsAt.tups{h:Heap}:∀ {vs:List Q4}{qs:List (Int×TD)},TnsAt h vs qs->∃fs,W.KatTups h vs fs/\fs.length=vs.length/\∀v∈fs,∃x t,v=Value.int x t
 | [],[],_=>⟨[],.nil,rfl,λv a=>nomatch a⟩
 | v::vs,q::qs,⟨⟨t,rest,e,o,b,c,n,d⟩,r⟩=>by
  obtain⟨fs,f,g,i⟩:=r.tups;subst e;refine⟨Value.int q.1 t::fs,.cons b c d Zs f,congrArg (·+1) g,λv a=>?_⟩;rcases mem_cons.mp a with e|a
  ·exact⟨_,_,e⟩
  ·exact i v a
abbrev kH(qs:List (Int×TD))(i:Nat):kG.α:=(qs.getD i ((0:Int),0)).1
section
variable {prog:Program}{w:World}{A:Around}{E:XV}{s:QZZ}
def aCk{v d:Q4}{p q:Int×TD}{Q:Bool->QZZ->Prop}(f:Ab s.heap v p)(g:Ab s.heap d q)(i:p.1=q.1->p=q)(h:Q (decide (p.1<q.1)) s) :
  wpAny (model prog w) A (keyLt' (tuples' true) v d) Q E s:=by
 obtain⟨t,rest,rfl,o,a,_,n,b⟩:=f;obtain⟨r,u,rfl,x,c,_,y,j⟩:=g;by_cases e:p.1=q.1
 ·have k:=i e;subst k;rw[a]at c;cases c;refine W.kat_lt a b a b ?_;have l:decide (p.1<p.1)=false:=by simpa using Int.lt_irrefl p.1
  rw[l]at h;refine Aa _ 0 ?_;simpa using h
 ·refine W.kat_lt a b c j (W.kat_cons (wpAny_eqBool_int (W.kat_go (λm=>QZW (eq_of_beq m) e) (λ_=>W.kat_no (oneLt_int h)))))
def vA{a:TD}{vs:List Q4}{qs:List (Int×TD)}{n:Nat}{R:PySem.Fin->QZZ->Prop}(d:s.heap.get? a=some (seqObj "list" vs.toArray n))(y:TnsAt s.heap vs qs)(F:(qs.map (·.1)).Nodup)(g:vs.length<64)(h:∀p:Array Nat,Prm vs.length p->Up (O:=kG) (kH qs) p vs.length->R (.done (.ret .none)) {s with heap:=sortedHeap s.heap a vs (p.toList.map λi=>vs.getD i Value.none).toArray }) :
  wpAny (model prog w) A (Builtin.«list.sort» ⟨[.ref a],[]⟩) R E s:=by
 have ha:a<s.heap.objs.size:=Heap.lt_size d;have z:vs.toArray.size<=sizeLine:=by rw[gM];exact gL (le_of_lt g) Zd
 rw[list_sort_plain];apply U9;apply listItems_at d rfl;apply U9;refine listUpdate_at d rfl ?_ z (zero_le _);obtain⟨o,g1⟩:∃o,(s.heap.update a (Obj.mapSeq λ_=>(#[]:Array Value))).get? a=some (seqObj "list" #[] o):=⟨_,get?_update_seq d λ_=>#[]⟩;apply U9;apply seqEpoch_at g1 rfl;apply U9;refine wpAny_newTuple ?_ (by simpa using z);apply U9;refine wpAny_newList ?_ (zero_le _);apply wpAny_holding;have g3:(((s.heap.update a (Obj.mapSeq λ_=>(#[]:Array Value))).push (seqObj "tuple" vs.toArray 0)).push (seqObj "list" #[] 0)).get? a=some (seqObj "list" #[] o):=eX _ (eX _ g1);have H:∀v q,Ab s.heap v q->Ab (((s.heap.update a (Obj.mapSeq λ_=>(#[]:Array Value))).push (seqObj "tuple" vs.toArray 0)).push (seqObj "list" #[] 0)) v q:=by
  rintro v q ⟨t,rest,rfl,a0,k,B,I⟩;have J:q.2≠a:=by
   intro a5;rw[a5]at k;rw[d]at k;cases k;exact QZW (show(Value.type "list":Q4)=.type "tuple" from B) Zd
  refine⟨t,rest,rfl,a0,eX _ (eX _ ?_),B,I⟩;rw[Heap.get?_update_ne _ _ _ _ J];exact k
 have r:=y.keep H;show wpAny (model prog w) A _ R E {s with heap:=((s.heap.update a (Obj.mapSeq λ_=>(#[]:Array Value))).push (seqObj "tuple" vs.toArray 0)).push (seqObj "list" #[] 0) };dsimp only;by_cases c:vs.toArray.size<2
 ·rw[QZY c,QZY c];have u:vs.length<2:=by simpa using c
  apply U9;apply U8;rw[StateT.run_pure];apply U9;apply U8;dsimp only;have C:Array.map (λx=>x.2) (arrOf (SortSt.mk' general' (vs.toArray.zip vs.toArray) #[] 7 none))=((List.range vs.length).toArray.toList.map λi=>vs.getD i Value.none).toArray:=by
   show Array.map (λx=>x.2) (vs.toArray.zip vs.toArray)=_;have D:∀b:List Q4,b.length<2->Array.map (λx=>x.2) (b.toArray.zip b.toArray)=((List.range b.length).toArray.toList.map λi=>b.getD i Value.none).toArray:=λb h=>by
    cases b with
    | nil=>simp
    | cons a6 b=>cases b with
     | nil=>simp[range_succ]
     | cons _ _=>simp at h;omega
   exact D vs u
  rw[C];have m:((List.range vs.length).toArray.toList.map λi=>vs.getD i Value.none).toArray.size<=sizeLine:=by
   rw[gM,aS,List.toList_toArray,List.length_range];exact gL (le_of_lt g) Zd
  apply U9;apply seqEpoch_at g3 rfl;apply U9;refine listUpdate_at g3 rfl ?_ (zero_le _) (le_succ_of_le m);simp only [bne_self_eq_false,Bool.false_eq_true,if_false];refine U8 (h _ (Array.Perm.refl _) λi j x a7=>?_);obtain rfl:i=j:=by omega
  exact KeyOrd.kle_refl _
 ·rw[QZX c,QZX c];have u:2<=vs.length:=by
   have:¬ vs.length<2:=by simpa using c
   omega
  obtain⟨fs,K,t2,L⟩:=r.tups;apply U9;refine W.kat_kind (T:=.type "int") K Zo (λv M=>?_) Zd ?_
  ·obtain⟨x,t,rfl⟩:=L v M;exact W.Looks.of_pure rfl
  have N:tuples' (Value.type "int" != Value.type "tuple")=tuples' true:=by rw[show(Value.type "int" != Value.type "tuple")=true by decide]
  rw[N];have run:=W.kat_run (prog:=prog) (w:=w) (A:=A) (E:=E) (κ:=tuples' true) (ks:=vs) (vs:=vs) (s:={s with heap:=((s.heap.update a (Obj.mapSeq λ_=>(#[]:Array Value))).push (seqObj "tuple" vs.toArray 0)).push (seqObj "list" #[] 0) })
   (Q:=λl f=>∃p:Array Nat,p.size=vs.length/\arrOf l=p.map (W.kas_item (vs.toArray.zip vs.toArray))/\failedOf l=none/\Prm vs.length p/\Up (O:=kG) (kH qs) p vs.length/\f={s with heap:=((s.heap.update a (Obj.mapSeq λ_=>(#[]:Array Value))).push (seqObj "tuple" vs.toArray 0)).push (seqObj "list" #[] 0) })
   (G:=λp f=>Prm vs.length p/\Up (O:=kG) (kH qs) p vs.length/\f={s with heap:=((s.heap.update a (Obj.mapSeq λ_=>(#[]:Array Value))).push (seqObj "tuple" vs.toArray 0)).push (seqObj "list" #[] 0) })
   rfl u g (λp l f P S U V=>⟨p,P,S,U,V⟩) ?_
  ·apply U9;refine wpAny_mono run ?_ λ_ _ e=>e;rintro⟨⟨⟩,l⟩ f ⟨p,X,Y,Z,pp,pu,rfl⟩;dsimp only;have LI:=W.kat_snds rfl Y;rw[LI];have m:((p.toList.map λi=>vs.getD i Value.none).toArray).size<=sizeLine:=by
    rw[gM,aS,Array.length_toList,X];exact gL (le_of_lt g) Zd
   apply U9;apply seqEpoch_at g3 rfl;apply U9;refine listUpdate_at g3 rfl ?_ (zero_le _) (le_succ_of_le m);rw[Z];simp only [bne_self_eq_false,Bool.false_eq_true,if_false];exact U8 (h p pp pu)
  ·refine Ask.wp (lt:=oK (O:=kG) (kH qs)) (n:=vs.length) (λi j a8 hi hj hC=>?_) _ (Ng Zo λp h1 c=>⟨h1,c,rfl⟩);unfold W.kas_ask;refine aCk (r.get i hi) (r.get j hj) (λe=>?_) hC;have hl:=y.len;have ei:qs.getD i ((0:Int),0)=qs[i]'Zo:=by simp[List.getD,eT (show i<qs.length by omega)]
   have ej:qs.getD j ((0:Int),0)=qs[j]'Zo:=by simp[List.getD,eT (show j<qs.length by omega)]
   rw[ei,ej]at e ⊢;have xc:i=j:=(List.getElem_inj (xs:=qs.map (·.1)) (h₀:=by rw[aS];omega) (h₁:=by rw[aS];omega) F).mp (by simpa using e);subst xc;rfl
def Cl{l:TD}{o:Obj}{vs:List Q4}{qs:List (Int × Addr)}{n:Nat}{Q:XV}(k:s.heap.get? l=some o)(r:o.cls=.type "list")(u:o.data=.seq vs.toArray n)(x:TnsAt s.heap vs qs)(y:(qs.map (·.1)).Nodup)(d:vs.length<64)(h:∀(a h':Heap)(p:Array Nat)(e:Nat),(∀b c,s.heap.get? b=some c->a.get? b=some c)->(∀b c,a.get? b=some c->h'.get? b=some c)->h'.get? a.objs.size=some (seqObj "list" (p.toList.map λi=>vs.getD i Value.none).toArray e) →
   Prm vs.length p->Up (O:=kG) (kH qs) p vs.length->Q (.ref a.objs.size) {s with heap:=h' }) :
  wpAny (model prog w) A (call (.builtin "sorted") [.ref l]) Q E s:=by
 apply Calls.call_function_entry kind_sorted plain_sorted entry_sorted (args_sorted1 _);unfold Builtin.«sorted»;apply U9 (m:=checkCount "sorted" 1 1 _);apply U8;apply U9;refine wpAny_collect_seq l (.inl rfl) k r u (λa f=>?_) (by rw[gM];exact gL (le_of_lt d) Zd);have z:vs.toArray.toList=vs:=by simp
 rw[z];apply U9;apply wpAny_newList
 ·have g2:(a.push (seqObj "list" vs.toArray 0)).get? a.objs.size=some (seqObj "list" vs.toArray 0):=TW _ rfl;have B:TnsAt (a.push (seqObj "list" vs.toArray 0)) vs qs:=x.keep λv q ⟨t,rest,e,c,C,D⟩=>⟨t,rest,e,c,eX _ (f _ _ C),D⟩
  apply U9;apply wpAny_holding;refine wpAny_call_entry slot_list_sort ⟨_,g2,rfl⟩ entry_list_sort (vA (s:={s with heap:=a.push (seqObj "list" vs.toArray 0) }) g2 B y d λp F G=>⟨_,rfl,U8 ⟨_,rfl,?_⟩⟩) (args_list_sort _);obtain⟨e,H⟩:=sortedHeap_at (out:=(p.toList.map λi=>vs.getD i Value.none).toArray) g2;refine h a _ p e f (λb c g=>?_) H F G;have j:=Heap.lt_size g;rw[sortedHeap_old (ne_of_lt j) (by rw[size_push'];exact lt_succ_of_lt j)];exact eX _ g
 ·exact gL (le_of_lt d) Zd
end
abbrev Tn:=Int×TD×List V
def tln(x y:Tn):Prop:=x.1<=y.1
def NAt(H:Hp)(zs:List Tn):Prop:=∀z∈zs,H z.2.1=some (.tup (.int z.1::z.2.2))
def rJ(zs:List Tn):List V:=zs.map λz=>V.ref z.2.1
section
variable {X:Cx}{pins:ZB}{σ:St}{H:Hp}{s:QZZ}
theorem Od(I:Inv X pins σ H s):∀ {zs:List Tn}{vs:List Q4},NAt H zs->Vals (rJ zs) vs->TnsAt s.heap vs (zs.map (λz=>(z.1,z.2.1)))
 | [],[],_,_=>True.intro
 | z::zs,v::vs,a,.cons r b=>by
  have e:=a z gJ;obtain⟨_,h,c,d⟩:=(show ObjOk X.prog X.w H s.heap z.2.1 (.tup (.int z.1::z.2.2)) from I.hok _ _ e);cases r;refine⟨?_,Od I (λy f=>a y (kY _ f)) b⟩
  cases c with
  | cons g i=>
   obtain⟨t,rfl⟩:=g;exact⟨t,_,rfl,d⟩
def tG(K:W.Frag):List V->Hp->VK->Prop:=λvs H Q=>match vs with
 | [.ref a]=>∃b:List Tn,SqL K H a (rJ b)/\NAt H b/\(b.map (·.1)).Nodup/\b.length<64/\∀l c,H l=none->c.Perm b->c.Pairwise tln->Q (.ref l) (aI H l (.lst (rJ c)))
 | _=>False
def Iw:CallR X (.builtin "sorted") (tG X.K):=by
 intro pins s σ H xs us a0 I r h;unfold tG at h;split at h
 ·rename_i a1;obtain⟨a,B,C,D,E,q⟩:=h;obtain⟨a2,rfl,F⟩:=iJ r;cases F;obtain⟨t,l,G,_⟩:=I.list B;obtain⟨o,J,K,n,L⟩:=G.isList;have b:t.length=a.length:=by
   have:=l.length;unfold rJ at this;rw[aS]at this;exact this.symm
  have M:=Od I C l;refine Cl J K L M (by rw[map_map];exact D) Zo λw h' p e N k P d Q=>?_;have x:=I.kept (t':=s.toks) N;have R:∀i∈p.toList,i<a.length:=λi c=>by
   have:=(Array.perm_iff_toList_perm.mp d).mem_iff.mp c;rw[<- b];simpa using this
  have S:(p.toList.map λi=>a.getD i ((0:Int),0,[])).Perm a:=by
   have T:(List.range a.length).map (λi=>a.getD i ((0:Int),0,[]))=a:=by
    apply ext_getElem
    ·simp
    ·intro i w U;simp[List.getD,eT U]
   have y:=(Array.perm_iff_toList_perm.mp d).map (λi=>a.getD i ((0:Int),0,[]));rw[List.toList_toArray,b,T]at y;exact y
  have u:p.size=a.length:=by rw[d.size,b]
  refine⟨.ref w.objs.size,_,x.laid (t':=s.toks) (o:=.lst (rJ (p.toList.map λi=>a.getD i ((0:Int),0,[])))) k (aZ _) ⟨?_,(p.toList.map λi=>t.getD i Value.none),e,?_,P⟩,rfl,q _ _ (x.hok.fresh (aZ _)) S ?_⟩
  ·unfold rJ;rw[aS,aS,Array.length_toList,u];exact gL (le_of_lt E) Zd
  ·unfold rJ;rw[map_map];refine zM λi c=>?_
   have m:=R i c;refine jL i l (by unfold rJ;rw[aS];exact m) _ ?_;unfold rJ;rw[fK,eT m];simp[List.getD,eT m]
  ·rw[pairwise_iff_getElem];intro i j c V W;rw[aS,Array.length_toList]at c V;have Y:=Q i j (le_of_lt W) Zo;unfold tln;have v:∀k,k<p.size->(a.getD (p.getD k 0) ((0:Int),0,[])).1=kg (O:=kG) (kH (a.map (λz=>(z.1,z.2.1)))) p k:=λk f=>by
    have g:p.getD k 0<a.length:=by rw[<- b];exact d.lt (by rw[b,<- u];exact f)
    unfold kg kH;generalize p.getD k 0=i' at g;simp[List.getD,eT g]
   have A:∀k (f:k<(p.toList.map λi=>a.getD i ((0:Int),0,[])).length),(p.toList.map λi=>a.getD i ((0:Int),0,[]))[k]=a.getD (p.getD k 0) ((0:Int),0,[]):=λk f=>by
    have g:k<p.size:=by simpa using f
    simp[Array.getD,g]
   rw[A,A,v i Zo,v j Zo];have Z:decide ((kg (O:=kG) (kH (a.map (λz=>(z.1,z.2.1)))) p j:Int)<(kg (O:=kG) (kH (a.map (λz=>(z.1,z.2.1)))) p i:Int))=false:=Y;exact Int.not_lt.mp (U0 Z)
 ·exact h.elim
def R.je{K:W.Frag}(a:X.K=K:=by rfl):XC X (.builtin "sorted") (tG K):=a▸⟨Iw⟩
end
structure FzT(o:Obj)(es:Array DictEntry)(ep:Nat)(bs:List TD):Prop where
 ex:o.ExactDict
 dat:o.data=.dict es ep
 keys:es.toList.map (·.key)=bs.map Value.ref
section
variable {X:Cx}{pins:ZB}{σ:St}{H:Hp}{s:QZZ}{a:TD}{o:Obj}{kvs:List (List aV×V)}
def yA{P:Program}{w:World}{h:Heap}(ok:HOk P w H h)(e:H a=some (.frz o (.dT kvs))):h.get? a=some o:=
 (show ObjOk P w H h a (.frz o (.dT kvs)) from ok a _ e).1
def Inv.freezeT(I:Inv X pins σ H s)(e:H a=some (.dT kvs)):∃(c:Obj)(es:Array DictEntry)(d:Nat)(bs:List TD),s.heap.get? a=some c/\FzT c es d bs/\bs.length=kvs.length/\(∀(i:Nat)(b:TD),bs[i]?=some b->∃p:List aV×V,kvs[i]?=some p/\H b=some (.tup (p.1.map kV)))/\(a==sysModules)=false/\Inv X pins σ (aI H a (.frz c (.dT kvs))) s:=by
 obtain⟨z,m,f,k,c,es,d,g,h,n,r,y⟩:=(show ObjOk X.prog X.w H s.heap a (.dT kvs) from I.hok a _ e);refine⟨c,es,d,f.map (·.2.1),g,⟨h,n,?_⟩,?_,λi b t=>?_,m,?_⟩
 ·rw[r,map_map,map_map];rfl
 ·rw[aS];exact(Paired.length k).symm
 ·rw[fK]at t;obtain⟨x,v,rfl⟩:=Option.map_eq_some_iff.mp t;have A:i<f.length:=(Zgs.mp v).1;obtain⟨h,_,w,_⟩:=Paired.get' (j:=i) k A;have B:f[i]=x:=(Zgs.mp v).2;rw[B]at w;exact⟨kvs[i],eT h,w⟩
 ·have C:∀b l,H b=some (.tup l)->(aI H a (.frz c (.dT kvs))) b=some (.tup l):=λb l q=>by rw[aD (cI q e nofun)];exact q
  exact I.write (t':=s.toks) (h':=s.heap) (x:=a) (e:=a) (o:=.frz c (.dT kvs)) (by rw[e];exact True.intro) (.inl rfl) (λb u _ q=>q) ⟨c,g⟩ ⟨g,z,m,f,KT.keeps k C,c,es,d,g,h,n,r,y⟩
def Inv.thawT(I:Inv X pins σ H s)(e:H a=some (.frz o (.dT kvs)))(k:∀o' u,X.H₀ a≠some (.frz o' u)):Inv X pins σ (aI H a (.dT kvs)) s where
 ok:=I.ok
 os:=I.os
 bare:=I.bare
 base:=by
  have l:∀b,H b=none->b≠a:=λb z q=>by rw[q,e]at z;cases z
  refine⟨I.base.keep,I.base.slot,λb f q n m=>?_,I.base.there,λb i q=>?_,λb f u q=>?_,λb ps q=>?_⟩
  ·have:=I.base.free b f q n m;rw[aD (l b this)];exact this
  ·have:=I.base.tups b i q;rw[aD (cI this e nofun)];exact this
  ·have:=I.base.frzs b f u q;by_cases d:b=a
   ·subst d;exact QZW q (k f u)
   ·rw[aD d];exact this
  ·obtain⟨more,j⟩:=I.base.tbls b ps q;exact⟨more,by rw[aD (cI j e nofun)];exact j⟩
 loc:=I.loc
 cell:=I.cell
 free:=by
  have z:=I.free;rw[aD (λq=>by rw[q,e]at z;cases z)];exact z
 freeC:=λx c h=>by
  have z:=I.freeC x c h;rw[aD (λq=>by rw[q,e]at z;cases z)];exact z
 pin:=λp r=>by
  obtain⟨t,g,w⟩:=I.pin p r;refine⟨t,?_,w⟩;rw[aD (λq=>by rw[q,e]at g;cases g)];exact g
 hok:=by
  intro b u d;have st:∀ {c:TD}{v:HO},ObjOk X.prog X.w H s.heap c v->ObjOk X.prog X.w (aI H a (.dT kvs)) s.heap c v:=λx=>x.stay (λc v _ h=>h) (λc h=>by rw[aD (cI h e nofun)];exact h) λc i h=>by rw[aD (cI h e nofun)];exact h
  by_cases q:b=a
  ·subst q;rw[aA]at d;cases d;exact st (show ObjOk X.prog X.w H s.heap b (.frz o (.dT kvs)) from I.hok b _ e).2
  ·rw[aD q]at d;exact st (I.hok b u d)
 len:=I.len
def Oe(t:TE):TE:=λσ H Q=>t σ H λv b=>∃a kvs o,(∃c,H a=some (.dT c))/\b a=some (.frz o (.dT kvs))/\Q v (aI b a (.dT kvs))
def Og{e:Expr}{t:TE}(b:PE X e t):PE X e (Oe t):=by
 intro pins s σ H Q I h;refine cA (b pins s σ H _ I h) λu k ⟨v,l,c,d,a,kvs,o,⟨m,f⟩,g,q⟩=>⟨v,_,c.thawT g (λi j z=>?_),d,q⟩
 have:=I.base.frzs a i j z;rw[f]at this;cases this
end
namespace R
section
variable {X:Cx}{tg l e1:Expr}{tl te:TE}{e:Stmt}{t:TS}
def kj(h:XE X e1 te):XE X e1 (Oe te):=⟨Og h.h⟩
end
end R
section
variable {X:Cx}
def yB{a:Type}(xs:List a)(k:Nat)(x:a):List a:=xs.take k++[x]++xs.drop k
def Fg:V->List V->Hp->VK->Prop:=λx vs H Q=>∃(l:TD)(a:List V)(k:Nat)(y:V),x=.ref l/\vs=[.int (k:Int),y]/\H l=some (.lst a)/\k<=a.length/\a.length<1000/\Q .non (aI H l (.lst (yB a k y)))
def Oh{k:Nat}(h:k<1000):¬ (!Builtin.List.listFitsIndex (k:Int))=true:=by
 have a:-(2^63)<=(k:Int):=by omega
 have b:(k:Int)<2^63:=by omega
 rw[fitsIndex_both a b];exact U7
def wB:∀ {xs:List V}{its:List Q4} (k:Nat),Vals xs its->Vals (xs.take k) (its.take k)
 | _,_,0,_=>by simp;exact .nil
 | _,_,k+1,.nil=>by simp;exact .nil
 | _,_,k+1,.cons h t=>by rw[List.take_succ_cons,List.take_succ_cons];exact .cons h (wB k t)
def wC:∀ {xs:List V}{its:List Q4} (k:Nat),Vals xs its->Vals (xs.drop k) (its.drop k)
 | _,_,0,h=>by simpa using h
 | _,_,k+1,.nil=>by simp;exact .nil
 | _,_,k+1,.cons h t=>by rw[List.drop_succ_cons,List.drop_succ_cons];exact wC k t
def aAH{s:QZZ}{A:Around}{E:XV}{prog:Program}{w:World}{l:TD}{its:List Q4}{n:Nat}{k:Int}{t:Tok}{b:Q4}{Q:XV}(e:s.heap.get? l=some {cls:=.type "list",data:=.seq its.toArray n })(f1:¬ (!Builtin.List.listFitsIndex k)=true)(f2:its.toArray.size<=sizeLine)(q:Q .none {s with heap:=s.heap.update l (Obj.mapSeq λa=>have k:=if k<0 then (k+(a.size:Int)).toNat else min k.toNat a.size;(a.extract 0 k).push b++a.extract k),toks:=s.toks }) :
  wpAny (model prog w) A (call (.builtin "list.insert") [.ref l,.int k t,b]) Q E s:=by
 have M:=AutoSeq1.list_insert_list_int_val_1 l its.toArray n k t b f1 f2;exact call_meets PySem.F.slot_list_insert ⟨_,e,rfl⟩ PySem.F.entry_list_insert (PySem.F.args_list_insert_3 _ _ _) M ⟨e,q⟩
def Ix:MtM X "list.insert" Fg:=by
 intro D s G H x vs v E Q I j m h;obtain⟨l,a,k,y,rfl,rfl,c,o,p,q⟩:=h;cases j;obtain⟨F,d,rfl,u,w⟩:=m.two;obtain⟨t,rfl⟩:=u;obtain⟨z,b,n,r,f,e⟩:=I.lstM c;have g:(yB a k y).length=a.length+1:=by unfold yB;simp;omega
 have A:Vals (yB a k y) (yB b k d):=by
  unfold yB;exact((wB k r).append (.cons w .nil)).append (wC k r)
 have i:(yB a k y).length<=sizeLine:=eZ (by rw[g];omega);refine aAH e (Oh (oC o p)) (by rw[gM,<- f];exact z) ?_;refine⟨.non,_,I.lset (its':=yB b k d) c e ?_ A i,rfl,q⟩;have B:¬ ((k:Int)<0):=by omega
 have C:min (k:Int).toNat b.toArray.size=k:=by rw[gM,<- f];simp;omega
 simp only [B,if_false,C];unfold yB;simp;exact iI Zs
def R.jf:XM X "list.insert" Fg:=⟨Ix⟩
end
section
open PySem.MeetsSeq PySem.SeqAt
def vB(l:TD)(a:Array Value)(n:Nat)(x:Q4)(e:Q4->Bool)(j:Nat)(q:j<a.size)(u:e a[j]=true)(k:Nat)(r:a.size<=sizeLine) :
  ∀i:Nat,j-i=k->i<=j->(∀m (t:m<a.size),i<=m->m<j->e a[m]=false)->Meets (Builtin.«list.remove.loop» ⟨[.ref l,x,rawInt i],[]⟩)
   (λA R s=>s.heap.get? l=some {cls:=.type "list",dict:=none,data:=.seq a n,slots:=#[] }/\(∀y,y∈a->EqAt A.in1 s y x (e y))/\R (.ok (.ret .none)) {s with heap:=s.heap.update l (Obj.mapSeq λv=>v.eraseIdxIfInBounds j) }):=by
 induction k with
 | zero=>
  intro i z B o c w A R s h;obtain⟨C,g,d,tk,os⟩:=s;obtain⟨b,f,h⟩:=h;obtain rfl:i=j:=by omega
  wp_walk using AutoSeq1.wpAny_loadPart' b
  rw[show a[((i:Nat):Int).toNat]?=some a[i] by simp[q]];refine U9 (f _ (Array.getElem_mem q) c w _ _ ?_);rw[u];have D:(a.eraseIdxIfInBounds i).size<=sizeLine+1:=gL (size_erased a _) (le_succ_of_le r)
  wp_walk using (wpAny_updateSeq b rfl (hz:=r) (_hz':=D)),AutoSeq1.wpAny_loadPart' b
  simpa using h
 | succ k E=>
  intro i z B o c w A R s h;obtain⟨C,g,d,tk,os⟩:=s;obtain⟨b,f,h⟩:=h;have p:i<a.size:=by omega
  wp_walk using AutoSeq1.wpAny_loadPart' b
  have F:((i:Int)+1)=((i+1:Nat):Int):=by push_cast;rfl
  rw[show a[((i:Nat):Int).toNat]?=some a[i] by simp[p]];refine U9 (f _ (Array.getElem_mem p) c w _ _ ?_);rw[o i p (aZ _) Zo]
  wp_walk
  rw[F];exact⟨plainId_quiet plain_remove_loop _,codeAny_builtin entry_remove_loop (by
   rw[Around.under_plainId plain_remove_loop _];exact E (i+1) Zo Zo (λm t H G=>o m t Zo G) c w A R _ ⟨b,f,h⟩)⟩
def vC(l:TD)(a:Array Value)(n:Nat)(x:Q4)(e:Q4->Bool)(j:Nat)(k:j<a.size)(i:e a[j]=true)(o:∀m (b:m<a.size),m<j->e a[m]=false)(p:a.size<=sizeLine) :
  Meets (Builtin.«list.remove» ⟨[.ref l,x],[]⟩)
   (λA R s=>s.heap.get? l=some {cls:=.type "list",dict:=none,data:=.seq a n,slots:=#[] }/\(∀y,y∈a->EqAt A.in1 s y x (e y))/\R (.ok (.ret .none)) {s with heap:=s.heap.update l (Obj.mapSeq λq=>q.eraseIdxIfInBounds j) }):=by
 intro f w A R s h;obtain⟨u,g,d,tk,os⟩:=s;obtain⟨c,r,h⟩:=h
 wp_walk using AutoSeq1.wpAny_loadPart' c
 exact⟨plainId_quiet plain_remove_loop _,codeAny_builtin entry_remove_loop (by
  rw[Around.under_plainId plain_remove_loop _];exact vB l a n x e j k i _ p 0 rfl (zero_le _) (λm b _ t=>o m b t) f w A R _ ⟨c,r,h⟩)⟩
end
def EQ(H:Hp)(u v:V):Prop:=(dY u=true/\dY v=true)∨∃b a ps c,u=.ref b/\v=.ref a/\H b=some (.tup ps)/\H a=some (.tup c)/\∀(j:Nat)(x y:V),ps[j]?=some x->c[j]?=some y->dY x=true/\dY y=true
section
variable {X:Cx}{pins:ZB}{σ:St}{H:Hp}{s:QZZ}
def EQ.at{A:Around}{x y:V}{u v:Q4}(o:A.units<cLine)(I:Inv X pins σ H s)(g:RelV x u)(i:RelV y v)(h:EQ H x y):∃b,SeqAt.EqAt A s u v b:=by
 rcases h with⟨f1,f2⟩|⟨b,p,ps,a,rfl,rfl,g1,g2,q⟩
 ·exact⟨_,sK g i f1 f2⟩
 ·cases g;cases i;by_cases e:b=p
  ·subst e;exact⟨true,SeqAt.EqAt.same _⟩
  ·obtain⟨f,r,t,_⟩:=I.tuple (QYK g1);obtain⟨k,w,z,_⟩:=I.tuple (QYK g2);have n:∀j (c:j<f.toArray.size) (d:j<k.toArray.size),SeqAt.EqAt A.in1 s f.toArray[j] k.toArray[j] (yQ (ps.getD j .non) (a.getD j .non)):=λj c d=>by
    rw[gM]at c d;obtain⟨l,B⟩:=Paired.get' (j:=j) r c;obtain⟨m,C⟩:=Paired.get' (j:=j) w d;obtain⟨f1,f2⟩:=q j ps[j] a[j] (eT l) (eT m);have D:ps.getD j .non=ps[j]:=by simp[List.getD,l]
    have E:a.getD j .non=a[j]:=by simp[List.getD,m]
    rw[D,E];simpa using sK B C f1 f2
   exact⟨_,.of_refs e (SeqAt.RcAt.tuples t z o n)⟩
def Ac{A:Around}{c a:TD}{n m:Int}{xs ys:List V}(w:A.units+1<cLine)(I:Inv X pins σ H s)(x:c≠a)(g1:H c=some (.lst (.int n::xs)))(g2:H a=some (.lst (.int m::ys)))(y:n≠m)(M:xs.length=ys.length)(h:∀(j:Nat)(u v:V),xs[j]?=some u->ys[j]?=some v->EQ H u v):SeqAt.EqAt A s (.ref c) (.ref a) false:=by
 obtain⟨d,l,z,_⟩:=I.list (QYJ g1);obtain⟨f,o,B,_⟩:=I.list (QYJ g2);have C:d.length=xs.length+1:=l.length.symm;have N:f.length=ys.length+1:=o.length.symm;have D:d.toArray.size=f.toArray.size:=by rw[gM,gM];omega
 have t:∀j:Nat,∃b,(j=0->b=false)/\∀(i:j<d.toArray.size)(k:j<f.toArray.size),SeqAt.EqAt A.in1 s d.toArray[j] f.toArray[j] b:=λj=>by
  by_cases i:j<d.length
  ·have k:j<f.length:=by omega
   obtain⟨E,p⟩:=Paired.get' (j:=j) l i;obtain⟨F,q⟩:=Paired.get' (j:=j) o k
   cases j with
   | zero=>
    have g:=sK (A:=A.in1) (s:=s) p q rfl rfl;rw[show yQ ((V.int n::xs)[0]) ((V.int m::ys)[0])=false from UF y]at g;exact⟨false,λ_=>rfl,λ_ _=>by simpa using g⟩
   | succ j=>
    have G:RelV (xs[j]'(by simpa using E)) d[j+1]:=p;have J:RelV (ys[j]'(by simpa using F)) f[j+1]:=q;obtain⟨b,K⟩:=EQ.at (A:=A.in1) (by show A.units+1<cLine;exact w) I G J (h j _ _ (eT _) (eT _));exact⟨b,λe=>QZW e Zo,λ_ _=>by simpa using K⟩
  ·exact⟨false,λ_=>rfl,λh _=>QZW (by simpa using h) i⟩
 obtain⟨e,r⟩:=Classical.axiomOfChoice t;have g:=SeqAt.EqAt.of_refs x (SeqAt.RcAt.lists (A:=A) (s:=s) (e:=e) z.isList B.isList D Zo (λj i k=>(r j).2 i k));have L:(List.range d.toArray.size).all e=false:=by
  rw[gM,C];rw[List.all_eq_false];exact⟨0,mem_range.mpr Zo,by rw[(r 0).1 rfl];decide⟩
 rw[L]at g;exact g
end
def lQ:V->List V->Hp->VK->Prop:=λx vs H Q=>match x,vs with
 | .ref l,[.ref a]=>∃(b:List TD)(j:Nat),H l=some (.lst (b.map V.ref))/\b[j]?=some a/\b.Nodup ∧
  (∀c∈b,c≠a->∃n m d e,H c=some (.lst (.int n::d))/\H a=some (.lst (.int m::e))/\n≠m/\d.length=e.length/\∀(j:Nat)(u v:V),d[j]?=some u->e[j]?=some v->EQ H u v) ∧
  Q .non (aI H l (.lst ((b.eraseIdx j).map V.ref)))
 | _,_=>False
theorem tH:∀(a:List TD)(j:Nat),(a.eraseIdx j).map V.ref=(a.map V.ref).eraseIdx j
 | [],j=>by simp
 | s::r,0=>by simp
 | s::r,j+1=>by
  rw[eraseIdx_cons_succ,map_cons,map_cons,eraseIdx_cons_succ,tH r j]
def Cm{X:Cx}(R:X.A.units+64<cLine):MtM X "list.remove" lQ:=by
 intro O s Y H x vs v P Q I B i h;unfold lQ at h;split at h
 ·rename_i l a;obtain⟨b,j,t,p,C,ne,q⟩:=h;cases B;obtain⟨u,rfl,D⟩:=i.one;cases D;obtain⟨E,c,n,r,F,e⟩:=I.lstM t;rw[aS]at F;have G:j<b.length:=(Zgs.mp p).1;have o:∀(m:Nat)(f:m<c.length),∃d:m<b.length,c[m]=Value.ref b[m]:=λm f=>by
   have d:m<b.length:=by omega
   have i:RelV (V.ref b[m]) (c.getD m Value.none):=jL m r (by rw[aS];exact d) _ (by rw[fK,eT d];rfl);have J:c.getD m Value.none=c[m]:=by rw[getD_eq_getElem?_getD,eT f];rfl
   rw[J]at i;exact⟨d,i⟩
  refine call_meets PySem.F.slot_list_remove ⟨_,e,rfl⟩ PySem.F.entry_list_remove (PySem.F.args_list_remove_2 _ _)
   (vC l c.toArray n (.ref a) (λy=>y==Value.ref a) j (by simp;omega) ?_ ?_ (by rw[gM];rw[aS]at E;omega)) ⟨e,?_,?_⟩
  ·obtain⟨d,g⟩:=o j Zo;simp only [getElem_toArray];rw[g,(Zgs.mp p).2];exact beq_self_eq_true _
  ·intro m f K;have L:m<c.length:=by simpa using f
   obtain⟨d,g⟩:=o m L;simp only [getElem_toArray];rw[g];refine beq_eq_false_iff_ne.mpr λh=>?_
   injection h with h
   exact(pairwise_iff_getElem.mp C) m j d G K (h.trans (Zgs.mp p).2.symm)
  ·intro y M;obtain⟨m,f,rfl⟩:=getElem_of_mem (show y∈c by simpa using M);obtain⟨d,g⟩:=o m f;rw[g];by_cases k:b[m]=a
   ·rw[k,beq_self_eq_true];exact SeqAt.EqAt.same _
   ·refine yE0 (ne b[m] (getElem_mem d) k) (yE4 λS T U W=>yA5 λg1 g2 N z A=>?_);rw[show(Value.ref b[m]==Value.ref a)=false from beq_eq_false_iff_ne.mpr λh=>k (by injection h)];exact Ac (by show X.A.units+1+1<cLine;omega) I k g1 g2 N z A
  ·have w:(b.eraseIdx j).map V.ref=(b.map V.ref).eraseIdx j:=tH b j;refine⟨.non,_,I.lset (its':=c.eraseIdx j) t e ?_ (w▸r.eraseIdx j) ?_,rfl,q⟩
   ·show c.toArray.eraseIdxIfInBounds j=(c.eraseIdx j).toArray;rw[List.eraseIdxIfInBounds_toArray]
   ·rw[w];have:=pP (b.map V.ref) j;omega
 ·exact h.elim
def R.jg{X:Cx}(a:X.A.units+64<cLine):XM X "list.remove" lQ:=⟨Cm a⟩
section
variable {X:Cx}
def Xg(K:W.Frag):List V->Hp->VK->Prop:=λvs H Q=>∃(p:TD)(b:List Int),vs=[.ref p]/\SqL K H p (b.map V.int)/\0<b.length/\∀M:Int,M∈b->(∀a∈b,a<=M)->Q (.int M) H
def Iy(x:X.calm=true):CallR X (.builtin "max") (Xg X.K):=by
 intro F s N H b J Q I r h;obtain⟨p,c,rfl,y,K,q⟩:=h;obtain⟨u,rfl,z⟩:=iJ r;cases z;obtain⟨o,A,B,L⟩:=I.list y;have e:=sJ A;obtain⟨b,f⟩:=e.allInts.items;have C:s.heap.IsList p (intItems b):=f▸B.isList;have g:c=b.toList.map (·.1):=by
  rw[<- nums_intItems,<- f];exact(show numsOf o.toArray.toList=c from e.numsOf).symm
 have G:c.length=b.size:=by rw[g];simp
 refine max_intList (I.ok.hd x) C Zo λv M tk l D=>?_;obtain⟨w,m⟩:=argBest_gt (numAt b) (b.size-1);generalize argBest (λi j=>decide (numAt b i>numAt b j)) (b.size-1)=k at l w m;obtain⟨t,rfl⟩:=intItems_at l;have d:∀j,j<c.length->numAt b j=c.getD j 0:=λj _=>by rw[numAt_eq,g]
 refine⟨.int _,H,I.kept D,⟨_,rfl⟩,q _ ?_ ?_⟩
 ·rw[d k Zo,getD_eq_getElem?_getD,eT Zo];exact getElem_mem _
 ·intro a E;obtain⟨j,n,rfl⟩:=getElem_of_mem E;have:=m j Zo;rw[d j n,getD_eq_getElem?_getD,eT n]at this;exact this
def R.dw{K:W.Frag}(a:X.calm=true)(b:X.K=K:=by rfl):XC X (.builtin "max") (Xg K):=b▸⟨Iy a⟩
end
inductive Dd where
 | add (a:Str) (n:Nat)
 | take (a:Str) (n:Nat)
 | move (a b:Str) (n:Nat)
 | send (h a:Str) (n:Nat)
 | fetch (h a:Str) (n:Nat)
 | pass (h g a:Str) (n:Nat)
namespace Dd
def vs:Dd->List V
 | .add a n=>[.str "add",.str a,.int (n:Int)]
 | .take a n=>[.str "take",.str a,.int (n:Int)]
 | .move a b n=>[.str "move",.str a,.str b,.int (n:Int)]
 | .send h a n=>[.str "send",.str h,.str a,.int (n:Int)]
 | .fetch h a n=>[.str "fetch",.str h,.str a,.int (n:Int)]
 | .pass h g a n=>[.str "pass",.str h,.str g,.str a,.int (n:Int)]
def n:Dd->Nat
 | .add _ n=>n|.take _ n=>n|.move _ _ n=>n|.send _ _ n=>n|.fetch _ _ n=>n|.pass _ _ _ n=>n
def far:Dd->Bool
 | .send _ _ _=>true|.fetch _ _ _=>true|.pass _ _ _ _=>true|_=>false
def Ok:Dd->Prop
 | .add a n=>gB a/\1<=n/\n<=1000000000000
 | .take a n=>gB a/\1<=n/\n<=1000000000000
 | .move a b n=>gB a/\gB b/\a≠b/\1<=n/\n<=1000000000000
 | .send h a n=>gB h/\gB a/\1<=n/\n<=1000000000000
 | .fetch h a n=>gB h/\gB a/\1<=n/\n<=1000000000000
 | .pass h g a n=>gB h/\gB g/\gB a/\h≠g/\1<=n/\n<=1000000000000
def Ok.n{d:Dd}(h:d.Ok):1<=d.n/\d.n<=1000000000000:=by
 cases d<;>simp only [Ok]at h<;>simp only [Dd.n]<;>omega
def wd:Dd->Str
 | .add _ _=>"add"|.take _ _=>"take"|.move _ _ _=>"move"|.send _ _ _=>"send"|.fetch _ _ _=>"fetch"|.pass _ _ _ _=>"pass"
end Dd
inductive An where
 | is1 (m:Nat)
 | is2 (l m:Nat)
 | short (m:Nat)
 | full (m:Nat)
 | no (h:Str)
 | ok
namespace An
def vs:An->List V
 | .is1 m=>[.str "is",.int (m:Int)]
 | .is2 l m=>[.str "is",.int (l:Int),.int (m:Int)]
 | .short m=>[.str "short",.int (m:Int)]
 | .full m=>[.str "full",.int (m:Int)]
 | .no h=>[.str "no",.str h]
 | .ok=>[.str "ok"]
def early:An->Bool|.short _=>true|.full _=>true|_=>false
def Of:Dd->An->Prop
 | .add _ n,.is1 m=>n<=m/\m<=1000000000000
 | .add _ n,.full m=>1000000000000<m+n/\m<=1000000000000
 | .take _ n,.is1 m=>m+n<=1000000000000
 | .take _ n,.short m=>m<n
 | .move _ _ n,.is2 l m=>l+n<=1000000000000/\n<=m/\m<=1000000000000
 | .move _ _ n,.short m=>m<n
 | .move _ _ n,.full m=>1000000000000<m+n/\m<=1000000000000
 | .send _ _ n,.is1 m=>m+n<=1000000000000
 | .send _ _ n,.short m=>m<n
 | .send h _ _,.no g=>g=h
 | .fetch _ _ n,.is1 m=>n<=m/\m<=1000000000000
 | .fetch _ _ n,.full m=>1000000000000<m+n/\m<=1000000000000
 | .fetch h _ _,.no g=>g=h
 | .pass h g _ _,.no k=>k=h∨k=g
 | .pass _ _ _ _,.ok=>True
 | _,_=>False
end An
inductive RX where
 | next (n t:Nat)
 | has (z:Str) (m:Nat)
 | kept (n t:Nat) (p k:Str) (d:Dd) (y:An)
 | came (n t:Nat) (p k:Str) (d:Dd)
 | asked (n:Nat)
 | done (n t:Nat) (y:An)
namespace RX
def At(H:Hp)(a:TD):RX->Prop
 | .next n t=>H a=some (.tup [.str "next",.int (n:Int),.int (t:Int)])
 | .has z m=>H a=some (.tup [.str "has",.str z,.int (m:Int)])
 | .kept n t p k d y=>∃b c,H a=some (.tup [.str "kept",.int (n:Int),.int (t:Int),.str p,.str k,.ref b,.ref c])/\H b=some (.tup d.vs)/\H c=some (.tup y.vs)
 | .came n t p k d=>∃b,H a=some (.tup [.str "came",.int (n:Int),.int (t:Int),.str p,.str k,.ref b])/\H b=some (.tup d.vs)
 | .asked n=>H a=some (.tup [.str "asked",.int (n:Int)])
 | .done n t y=>∃c,H a=some (.tup [.str "done",.int (n:Int),.int (t:Int),.ref c])/\H c=some (.tup y.vs)
def At.tk{H g:Hp}{a:TD}{r:RX}(s:TK H g)(h:r.At H a):r.At g a:=by
 cases r with
 | next n t=>exact s _ _ h
 | has z m=>exact s _ _ h
 | kept n t p k d y=>obtain⟨b,c,e,f,i⟩:=h;exact⟨b,c,s _ _ e,s _ _ f,s _ _ i⟩
 | came n t p k d=>obtain⟨b,e,f⟩:=h;exact⟨b,s _ _ e,s _ _ f⟩
 | asked n=>exact s _ _ h
 | done n t y=>obtain⟨b,e,f⟩:=h;exact⟨b,s _ _ e,s _ _ f⟩
def tvs:List V->TV:=λa=>.tp (a.map TV.sc)
def rank:RX->Nat|.next _ _=>0|.has _ _=>1|.kept _ _ _ _ _ _=>2|_=>3
def turn:RX->Nat|.next _ t=>t|.came _ t _ _ _=>t|.done _ t _=>t|_=>0
def Fits(rs:List RX):RX->Prop
 | .next _ _=>rs=[]
 | .has z _=>(∀q∈rs,rank q<=1)/\(∃n t,.next n t∈rs)/\∀i m,.has i m∈rs->i.cps.toList<z.cps.toList
 | .kept n t _ _ d y=>(∀q∈rs,rank q<=2)/\(∃j g,.next j g∈rs/\n<j/\t<=g)/\(∀a b c e f h,.kept a b c e f h∈rs->a<n)/\An.Of d y
 | .came n t _ _ _=>(∀a b c e f,.came a b c e f∈rs->a<n)/\(∀b c e f h,.kept n b c e f h∉rs)/\∀q∈rs,turn q<=t
 | .asked n=>(∃t p k d,.came n t p k d∈rs/\d.far=true)/\.asked n∉rs/\∀t y,.done n t y∉rs
 | .done n t y=>(∀q∈rs,turn q<=t)/\(∀t y,.done n t y∉rs)/\∃g p k d,.came n g p k d∈rs/\An.Of d y/\(d.far=true->(.asked n∈rs↔y.early=false))
inductive Whole:List RX->Prop
 | nil:Whole []
 | snoc {rs:List RX}{r:RX}:Whole rs->Fits rs r->Whole (rs++[r])
def Ok:RX->Prop
 | .next n t=>1<=n/\n<=1000000/\t<=1000000000000
 | .has z m=>gB z/\1<=m/\m<=1000000000000
 | .kept n t p k d y=>1<=n/\n<=999999/\t<=1000000000000/\gB p/\zX k/\d.Ok/\An.Of d y
 | .came n t p k d=>1<=n/\n<=999999/\t<=1000000000000/\gB p/\zX k/\d.Ok
 | .asked n=>1<=n/\n<=999999
 | .done n t _=>1<=n/\n<=999999/\t<=1000000000000
end RX
structure RxsAt(H:Hp)(ra:TD)(rs:List RX)(as:List TD):Prop where
 lst:H ra=some (.lst (as.map V.ref))
 each:Paired (λr a=>RX.At H a r) rs as
def RxsAt.len{H:Hp}{b:TD}{rs:List RX}{a:List TD}(h:RxsAt H b rs a):rs.length=a.length:=h.each.length
def RxsAt.keep{H a:Hp}{b:TD}{rs:List RX}{c:List TD}(h:RxsAt H b rs c)(s:TK H a)(e:a b=some (.lst (c.map V.ref))):RxsAt a b rs c:=⟨e,Paired.map' (λ_ _ x=>x.tk s) h.each⟩
def RxsAt.same{H a:Hp}{b:TD}{rs:List RX}{c:List TD}(h:RxsAt H b rs c)(s:Same H a):RxsAt a b rs c:=h.keep s.tk (s _ _ h.lst)
def RxsAt.snoc{H b:Hp}{c:TD}{rs:List RX}{d:List TD}{r:RX}{a:TD}(h:RxsAt H c rs d)(s:TK H b)(f:r.At b a)(e:b c=some (.lst (d.map V.ref++[.ref a]))):RxsAt b c (rs++[r]) (d++[a]):=
 ⟨by rw[e,dW];rfl,Paired.snoc (Paired.map' (λ_ _ x=>x.tk s) h.each) f⟩
def RxsAt.get{H:Hp}{f:TD}{rs:List RX}{b:List TD}(h:RxsAt H f rs b){i:Nat}{v:V}(e:(b.map V.ref)[i]?=some v):∃(a:TD)(r:RX),v=.ref a/\b[i]?=some a/\rs[i]?=some r/\r.At H a:=by
 rw[fK]at e;cases c:b[i]? with
 | none=>rw[c]at e;cases e
 | some a=>
  rw[c]at e;cases e;obtain⟨g,k⟩:=Zgs.mp c;obtain⟨l,d⟩:=Paired.get' (j:=i) h.each g;rw[k]at d;exact⟨a,rs[i],rfl,rfl,eT l,d⟩
def RxsAt.nil{H:Hp}{a:TD}(h:H a=some (.lst [])):RxsAt H a [] []:=⟨h,.nil⟩
def Um(l:List Stmt)(i:Nat):Stmt:=l.getD i (.Pass ⟨0,0,0,0⟩)
def stT:Stmt->List Stmt|.If _ a _ _=>a|_=>[]
def stE:Stmt->List Stmt|.If _ _ b _=>b|_=>[]
def stB:Stmt->List Stmt|.For _ _ a _ _=>a|.While _ a _ _=>a|_=>[]
def bJ{t u:TS}{D:pJ}{c:St}{H:Hp}(R:St->Hp->Prop)(h:∀nx:St->Hp->Prop,(∀ a b,R a b->nx a b)->t {D with nx:=nx } c H)(d:∀ a b,R a b->u D a b):uX t u D c H:=h (u D) d
def Ad{c:TT}{t u:TS}{D:pJ}{d:St}{H:Hp}(R:Bool->Hp->Prop)(h:∀k:Bool->Hp->Prop,(∀v a,R v a->k v a)->c d H k)(f:∀a,R true a->t D d a)(g:∀a,R false a->u D d a):Gr c t u D d H:=
 h (λb e=>if b=true then t D d e else u D d e) λv a r=>match v,r with|true,r=>f a r|false,r=>g a r
def Oi{c:TT}{t u x:TS}{D:pJ}{d:St}{H:Hp}(R:Bool->Hp->Prop)(h:∀k:Bool->Hp->Prop,(∀v a,R v a->k v a)->c d H k)(f:∀a,R true a->t {D with nx:=x D } d a)(g:∀a,R false a->u {D with nx:=x D } d a):uX (Gr c t u) x D d H:=
 h (λb e=>if b=true then t {D with nx:=x D } d e else u {D with nx:=x D } d e) λv a r=>match v,r with|true,r=>f a r|false,r=>g a r
section
variable {X:Cx}
def Uo(b:Bool):R2:=λx y H Q=>mR y λa=>∃o,DGet H a x o/\Q (.bl (if b then !o.isSome else o.isSome)) H
def Oj(b:Bool)(d:X.A.units+1<cLine):OpR X (compareOp (if b then .NotIn else .In)) (Uo b):=by
 intro j s k H x y v u Q I e f h;unfold Uo at h;rw[dU]at h;obtain⟨a,rfl,o,g,q⟩:=h;cases f;cases b
 ·exact aBI d I g e λi c=>⟨.bl _,H,c,rfl,q⟩
 ·exact En d I g e λi c=>⟨.bl _,H,c,rfl,q⟩
def R.eh(a:X.A.units+1<cLine):lA X (compareOp .In) (Uo false):=⟨Oj false a⟩
def R.fu(a:X.A.units+1<cLine):lA X (compareOp .NotIn) (Uo true):=⟨Oj true a⟩
end
def RKS:List (Str×Int):=[("next",0),("has",1),("kept",2),("came",3),("asked",3),("done",3)]
def UAW:List V:=[.str "short",.str "full"]
section
variable {X:Cx}
def aAI:R2:=λx y H Q=>match x,y with|.int i,.int j=>Q (.bl (decide (i<j))) H|.str i,.str j=>Q (.bl (decide (i.cps.toList<j.cps.toList))) H|_,_=>False
def aAJ:OpR X (compareOp .Lt) aAI:=by
 intro a s d H x y v u Q I b c h;unfold aAI at h;split at h
 ·exact Wk a s d H _ _ v u Q I b c ⟨_,_,rfl,rfl,h⟩
 ·exact Gx a s d H _ _ v u Q I b c ⟨_,_,rfl,rfl,h⟩
 ·exact h.elim
def R.jh:lA X (compareOp .Lt) aAI:=⟨aAJ⟩
def R.ji:XC X (.builtin "len") (λvs H Q=>match vs with | [.ref a]=>∃kvs,H a=some (.dK kvs)/\Q (.int kvs.length) H | _=>False):=⟨Ib.imp λvs H Q h=>by
 split at h
 ·obtain⟨kvs,g,q⟩:=h;exact⟨_,kvs,rfl,g,q⟩
 ·exact h.elim⟩
end
def jO(xs ys:List V):Prop:=∀(j:Nat)(u v:V),xs[j]?=some u->ys[j]?=some v->dY u=true/\dY v=true
def Cn{xs:List V}(h:jO xs xs):jN xs xs=true:=by
 unfold jN;rw[Bool.and_eq_true_iff];refine⟨all_eq_true.mpr λj a=>?_,Zs⟩;have a:j<xs.length:=by simpa using a
 have e:xs.getD j .non=xs[j]:=by simp[List.getD,a]
 rw[e];have:=(h j xs[j] xs[j] (eT a) (eT a)).1;generalize xs[j]=v at this;cases v<;>first|exact QZW (show false=true from this) U7|simp[yQ]
section
variable {X:Cx}
def Ol{o:ZB}{s:QZZ}{F:St}{H:Hp}{a b:TD}{xs ys:List V}(I:Inv X o F H s)(G:X.A.units+64<cLine)(g1:H a=some (.tup xs))(g2:H b=some (.tup ys))(fl:jO xs ys):SeqAt.EqAt X.A.in1 s (.ref a) (.ref b) (jN xs ys):=by
 by_cases e:a=b
 ·subst e;rw[g1]at g2;cases g2;rw[Cn fl];exact SeqAt.EqAt.same _
 ·obtain⟨c,k,r,_⟩:=I.tuple (QYK g1);obtain⟨d,l,t,_⟩:=I.tuple (QYK g2);have u:c.length=xs.length:=k.length.symm;have v:d.length=ys.length:=l.length.symm;have p:∀j (f:j<c.toArray.size) (g:j<d.toArray.size),SeqAt.EqAt X.A.in1.in1 s c.toArray[j] d.toArray[j] (yQ (xs.getD j .non) (ys.getD j .non)):=λj f g=>by
   rw[gM]at f g;obtain⟨m,x⟩:=Paired.get' (j:=j) k f;obtain⟨n,y⟩:=Paired.get' (j:=j) l g;obtain⟨f1,f2⟩:=fl j xs[j] ys[j] (eT m) (eT n);have B:xs.getD j .non=xs[j]:=by simp[List.getD,m]
   have C:ys.getD j .non=ys[j]:=by simp[List.getD,n]
   rw[B,C];simpa using sK x y f1 f2
  have e:((List.range (min c.toArray.size d.toArray.size)).all (λj=>yQ (xs.getD j .non) (ys.getD j .non))&&c.toArray.size==d.toArray.size)=jN xs ys:=by
   rw[gM,gM,u,v];rfl
  have i:=SeqAt.RcAt.tuples (A:=X.A.in1) (s:=s) r t (by rw[Im];omega) p;rw[e]at i;intro q w E Q h;unfold eqBool;refine wpAny_holding ?_;refine wpAny_ite_split (λD=>QZW (eq_of_beq D) (λz=>by cases z;contradiction)) (λ_=>?_);exact U9 (i q w E _ (wpAny_truthy_bool h))
def tJ(xs:List V)(zs:List (TD×List V)):Bool:=zs.any λz=>jN z.2 xs
def aAK(d:Bool):R2:=λx y H Q=>mR x λa=>mR y λp=>∃(b:List V)(c:List (TD×List V)),H a=some (.tup b)/\H p=some (.lst (c.map λz=>V.ref z.1))/\(∀z∈c,H z.1=some (.tup z.2)/\jO z.2 b)/\Q (.bl (if d then !tJ b c else tJ b c)) H
def eqH(H:Hp)(xs:List V)(v:Q4):Bool:=match v with|.ref b=>(match H b with|some (.tup a)=>jN a xs|_=>false)|_=>false
def Om{H:Hp}{xs ys:List V}{b:TD}(g:H b=some (.tup ys)):eqH H xs (.ref b)=jN ys xs:=by unfold eqH;dsimp only;rw[g]
def Co{zs:List (TD×List V)}:∀ {us:List Q4},Vals (zs.map λz=>V.ref z.1) us->us=zs.map λz=>Value.ref z.1:=by
 induction zs with
 | nil=>intro us r;cases r;rfl
 | cons z zs a=>intro us r;cases r with|cons r t=>rw[a t];cases r;rfl
def aAL(f:Bool)(n:X.A.units+64<cLine):OpR X (compareOp (if f then .NotIn else .In)) (aAK f):=by
  intro C s D H x y v u Q I o t h;unfold aAK at h;rw[dU]at h;obtain⟨a,rfl,h⟩:=h;rw[dU]at h;obtain⟨p,rfl,d,b,g1,g2,c,q⟩:=h;cases o;cases t;obtain⟨g,r,j,_⟩:=I.list (QYJ g2);have k:=Co r;have l:∀w,w∈g.toArray->SeqAt.EqAt X.A.in1 s w (.ref a) (eqH H d w):=λw e=>by
    have e:w∈g:=by simpa using e
    rw[k]at e;obtain⟨z,i,rfl⟩:=Zmm.mp e;rw[Om (c z i).1];exact Ol I n (c z i).1 g1 (c z i).2
  have m:g.toArray.any (eqH H d)=tJ d b:=by
    rw[k];unfold tJ;rw[List.any_toArray,any_map];have:∀b:List (TD×List V),(∀z∈b,H z.1=some (.tup z.2)/\jO z.2 d)->b.any (eqH H d∘λz=>Value.ref z.1)=b.any λz=>jN z.2 d:=λb c=>by
     induction b with
     | nil=>rfl
     | cons z b A=>
      rw[any_cons,any_cons,A λy B=>c y (kY _ B)]
      congr 1
      exact Om (c z gJ).1
    exact this b c
  cases f
  . refine SeqAt.in_listAt _ j.isList l ⟨.bl _,H,I,rfl,?_⟩
    rw[m];exact q
  . refine SeqAt.notIn_listAt _ j.isList l ⟨.bl _,H,I,rfl,?_⟩
    rw[m];exact q
def R.im(a:X.A.units+64<cLine):lA X (compareOp .NotIn) (aAK true):=⟨aAL true a⟩
end
section
variable {prog:Program}{w:World}{A:Around}{E:XV}{s:QZZ}{u d:TD}{i n ep:Nat}{od:Obj}{es:Array DictEntry}
def Iz{Q:Option Q4->QZZ->Prop}(e:s.heap.IsValIter u d i n ep)(g:s.heap.get? d=some od)(gd:od.data=.dict es ep)(f:es.size=n)(h:i<es.size)(q:∀h',h'.IsValIter u d (i+1) n ep->Heap.SameBut u s.heap h'->Q (some es[i].val) {s with heap:=h' }):wpAny (model prog w) A (pyNext (.ref u)) Q E s:=by
 obtain⟨o,b,j,a⟩:=id e;have ty:=e.typeIs;have own:Builtin.Dict_items.ownsTuple "dict_valueiterator"=false:=by decide
 unfold pyNext;refine U9 (wpAny_attempt (wpAny_callSpecial?_slot (name:=Str.ofString "__next__") ty PySem.F.slot_dict_valueiterator_next (wpAny_call_entry PySem.F.slot_dict_valueiterator_next ty PySem.F.entry_dict_valueiterator_next ?_ (PySem.F.args_dict_valueiterator_next_1 _))));refine U9 (U8 (U9 (U9 ?_)))
 first|refine U9 (wpAny_typeNameOfWhole_valiter ty (U8 (U9 (wpAny_fieldsOf b a ?_))))|refine U9 (wpAny_typeNameOf_valiter ty (U8 (U9 (wpAny_fieldsOf b a ?_))))
 simp only [own,Bool.false_eq_true,if_false];show wpAny _ _ (if (Value.ref d==Value.none)=true then _ else _) _ _ s;rw[QZX (show ¬ ((Value.ref d==Value.none)=true) from U7)];refine U9 (U8 (U9 (wpAny_dictEntries g gd ?_)));rw[QZX (by rw[f];simp)];refine U9 (U8 (U9 (wpAny_dictEpoch g gd ?_)));rw[QZX Zs];refine U8 ?_;simp only [show ¬ ((i:Int)<0) from by omega,if_false,Int.toNat_natCast,Array.getElem?_eq_getElem h];refine U9 ?_
 first|refine U9 (wpAny_typeNameOfWhole_valiter ty (U8 (U9 (wpAny_isOneOf_valiter ty ?_))))|refine U9 (wpAny_typeNameOf_valiter ty (U8 (U9 (wpAny_isOneOf_valiter ty ?_))))
 show wpAny _ _ (setField (.ref u) 1 (rawInt ((i:Int)+1))>>=_) _ _ s;refine U9 (wpAny_setField b a Zs ?_);have c:(s.heap.update u (Obj.mapFields (·.setIfInBounds 1 (rawInt ((i:Int)+1))))).IsValIter u d (i+1) n ep:=⟨_,Heap.get?_update_self _ b (Obj.isFreed_of_fields (Obj.data_mapFields a _)),(Obj.cls_mapFields ..).trans j,by rw[Obj.data_mapFields a];simp[rawInt]⟩;refine U9 (wpAny_holding (U9 (wpAny_isOneOf_valiter (s:={s with heap:=s.heap.update u (Obj.mapFields (·.setIfInBounds 1 (rawInt ((i:Int)+1)))) }) c.typeIs (U9 (wpAny_isOneOf_valiter (s:={s with heap:=s.heap.update u (Obj.mapFields (·.setIfInBounds 1 (rawInt ((i:Int)+1)))) }) c.typeIs ?_)))));show wpAny _ _ (pure es[i].val) _ _ _;exact U8 (U8 ⟨_,rfl,U8 (q _ c (Heap.SameBut.update ..))⟩)
def On{Q:Option Q4->QZZ->Prop}(h:A.handled=none)(f:s.heap.IsValIter u d i n ep)(g:s.heap.get? d=some od)(gd:od.data=.dict es ep)(j:es.size=n)(k:es.size<=i)(q:∀h',Heap.ExtBut u s.heap h'->Q none {s with heap:=h' }):wpAny (model prog w) A (pyNext (.ref u)) Q E s:=by
 obtain⟨o,c,l,e⟩:=id f;have ty:=f.typeIs;have own:Builtin.Dict_items.ownsTuple "dict_valueiterator"=false:=by decide
 unfold pyNext;refine U9 (wpAny_attempt (wpAny_callSpecial?_slot (name:=Str.ofString "__next__") ty PySem.F.slot_dict_valueiterator_next (wpAny_call_entry PySem.F.slot_dict_valueiterator_next ty PySem.F.entry_dict_valueiterator_next ?_ (PySem.F.args_dict_valueiterator_next_1 _))));refine U9 (U8 (U9 (U9 ?_)))
 first|refine U9 (wpAny_typeNameOfWhole_valiter ty (U8 (U9 (wpAny_fieldsOf c e ?_))))|refine U9 (wpAny_typeNameOf_valiter ty (U8 (U9 (wpAny_fieldsOf c e ?_))))
 simp only [own,Bool.false_eq_true,if_false];show wpAny _ _ (if (Value.ref d==Value.none)=true then _ else _) _ _ s;rw[QZX (show ¬ ((Value.ref d==Value.none)=true) from U7)];refine U9 (U8 (U9 (wpAny_dictEntries g gd ?_)));rw[QZX (by rw[j];simp)];refine U9 (U8 (U9 (wpAny_dictEpoch g gd ?_)));rw[QZX Zs];refine U8 ?_;simp only [show ¬ ((i:Int)<0) from by omega,if_false,Int.toNat_natCast,Array.getElem?_eq_none k];refine U9 ?_
 first|refine U9 (wpAny_typeNameOfWhole_valiter ty (U8 ?_))|refine U9 (wpAny_typeNameOf_valiter ty (U8 ?_))
 show wpAny _ _ (setField (.ref u) 0 .none>>=_) _ _ s;refine U9 (wpAny_setField c e Zs ?_);show wpAny _ _ (newExc (.type "StopIteration") []>>=_) _ _ _;refine U9 ?_;simp only [newExc,newTuple];refine U9 (wpAny_newObj_type ?_ (by size_fits));refine U9 (m:=firstArgMember _ _) (wpAny_of_eq (a:=Value.none) (by first|rfl|(simp only [firstArgMember];rfl)) (wpAny_newObj_type ?_ (by size_fits)));simp only [raiseNew];refine U9 (wpAny_handled ?_);rw[show A.in1.handled=none from h];refine U9 (U8 (wpAny_throw ?_));exact U9 (wpAny_isInstance (T:="StopIteration") (b:=true) ⟨_,TW _ rfl,rfl⟩ isSubtype_stop (U8 (q _ (((Heap.SameBut.update ..).extBut.push _).push _))))
def Ja(a:s.TypeIs (.ref d) "dict")(b:(d==sysModules)=false){Q:PySem.Fin->QZZ->Prop}(q:Q (.done (.ret (.ref s.heap.objs.size))) {s with heap:=s.heap.push {cls:=.type "dict_values",data:=.fields #[.ref d] } }):wpAny (model prog w) A (Builtin.«dict.values» ⟨[.ref d],[]⟩) Q E s:=by
 refine U9 ?_;unfold Builtin.Dict.noArgs;refine U9 (wpAny_notOrdered_dict a ?_);show wpAny _ _ (pure d) _ _ s;refine U8 ?_;show wpAny _ _ (Builtin.Dict.showsAll d>>=_) _ _ s;unfold Builtin.Dict.showsAll;rw[QZX (by rw[b];exact U7)];refine U9 (U8 ?_);exact U9 (wpAny_newObj_type (U8 q))
def Jb{v:TD}{Q:XV}(a:s.heap.IsValuesView v d)(g:s.heap.get? d=some od)(gd:od.data=.dict es ep)(q:Q (.ref s.heap.objs.size) {s with heap:=s.heap.push {cls:=.type "dict_valueiterator",data:=.fields #[.ref d,.int 0 0,.int es.size 0,.int ep 0] } }):wpAny (model prog w) A (pyIter (.ref v)) Q E s:=by
 obtain⟨h,b,f,c⟩:=id a;refine wpAny_pyIter_slot a.typeIs PySem.F.slot_dict_values_iter (wpAny_call_entry PySem.F.slot_dict_values_iter a.typeIs PySem.F.entry_dict_values_iter ?_ (PySem.F.args_dict_values_iter_1 _));unfold Builtin.«dict_values.__iter__»;refine U9 (U8 ?_);refine U9 ?_;unfold Builtin.Dict_items.dictOf;refine U9 (wpAny_field b c (x:=.ref d) rfl (U8 ?_));refine U9 ?_;unfold Builtin.Dict_items.newIterator;refine U9 (wpAny_dictEntries g gd ?_);refine U9 (wpAny_dictEpoch g gd ?_);have e:Builtin.Dict_items.ownsTuple "dict_valueiterator"=false:=by decide
 simp only [e,Bool.false_eq_true,if_false];refine wpAny_newObj_type (U8 ⟨_,rfl,"dict_valueiterator",_,⟨_,TW _ rfl,rfl⟩,PySem.F.slot_dict_valueiterator_next.lookup,?_⟩);simpa [rawInt]using q
end
def aAM(a:TD)(o:Obj)(kvs:List (List aV×V)):It:=
 ⟨λi H=>H a=some (.frz o (.dT kvs))/\i<kvs.length,λi H x b=>b=H/\(kvs.map (·.2))[i]?=some x,λi H=>H a=some (.frz o (.dT kvs))/\kvs.length<=i⟩
def aAN(a:TD)(o:Obj)(kvs:List (List aV×V)):xP (aAM a o kvs) (kvs.map (·.2)) (λH=>H a=some (.frz o (.dT kvs))):=
 ⟨λi H b e=>⟨e,by rwa [aS]at b⟩,λi H x c _ _ y=>y,λH e=>⟨e,by rw[aS];exact aZ _⟩⟩
section
variable {X:Cx}{pins:ZB}{σ:St}{H:Hp}{s:QZZ}{a:TD}{o:Obj}{kvs:List (List aV×V)}
def yC{P:Program}{w:World}{h:Heap}(ok:HOk P w H h)(e:H a=some (.frz o (.dT kvs))){es:Array DictEntry}{m:Nat}(n:o.data=.dict es m):es.size=kvs.length/\∀(i:Nat)(c:i<es.size),∃v:i<kvs.length,RelV kvs[i].2 es[i].val:=by
 obtain⟨p,_,_,q,b,x,y,z,g,A,d,f,B⟩:=(show ObjOk P w H h a (.frz o (.dT kvs)) from ok a _ e);rw[p]at g;cases g;rw[n]at d;cases d;have C:=Paired.length b;have r:es.size=kvs.length:=by have:=congrArg length f;rw[aS,Array.length_toList]at this;omega
 refine⟨r,λi c=>?_⟩;have k:i<q.length:=by omega
 obtain⟨t,_,_,u⟩:=Paired.get' (j:=i) b k;refine⟨t,?_⟩;have l:(es.toList)[i]?=some es[i]:=by rw[Array.getElem?_toList,Array.getElem?_eq_getElem c]
 rw[f,fK,eT k]at l;rw[<- Option.some.inj l];exact u
def Uq{P:Program}{w:World}{K:W.Frag}{L:Expr}(a it:TD){es:Array DictEntry}{D:Nat}(l:o.data=.dict es D):sC P w K L (aAM a o kvs) [it] it (λi h=>h.IsValIter it a i kvs.length D) where
 mem:=by simp
 obj:=λi h st b f=>by
  obtain rfl:b=it:=by simpa using f
  obtain⟨g,e,c,d⟩:=st;exact⟨g,e,λv z=>by rw[d]at z;cases z⟩
 keep:=λi h m st k=>st.at λg e=>k it Zs g e
 item:=by
  intro X p q r F i pins s σ H E I n st t;subst p q r;obtain⟨j,M⟩:=t;have u:=yA I.hok j;refine yE0 (n it Zs) (yA6 λx f1 f2 y A B=>?_);obtain⟨C,N⟩:=yC I.hok j l;have G:i<es.size:=by omega
  obtain⟨f,O⟩:=N i G;refine Iz st u l C G λm J Q=>?_;have R:Inv X pins σ H {s with heap:=m }:=I.turned (t':=s.toks) (λb g f e=>(Q.2 b f).trans e) x f1 y A B;obtain⟨g,e,c,d⟩:=id J;refine⟨_,rfl,sD (s:={s with heap:=m }) e c d Zd ⟨kvs[i].2,H,R,O,⟨rfl,?_⟩,J,λb f=>(n b f).1⟩⟩;rw[fK,eT f];rfl
 done:=by
  intro X p q r F i pins s σ H E I n st t;subst p q r;obtain⟨j,M⟩:=t;have u:=yA I.hok j;obtain⟨x,f1,f2,y,A,B⟩:=n it Zs;obtain⟨C,_⟩:=yC I.hok j l;exact On (I.ok.hd F) st u l C Zo λm S=>⟨rfl,I.turned (t':=s.toks) (λb g f e=>S b g f e) x f1 y A B⟩
 self:=λ_ _ _ _ _ st h=>wpAny_pyIter_valiter st h
def Oo(c:TE):TI:=λσ H R=>c σ H λx b=>mR x λa=>∃kvs,b a=some (.dT kvs)/\∀o,R (aAM a o kvs) (aI b a (.frz o (.dT kvs)))
def Op{t l:Expr}{n:TE}{k m:Pos}(u:PE X l n)(w:attributeBase l "values" X.env (eval l X.env)=eval l X.env)(y:(k.endLine==m.line)=true):PI X t (.Call (.Attribute l "values" k) [] [] m) (Oo n):=by
 intro pins s σ H R I h;refine wpAny_Call_method0_late w y (cA (u pins s σ H _ I h) ?_);rintro v c ⟨x,z,p,A,i⟩;(try dsimp only at i);rw[dU]at i;obtain⟨a,rfl,kvs,e,q⟩:=i;cases A;obtain⟨B,C,_⟩:=Lw p (.inr ⟨_,.inl e⟩);refine yE0 (p.freezeT e) (yE4 λj J K bs=>yA6 λg f L r lo D=>?_);have ty:c.TypeIs (.ref a) "dict":=⟨j,g,f.ex.1⟩;refine⟨"dict","dict.values",PySem.F.plainAttrs_dict,PySem.F.slot_dict_values,PySem.F.type_dict_values,B,C,Calls.callWith_builtin rfl (PySem.evalArgs_none ?_)⟩;refine wpAny_call_entry PySem.F.slot_dict_values ty PySem.F.entry_dict_values (Ja ty lo ⟨_,rfl,?_⟩) (PySem.F.args_dict_values_1 _);have d:=D.kept (t':=c.toks) (h':=c.heap.push {cls:=.type "dict_values",data:=.fields #[.ref a] }) λb o e=>eX _ e
 have E:(c.heap.push {cls:=.type "dict_values",data:=.fields #[.ref a] }).IsValuesView c.heap.objs.size a:=⟨_,TW _ rfl,rfl,rfl⟩;obtain⟨F,_⟩:=yC d.hok (aA (a:=a)) f.dat;refine Jb (s:={c with heap:=c.heap.push {cls:=.type "dict_values",data:=.fields #[.ref a] } }) E (yA d.hok (aA (a:=a))) f.dat ?_;have G:(aI z a (.frz j (.dT kvs))) (c.heap.push {cls:=.type "dict_values",data:=.fields #[.ref a] }).objs.size=none:=d.hok.fresh (aZ _);refine⟨_,[_],_,_,_,rfl,d.kept (t':=c.toks) λb o e=>eX _ e,Uq a _ f.dat,⟨_,TW _ rfl,rfl,?_⟩,λb r=>?_,q j⟩
 ·rw[F];rfl
 ·obtain rfl:b=(c.heap.push {cls:=.type "dict_values",data:=.fields #[.ref a] }).objs.size:=by simpa using r
  exact d.fpOk (aZ _) G
end
def R.jj{X:Cx}{d l:Expr}{c:TE}{a b:Pos}(e:XE X l c)(f:attributeBase l "values" X.env (eval l X.env)=eval l X.env:=by rfl)(g:(a.endLine==b.line)=true:=by rfl):XI X d (.Call (.Attribute l "values" a) [] [] b) (Oo c):=⟨Op e.h f g⟩
end L2
namespace KL
open PySem L2
def ku:=@R.v
def kx:=@R.ac
def kz:=@R.ad
def lg:=@R.ae
def li:=@R.ix
def lj:=@R.af
def lq:=@R.ag
def lx:=@R.ah
def md:=@R.ai
def me:=@R.op
def mf:=@R.fn
def mh:=@R.al
def mi:=@R.ao
def mj:=@R.ap
def mo:=@R.aq
def nv:=@R.ar
def nw:=@R.au
def ny:=@R.gn
def nz:=@R.eq
def oa:=@R.av
def og:=@R.aw
def oh:=@R.ax
def oi:=@R.ay
def oj:=@R.az
def om:=@R.ba
def ot:=@R.bb
def ou:=@R.bc
def ow:=@R.ps
def ox:=@R.be
def o0:=@R.bg
def pi:=@R.sl
def qo:=@R.bi
def qp:=@R.bj
def qr:=@R.bn
def qt:=@R.bo
def qu:=@R.bp
def qv:=@R.tw
def qw:=@R.bl
def qx:=@R.br
def qy:=@R.bt
def re:=@R.bu
def sn:=@R.bq
def sw:=@R.bv
def tz:=@R.pn
def ue:=@R.bw
def uf:=@R.cf
def ug:=@R.cg
def uh:=@R.sT
def ut:=@R.cj
def u8:=@R.cn
def wn:=@R.cp
def wr:=@R.cx
def wu:=@R.le
def wv:=@R.cz
def ww:=@R.da
def xz:=@R.db
def yx:=@R.cv
def yy:=@R.de
def yz:=@R.df
def zn:=@R.dh
def AC:=@R.di
def AT:=@R.dj
def CJ:=@R.dl
def FM:=@R.dm
def FS:=@R.dq
def IN:=@R.lt
def J0:=@R.dr
def J4:=@R.gt
def K8:=@R.du
def NE:=@R.dy
def PP:=@R.dz
def P1:=@R.ne
def Q3:=@R.eg
def fA(i:Nat):Stmt:=PySem.Challenge.pw_oncedoor_k71_right_answers.main.body.getD i (.Pass ⟨0,0,0,0⟩)
abbrev mJ:Stmt:=fA 8
abbrev kI:Stmt:=fA 9
abbrev fB:Stmt:=fA 10
abbrev mK:Stmt:=fA 12
abbrev dJ:Stmt:=fA 13
abbrev rQ:Stmt:=fA 15
abbrev yD:Stmt:=fA 16
abbrev eB:Stmt:=fA 17
abbrev gN:Stmt:=fA 18
abbrev gD:Stmt:=fA 19
abbrev mL:Stmt:=fA 20
abbrev rR:Stmt:=fA 21
abbrev iM:Stmt:=fA 22
abbrev fE:Stmt:=fA 23
abbrev kJ:Stmt:=fA 25
abbrev cE:Stmt:=fT (fA 27) 0
abbrev fU:Stmt:=fT (fA 27) 1
abbrev gE:Stmt:=fT (fA 27) 2
abbrev fV:Stmt:=fT (fA 27) 3
abbrev cF:Stmt:=fT (fA 31) 0
abbrev iN:Stmt:=fT (fA 31) 1
abbrev gO:Stmt:=fT (fA 31) 2
abbrev dO:Stmt:=fT (fA 31) 3
abbrev cT:Stmt:=fT (fA 31) 4
abbrev iO:Stmt:=fT (fA 31) 5
abbrev iP:Stmt:=fA 32
abbrev gP:Stmt:=fA 33
abbrev gQ:Stmt:=fA 34
abbrev fF:Stmt:=fA 35
abbrev gT:Stmt:=fA 36
abbrev dP:Stmt:=fA 37
abbrev fW:Stmt:=fA 39
abbrev dB:Stmt:=fA 40
abbrev iC:Stmt:=fA 42
abbrev fG:Stmt:=fA 43
abbrev gU:Stmt:=fA 44
abbrev kK:Stmt:=fA 46
abbrev kL:Stmt:=fA 47
abbrev cU:Stmt:=fA 48
abbrev mM:Stmt:=fA 49
abbrev kM:Stmt:=fA 50
abbrev gG:Stmt:=fA 51
abbrev gV:Stmt:=fA 52
abbrev iQ:Stmt:=fA 53
abbrev kN:Stmt:=fA 54
abbrev kO:Stmt:=fA 55
abbrev kP:Stmt:=fA 56
abbrev iR:Stmt:=fA 58
abbrev iU:Stmt:=fA 59
abbrev fX:Stmt:=fA 60
abbrev eC:Stmt:=fA 61
abbrev iV:Stmt:=fA 62
abbrev iW:Stmt:=fA 63
abbrev bM:Stmt:=fA 64
abbrev eO:Stmt:=fA 65
abbrev fO:Stmt:=fA 66
abbrev cV:Stmt:=fA 67
abbrev bV:Stmt:=fA 68
abbrev oQ:Stmt:=fA 69
def fH{N P:List Str}{sc:Scope}(a:sc.kind=.function:=by rfl)(b:sc.isCoroutine=false:=by rfl)(c:sc.isGenerator=false:=by rfl)(d:N.Nodup:=by decide +kernel)(e:N.take P.length=P:=by rfl)(f:∀x∈P,sc.names.lookup x=some .local∨sc.names.lookup x=some .cell:=by decide +kernel)(g:∀y∈sc.names,y.2≠.free:=by decide +kernel):aK N P sc:=⟨a,b,c,d,e,f,g⟩
def Cp:aK QZE QZE (aB mJ):=fH
def Ae:aK QZo QZo (aB kI):=fH
def vD:aK QZy QZy (aB fB):=fH
def nR:aK ["deed","add","take"] QZM (aB mK):=fH
def lB:aK QZM QZM (aB dJ):=fH
def oS:aK ["book","deed","name","by","amount"] QZH (aB rQ):=fH
def Fi:aK ["book","deed","heard","asks"] QZj (aB yD):=fH
def tK:aK QZH QZH (aB eB):=fH
def vE:aK QZx QZx (aB gN):=fH
def kQ:aK ["deed","thing","word","bounds"] QZi (aB gD):=fH
def Cq:aK QZE QZE (aB mL):=fH
def Oq:aK ["answer"] ["answer"] (aB rR):=fH
def dQ:aK ["deed","n","left","come","short","full"] QZM (aB iM):=fH
def vF:aK QZw QZw (aB fE):=fH
def Af:aK QZn QZn (aB kJ):=fH
def qD:aK QZv QZv (aB cE):=fH
def tL:aK QZz QZz (aB fU):=fH
def yE:aK QZG QZG (aB gE):=fH
def dL:aK ["self","changes","name","by"] QZm (aB fV):=fH
def qE:aK QZG QZG (aB cF):=fH
def oT:aK ["self","row","word"] QZL (aB iN):=fH
def vG:aK QZL QZL (aB gO):=fH
def iX:aK ["self","row","ahead"] QZL (aB dO):=fH
def dX:aK ["self","row","deed","was_asked"] QZL (aB cT):=fH
def oU:aK ["self","row","word"] QZL (aB iO):=fH
def gW:aK ["rows","walk","place","row"] QZK (aB iP):=fH
def lR:aK QZu QZK (aB gP):=fH
def jC:aK ["rows","word","told","row"] QZt (aB gQ):=fH
def vH:aK QZK QZK (aB fF):=fH
def jD:aK ["rows","came","book","row"] QZB (aB gT):=fH
def nG:aK QYT QZB (aB dP):=fH
def cC:aK ["rows","odd","came","book","place","row","deed"] QZK (aB fW):=fH
def jP:aK ["book","deed","known"] QZH (aB dB):=fH
def hU:aK QZh QZg (aB iC):=fH
def jE:aK QYP QZf (aB fG):=fH
def eE:aK ["rows","turn","numbers","came","asked","told","number"] QZe (aB gU):=fH
def Ag:aK QZD QZD (aB kK):=fH
def gH:aK ["_law_deck_here","_law_many","_law_cell","_law_number"] QZN (aB kL):=fH
def dE:aK QZd QZc (aB cU):=fH
def Cr:aK QZN QZN (aB mM):=fH
def cB:aK ["_law_deck_here","_law_names","_law_houses","_law_amount","_law_at","_law_name","_law_other","_law_spot_here","_law_house","_law_there","_law_some"] QZs (aB kM):=fH
def kR:aK QYO QZb (aB gG):=fH
def fY:aK ["_law_deck_here","_law_deed_here","_law_word","_law_amount","_law_low","_law_high"] QZa (aB gV):=fH
def kS:aK ["_law_deck_here","_law_letters","_law_menus_here"] QYZ (aB iQ):=fH
def Ah:aK QZJ QZJ (aB kN):=fH
def iY:aK ["_law_deck_here","_law_menus_here","_law_number","_law_turn","_law_deed_here","_law_words_here","_law_answer_here"] QYY (aB kO):=fH
def cS:aK ["_law_deck_here","_law_menus_here","_law_number","_law_turn","_law_rows","_law_name","_law_last","_law_k"] QZJ (aB kP):=fH
def fI:aK ["_law_book_here","_law_deed_here","_law_amount","_law_name","_law_have"] QZC (aB iR):=fH
def oV:aK ["_law_book_here","_law_deed_here","_law_behind"] QZC (aB iU):=fH
def tM:aK QZr QZr (aB fX):=fH
def cN:aK ["_law_book_here","_law_deed_here","_law_answer_here","_law_name","_law_by"] QZA (aB eC):=fH
def dR:aK ["_law_deck_here","_law_book_here","_law_deed_here","_law_name","_law_have","_law_some","_law_amount"] QZq (aB iV):=fH
def gX:aK ["_law_deck_here","_law_book_here","_law_one","_law_due","_law_far","_law_some"] QZl (aB iW):=fH
def bH:aK QZp QYX (aB bM):=fH
def fP:aK ["_law_deck_here","_law_menus_here","_law_rows"] QZJ (aB eO):=fH
def iZ:aK QYS ["_law_rows"] (aB fO):=fH
def fZ:aK QYW QYV (aB cV):=fH
def aP:aK QZk QYU (aB bV):=fH
def iD:aK ["_law_script","_law_deck_here","_law_menus_here","_law_turn","_law_rows","_law_k","_law_other","_law_some","_law_more","_law_wrong"] QZD (aB oQ):=fH
structure Txt(K:W.Frag)(mg:V0):Prop where
 b_isinstance:mg "isinstance"=none
 b_int:mg "int"=none
 b_bool:mg "bool"=none
 b_str:mg "str"=none
 b_len:mg "len"=none
 b_all:mg "all"=none
 b_tuple:mg "tuple"=none
 b_zip:mg "zip"=none
 b_enumerate:mg "enumerate"=none
 b_sum:mg "sum"=none
 b_list:mg "list"=none
 b_range:mg "range"=none
 b_sorted:mg "sorted"=none
 b_max:mg "max"=none
 b_dict:mg "dict"=none
 b_min:mg "min"=none
 g_LETTERS:∃t,mg "LETTERS"=some (.str ("abcdefghijklmnopqrstuvwxyz") t)
 g_LONGEST_NAME:∃t,mg "LONGEST_NAME"=some (.int (8) t)
 g_MOST:∃t,mg "MOST"=some (.int (1000000000000) t)
structure Top(Pm:Params)(K:W.Frag)(mg:V0):Prop where
 g_RANKS:∃a,mg "RANKS"=some (.ref a)/\KTab K Pm a (RKS)
 g_UNASKED_WORDS:∃a,mg "UNASKED_WORDS"=some (.ref a)/\∀H,SqT K H a (UAW)
section
variable {P:Program}{w:World}{K:W.Frag}{mg:V0}{base:Heap}
def Ur(T:Txt K mg)(D:DefAt K mg "is_made_of" fB QZy):aG P w K mg base 1 "is_made_of" QZy Mv:=by
 refine D.gg vD (λf J A F s H vs Q E L h=>?_)
 ·obtain⟨x,a,n,k,rfl,b,r,q⟩:=h;refine⟨_,(lj (nv (qv (NE (J0 (wr (R.gv .str (ku 0) rfl T.b_isinstance rfl T.b_str Mq))) (R.fh (J0 (R.ir wu wu kz (oi R.ic rfl T.b_len bN (kx (ku 0) lg)) (ku 2)))))) (md (mi qw)) nw) (md (mi (oi (R.jk (K:=K) rfl) rfl T.b_all Mp (kx (ou rfl (js:=[none,some 1]) (N:=["sign","signs"]) (CompScope.by (aB fB) QZy rfl rfl Zk) (aQ rfl) (R.wS (ku 0)) (λC G I M=>⟨(ny (i:=0) (show(["sign","signs"]:List Str).Nodup by decide +kernel)),wv,(om R.jp (ku 0) (ku 1))⟩)) lg))))),?_⟩;have no:isK .str k=false->lN x a.cps.toList n=false:=λe=>by
   cases x<;>first|rfl|(cases k<;>first|exact b.elim|cases e)
  refine⟨k,b,?_⟩
  cases x with
  | str z=>
   cases k<;>first|exact b.elim|skip
   have m:=r z rfl;refine⟨eZ m,?_⟩;refine bA (λd=>?_) (λd=>?_)
   ·refine bA (λg=>?_) (λg=>?_)
    ·have e:lN (.str z) a.cps.toList n=false:=by
      rw[kC];have j:decide ((z.length:Int)<=n)=false:=by simpa using g
      rw[j];simp
     have h:=q H (Same.refl H);rw[e]at h;exact h
    ·refine⟨z,rfl,Ig (Tv z) (by simp[vX,Str.length]at m ⊢;omega) (λ_=>true) (λv=>match v with|.str y=>.bl (decide (y.cps.toList.headD 0∈a.cps.toList))|_=>.non) trivial (λv O N t u S=>?_) ?_⟩
     ·obtain⟨c,U,rfl⟩:=Zmm.mp t;exact⟨c,rfl,u rfl⟩
     ·intro p B;refine⟨p,z.cps.toList.map (λc=>decide (c∈a.cps.toList)),rfl,QYJ (by rw[aA,List.filter_eq_self.mpr (λ_ _=>rfl)];unfold vX;rw[map_map,map_map];rfl),?_⟩;have e:lN (.str z) a.cps.toList n=List.all (z.cps.toList.map (λc=>decide (c∈a.cps.toList))) id:=by
       rw[kC];have j:decide ((z.length:Int)<=n)=true:=by simpa using g
       have l:decide (1<=(z.length:Int))=true:=d;rw[j,l,all_map];simp[Function.comp_def]
      rw[<- e];exact q _ (λc o e=>by rw[aD (aF e B)];exact e)
   ·have e:lN (.str z) a.cps.toList n=false:=by
     rw[kC];have l:decide (1<=(z.length:Int))=false:=d;rw[l];simp
    have h:=q H (Same.refl H);rw[e]at h;exact h
  | _=>
   cases k<;>first|exact b.elim|exact q H (Same.refl H)
def Cs(T:Txt K mg)(a:aG P w K mg base 1 "is_made_of" QZy Mv)(D:DefAt K mg "is_name" mJ QZE):aG P w K mg base 2 "is_name" QZE (Mw LET 8):=by
 refine D.gg Cp (λf j A i s H vs Q E b h=>?_)
 ·obtain⟨x,k,rfl,c,d,q⟩:=h;refine⟨_,(md (mi (mf a b rfl (kx (ku 0) (kx (R.gS rfl T.g_LETTERS) (kx (R.gI rfl T.g_LONGEST_NAME) lg)))))),?_⟩;refine⟨x,_,8,k,rfl,c,d,λe g=>?_⟩;rw[Ce];exact q e g
def Os(T:Txt K mg)(D:DefAt K mg "is_whole" kI QZo):aG P w K mg base 1 "is_whole" QZo Ey:=by
 refine D.gg Ae (λf i A g s H vs Q E j h=>?_)
 ·obtain⟨x,lo,d,rfl,⟨k,a,l⟩,q⟩:=h;refine⟨_,(lj (nv (qv (NE (J0 (wr (R.gv .int (ku 0) rfl T.b_isinstance rfl T.b_int pW))) (R.fh (wr (R.gv .bl (ku 0) rfl T.b_isinstance rfl T.b_bool Tu))))) (md (mi qw)) nw) (md (mi (R.ie wu wu (ku 1) (ku 0) (ku 2))))),?_⟩;have h:=q H (Same.refl H);refine⟨k,a,?_⟩
  cases x with
  | int n=>
   cases k<;>first|exact a.elim|skip
   refine⟨.int,trivial,?_⟩;show if decide (lo<=n)=true then _ else _
   have e:Cf lo d (.int n)=(decide (lo<=n)&&decide (n<=d)):=rfl;refine bA (λc=>?_) (λc=>?_)
   ·rw[e,c,Bool.true_and]at h;exact h
   ·rw[e,c,Bool.false_and]at h;exact h
  | bl b=>
   cases k<;>first|exact a.elim|skip
   exact⟨.bl,trivial,h⟩
  | _=>cases k<;>first|exact a.elim|exact h
def Us(T:Txt K mg)(D:DefAt K mg "asks_of" mK QZM):aG P w K mg base 1 "asks_of" QZM nQ:=by
 refine D.gg nR (λf cdv A outer s H vs Q E hr h=>?_)
 ·obtain⟨p,wd,xs,cs,as,rfl,hp,⟨one,other,nm,n,hd⟩,q⟩:=h;refine⟨_,(lj (mh (i:=1) nR.nd (mj (kx lq (kx (li (lx (K:=K)) (ku 0) (oj kz)) (kx (li (lx (K:=K)) (ku 0) (oj kz)) lg))))) (lj (mh (i:=2) nR.nd (mj (kx lq (kx (li (lx (K:=K)) (ku 0) (oj kz)) (kx (li (lx (K:=K)) (ku 0) (oj kz)) lg))))) (lj (nv (mo nz (li (lx (K:=K)) (ku 0) kz) lq) (md (mi (mj (kx (mj (kx (li (lx (K:=K)) (ku 0) kz) (kx (ku 1) lg))) lg)))) nw) (lj (nv (mo nz (li (lx (K:=K)) (ku 0) kz) lq) (md (mi (mj (kx (mj (kx (li (lx (K:=K)) (ku 0) kz) (kx (ku 2) lg))) lg)))) nw) (lj (nv (mo nz (li (lx (K:=K)) (ku 0) kz) lq) (md (mi (mj (kx (mj (kx (li (lx (K:=K)) (ku 0) kz) (kx (ku 2) lg))) (kx (mj (kx (li (lx (K:=K)) (ku 0) kz) (kx (ku 1) lg))) lg))))) nw) (md (mi (mj lg)))))))),?_⟩;cases hd
  all_goals
   refine⟨_,QYK hp,_,rfl,_,QYK hp,_,rfl,Zs,λp1 H1 s1 g1=>⟨_,QYK (s1 _ _ hp),_,rfl,_,QYK (s1 _ _ hp),_,rfl,Zs,λp2 H2 s2 g2=>?_⟩⟩;have C5:=(s1.trans s2) _ _ hp;refine⟨_,QYK C5,_,rfl,?_⟩
  case send=>exact⟨_,QYK C5,_,rfl,Zs,λp3 H3 s3 g3=>⟨Zs,λp4 H4 s4 g4=>q p4 _ H4 (((s1.trans s2).trans s3).trans s4) g4 (.cons ⟨p3,p1,rfl,s4 _ _ g3,s4 _ _ (s3 _ _ (s2 _ _ g1))⟩ .nil)⟩⟩
  all_goals refine⟨_,QYK C5,_,rfl,?_⟩
  case fetch=>exact⟨_,QYK C5,_,rfl,Zs,λp3 H3 s3 g3=>⟨Zs,λp4 H4 s4 g4=>q p4 _ H4 (((s1.trans s2).trans s3).trans s4) g4 (.cons ⟨p3,p2,rfl,s4 _ _ g3,s4 _ _ (s3 _ _ g2)⟩ .nil)⟩⟩
  all_goals refine⟨_,QYK C5,_,rfl,?_⟩
  case pass=>
   refine⟨_,QYK C5,_,rfl,Zs,λp3 H3 s3 g3=>⟨_,QYK (s3 _ _ C5),_,rfl,Zs,λp4 H4 s4 g4=>⟨Zs,λp5 H5 s5 g5=>?_⟩⟩⟩;exact q p5 _ H5 ((((s1.trans s2).trans s3).trans s4).trans s5) g5 (.cons ⟨p3,p2,rfl,s5 _ _ (s4 _ _ g3),s5 _ _ (s4 _ _ (s3 _ _ g2))⟩ (.cons ⟨p4,p1,rfl,s5 _ _ g4,s5 _ _ (s4 _ _ (s3 _ _ (s2 _ _ g1)))⟩ .nil))
  all_goals exact⟨Zd,λp3 H3 s3 g3=>q p3 [] H3 ((s1.trans s2).trans s3) g3 .nil⟩
def Ct(T:Txt K mg)(D:DefAt K mg "word_of" mL QZE):aG P w K mg base 1 "word_of" QZE zT:=by
 refine D.gg Cq (λf o A n s H vs Q E p h=>?_)
 ·obtain⟨x,rfl,d,q⟩:=h;refine⟨_,(lj (nv (qv (NE (J0 (wr (R.gv .tup (ku 0) rfl T.b_isinstance rfl T.b_tuple zI))) (NE (mo nz (oi (o0 (K:=K)) rfl T.b_len bN (kx (ku 0) lg)) kz) (R.fh (J0 (wr (R.gv .str (li (lx (K:=K)) (ku 0) kz) rfl T.b_isinstance rfl T.b_str Mq))))))) (md (mi ue)) nw) (md (mi (li (lx (K:=K)) (ku 0) kz)))),?_⟩;rcases d.1 with⟨j,_⟩|⟨a,c,rfl,h|h⟩|⟨a,i,rfl,h⟩
  ·cases x with
   | non=>exact⟨.non,trivial,q⟩
   | bl _=>exact⟨.bl,trivial,q⟩
   | int _=>exact⟨.int,trivial,q⟩
   | str _=>exact⟨.str,trivial,q⟩
   | _=>exact QZW (show false=true from j) U7
  ·refine⟨.lst,.inl ⟨c,h⟩,?_⟩;have e:lP H (.ref a)=.non:=by unfold lP lO;dsimp only;rw[h]
   rw[e]at q;exact q
  ·refine⟨.tup,⟨c,h⟩,c,.inr (QYK h),?_⟩;have l:lP H (.ref a)=Xb c:=by unfold lP;rw[tF h]
   rw[l]at q;obtain⟨_,m⟩:=d.2 a c rfl h
   cases c with
   | nil=>exact q
   | cons y r=>
    have g:nC (y::r) ((0:Nat):Int)=some y:=eY rfl;refine⟨y::r,QYK h,y,g,?_⟩;obtain⟨k,b⟩:=(m y gJ).kd;refine⟨k,b,?_⟩
    cases y with
    | str u=>
     cases k<;>first|exact b.elim|skip
     exact⟨_,QYK h,_,g,q⟩
    | non=>cases k<;>first|exact b.elim|exact q
    | bl _=>cases k<;>first|exact b.elim|exact q
    | int _=>cases k<;>first|exact b.elim|exact q
    | ref _=>cases k<;>first|exact b.elim|exact q
    | _=>cases k<;>exact b.elim
  ·refine⟨.dct,⟨i,h⟩,?_⟩;have e:lP H (.ref a)=.non:=by unfold lP lO;dsimp only;rw[h]
   rw[e]at q;exact q
def Ot(T:Txt K mg)(d:aG P w K mg base 2 "is_name" QZE (Mw LET 8))(D:DefAt K mg "is_no" rR ["answer"]):aG P w K mg base 3 "is_no" ["answer"] Nw:=by
 refine D.gg Oq (λf n A m s H vs Q E g h=>?_)
 ·obtain⟨a,c,rfl,h,b,q⟩:=h;refine⟨_,(md (mi (sw (om nz (oi (o0 (K:=K)) rfl T.b_len bN (kx (ku 0) lg)) kz) (qx (mf d g rfl (kx (li (lx (K:=K)) (ku 0) kz) lg)))))),?_⟩;refine⟨c,.inr (QYK h),?_⟩
  match c,h,b,q with
  | [],h,b,q=>exact q H (Same.refl _)
  | [_],h,b,q=>exact q H (Same.refl _)
  | [x,y],h,b,q=>
   obtain⟨k,i⟩:=(b y Zs).kd;refine⟨_,QYK h,y,rfl,y,k,rfl,i,?_,λj l=>q j l⟩;intro z e;subst e;rcases b (.str z) Zs with⟨_,h⟩|⟨_,_,e,_⟩|⟨_,_,e,_⟩
   ·exact h z rfl
   ·cases e
   ·cases e
  | x::y::z::r,h,b,q=>
   exact q H (Same.refl _)
theorem rS{H:Hp}:∀ {L:List (Str×List (Int×Int))}{kvs:List (aV×V)},Paired (λa b=>b.1=Sum.inr a.1/\zS H (some a.2) (some b.2)) L kvs->∀u:Str,zS H (L.lookup u) (bB kvs (Sum.inr u))
 | _,_,.nil,u=>rfl
 | a::L,b::kvs,.cons h t,u=>by
  rw[lookup_cons];by_cases e:u=a.1
  ·subst e;rw[beq_self_eq_true,cJ h.1];exact h.2
  ·have c:(u==a.1)=false:=beq_eq_false_iff_ne.mpr e;rw[c,cK (by rw[h.1];intro z;exact e (Sum.inr.inj z).symm)];exact rS t u
def mk2{a b:Str}(h:([Sum.inr a,Sum.inr b]:List aV).Nodup)(x y:V):aN [] [(Sum.inr a,x),(Sum.inr b,y)]=[(Sum.inr a,x),(Sum.inr b,y)]:=jM _ _ h λ_ _=>rfl
def mk3{a b c:Str}(h:([Sum.inr a,Sum.inr b,Sum.inr c]:List aV).Nodup)(x y z:V):aN [] [(Sum.inr a,x),(Sum.inr b,y),(Sum.inr c,z)]=[(Sum.inr a,x),(Sum.inr b,y),(Sum.inr c,z)]:=jM _ _ h λ_ _=>rfl
def Jc(T:Txt K mg)(D:DefAt K mg "bounds_of" iM QZM):aG P w K mg base 1 "bounds_of" QZM zU:=by
 refine D.gg dQ (λa4 cdv a5 outer s a1 vs a2 a6 hr h=>?_)
 ·obtain⟨a7,wd,n,xs,as,rfl,S,⟨⟨one,other,nm,cs,C⟩,_⟩,a0⟩:=h;refine⟨_,(lj (mh (i:=1) dQ.nd (li (lx (K:=K)) (ku 0) (oj kz))) (lj (mh (i:=2) dQ.nd (mj (kx kz (kx (me uf (R.gI rfl T.g_MOST) (ku 1)) lg)))) (lj (mh (i:=3) dQ.nd (mj (kx (ku 1) (kx (R.gI rfl T.g_MOST) lg)))) (lj (mh (i:=4) dQ.nd (mj (kx kz (kx (me uf (ku 1) kz) lg)))) (lj (mh (i:=5) dQ.nd (mj (kx (me oa (me uf (R.gI rfl T.g_MOST) (ku 1)) kz) (kx (R.gI rfl T.g_MOST) lg)))) (lj (nv (mo nz (li (lx (K:=K)) (ku 0) kz) lq) (md (mi PP)) nw) (lj (nv (mo nz (li (lx (K:=K)) (ku 0) kz) lq) (md (mi (R.ig (yz lq (mj (kx (ku 2) (kx (ku 3) lg))) (yz lq (mj (kx (ku 4) lg)) (yz lq (mj (kx (ku 5) lg)) R.ii)))))) nw) (lj (nv (mo (qt (K:=K)) (li (lx (K:=K)) (ku 0) kz) (mj (kx lq (kx lq lg)))) (md (mi (R.ig (yz lq (mj (kx (ku 2) lg)) (yz lq (mj (kx (ku 4) lg)) R.ii))))) nw) (md (mi (R.ig (yz lq (mj (kx (ku 3) lg)) (yz lq (mj (kx (ku 5) lg)) R.ii))))))))))))),?_⟩;have el:nC xs (-1)=some (.int n):=by cases C<;>rfl
  refine⟨_,QYK S,_,el,?_⟩;refine⟨Zs,λp1 H1 s1 g1=>⟨Zs,λp2 H2 U g2=>⟨Zs,λp3 H3 N g3=>⟨Zs,λp4 E F W=>?_⟩⟩⟩⟩;have v:=((s1.trans U).trans N).trans F;have k:=v _ _ S;have X:=F _ _ (N _ _ (U _ _ g1));have Y:=F _ _ (N _ _ g2);have Z:=F _ _ g3;have M:∀(f:Hp)(b:TD)(G:Hp)(m:List (aV×V)),Same a1 f->f b=none->Same (aI f b (.dK [])) G->(∀u:Str,zS (aI G b (.dK m)) ((Nv wd n).lookup u) (bB m (Sum.inr u)))->a2 (.ref b) (aI G b (.dK m)):=λf b G m sH g a hb=>by
   refine a0 b m _ (λc o e=>?_) aA hb;have e':=sH _ _ e;rw[aD (aF e' g)];exact a _ _ (aE g _ _ e')
  have d:∀ {f:Hp}{b:TD}{G:Hp}{m:List (aV×V)}{c:TD}{l:List V},Same (aI f b (.dK [])) G->G c=some (.tup l)->aI G b (.dK m) c=some (.tup l):=λ{f b G m c l} a e=>by
   have:c≠b:=λz=>by have h:=a _ _ aA;rw[<- z,e]at h;cases h
   rw[aD this];exact e
  have q:∀ {G:Hp}{c t:TD}{lo H:Int},G t=some (.tup [.ref c])->G c=some (.tup [.int lo,.int H])->zS G (some [(lo,H)]) (some (.ref t)):=λ{G c t lo H} h1 h2=>⟨t,[(c,lo,H)],rfl,h1,λz I=>by rw[Zms.mp I];exact h2,rfl⟩
  cases C with
  | pass=>
   refine⟨_,QYK k,_,rfl,?_⟩;intro a3 C;exact a0 a3 [] _ (v.trans (aE C)) aA λu=>rfl
  | move=>
   refine⟨_,QYK k,_,rfl,?_⟩;refine⟨_,QYK k,_,rfl,?_⟩;intro b g;refine⟨Zs,λr G1 p x=>⟨Zs,λy J j A=>⟨Zs,λq3 G3 L e3=>⟨L _ _ (j _ _ (p _ _ aA)),[(Sum.inr ("is":Str),.ref r),(Sum.inr ("short":Str),.ref y),(Sum.inr ("full":Str),.ref q3)],rfl,Zs,?_⟩⟩⟩⟩;rw[mk3 Zk];have a:=(p.trans j).trans L;have up:=λ{c:TD}{l:List V} (e:E c=some (.tup l))=>a _ _ (aE (o:=.dK []) g _ _ e)
   refine M E b G3 _ v g a (rS (.cons ⟨rfl,?_⟩ (.cons ⟨rfl,q (d a (L _ _ A)) (d a (up Z))⟩ (.cons ⟨rfl,q (d a e3) (d a (up W))⟩ .nil))));exact⟨r,[(p1,_,_),(p2,_,_)],rfl,d a (L _ _ (j _ _ x)),λz I=>by
    simp only [mem_cons,QZR,or_false]at I;rcases I with rfl|rfl
    ·exact d a (up X)
    ·exact d a (up Y),rfl⟩
  | take|send=>
   refine⟨_,QYK k,_,rfl,?_⟩;refine⟨_,QYK k,_,rfl,?_⟩;refine⟨_,QYK k,_,rfl,Zs,λO f B Q=>⟨O,_,rfl,.inr (QYK Q),rfl,rfl,?_⟩⟩;intro b g;refine⟨Zs,λr G1 p x=>⟨Zs,λy J j A=>⟨j _ _ (p _ _ aA),[(Sum.inr ("is":Str),.ref r),(Sum.inr ("short":Str),.ref y)],rfl,Zs,?_⟩⟩⟩;rw[mk2 Zk];have a:=p.trans j;have up:=λ{c:TD}{l:List V} (e:E c=some (.tup l))=>a _ _ (aE (o:=.dK []) g _ _ (B _ _ e))
   exact M f b J _ (v.trans B) g a (rS (.cons ⟨rfl,q (d a (j _ _ x)) (d a (up X))⟩ (.cons ⟨rfl,q (d a A) (d a (up Z))⟩ .nil)))
  | add|fetch=>
   refine⟨_,QYK k,_,rfl,?_⟩;refine⟨_,QYK k,_,rfl,?_⟩;refine⟨_,QYK k,_,rfl,Zs,λO f B Q=>⟨O,_,rfl,.inr (QYK Q),rfl,rfl,?_⟩⟩;intro b g;refine⟨Zs,λr G1 p x=>⟨Zs,λy J j A=>⟨j _ _ (p _ _ aA),[(Sum.inr ("is":Str),.ref r),(Sum.inr ("full":Str),.ref y)],rfl,Zs,?_⟩⟩⟩;rw[mk2 Zk];have a:=p.trans j;have up:=λ{c:TD}{l:List V} (e:E c=some (.tup l))=>a _ _ (aE (o:=.dK []) g _ _ (B _ _ e))
   exact M f b J _ (v.trans B) g a (rS (.cons ⟨rfl,q (d a (j _ _ x)) (d a (up Y))⟩ (.cons ⟨rfl,q (d a A) (d a (up W))⟩ .nil)))
def Ai{a:Type}{xs:List a}{i:Nat}{x:a}(h:xs[i]?=some x):xs.take (i+1)=xs.take i++[x]:=by
 rw[List.take_succ,h];rfl
def Jd(T:Txt K mg)(B:aG P w K mg base 1 "is_whole" QZo Ey)(D:DefAt K mg "are_within" fE QZw):aG P w K mg base 2 "are_within" QZw zV:=by
 refine D.gg vF (λf U A O s H vs a0 a1 C h=>?_)
 ·revert h;refine yE4 λa2 t a bs=>yA7 λζ m X E p F q=>?_;subst ζ;refine⟨_,(lj (nv (mo P1 (oi (o0 (K:=K)) rfl T.b_len bN (kx (ku 0) lg)) (oi (o0 (K:=K)) rfl T.b_len bN (kx (ku 1) lg))) (md (mi qw)) nw) (md (mi (oi (R.jk (K:=K) rfl) rfl T.b_all Mp (kx (ou rfl (js:=[none,none]) (N:=QYR) (CompScope.by (aB fE) QZw rfl rfl Zk) (sU (fM rfl (fM rfl pS))) (R.ja (K:=K) rfl T.b_zip (ku 0) (ku 1)) (λa3 Q S Y=>⟨(FM (K:=K) (n:=2) rfl (qp (ny (i:=0) (show(QYR:List Str).Nodup by decide +kernel)) (qp (ny (i:=1) (show(QYR:List Str).Nodup by decide +kernel)) FS))),wv,(mf B C rfl (kx (ku 0) (kx (li (lx (K:=K)) (ku 1) kz) (kx (li (lx (K:=K)) (ku 1) kz) lg))))⟩)) lg))))),?_⟩;refine⟨a,.inr (QYK m),xY bs,.inr (QYK p),?_⟩;have r:(xY bs).length=(bs.map (·.2)).length:=by unfold xY;rw[aS,aS]
  dsimp only [mNe,mB];refine bA (λh=>?_) (λh=>?_)
  ·have j:a.length≠(bs.map (·.2)).length:=by
    rw[<- r];intro e;rw[e]at h;simp at h
   have:=q H (Same.refl _);unfold bD at this;rw[UF j,Bool.false_and]at this;exact this
  ·have j:a.length=(bs.map (·.2)).length:=by
    rw[<- r];have:((a.length:Int)=((xY bs).length:Int)):=by simpa using h
    omega
   have W:bs.length=a.length:=by rw[j,aS]
   refine⟨false,false,a,xY bs,QYK m,QYK p,?_⟩;refine Nr Zo (λi d g=>d=(((a.zip (bs.map (·.2))).take i).map λq=>Cf q.2.1 q.2.2 q.1).map V.bl/\Same H g) (λi d g ⟨e,b⟩=>⟨QYK (b _ _ m),QYK (b _ _ p),by rw[e,aS,aS,oA];exact min_le_left _ _⟩) ⟨rfl,Same.refl _⟩ (?_) (?_)
   ·rintro i x a4 d g G v c ⟨e,b⟩ I;unfold xY at c;rw[fK]at c;cases k:bs[i]? with
    | none=>rw[k]at c;cases c
    | some z=>
     rw[k]at c;cases c;have u:=b.trans (aE (o:=.tup [x,.ref z.1]) I);have y:=u _ _ (F z (jI k));have J:(a.zip (bs.map (·.2)))[i]?=some (x,z.2):=by
      rw[List.getElem?_zip_eq_some];exact⟨v,by rw[fK,k];rfl⟩
     refine⟨G,_,rfl,QYK aA,rfl,_,_,rfl,_,_,rfl,rfl,_,QYK y,_,rfl,_,QYK y,_,rfl,x,z.2.1,z.2.2,rfl,((E x (jI v)).same u).pt,λZ L=>⟨?_,u.trans L⟩⟩;rw[Ai J,dW,dW,e];rfl
   ·rintro d g ⟨e,b⟩;intro l M;refine⟨l,((a.zip (bs.map (·.2))).map λq=>Cf q.2.1 q.2.2 q.1),rfl,QYJ ?_,?_⟩
    ·rw[aA,e];have:(a.zip (bs.map (·.2))).take (min a.length (xY bs).length)=a.zip (bs.map (·.2)):=iI (by rw[List.length_zip,r];exact aZ _);rw[this]
    ·have:=q (aI g l (.lst d)) (b.trans (aE M));unfold bD at this;rw[UV j,Bool.true_and]at this;rw[all_map];exact this
def Fj{wd:Str}{xs:List V}{a:List (Str×Int)}{b:List (Str×List V)}(h:Xa wd xs a b):nC xs 0=some (.str wd):=by
 obtain⟨one,d,nm,n,c⟩:=h;cases c<;>rfl
def Je(wd:Str)(hs:List Str)(n:Int)(u:Str)(r:List V):Ip wd hs n (.str u::r)=if u="no" then (match r with|[y]=>rH y hs|_=>false) else if u="ok" then decide (wd="pass")&&r.isEmpty else match (Nv wd n).lookup u with|some bs=>bD r bs|none=>false:=rfl
def Ut{hs:List Str}(h:∀z∈hs,gB z)(y:V)(m:rH y hs=true):nmV y=true:=by
 cases y with
 | str z=>exact aAu (h z (by simpa [rH]using m))
 | _=>cases m
def yF(T:Txt K mg)(sv:aG P w K mg base 1 "word_of" QZE zT)(xw:aG P w K mg base 3 "is_no" ["answer"] Nw)(b9:aG P w K mg base 1 "asks_of" QZM nQ)(mv:aG P w K mg base 1 "bounds_of" QZM zU)(V8:aG P w K mg base 2 "are_within" QZw zV)(D:DefAt K mg "is_answer" gD QZi):aG P w K mg base 4 "is_answer" QZi Fe:=by
 refine D.gg kQ (λa5 cdv a6 outer s H vs a4 a7 m h=>?_)
 ·revert h;refine yE6 λp wd n I b x=>yA5 λζ E F X q=>?_;subst ζ;have Y:=dH m;refine⟨_,(lj (mh (i:=2) kQ.nd (mf sv m rfl (kx (ku 1) lg))) (lj (nv (mo nz (ku 2) lq) (md (mi (sw (mf xw m rfl (kx (ku 1) lg)) (qx (om (qt (K:=K)) (li (lx (K:=K)) (ku 1) kz) (ou rfl (js:=[none,none]) (N:=["house","there"]) (CompScope.by (aB gD) ["deed","thing","word","bounds"] rfl rfl Zk) (sU (fM rfl (fM rfl pS))) (R.fi (K:=K) (mf b9 m rfl (kx (ku 0) lg))) (λa8 s₂ H₂ fp=>⟨(FM (K:=K) (n:=2) rfl (qp (ny (i:=0) (show(["house","there"]:List Str).Nodup by decide +kernel)) (qp (ny (i:=1) (show(["house","there"]:List Str).Nodup by decide +kernel)) FS))),wv,(ku 0)⟩))))))) nw) (lj (nv (mo nz (ku 2) lq) (md (mi (sw (om nz (li (lx (K:=K)) (ku 0) kz) lq) (qx (om nz (oi (o0 (K:=K)) rfl T.b_len bN (kx (ku 1) lg)) kz))))) nw) (lj (mh (i:=3) kQ.nd (mf mv m rfl (kx (ku 0) lg))) (md (mi (sw (om (R.jb Y) (ku 2) (ku 3)) (qx (mf V8 m rfl (kx (pi uh (ku 1) (ow kz) tz) (kx (ug Y (ku 3) (ku 2)) lg))))))))))),?_⟩;refine⟨x,rfl,X,?_⟩;dsimp only [aJ];obtain⟨cs,J⟩:=F.dwx;have CV:lP H x=.non->Ck H wd (b.map (·.1)) n x=false->∀ {R:Prop},R=R->True:=λ_ _ _ _=>trivial
  have key:(lP H x=.non/\Ck H wd (b.map (·.1)) n x=false)∨∃a u r,x=.ref a/\H a=some (.tup (.str u::r))/\lP H x=.str u/\Ck H wd (b.map (·.1)) n x=Ip wd (b.map (·.1)) n (.str u::r):=by
   unfold lP Ck;cases e:lO H x with
   | none=>exact .inl ⟨rfl,rfl⟩
   | some f=>
    have:∃a,x=.ref a/\H a=some (.tup f):=by
     unfold lO at e;cases x with
     | ref a=>
      dsimp only at e;refine⟨a,rfl,?_⟩;split at e
      ·cases e;assumption
      ·cases e
     | _=>cases e
    obtain⟨a,rfl,h⟩:=this
    cases f with
    | nil=>exact .inl ⟨rfl,rfl⟩
    | cons y r=>cases y with
     | str u=>exact .inr ⟨a,u,r,rfl,h,rfl,rfl⟩
     | _=>exact .inl ⟨rfl,rfl⟩
  rcases key with⟨L,M⟩|⟨a,u,r,rfl,h,L,M⟩
  ·rw[L];refine⟨p,wd,n,I,b,rfl,E,F,λa0 z A c g1 Z=>?_⟩;refine⟨⟨z,g1⟩,?_⟩;have:=q A c;rw[M]at this;exact this
  ·rw[L];rw[M,Je]at q;obtain⟨hl,PD⟩:=X.2 a _ rfl h;have O:∀y∈r,Pc H y:=λy Q=>PD y (kY _ Q)
   show if decide (u="no")=true then _ else _
   refine bA (λS=>?_) (λS=>?_)
   ·rw[QZY (U6 S)]at q;refine⟨a,_,rfl,h,PD,λA c=>?_⟩;show if Xc (.str u::r)=true then _ else _
    refine bA (λd=>?_) (λd=>?_)
    ·match r,d,q,h,O with
     | [y],d,q,h,O=>
      have WH:nmV y=true:=d
      cases y with
      | str a1=>
       refine⟨_,QYK (c _ _ h),_,rfl,p,wd,I,cs,b,rfl,c _ _ E,J,λt us H2 g g2 U=>⟨t,rfl,⟨_,QYK g2⟩,?_⟩⟩;refine aX (kB K t us) (by have:=U.length;obtain⟨one,other,nm,n',hh⟩:=J;rw[<- this];cases hh<;>simp) (λi f B=>B=H2/\f=((b.take i).map (·.1)).map V.str) (λi f B ⟨e,C⟩=>⟨by rw[e];exact QYK g2,by rw[C,aS,aS,oA];exact min_le_left _ _⟩) ⟨rfl,rfl⟩ (λi v f B o ⟨e,C⟩=>?_) (λf B ⟨e,C⟩=>?_)
       ·subst e;obtain⟨hi,ev⟩:=Zgs.mp o;obtain⟨sy,a',d',PF,ga,gd⟩:=Paired.get' (j:=i) U hi;rw[ev]at PF;subst PF;refine⟨a',_,rfl,QYK ga,rfl,_,_,rfl,_,_,rfl,rfl,rfl,?_⟩;rw[Ai (eT sy),dW,dW,C];rfl
       ·subst e;intro a2 rb;have e3:f=(b.map (·.1)).map V.str:=by rw[C,<- U.length,take_length]
        refine⟨a2,_,rfl,.inl (QYJ aA),rfl,by rw[e3];exact Ih _,?_⟩;have:=q (aI B a2 (.lst f)) ((c.trans g).trans (aE rb));show a4 (.bl (qW (.str a1) f)) _;rw[e3,Ty]at *;exact this
      | _=>cases WH
    ·have e:(match r with|[y]=>rH y (b.map (·.1))|_=>false)=false:=by
      match r,d with
      | [],_=>rfl
      | [y],d=>
       have J1:nmV y=false:=d
       cases a3:rH y (b.map (·.1)) with
       | false=>exact a3
       | true=>
        have:=Ut (hs:=b.map (·.1)) (λa1 hz=>by obtain⟨l,mr,rfl⟩:=Zmm.mp hz;exact F.nm l mr) y a3;rw[this]at J1;cases J1
      | _::_::_,_=>rfl
     rw[e]at q;exact q A c
   ·rw[QZX (U0 S)]at q;show if decide (u="ok")=true then _ else _
    refine bA (λd=>?_) (λd=>?_)
    ·rw[QZY (U6 d)]at q;refine⟨_,QYK E,_,Fj J,?_⟩;show if decide (wd="pass")=true then _ else _
     have l:=q H (Same.refl _);refine bA (λW=>?_) (λW=>?_)
     ·rw[W,Bool.true_and]at l;refine⟨_,.inr (QYK h),?_⟩;have e:r.isEmpty=decide ((((V.str u::r).length:Nat):Int)=1):=by
       cases r with
       | nil=>rfl
       | cons y r=>symm;exact UF (by rw[sA,sA];omega)
      rw[e]at l;exact l
     ·rw[W,Bool.false_and]at l;exact l
    ·rw[QZX (U0 d)]at q;refine⟨p,wd,n,I,b,rfl,E,F,λa0 z A c g1 Z=>?_⟩;dsimp only [aJ];have G:=Z u;refine⟨z,g1,?_⟩;show if (bB z (Sum.inr u)).isSome=true then _ else _
     cases eb:(Nv wd n).lookup u with
     | none=>
      rw[eb]at G q;have o:bB z (Sum.inr u)=none:=G;rw[o];exact q A c
     | some bs=>
      rw[eb]at G q;obtain⟨t,zs,o,gt,WI,hm⟩:=G;rw[o];refine⟨_,c _ _ h,λp2 H2 g g2=>⟨a0,.ref t,rfl,?_,p2,t,r,zs,rfl,?_,?_,λy Q=>(O y Q).same (c.trans g),g _ _ gt,WI.same g,λH3 s3=>?_⟩⟩
      ·have:=DGet.k (k:=Sum.inr u) (g _ _ g1);rw[o]at this;exact this
      ·have ec:jZ (V.str u::r) (some 1) none=r:=zJ _ 1;rw[ec]at g2;exact g2
      ·rw[sA]at hl;omega
      ·rw[hm];exact q H3 ((c.trans g).trans s3)
def bS:Sp:=λvs H Q _=>∃d b m,vs=[.ref d,.int m]/\Dk H d b/\0<m/\m<18446744073709551616/\∀r a,0<=r->r<m->Dk a d b->Kp d b H a->Q (.int r) a
def Uu(T:Txt K mg)(D:DefAt K mg "_law_deck" kK QZD):aG P w K mg base 1 "_law_deck" QZD (Mr K):=by
 refine D.gg Ag (λf x A v s H vs Q E y h=>?_)
 ·obtain⟨a,c,rfl,k,q⟩:=h;refine⟨_,(md (mi (oh (kx (zn (R.jq (K:=K)) rfl T.b_list Tt (kx (pi (R.ia (K:=K)) (ku 0) tz (ow kz)) lg)) (kx (me oa kz (me AC (oi (R.jr (K:=K) rfl) rfl T.b_sum aAk (kx (pi (R.ia (K:=K)) (ku 0) tz (ow kz)) lg)) kz)) (kx kz lg)))))),?_⟩;have l:jZ (c.map V.int) none (some 63)=(c.take 63).map V.int:=by rw[Tw];exact congrArg _ (xQ c 63)
  refine⟨_,k,λe m=>⟨_,.inl (QYJ aA),λb n=>?_⟩⟩;have g:Same H (aI (aI H e (.lst (jZ (c.map V.int) none (some 63)))) b (.lst (jZ (c.map V.int) none (some 63)))):=(aE m).trans (aE n);have g2:(aI (aI H e (.lst (jZ (c.map V.int) none (some 63)))) b (.lst (jZ (c.map V.int) none (some 63)))) b=some (.lst ((c.take 63).map V.int)):=by rw[aA,l]
  have r:H b=none:=(aE m).free n;show hX _ _ _ (aI (aI H e (.lst (jZ (c.map V.int) none (some 63)))) b (.lst (jZ (c.map V.int) none (some 63)))) _;generalize aI (aI H e (.lst (jZ (c.map V.int) none (some 63)))) b (.lst (jZ (c.map V.int) none (some 63)))=t at g g2;refine⟨_,g.seq k,λo i=>⟨o,c.take 63,rfl,QYJ (by rw[aA,l]),by show(0:Int)<2147483629;decide,eL rfl,λd j=>?_⟩⟩;have p:Same H (aI t o (.lst (jZ (c.map V.int) none (some 63)))):=g.trans (aE i);have u:b≠d:=aF ((aE i) _ _ g2) j;refine q d b _ (p.free j) r ⟨c.take 63,_,_,aA,?_,?_⟩ (p.trans (aE j))
  ·rw[aD u];exact(aE i) _ _ g2
  ·rw[oA];exact min_le_left _ _
def Ou(D:DefAt K mg "_law_draw" kL QZN) :
  aG P w K mg base 1 "_law_draw" QZN bS:=by
 refine D.gg gH (λa0 cdv a1 Z s H vs a2 a3 Q h=>?_)
 ·obtain⟨d,b,m,rfl,S,k,T,q⟩:=h;have U:=Q.units0;obtain⟨a,g,f,E,L,M⟩:=S.ex;have F:d≠b:=cI E L (by
   intro z;injection z with z
   cases a with
   | nil=>cases z
   | cons z1 zs=>injection z with z _;cases z)
  refine⟨_,(lj (ut (me oa (li (og (K:=K)) (ku 0) kz) kz) (u8 (ku 0) kz R.jl)) (lj (mh (i:=2) gH.nd (li (og (K:=K)) (ku 0) kz)) (lj (nv (mo (R.jt (K:=K) U) (li (og (K:=K)) (ku 0) kz) (oh lg)) (lj (mh (i:=2) gH.nd (qy (K:=K) PySem.F.plainAttrs_list PySem.F.slot_list_pop PySem.F.type_list_pop R.ju (li (og (K:=K)) (ku 0) kz) (kx kz lg))) (md (nv (mo R.ge (ku 2) (me re kz kz)) (lj (qu (qy (K:=K) PySem.F.plainAttrs_list PySem.F.slot_list_insert PySem.F.type_list_insert R.jf (li (og (K:=K)) (ku 0) kz) (kx kz (kx (me R.ik (ku 2) (ku 1)) lg)))) (md (mi (me AC (ku 2) (ku 1))))) nw))) nw) (lj (mh (i:=3) gH.nd (me AC (me oa (me oa (me R.gm (me AC (ku 2) kz) kz) (me R.gm kz (li (og (K:=K)) (ku 0) kz))) kz) kz)) (lj (mh (i:=3) gH.nd (me AC (me R.gm (ku 3) (ku 3)) kz)) (md (mi (me AC (me R.ik (me AC (me R.gm (ku 3) (me oa (ku 3) kz)) kz) kz) (ku 1))))))))),?_⟩;refine⟨_,QYJ E,_,rfl,d,_,2,2,rfl,rfl,E,rfl,?_⟩;have g1:(aI H d (.lst [.ref b,.int g,.int (f+1)])) d=some (.lst [.ref b,.int g,.int (f+1)]):=aA;have g2:(aI H d (.lst [.ref b,.int g,.int (f+1)])) b=some (.lst (a.map V.int)):=by rw[aD F.symm];exact L
  have N:Kp d b H (aI H d (.lst [.ref b,.int g,.int (f+1)])):=λc o e l j=>by rw[aD l];exact e
  show uX _ _ _ _ (aI H d (.lst [.ref b,.int g,.int (f+1)]));generalize aI H d (.lst [.ref b,.int g,.int (f+1)])=n at g1 g2 N;refine⟨_,QYJ g1,_,rfl,?_⟩;dsimp only [aJ];refine aAm (t:=Gr _ _ _) (λJ r=>∃c:Int,J=[some (.ref d),some (.int m),some (.int c),none]/\(∃u:List Int,r d=some (.lst [.ref b,.int g,.int (f+1)])/\r b=some (.lst (u.map V.int))/\u.length<=63)/\Kp d b H r) (λnx O=>?_) ?_
  ·refine⟨_,QYJ g1,_,rfl,eL rfl,λp v=>⟨b,p,_,rfl,rfl,QYJ (by rw[aD (aF g2 v)];exact g2),QYJ aA,?_⟩⟩;have A:(aI n p (.lst [])) d=some (.lst [.ref b,.int g,.int (f+1)]):=by rw[aD (aF g1 v)];exact g1
   have B:(aI n p (.lst [])) b=some (.lst (a.map V.int)):=by rw[aD (aF g2 v)];exact g2
   have G:Kp d b H (aI n p (.lst [])):=N.trans (.new v);generalize aI n p (.lst [])=C at A B G;cases a with
   | nil=>
    exact O _ _ ⟨_,rfl,⟨[],A,B,M⟩,G⟩
   | cons z a=>
    have W:a.length+1<=63:=by simpa using M
    refine⟨_,QYJ A,_,rfl,.inl ⟨rfl,_,QYJ B⟩,b,_,0,0,.int z,rfl,rfl,B,Zd,Zd,by simp[seqIndex?],rfl,?_⟩;have f1:(aI C b (.lst ((List.map V.int (z::a)).eraseIdx 0))) d=some (.lst [.ref b,.int g,.int (f+1)]):=by rw[aD F];exact A
    have f2:(aI C b (.lst ((List.map V.int (z::a)).eraseIdx 0))) b=some (.lst (a.map V.int)):=by rw[aA];rfl
    have I:Kp d b H (aI C b (.lst ((List.map V.int (z::a)).eraseIdx 0))):=λc o e l j=>by rw[aD j];exact G c o e l j
    dsimp only [aJ];generalize aI C b (.lst ((List.map V.int (z::a)).eraseIdx 0))=H3 at f1 f2 I;refine⟨⟨Zd,Zd,Zd⟩,?_⟩;refine bA (λ_=>?_) (λ_=>?_)
    ·refine⟨_,QYJ f1,_,rfl,.inl ⟨rfl,_,QYJ f2⟩,⟨k,T⟩,b,_,0,_,rfl,rfl,f2,zero_le _,oC (m:=63) (by rw[aS];omega) Zd,k,?_⟩;refine q _ _ (Int.emod_nonneg _ Zo) (Int.emod_lt_of_pos _ k) ⟨z/m::a,g,f+1,by rw[aD F];exact f1,by rw[aA];rfl,by simpa using W⟩ λc o e l j=>by rw[aD j];exact I c o e l j
    ·exact O _ _ ⟨_,rfl,⟨a,f1,f2,Zo⟩,I⟩
  ·rintro J r ⟨c,rfl,⟨u,f1,f2,X⟩,Y⟩;refine⟨by show(0:Int)<_;decide,.inr ⟨Zd,Zd⟩,_,QYJ f1,_,rfl,.inl ⟨Zd,Zd⟩,by show(0:Int)<_;decide,?_⟩;generalize hx:(c%2147483629*16807+69621*(f+1)+7919)%2147483629=x;have hx0:0<=x:=by omega
   have hx1:x<2147483629:=by omega
   refine⟨.inl ⟨Zo,Zo⟩,by show(0:Int)<_;decide,?_⟩;generalize hy:x*x%2147483587=y;have hy0:0<=y:=by omega
   have hy1:y<2147483587:=by omega
   refine⟨.inl ⟨Zo,Zo⟩,by show(0:Int)<_;decide,⟨Zd,Zd⟩,k,?_⟩;exact q _ _ (Int.emod_nonneg _ Zo) (Int.emod_lt_of_pos _ k) ⟨u,g,f+1,f1,f2,X⟩ Y
def aCm{r:Int}(a:0<=r)(b:r<4):r=0∨r=1∨r=2∨r=3:=by omega
def six{r:Int}(a:0<=r)(b:r<6):r=0∨r=1∨r=2∨r=3∨r=4∨r=5:=by omega
def aAO(T:Txt K mg)(g:aG P w K mg base 1 "_law_draw" QZN bS)(D:DefAt K mg "_law_end" mM QZN) :
  aG P w K mg base 2 "_law_end" QZN bS:=by
 refine D.gg Cr (λf J A I s H vs Q E i h=>?_)
 ·obtain⟨d,b,m,rfl,t,k,l,q⟩:=h;refine⟨_,(md (mi (li (og (K:=K)) (oh (kx kz (kx (me uf (ku 1) kz) (kx (mf g i rfl (kx (ku 0) (kx (ku 1) lg))) (kx (mf g i rfl (kx (ku 0) (kx (ku 1) lg))) lg))))) (mf g i rfl (kx (ku 0) (kx kz lg)))))),?_⟩;refine⟨d,b,m,rfl,t,k,l,λL M u v x y=>⟨d,b,m,rfl,x,k,l,λN O z B n C=>⟨eL rfl,λp j=>⟨d,b,4,rfl,n.new j,Zd,Zd,λR S F G a o=>?_⟩⟩⟩⟩;have r:=n.ne j;have c:=o p _ aA r.1 r.2;have e:=((y.trans C).trans (.new j)).trans o;rcases aCm F G with rfl|rfl|rfl|rfl
  ·exact⟨_,QYJ c,_,rfl,q _ _ Zo Zo a e⟩
  ·exact⟨_,QYJ c,_,rfl,q _ _ Zo Zo a e⟩
  ·exact⟨_,QYJ c,_,rfl,q _ _ u v a e⟩
  ·exact⟨_,QYJ c,_,rfl,q _ _ z B a e⟩
structure WordsOf(L:List Nat)(g:Nat)(ws:List Str):Prop where
 nd:ws.Nodup
 of:∀z∈ws,1<=z.length/\z.length<=g/\∀c∈z.cps.toList,c∈L
def wE:Sp:=λvs H Q _=>∃(d b:TD)(L:List Nat)(g m:Nat),vs=[.ref d,.str (tx L),.int (g:Int),.int (m:Int)]/\Dk H d b/\1<=m/\m<=g/\g<=12/\L.Nodup/\m<=L.length/\L.length<=40 ∧
 ∀(l:TD)(c:List Str)(a:Hp),WordsOf L g c->c.length=m->a l=some (.lst (c.map V.str))->l≠d->l≠b->Dk a d b->Kp d b H a->Q (.ref l) a
def Ov{c:Type}(xs:List c){i j:Nat}(a:i<=xs.length)(b:j<=xs.length):jZ xs (some (i:Int)) (some (j:Int))=(xs.drop i).take (j-i):=by
 unfold jZ;rw[HT.sIx_nat,HT.sIx_nat,min_eq_left a,min_eq_left b]
def tN(L b:List Nat)(a sz f k:Nat):List Nat:=b.take a++[L.getD ((f+k)%L.length) 0]++(b.drop (a+1)).take (sz-(a+1))
def Uv{L:List Nat}(d:L.Nodup){i j:Nat}(a:i<L.length)(b:j<L.length)(h:L.getD i 0=L.getD j 0):i=j:=by
 rw[getD_eq_getElem?_getD,getD_eq_getElem?_getD,eT a,eT b]at h;have c:L[i]=L[j]:=h;have p:=pairwise_iff_getElem.mp d;rcases Nat.lt_trichotomy i j with z|z|z
 ·exact QZW c (p i j a b z)
 ·exact z
 ·exact QZW c.symm (p j i b a z)
def Uw{f k a n:Nat}(d:k<n)(e:a<n)(h:(f+k)%n=(f+a)%n):k=a:=by
 have b:=Nat.mod_add_div (f+k) n;have c:=Nat.mod_add_div (f+a) n;rw[h]at b;generalize (f+k)/n=u at b;generalize (f+a)/n=v at c;rcases Nat.lt_trichotomy u v with z|z|z
 ·have:n*(u+1)<=n*v:=Nat.mul_le_mul_left n z;rw[Nat.mul_add,Nat.mul_one]at this;omega
 ·subst z;omega
 ·have:n*(v+1)<=n*u:=Nat.mul_le_mul_left n z;rw[Nat.mul_add,Nat.mul_one]at this;omega
def Ow{L c:List Nat}(d:L.Nodup){a sz f k b:Nat}(h:tN L c a sz f k=tN L c a sz f b)(e:k<L.length)(g:b<L.length):k=b:=by
 unfold tN at h;have i:=List.append_inj_left' h rfl;have j:=List.append_inj_right' i rfl;have l:L.getD ((f+k)%L.length) 0=L.getD ((f+b)%L.length) 0:=by injection j
 exact Uw e g (Uv d (mod_lt _ Zo) (mod_lt _ Zo) l)
def aCn{L:List Nat}{i:Nat}(h:i<L.length):L.getD i 0∈L/\L[i]?=some (L.getD i 0):=by
 have e:L[i]?=some (L[i]):=eT h;have a:L.getD i 0=L[i]:=by rw[getD_eq_getElem?_getD,e];rfl
 exact⟨a▸getElem_mem _,a▸e⟩
def Ux{L d:List Nat}{g a sz f k:Nat}(i:0<L.length)(j:d.length=g)(h:∀c∈d,c∈L)(l:a<sz)(hs:sz<=g):1<=(tN L d a sz f k).length/\(tN L d a sz f k).length<=g/\∀c∈tN L d a sz f k,c∈L:=by
 have e:(tN L d a sz f k).length=sz:=by
  unfold tN;simp[j];omega
 refine⟨Zo,Zo,λc b=>?_⟩;unfold tN at b;rcases Zma.mp b with b|b
 ·rcases Zma.mp b with b|b
  ·exact h c (mem_of_mem_take b)
  ·rw[Zms.mp b];exact(aCn (mod_lt _ i)).1
 ·exact h c (List.mem_of_mem_drop (mem_of_mem_take b))
def nS{n i:Nat}{x:V}(h:(lM 0 n)[i]?=some x):x=.int (i:Int)/\i<n:=by
 unfold lM at h;rw[fK]at h;cases a:(List.range n)[i]? with
 | none=>rw[a]at h;cases h
 | some y=>
  rw[a]at h;obtain⟨c,b⟩:=Zgs.mp a;rw[List.getElem_range]at b;cases h;rw[<- b];exact⟨Zs,by simpa using c⟩
def gA(n:Nat):(lM 0 n).length=n:=by simp[lM]
def Aj{L:List Nat}{g m:Nat}{F:Nat->List Nat}(b:∀k a,k<m->a<m->F k=F a->k=a)(d:∀k,k<m->1<=(F k).length/\(F k).length<=g/\∀c∈F k,c∈L):WordsOf L g ((List.range m).map λk=>tx (F k)):=by
 refine⟨?_,λz e=>?_⟩
 ·show List.Pairwise (·≠·) _;rw[pairwise_map];refine List.Pairwise.imp_of_mem (λ{x y} f h i j=>i ?_) List.nodup_range;exact b _ _ (mem_range.mp f) (mem_range.mp h) (by simpa using congrArg (λz:Str=>z.cps.toList) j)
 ·obtain⟨k,l,rfl⟩:=Zmm.mp e;have:=d k (mem_range.mp l);exact⟨by rw[hZ];exact this.1,by rw[hZ];exact this.2.1,λc n=>this.2.2 c (by simpa using n)⟩
def Jf(T:Txt K mg)(x:aG P w K mg base 1 "_law_draw" QZN bS)(D:DefAt K mg "_law_unlike" cU QZc) :
  aG P w K mg base 2 "_law_unlike" QZc wE:=by
 refine D.gg dE (λa5 cdv a7 outer s H vs a9 b0 y h=>?_)
 ·revert h;refine yE5 λd b L g m=>yA9 λζ dk FJ zg hg AR hmL WL a2=>?_;subst ζ;have E:(tx L).length=L.length:=hZ L;have A:(tx L).length<=sizeLine:=eZ Zo;have F:(tx L).cps.toList=L:=by simp
  refine⟨_,(lj (mh (i:=4) dE.nd (qy (K:=K) PySem.F.plainAttrs_str PySem.F.slot_str_join PySem.F.type_str_join (R.jv (K:=K)) lq (kx (ou rfl (js:=[none,some 0,some 1]) (N:=QYN) (CompScope.by (aB cU) QZd rfl rfl Zk) (aQ rfl) (Q3 rfl T.b_range (kx (ku 2) lg)) (λa3 Y Z fp=>⟨(ny (i:=0) (show(QYN:List Str).Nodup by decide +kernel)),wv,(li R.iS (ku 2) (mf x y rfl (kx (ku 1) (kx (oi R.ic rfl T.b_len bN (kx (ku 2) lg)) lg))))⟩)) lg))) (lj (nv (mo nz (mf x y rfl (kx (ku 0) (kx kz lg))) kz) (md (mi (ou rfl (js:=[none,some 4]) (N:=["_law_k","_law_word"]) (CompScope.by (aB cU) QZd rfl rfl Zk) (aQ rfl) (Q3 rfl T.b_range (kx (ku 3) lg)) (λa3 Y Z fp=>⟨(ny (i:=0) (show(["_law_k","_law_word"]:List Str).Nodup by decide +kernel)),wv,(pi R.sS (ku 1) tz (ow (me oa (ku 0) kz)))⟩)))) nw) (lj (mh (i:=5) dE.nd (me oa kz (mf x y rfl (kx (ku 0) (kx (ku 2) lg))))) (lj (mh (i:=6) dE.nd (mf x y rfl (kx (ku 0) (kx (ku 5) lg)))) (lj (mh (i:=7) dE.nd (mf x y rfl (kx (ku 0) (kx (oi R.ic rfl T.b_len bN (kx (ku 1) lg)) lg)))) (lj (mh (i:=8) dE.nd (R.jm (kx (pi R.sS (ku 4) tz (ow (ku 6))) (kx (pi R.sS (ku 4) (ow (me oa (ku 6) kz)) (ow (ku 5))) lg)))) (md (mi (ou rfl (js:=[none,some 1,some 7,some 8]) (N:=QYM) (CompScope.by (aB cU) QZd rfl rfl Zk) (aQ rfl) (Q3 rfl T.b_range (kx (ku 3) lg)) (λa3 Y Z fp=>⟨(ny (i:=0) (show(QYM:List Str).Nodup by decide +kernel)),wv,(me R.iu (me R.iu (li (lx (K:=K)) (ku 3) kz) (li R.iS (ku 1) (me AC (me oa (ku 2) (ku 0)) (oi R.ic rfl T.b_len bN (kx (ku 1) lg))))) (li (lx (K:=K)) (ku 3) kz))⟩)))))))))),?_⟩;refine aAm (t:=Ko _ _) (λσ' j=>∃f:List Nat,σ'=[some (.ref d),some (.str (tx L)),some (.int (g:Int)),some (.int m),some (.str (tx f)),none,none,none,none]/\f.length=g/\(∀c∈f,c∈L)/\Dk j d b/\Kp d b H j) (λnx a8=>?_) ?_
  ·refine⟨rfl,g,rfl,Zo,Zo,?_⟩;refine aX (eV 0 (g:Int).toNat) (by rw[gA];omega) (λi l j=>Dk j d b/\Kp d b H j/\∃f:List Nat,l=f.map (λc=>V.str (tx [c]))/\f.length=i/\∀c∈f,c∈L) (λi l j ⟨_,_,f,e,n,_⟩=>⟨trivial,by rw[e,aS,n];exact aZ _⟩) ⟨dk,.refl,[],rfl,rfl,(λ_ h=>nomatch h)⟩ (?_) (?_)
   ·rintro i a4 l j C ⟨G,I,f,e,n,J⟩;refine⟨A,d,b,_,rfl,G,Zo,Zo,λr2 A1 WM r21 Dj WN=>⟨A,?_⟩⟩;obtain⟨c,M,hm⟩:=Ms (xs:=(tx L).cps.toList) WM (by rw[F];omega);rw[F]at hm;refine⟨c,M,Dj,I.trans WN,f++[c],by rw[e,dW];rfl,by rw[lZ,n];rfl,λc' uv=>?_⟩;rcases Zma.mp uv with h|h
    ·exact J c' h
    ·rw[Zms.mp h];exact hm
   ·refine λl j=>yA3 λG I=>yE1 λf=>yA3 λe n J=>?_;intro p q;have v:f.length=g:=by rw[n,gA];omega
    refine⟨_,p,f.map (λc=>tx [c]),rfl,rfl,QYJ (by rw[aA,e,map_map];rfl),?_,?_⟩
    ·rw[zK,aS,Mu,hZ];simp;omega
    ·refine a8 _ _ ⟨f,?_,v,J,G.new q,I.trans (.new q)⟩;rw[Mu,Cd];rfl
  ·refine λσ' H1=>yE1 λf=>yA5 λζ v FL D1 k1=>?_;subst ζ;have IE:(tx f).cps.toList=f:=by simp
   have em:((m:Int)).toNat=m:=by omega
   refine⟨d,b,3,rfl,D1,Zd,Zd,λb1 H2 r0 r1 O k2=>?_⟩;refine bA (λ_=>?_) (λ_=>?_)
   ·refine⟨m,rfl,Zo,Zo,?_⟩;refine aX (eV 0 (m:Int).toNat) (by rw[gA];omega) (λi l j=>l=((List.range i).map λk=>tx (f.take (k+1))).map V.str/\j=H2) (λi l j ⟨e,_⟩=>⟨trivial,by rw[e];simp⟩) ⟨rfl,rfl⟩ (?_) (?_)
    ·rintro i a4 l j C ⟨e,n⟩;subst n;obtain⟨rfl,hi⟩:=nS C;refine⟨eZ (by rw[hZ];omega),?_,rfl⟩;rw[IE,show((i:Nat):Int)+1=((i+1:Nat):Int) by omega,xQ,e,range_succ,dW,dW];rfl
    ·rintro l j ⟨e,n⟩;subst n;intro p q;rw[gA,em]at e;have B:=O.ne q;refine a2 p ((List.range m).map λk=>tx (f.take (k+1))) _ (Aj (λk k' Q Q7 e=>?_) (λk Q=>?_)) Zs (by rw[aA,e]) B.1 B.2 (O.new q) ((k1.trans k2).trans (.new q))
     ·have:=congrArg length e;rw[oA,oA,v]at this;omega
     ·exact⟨by rw[oA,v];omega,by rw[oA,v];omega,λc M=>FL c (mem_of_mem_take M)⟩
   ·refine⟨d,b,g,rfl,O,Zo,Zo,λS H3 s0 s1 D3 k3=>?_⟩;refine⟨d,b,1+S,rfl,D3,Zo,Zo,λra H4 a0 a1 D4 k4=>?_⟩;refine⟨A,d,b,_,rfl,D4,Zo,Zo,λrf U f0 f1 D5 k5=>?_⟩;rw[E]at f1;dsimp only [aJ];obtain⟨a,rfl⟩:∃a:Nat,ra=a:=⟨ra.toNat,Zo⟩;obtain⟨r,rfl⟩:∃z:Nat,S=z:=⟨S.toNat,Zo⟩;obtain⟨u,rfl⟩:∃z:Nat,rf=z:=⟨rf.toNat,Zo⟩;refine⟨eZ (by rw[hZ];omega),eZ (by rw[hZ];omega),eL rfl,λtp PJ=>?_⟩;have W:(aI U tp (.tup [.str (tx (jZ (tx f).cps.toList none (some (a:Int)))),.str (tx (jZ (tx f).cps.toList (some ((a:Int)+1)) (some (1+(r:Int)))))])) tp=some (.tup [.str (tx (f.take a)),.str (tx ((f.drop (a+1)).take (r+1-(a+1))))]):=by
     rw[aA,IE,xQ,show(a:Int)+1=((a+1:Nat):Int) by omega,show 1+(r:Int)=((r+1:Nat):Int) by omega,Ov f Zo Zo]
    have k6:Kp d b H (aI U tp (.tup [.str (tx (jZ (tx f).cps.toList none (some (a:Int)))),.str (tx (jZ (tx f).cps.toList (some ((a:Int)+1)) (some (1+(r:Int)))))])):=((((k1.trans k2).trans k3).trans k4).trans k5).trans (.new PJ);have X:=D5.new (o:=.tup [.str (tx (jZ (tx f).cps.toList none (some (a:Int)))),.str (tx (jZ (tx f).cps.toList (some ((a:Int)+1)) (some (1+(r:Int)))))]) PJ;dsimp only [aJ];generalize aI U tp (.tup [.str (tx (jZ (tx f).cps.toList none (some (a:Int)))),.str (tx (jZ (tx f).cps.toList (some ((a:Int)+1)) (some (1+(r:Int)))))])=H6 at W k6 X;refine⟨m,rfl,Zo,Zo,?_⟩;refine aX (eV 0 (m:Int).toNat) (by rw[gA];omega) (λi l j=>l=((List.range i).map λk=>tx (tN L f a (r+1) u k)).map V.str/\j=H6) (λi l j ⟨e,_⟩=>⟨trivial,by rw[e];simp⟩) ⟨rfl,rfl⟩ (?_) (?_)
    ·rintro i a4 l j C ⟨e,n⟩;subst n;obtain⟨rfl,hi⟩:=nS C;have h0:0<L.length:=by omega
     have hL:=aCn (L:=L) (mod_lt (u+i) h0);have t1:(tx (f.take a)).length<=12:=by rw[hZ,oA];omega
     have t2:(tx ((f.drop (a+1)).take (r+1-(a+1)))).length<=12:=by rw[hZ,oA,length_drop];omega
     refine⟨_,QYK W,_,rfl,A,by rw[E];omega,A,L.getD ((u+i)%L.length) 0,?_,eZ (by have:=hZ [L.getD ((u+i)%L.length) 0];simp only [sA,length_nil]at this;omega),_,QYK W,_,rfl,eZ ?_,?_,rfl⟩
     ·rw[E,F,show((u:Int)+(i:Int))%(L.length:Int)=(((u+i)%L.length:Nat):Int) by rw[Int.natCast_emod,Int.natCast_add]];exact eY hL.2
     ·rw[xL,hZ,lZ,oA];simp only [sA,length_nil];omega
     ·rw[e,range_succ,dW,dW,xL,xL];rfl
    ·rintro l j ⟨e,n⟩;subst n;intro p q;rw[gA,em]at e;have B:=X.ne q;refine a2 p ((List.range m).map λk=>tx (tN L f a (r+1) u k)) _ (Aj (λk k' Q Q7 e=>?_) (λk Q=>?_)) Zs (by rw[aA,e]) B.1 B.2 (X.new q) (k6.trans (.new q))
     ·exact Ow AR e Zo Zo
     ·exact Ux Zo v FL Zo Zo
def aO{n:Nat}(h:Nat.ble n 1000=true):n<=1000:=QZV h
structure Fw(d b:TD)(H H':Hp):Prop where
 d0:Dk H d b
 dk:Dk H' d b
 kp:Kp d b H H'
def Kp.same'{d b:TD}{H a:Hp}(s:Same H a):Kp d b H a:=λc o e _ _=>s c o e
def Fw.refl{d b:TD}{H:Hp}(D:Dk H d b):Fw d b H H:=⟨D,D,.refl⟩
def Fw.same{d b:TD}{H a H2:Hp}(f:Fw d b H a)(s:Same a H2):Fw d b H H2:=⟨f.d0,f.dk.same s,f.kp.trans (Kp.same' s)⟩
def Fw.new{d b p:TD}{H a:Hp}{o:HO}(f:Fw d b H a)(h:a p=none):Fw d b H (aI a p o):=⟨f.d0,f.dk.new h,f.kp.trans (.new h)⟩
def Fw.draw{d b:TD}{H a H2:Hp}(f:Fw d b H a)(D:Dk H2 d b)(k:Kp d b a H2):Fw d b H H2:=⟨f.d0,D,f.kp.trans k⟩
def Fw.trans{d b:TD}{H a H2:Hp}(f:Fw d b H a)(g:Fw d b a H2):Fw d b H H2:=⟨f.d0,g.dk,f.kp.trans g.kp⟩
def Fw.tk{d b:TD}{H a:Hp}(f:Fw d b H a):TK H a:=Kp.tk f.d0 f.kp
def Fw.tup{d b a:TD}{H c:Hp}{xs:List V}(f:Fw d b H c)(g:H a=some (.tup xs)):c a=some (.tup xs):=f.tk _ _ g
def Fw.get{d b a:TD}{H c:Hp}{o:HO}(f:Fw d b H c)(g:H a=some o)(e:a≠d)(h:a≠b):c a=some o:=f.kp _ _ g e h
def jQ{a:List Str}{r:Int}(c:0<=r)(d:r<a.length):∃(i:Nat)(e:i<a.length),r=i/\nC (a.map V.str) r=some (.str a[i]):=by
 obtain⟨j,rfl⟩:=Int.eq_ofNat_of_zero_le c;have b:j<a.length:=by omega
 exact⟨j,b,rfl,eY (by rw[fK,eT b];rfl)⟩
def yG{n i r:Nat}(a:i<n)(b:r+1<n):(i+1+r)%n<n/\(i+1+r)%n≠i:=by
 refine⟨mod_lt _ Zo,λe=>?_⟩;by_cases h:i+1+r<n
 ·rw[Nat.mod_eq_of_lt h]at e;omega
 ·rw[Nat.mod_eq_sub_mod Zo,Nat.mod_eq_of_lt Zo]at e;omega
def Ox{a:List Str}(h:a.Nodup){i j:Nat}(b:i<a.length)(c:j<a.length)(d:i≠j):a[i]≠a[j]:=by
 have p:=pairwise_iff_getElem.mp h;rcases Nat.lt_or_gt_of_ne d with z|z
 ·exact p i j b c z
 ·exact λe=>p j i c b z e.symm
structure Menu(ws:List Str):Prop where
 of:WordsOf LET 8 ws
 two:2<=ws.length
 six:ws.length<=6
def Menu.nm{a:List Str}(h:Menu a){i:Nat}(b:i<a.length):gB a[i]:=h.of.of _ (getElem_mem b)
def rT:Sp:=λvs H Q _=>∃(d b a c:TD)(f g:List Str),vs=[.ref d,.ref a,.ref c]/\Dk H d b/\H a=some (.lst (f.map V.str))/\H c=some (.lst (g.map V.str))/\(a≠d/\a≠b/\c≠d/\c≠b)/\Menu f/\Menu g ∧
 ∀(t:TD)(x:Dd)(e:Hp),x.Ok->e t=some (.tup x.vs)->Fw d b H e->Q (.ref t) e
def Uy(T:Txt K mg)(t:aG P w K mg base 1 "_law_draw" QZN bS)(C0:aG P w K mg base 2 "_law_end" QZN bS)(D:DefAt K mg "_law_deed" kM QZs):aG P w K mg base 3 "_law_deed" QZs rT:=by
 refine D.gg cB (λa7 cdv a9 outer s a4 vs b2 b3 l a5=>?_)
 ·revert a5;refine yE6 λd b la lb v x=>yA8 λζ dk ga N η F G q=>?_;subst ζ;obtain⟨n1,n2,O,Q⟩:=η;have w2:=F.two;have w6:=F.six;have u2:=G.two;have u6:=G.six;refine⟨_,(lj (mh (i:=3) cB.nd (li (og (K:=K)) (oh (kx (me oa kz (mf t l rfl (kx (ku 0) (kx kz lg)))) (kx (me oa kz (mf C0 l rfl (kx (ku 0) (kx (me re kz kz) lg)))) lg))) (mf t l rfl (kx (ku 0) (kx kz lg))))) (lj (mh (i:=4) cB.nd (mf t l rfl (kx (ku 0) (kx (oi (o0 (K:=K)) rfl T.b_len bN (kx (ku 1) lg)) lg)))) (lj (mh (i:=5) cB.nd (li (og (K:=K)) (ku 1) (ku 4))) (lj (mh (i:=6) cB.nd (li (og (K:=K)) (ku 1) (me AC (me oa (me oa (ku 4) kz) (mf t l rfl (kx (ku 0) (kx (me uf (oi (o0 (K:=K)) rfl T.b_len bN (kx (ku 1) lg)) kz) lg)))) (oi (o0 (K:=K)) rfl T.b_len bN (kx (ku 1) lg))))) (lj (mh (i:=7) cB.nd (mf t l rfl (kx (ku 0) (kx (oi (o0 (K:=K)) rfl T.b_len bN (kx (ku 2) lg)) lg)))) (lj (mh (i:=8) cB.nd (li (og (K:=K)) (ku 2) (ku 7))) (lj (mh (i:=9) cB.nd (li (og (K:=K)) (ku 2) (me AC (me oa (me oa (ku 7) kz) (mf t l rfl (kx (ku 0) (kx (me uf (oi (o0 (K:=K)) rfl T.b_len bN (kx (ku 2) lg)) kz) lg)))) (oi (o0 (K:=K)) rfl T.b_len bN (kx (ku 2) lg))))) (lj (mh (i:=10) cB.nd (oh (kx (mj (kx lq (kx (ku 5) (kx (ku 3) lg)))) (kx (mj (kx lq (kx (ku 5) (kx (ku 3) lg)))) (kx (mj (kx lq (kx (ku 5) (kx (ku 6) (kx (ku 3) lg))))) lg))))) (lj (mh (i:=10) cB.nd (me sn (ku 10) (oh (kx (mj (kx lq (kx (ku 8) (kx (ku 5) (kx (ku 3) lg))))) (kx (mj (kx lq (kx (ku 8) (kx (ku 5) (kx (ku 3) lg))))) (kx (mj (kx lq (kx (ku 8) (kx (ku 9) (kx (ku 5) (kx (ku 3) lg)))))) lg)))))) (md (mi (li (og (K:=K)) (ku 10) (mf t l rfl (kx (ku 0) (kx kz lg))))))))))))))),?_⟩;refine bJ (λσ' H'=>∃n:Nat,σ'=[some (.ref d),some (.ref la),some (.ref lb),some (.int (n:Int)),none,none,none,none,none,none,none]/\1<=n/\n<=1000000000000/\Fw d b a4 H') (λnx a8=>?_) ?_
  ·refine⟨d,b,9,rfl,dk,Zd,Zd,λr1 H1 a0 a1 D1 k1=>⟨⟨Zd,Zd,Zd⟩,d,b,_,rfl,D1,Zd,Zd,λr2 H2 b0 R H k2=>⟨eL rfl,λp I=>⟨d,b,2,rfl,H.new I,Zd,Zd,λa H3 c0 c1 D3 S=>?_⟩⟩⟩⟩;have J2:=H.ne I;have J:=S p _ aA J2.1 J2.2;have k:=((((Fw.refl dk).draw D1 k1).draw H k2).new I).draw D3 S;have b1':r2<1000000000000:=R;rcases(by omega:a=0∨a=1) with rfl|rfl
   ·refine⟨_,QYJ J,_,rfl,a8 _ _ ⟨(1+r1).toNat,?_,Zo,Zo,k⟩⟩;rw[Int.toNat_of_nonneg Zo];rfl
   ·refine⟨_,QYJ J,_,rfl,a8 _ _ ⟨(1+r2).toNat,?_,Zo,Zo,k⟩⟩;rw[Int.toNat_of_nonneg Zo];rfl
  ·refine λσ' H1=>yE1 λn=>yA4 λζ z A f1=>?_;subst ζ;have WO:=f1.get ga n1 n2;have xy:=f1.get N O Q;refine⟨_,.inl (QYJ WO),d,b,_,rfl,f1.dk,by rw[aS];omega,by rw[aS];omega,λr2 H2 b0 R H k2=>?_⟩;rw[aS]at R;have f2:=f1.draw H k2;have PK:=f2.get ga n1 n2;obtain⟨i,hi,rfl,ei⟩:=jQ b0 R;refine⟨_,QYJ PK,_,ei,?_⟩;refine⟨_,.inl (QYJ PK),d,b,_,rfl,f2.dk,by rw[aS];omega,by rw[aS];omega,λa H3 c0 c1 D3 S=>?_⟩;rw[aS]at c1;have U:=f2.draw D3 S;have PL:=U.get ga n1 n2;obtain⟨a,rfl⟩:∃a2:Nat,a=a2:=⟨a.toNat,Zo⟩;obtain⟨hj,yb⟩:=yG (r:=a) hi Zo;have ej:((i:Int)+1+(a:Int))%((v.map V.str).length:Int)=(((i+1+a)%v.length:Nat):Int):=by
    rw[aS,Int.natCast_emod];rfl
   refine⟨_,.inl (QYJ PL),by rw[aS];omega,_,QYJ PL,V.str v[(i+1+a)%v.length],?_,?_⟩
   ·rw[ej];exact eY (by rw[fK,eT hj];rfl)
   have u7:=Ox F.of.nd hi hj (λa3=>yb a3.symm);have y:=F.nm hi;have FN:=F.nm hj;generalize v[(i+1+a)%v.length]=zb at u7 FN;generalize v[i]=B at u7 y;dsimp only [aJ];have CY:=U.get N O Q;refine⟨_,.inl (QYJ CY),d,b,_,rfl,U.dk,by rw[aS];omega,by rw[aS];omega,λr4 H4 d0 d1 D4 k4=>?_⟩;rw[aS]at d1;have f4:=U.draw D4 k4;have PM:=f4.get N O Q;obtain⟨u,LR,rfl,eu⟩:=jQ d0 d1;refine⟨_,QYJ PM,_,eu,?_⟩;refine⟨_,.inl (QYJ PM),d,b,_,rfl,f4.dk,by rw[aS];omega,by rw[aS];omega,λm H5 e0 e1 D5 k5=>?_⟩;rw[aS]at e1;have f5:=f4.draw D5 k5;have PN:=f5.get N O Q;obtain⟨m,rfl⟩:∃a2:Nat,m=a2:=⟨m.toNat,Zo⟩;obtain⟨hv,WQ⟩:=yG (r:=m) LR Zo;have ev:((u:Int)+1+(m:Int))%((x.map V.str).length:Int)=(((u+1+m)%x.length:Nat):Int):=by
    rw[aS,Int.natCast_emod];rfl
   refine⟨_,.inl (QYJ PN),by rw[aS];omega,_,QYJ PN,V.str x[(u+1+m)%x.length],?_,?_⟩
   ·rw[ev];exact eY (by rw[fK,eT hv];rfl)
   have AV:=Ox G.of.nd LR hv (λa3=>WQ a3.symm);have W:=G.nm LR;have PQ:=G.nm hv;generalize x[(u+1+m)%x.length]=zv at AV PQ;generalize x[u]=zu at AV W;refine⟨aO rfl,λc H6 s6 g6=>⟨aO rfl,λe H7 s7 g7=>⟨aO rfl,λf X s8 g8=>⟨eL rfl,λp I=>?_⟩⟩⟩⟩;have WR:Same H5 X:=(s6.trans s7).trans s8;have f8:=f5.same WR;have h1:=s8 _ _ (s7 _ _ g6);have h2:=s8 _ _ g7;have J:(aI X p (.lst [.ref c,.ref e,.ref f])) p=some (.lst [.ref c,.ref e,.ref f]):=aA;have sp:=aE (o:=.lst [.ref c,.ref e,.ref f]) I;dsimp only [aJ];generalize aI X p (.lst [.ref c,.ref e,.ref f])=H9 at J sp;refine⟨aO rfl,λg Ha sa g4=>⟨aO rfl,λh Hb sb g5=>⟨aO rfl,λj Hc sc g9=>⟨eL rfl,λp2 C5=>?_⟩⟩⟩⟩;have WS:Same H9 Hc:=(sa.trans sb).trans sc;have qa:(aI Hc p2 (.lst [.ref g,.ref h,.ref j])) p2=some (.lst [.ref g,.ref h,.ref j]):=aA;have L:=aE (o:=.lst [.ref g,.ref h,.ref j]) C5;generalize aI Hc p2 (.lst [.ref g,.ref h,.ref j])=Hd at qa L;have LS:=WS.trans L;refine⟨_,_,LS _ _ J,qa,eL rfl,λY M=>?_⟩;have fd:=f8.same (sp.trans LS);have FP:=fd.dk.ne M;have Z:Same X (aI Hd Y (.lst ([.ref c,.ref e,.ref f]++[.ref g,.ref h,.ref j]))):=(sp.trans LS).trans (aE M);have uk:(aI Hd Y (.lst ([.ref c,.ref e,.ref f]++[.ref g,.ref h,.ref j]))) Y=some (.lst [.ref c,.ref e,.ref f,.ref g,.ref h,.ref j]):=aA;have PR:=(L.trans (aE M (o:=.lst ([.ref c,.ref e,.ref f]++[.ref g,.ref h,.ref j])))) _ _ (sc _ _ (sb _ _ g4));have PU:=(L.trans (aE M (o:=.lst ([.ref c,.ref e,.ref f]++[.ref g,.ref h,.ref j])))) _ _ (sc _ _ g5);have PV:=(L.trans (aE M (o:=.lst ([.ref c,.ref e,.ref f]++[.ref g,.ref h,.ref j])))) _ _ g9;have f9:=f8.same Z;have J1:=Z _ _ h1;have V6:=Z _ _ h2;have PX:=Z _ _ g8;dsimp only [aJ];generalize aI Hd Y (.lst ([.ref c,.ref e,.ref f]++[.ref g,.ref h,.ref j]))=He at uk PR PU PV f9 J1 V6 PX;refine⟨d,b,6,rfl,f9.dk,Zd,Zd,λr6 Hf i0 i1 Df kf=>?_⟩;have k:=f9.draw Df kf;have C:=Fw.draw (.refl f9.dk) Df kf;have E:=kf _ _ uk FP.1 FP.2;rcases six i0 i1 with rfl|rfl|rfl|rfl|rfl|rfl
   ·exact⟨_,QYJ E,_,rfl,q _ (.add B n) _ ⟨y,z,A⟩ (C.tup J1) k⟩
   ·exact⟨_,QYJ E,_,rfl,q _ (.take B n) _ ⟨y,z,A⟩ (C.tup V6) k⟩
   ·exact⟨_,QYJ E,_,rfl,q _ (.move B zb n) _ ⟨y,FN,u7,z,A⟩ (C.tup PX) k⟩
   ·exact⟨_,QYJ E,_,rfl,q _ (.send zu B n) _ ⟨W,y,z,A⟩ (C.tup PR) k⟩
   ·exact⟨_,QYJ E,_,rfl,q _ (.fetch zu B n) _ ⟨W,y,z,A⟩ (C.tup PU) k⟩
   ·exact⟨_,QYJ E,_,rfl,q _ (.pass zu zv B n) _ ⟨W,PQ,y,AV,z,A⟩ (C.tup PV) k⟩
def wF:Dd->Bool->List Str
 | .add _ _,_=>["is","full"]
 | .take _ _,_=>["is","short"]
 | .move _ _ _,_=>["is","short","full"]
 | .send _ _ _,true=>["is","no"]|.send _ _ _,false=>["short"]
 | .fetch _ _ _,true=>["is","no"]|.fetch _ _ _,false=>["full"]
 | .pass _ _ _ _,true=>["ok","no"]|.pass _ _ _ _,false=>[]
def Ak:Sp:=λvs H Q _=>∃(t:TD)(x:Dd)(q:Bool),vs=[.ref t,.bl q]/\H t=some (.tup x.vs)/\∀l a,H l=none->a l=some (.lst ((wF x q).map V.str))->Same H a->Q (.ref l) a
def kv6(a b c d e f:V):List (aV×V):=bI (bI (aN [] [(Sum.inr ("add":Str),a),(Sum.inr ("take":Str),b),(Sum.inr ("move":Str),c),(Sum.inr ("pass":Str),d)]) (Sum.inr ("send":Str)) e) (Sum.inr ("fetch":Str)) f
def aAP(a b c d e f:V)(x:Dd):bB (kv6 a b c d e f) (Sum.inr x.wd)=some (match x with|.add _ _=>a|.take _ _=>b|.move _ _ _=>c|.pass _ _ _ _=>d|.send _ _ _=>e|.fetch _ _ _=>f):=by
 cases x<;>rfl
def qZ(x:Dd):nC x.vs 0=some (.str x.wd):=by cases x<;>rfl
def aAQ(x:Dd):qW (.str x.wd) [.str "add",.str "take",.str "move"]=!x.far:=by cases x<;>rfl
def lG:Dd->List Str
 | .add _ _=>["is","full"]|.take _ _=>["is","short"]|.move _ _ _=>["is","short","full"]|.send _ _ _=>["is","short","no"]|.fetch _ _ _=>["is","full","no"]|.pass _ _ _ _=>["ok","no"]
def Al(x:Dd)(h:x.far=false)(q:Bool):wF x q=lG x:=by cases x<;>first|rfl|cases h
def Fk(x:Dd)(h:x.far=true)(q:Bool):wF x q=(lG x).filter λz=>(qW (.str z) [.str "short",.str "full"]) != q:=by cases x<;>cases q<;>first|rfl|cases h
def Oy(x:Dd):(lG x).length<=3:=by cases x<;>exact QZV rfl
def cW{H:Hp}{p:TD}{kvs:List (aV×V)}(e:H p=some (.dK kvs))(b:List (aV×V)){c:TD}{o:HO}(a:H c=some o)(ne:∀z,o≠.dK z):(aI H p (.dK b)) c=some o:=by
 rw[aD (λz=>by rw[z,e]at a;cases a;exact ne _ rfl)];exact a
def bX{H a:Hp}{p:TD}{o:HO}(b:H p=none)(s:Same H a):Same H (aI a p o):=λc u e=>by
 rw[aD (aF e b)];exact s _ _ e
def Oz(T:Txt K mg)(D:DefAt K mg "_law_words" gG QZb):aG P w K mg base 1 "_law_words" QZb Ak:=by
 refine D.gg kR (λa4 cdv a5 outer s H vs a6 a7 hr a0=>?_)
 ·obtain⟨t,x,A,rfl,gt,a3⟩:=a0;have d6:=dH hr;refine⟨_,(lj (mh (i:=2) kR.nd (R.ig (yz lq (oh (kx lq (kx lq lg))) (yz lq (oh (kx lq (kx lq lg))) (yz lq (oh (kx lq (kx lq (kx lq lg)))) (yz lq (oh (kx lq (kx lq lg))) R.ii)))))) (lj (ut (oh (kx lq (kx lq (kx lq lg)))) (u8 (ku 2) lq (yx d6))) (lj (ut (oh (kx lq (kx lq (kx lq lg)))) (u8 (ku 2) lq (yx d6))) (lj (mh (i:=3) kR.nd (ug d6 (ku 2) (li (lx (K:=K)) (ku 0) kz))) (lj (nv (mo (qt (K:=K)) (li (lx (K:=K)) (ku 0) kz) (mj (kx lq (kx lq (kx lq lg))))) (md (mi (ku 3))) nw) (md (mi (ou rfl (js:=[none,some 1]) (N:=["_law_word","_law_asked"]) (CompScope.by (aB gG) QYO rfl rfl Zk) (aQ rfl) (ot (K:=K) (ku 3)) (λa8 s₂ H₂ fp=>⟨(ny (i:=0) (show(["_law_word","_law_asked"]:List Str).Nodup by decide +kernel)),(qo (mo P1 (om (qt (K:=K)) (ku 0) (mj (kx lq (kx lq lg)))) (ku 1))),(ku 0)⟩))))))))),?_⟩;refine λp hp=>?_;have g0:(aI H p (.dK [])) p=some (.dK []):=aA;have G:=aE (o:=.dK []) hp;generalize aI H p (.dK [])=H0 at g0 G;refine⟨eL rfl,λh px=>⟨eL rfl,λj C5=>⟨eL rfl,λl Q6=>⟨eL rfl,λq L=>?_⟩⟩⟩⟩;have M:=aE (o:=.lst [.str "is",.str "full"]) px;have a:(aI H0 h (.lst [.str "is",.str "full"])) h=_:=aA;have f1:H h=none:=G.free px;generalize aI H0 h (.lst [.str "is",.str "full"])=H1 at M a C5 Q6 L ⊢;have O:=aE (o:=.lst [.str "is",.str "short"]) C5;have b:(aI H1 j (.lst [.str "is",.str "short"])) j=_:=aA;have f2:H j=none:=(G.trans M).free C5;generalize aI H1 j (.lst [.str "is",.str "short"])=H2 at O b Q6 L ⊢;have Q:=aE (o:=.lst [.str "is",.str "short",.str "full"]) Q6;have c:(aI H2 l (.lst [.str "is",.str "short",.str "full"])) l=_:=aA;have f3:H l=none:=((G.trans M).trans O).free Q6;generalize aI H2 l (.lst [.str "is",.str "short",.str "full"])=H3 at Q c L ⊢;have S:=aE (o:=.lst [.str "ok",.str "no"]) L;have d:(aI H3 q (.lst [.str "ok",.str "no"])) q=_:=aA;have f4:H q=none:=(((G.trans M).trans O).trans Q).free L;generalize aI H3 q (.lst [.str "ok",.str "no"])=I at S d ⊢;have PY:Same H0 I:=((M.trans O).trans Q).trans S;have U:=PY _ _ g0;refine⟨U,[(Sum.inr ("add":Str),.ref h),(Sum.inr ("take":Str),.ref j),(Sum.inr ("move":Str),.ref l),(Sum.inr ("pass":Str),.ref q)],rfl,QZV rfl,?_⟩;have S4:Same H I:=G.trans PY;replace a:=S _ _ (Q _ _ (O _ _ a));replace b:=S _ _ (Q _ _ b);replace c:=S _ _ c;show uX _ _ _ [some (.ref t),some (.bl A),some (.ref p),none] (aI I p (.dK (aN [] [(Sum.inr ("add":Str),.ref h),(Sum.inr ("take":Str),.ref j),(Sum.inr ("move":Str),.ref l),(Sum.inr ("pass":Str),.ref q)])));generalize hk:aN [] [(Sum.inr ("add":Str),V.ref h),(Sum.inr ("take":Str),.ref j),(Sum.inr ("move":Str),.ref l),(Sum.inr ("pass":Str),.ref q)]=r;have l4:r.length=4:=by rw[<- hk];rfl
  have S5:Same H (aI I p (.dK r)):=bX hp S4;have g5:(aI I p (.dK r)) p=_:=aA;replace a:=cW U r a (λ_ z=>nomatch z);replace b:=cW U r b (λ_ z=>nomatch z);replace c:=cW U r c (λ_ z=>nomatch z);replace d:=cW U r d (λ_ z=>nomatch z);generalize aI I p (.dK r)=H5 at a b c d S5 g5 ⊢;refine⟨eL rfl,λB FQ=>⟨p,_,rfl,DPut.k (k:=Sum.inr ("send":Str)) (aL g5 FQ) (oC (m:=100) Zo Zd),?_⟩⟩;have f5:H B=none:=S5.free FQ;have C:=aE (o:=.lst [.str "is",.str "short",.str "no"]) FQ;have v:(aI H5 B (.lst [.str "is",.str "short",.str "no"])) B=_:=aA;have J:=C _ _ g5;generalize aI H5 B (.lst [.str "is",.str "short",.str "no"])=H6 at C v J ⊢;generalize EW:bI r (Sum.inr ("send":Str)) (V.ref B)=g;have l5:g.length<=5:=by rw[<- EW];exact gL (cR _ _ _) Zo
  have S7:Same H (aI H6 p (.dK g)):=bX hp (S5.trans C);have g7:(aI H6 p (.dK g)) p=_:=aA;replace a:=cW J g (C _ _ a) (λ_ z=>nomatch z);replace b:=cW J g (C _ _ b) (λ_ z=>nomatch z);replace c:=cW J g (C _ _ c) (λ_ z=>nomatch z);replace d:=cW J g (C _ _ d) (λ_ z=>nomatch z);replace v:=cW J g v (λ_ z=>nomatch z);generalize aI H6 p (.dK g)=H7 at a b c d v S7 g7 ⊢;refine⟨eL rfl,λE vc=>⟨p,_,rfl,DPut.k (k:=Sum.inr ("fetch":Str)) (aL g7 vc) (oC (m:=100) Zo Zd),?_⟩⟩;have f6:H E=none:=S7.free vc;have y:=aE (o:=.lst [.str "is",.str "full",.str "no"]) vc;have W:(aI H7 E (.lst [.str "is",.str "full",.str "no"])) E=_:=aA;have F:=y _ _ g7;generalize aI H7 E (.lst [.str "is",.str "full",.str "no"])=H8 at y W F ⊢;generalize WU:bI g (Sum.inr ("fetch":Str)) (V.ref E)=f;have ek:f=kv6 (.ref h) (.ref j) (.ref l) (.ref q) (.ref B) (.ref E):=by rw[<- WU,<- EW,<- hk];rfl
  have S9:Same H (aI H8 p (.dK f)):=bX hp (S7.trans y);have g9:(aI H8 p (.dK f)) p=_:=aA;replace a:=cW F f (y _ _ a) (λ_ z=>nomatch z);replace b:=cW F f (y _ _ b) (λ_ z=>nomatch z);replace c:=cW F f (y _ _ c) (λ_ z=>nomatch z);replace d:=cW F f (y _ _ d) (λ_ z=>nomatch z);replace v:=cW F f (y _ _ v) (λ_ z=>nomatch z);replace W:=cW F f W (λ_ z=>nomatch z);generalize aI H8 p (.dK f)=H9 at a b c d v W S9 g9 ⊢;have key:∃u:TD,bB f (Sum.inr x.wd)=some (.ref u)/\H u=none/\H9 u=some (.lst ((lG x).map V.str)):=by
   rw[ek,aAP];cases x with
   | add a1 n=>exact⟨h,rfl,f1,a⟩
   | take a1 n=>exact⟨j,rfl,f2,b⟩
   | move a1 a2 n=>exact⟨l,rfl,f3,c⟩
   | send a1 a2 n=>exact⟨B,rfl,f5,v⟩
   | fetch a1 a2 n=>exact⟨E,rfl,f6,W⟩
   | pass a1 a2 a9 n=>exact⟨q,rfl,f4,d⟩
  obtain⟨u,hv,fl,gl⟩:=key;have dg:DGet H9 p (.str x.wd) (some (.ref u)):=by rw[<- hv];exact DGet.k (k:=Sum.inr x.wd) g9
  have PZ:=S9 _ _ gt;refine⟨_,QYK PZ,_,qZ x,p,_,rfl,dg,?_⟩;refine⟨_,QYK PZ,_,qZ x,aO rfl,λtq Ha sa ga=>⟨tq,_,rfl,.inr (QYK ga),rfl,rfl,?_⟩⟩;have Sa:Same H Ha:=S9.trans sa;show if qW (.str x.wd) [.str "add",.str "take",.str "move"]=true then _ else _
  rw[aAQ];cases hf:x.far with
  | false=>
   refine Ie rfl ?_;refine a3 u Ha fl ?_ Sa;rw[Al x hf];exact sa _ _ gl
  | true=>
   refine xO rfl ?_;have QA:=sa _ _ gl;refine⟨u,rfl,⟨_,QYJ QA⟩,?_⟩;refine aX (aY K u ((lG x).map V.str)) (by have:=Oy x;rw[aS];omega) (λi ys X=>ys=(((lG x).take i).filter λz=>(qW (.str z) [.str "short",.str "full"]) != A).map V.str/\Same H X/\X u=some (.lst ((lG x).map V.str))) (λi ys X ⟨e,_,Y⟩=>⟨QYJ Y,by rw[e,aS];exact gL (length_filter_le _ _) (by rw[oA];omega)⟩) ⟨rfl,Sa,QA⟩ (?_) (?_)
   ·refine λi b0 ys X Z=>yA3 λe S' Y=>?_;rw[fK]at Z;cases hz:(lG x)[i]? with
    | none=>rw[hz]at Z;cases Z
    | some z=>
     rw[hz]at Z;cases Z;have key:=take_succ_filter (λz=>(qW (.str z) [.str "short",.str "full"]) != A) (lG x) i z hz;refine⟨aO rfl,λtp Hb sb gb=>⟨tp,_,rfl,.inr (QYK gb),rfl,rfl,?_⟩⟩;show if (!decide (qW (.str z) [.str "short",.str "full"]=A))=true then _ else _
     have eb:(!decide (qW (.str z) [.str "short",.str "full"]=A))=(qW (.str z) [.str "short",.str "full"] != A):=by cases qW (.str z) [.str "short",.str "full"]<;>cases A<;>rfl
     rw[eb];refine bA (λa0=>⟨?_,S'.trans sb,sb _ _ Y⟩) (λa0=>⟨?_,S'.trans sb,sb _ _ Y⟩)
     ·rw[key,QZY a0,dW,e];rfl
     ·rw[key,QZX (by rw[a0];exact U7),append_nil,e]
   ·rintro ys X ⟨e,S',Y⟩;intro pn QB;refine a3 pn _ (S'.free QB) ?_ (S'.trans (aE QB));rw[aA,e,aS,iI (aZ _),Fk x hf]
def vI:An->Str|.is1 _=>"is"|.is2 _ _=>"is"|.short _=>"short"|.full _=>"full"|.no _=>"no"|.ok=>"ok"
def Pa:Sp:=λvs H Q _=>∃(d b t:TD)(x:Dd)(z:Str),vs=[.ref d,.ref t,.str z]/\Dk H d b/\H t=some (.tup x.vs)/\x.Ok/\z∈lG x ∧
 ∀(c:TD)(y:An)(a:Hp),An.Of x y->vI y=z->a c=some (.tup y.vs)->Fw d b H a->Q (.ref c) a
def aCo(x:Dd):nC x.vs (-1)=some (.int (x.n:Int)):=by cases x<;>rfl
def gK{r:Int}(h:0<=r):∃z:Nat,r=z:=⟨r.toNat,Zo⟩
def Jg(T:Txt K mg)(S:aG P w K mg base 1 "_law_draw" QZN bS)(M:aG P w K mg base 2 "_law_end" QZN bS)(D:DefAt K mg "_law_answer" gV QZa):aG P w K mg base 3 "_law_answer" QZa Pa:=by
 refine D.gg fY (λa3 cdv a4 outer s a5 vs a7 a8 L h=>?_)
 ·revert h;refine yE5 λd b t x a2=>yA6 λζ O gt U u q=>?_;subst ζ;have H:=U.n;refine⟨_,(lj (mh (i:=3) fY.nd (li (lx (K:=K)) (ku 1) (oj kz))) (lj (mh (i:=4) fY.nd (mf M L rfl (kx (ku 0) (kx (me oa (me uf (me re kz kz) (ku 3)) kz) lg)))) (lj (mh (i:=5) fY.nd (me oa (ku 3) (mf M L rfl (kx (ku 0) (kx (me oa (me uf (me re kz kz) (ku 3)) kz) lg))))) (lj (nv (mo nz (ku 2) lq) (md (mi (mj (kx lq (kx (li (lx (K:=K)) (ku 1) (me oa kz (me R.gm (mf S L rfl (kx (ku 0) (kx kz lg))) (zn R.ib rfl T.b_int pW (kx (om nz (li (lx (K:=K)) (ku 1) kz) lq) lg))))) lg))))) nw) (lj (nv (mo nz (ku 2) lq) (md (mi (mj (kx lq lg)))) nw) (lj (nv (mo nz (ku 2) lq) (md (mi (mj (kx lq (kx (mf M L rfl (kx (ku 0) (kx (ku 3) lg))) lg))))) nw) (lj (nv (mo nz (ku 2) lq) (md (mi (mj (kx lq (kx (me uf (me re kz kz) (mf M L rfl (kx (ku 0) (kx (ku 3) lg)))) lg))))) nw) (lj (nv (mo nz (li (lx (K:=K)) (ku 1) kz) lq) (md (mi (mj (kx lq (kx (ku 4) (kx (ku 5) lg)))))) nw) (md (mi (mj (kx lq (kx (li (og (K:=K)) (oh (kx (ku 4) (kx (ku 5) lg))) (zn R.ib rfl T.b_int pW (kx (om (qt (K:=K)) (li (lx (K:=K)) (ku 1) kz) (mj (kx lq (kx lq lg)))) lg))) lg))))))))))))),?_⟩;refine⟨_,QYK gt,_,aCo x,?_⟩;refine⟨⟨Zd,Zd,Zd⟩,d,b,1000000000000-(x.n:Int)+1,rfl,O,Zo,Zo,λz H1 W I Q X=>?_⟩;refine⟨⟨Zd,Zd,Zd⟩,d,b,1000000000000-(x.n:Int)+1,rfl,Q,Zo,Zo,λo Y Z J D2 k2=>?_⟩;dsimp only [aJ];have f2:=((Fw.refl O).draw Q X).draw D2 k2;obtain⟨z,rfl⟩:=gK W;obtain⟨o,rfl⟩:=gK Z;have A:=f2.tup gt;have e:=f2;dsimp only [Bl,mI];show uX _ _ _ [some (.ref d),some (.ref t),some (.str a2),some (.int (x.n:Int)),some (.int (z:Int)),some (.int ((x.n:Int)+(o:Int)))] Y
  cases x with
  | add a n=>
   simp only [Dd.n]at H I J;simp only [lG,mem_cons,QZR,or_false]at u;rcases u with rfl|rfl
   ·refine⟨_,QYK A,_,rfl,⟨eL rfl,λp v=>⟨_,QYK (aL A v),_,rfl,aO rfl,λE N y F=>⟨E,_,rfl,.inr (QYK F),rfl,rfl,⟨_,QYJ (y _ _ aA),_,rfl,aO rfl,λG f j k=>?_⟩⟩⟩⟩⟩;refine q G (.is1 (n+o)) f ⟨Zo,Zo⟩ rfl ?_ (((e.new v).same y).same j);rw[k];show some (HO.tup [V.str "is",.int ((n:Int)+(o:Int))])=some (HO.tup [V.str "is",.int ((n+o:Nat):Int)]);rw[show((n+o:Nat):Int)=(n:Int)+(o:Int) by omega]
   ·refine⟨⟨Zd,Zd,Zd⟩,d,b,(n:Int),rfl,e.dk,Zo,Zo,λc B r C l m=>⟨aO rfl,λp f j k=>?_⟩⟩;obtain⟨c,rfl⟩:=gK r;refine q p (.full (1000000000000-c)) f ⟨Zo,Zo⟩ rfl ?_ ((e.draw l m).same j);rw[k];show some (HO.tup [V.str "full",.int ((1000000000000:Int)-(c:Int))])=some (HO.tup [V.str "full",.int ((1000000000000-c:Nat):Int)]);rw[show((1000000000000-c:Nat):Int)=(1000000000000:Int)-(c:Int) by omega]
  | take a n=>
   simp only [Dd.n]at H I J;simp only [lG,mem_cons,QZR,or_false]at u;rcases u with rfl|rfl
   ·refine⟨_,QYK A,_,rfl,⟨eL rfl,λp v=>⟨_,QYK (aL A v),_,rfl,aO rfl,λE N y F=>⟨E,_,rfl,.inr (QYK F),rfl,rfl,⟨_,QYJ (y _ _ aA),_,rfl,aO rfl,λG f j k=>?_⟩⟩⟩⟩⟩;exact q G (.is1 z) f (by show z+n<=1000000000000;omega) rfl k (((e.new v).same y).same j)
   ·refine⟨d,b,(n:Int),rfl,e.dk,Zo,Zo,λc B r C l m=>⟨aO rfl,λp f j k=>?_⟩⟩;obtain⟨c,rfl⟩:=gK r;exact q p (.short c) f (by show c<n;omega) rfl k ((e.draw l m).same j)
  | move a b' n=>
   simp only [Dd.n]at H I J;simp only [lG,mem_cons,QZR,or_false]at u;rcases u with rfl|rfl|rfl
   ·refine⟨_,QYK A,_,rfl,aO rfl,λp f j k=>?_⟩;refine q p (.is2 z (n+o)) f ⟨Zo,Zo,Zo⟩ rfl ?_ (e.same j);rw[k];show some (HO.tup [V.str "is",.int (z:Int),.int ((n:Int)+(o:Int))])=some (HO.tup [V.str "is",.int (z:Int),.int ((n+o:Nat):Int)]);rw[show((n+o:Nat):Int)=(n:Int)+(o:Int) by omega]
   ·refine⟨d,b,(n:Int),rfl,e.dk,Zo,Zo,λc B r C l m=>⟨aO rfl,λp f j k=>?_⟩⟩;obtain⟨c,rfl⟩:=gK r;exact q p (.short c) f (by show c<n;omega) rfl k ((e.draw l m).same j)
   ·refine⟨⟨Zd,Zd,Zd⟩,d,b,(n:Int),rfl,e.dk,Zo,Zo,λc B r C l m=>⟨aO rfl,λp f j k=>?_⟩⟩;obtain⟨c,rfl⟩:=gK r;refine q p (.full (1000000000000-c)) f ⟨Zo,Zo⟩ rfl ?_ ((e.draw l m).same j);rw[k];show some (HO.tup [V.str "full",.int ((1000000000000:Int)-(c:Int))])=some (HO.tup [V.str "full",.int ((1000000000000-c:Nat):Int)]);rw[show((1000000000000-c:Nat):Int)=(1000000000000:Int)-(c:Int) by omega]
  | send h a n=>
   simp only [Dd.n]at H I J;simp only [lG,mem_cons,QZR,or_false]at u;rcases u with rfl|rfl|rfl
   ·refine⟨_,QYK A,_,rfl,⟨eL rfl,λp v=>⟨_,QYK (aL A v),_,rfl,aO rfl,λE N y F=>⟨E,_,rfl,.inr (QYK F),rfl,rfl,⟨_,QYJ (y _ _ aA),_,rfl,aO rfl,λG f j k=>?_⟩⟩⟩⟩⟩;exact q G (.is1 z) f (by show z+n<=1000000000000;omega) rfl k (((e.new v).same y).same j)
   ·refine⟨d,b,(n:Int),rfl,e.dk,Zo,Zo,λc B r C l m=>⟨aO rfl,λp f j k=>?_⟩⟩;obtain⟨c,rfl⟩:=gK r;exact q p (.short c) f (by show c<n;omega) rfl k ((e.draw l m).same j)
   ·refine⟨d,b,2,rfl,e.dk,Zd,Zd,λc B r C l m=>⟨_,QYK ((e.draw l m).tup gt),_,rfl,.inl ⟨Zo,Zo⟩,_,QYK ((e.draw l m).tup gt),.str h,?_,aO rfl,λp f j k=>?_⟩⟩
    ·show nC _ (1+c*0)=_;rw[Int.mul_zero];rfl
    ·exact q p (.no h) f rfl rfl k ((e.draw l m).same j)
  | fetch h a n=>
   simp only [Dd.n]at H I J;simp only [lG,mem_cons,QZR,or_false]at u;rcases u with rfl|rfl|rfl
   ·refine⟨_,QYK A,_,rfl,⟨eL rfl,λp v=>⟨_,QYK (aL A v),_,rfl,aO rfl,λE N y F=>⟨E,_,rfl,.inr (QYK F),rfl,rfl,⟨_,QYJ (y _ _ aA),_,rfl,aO rfl,λG f j k=>?_⟩⟩⟩⟩⟩;refine q G (.is1 (n+o)) f ⟨Zo,Zo⟩ rfl ?_ (((e.new v).same y).same j);rw[k];show some (HO.tup [V.str "is",.int ((n:Int)+(o:Int))])=some (HO.tup [V.str "is",.int ((n+o:Nat):Int)]);rw[show((n+o:Nat):Int)=(n:Int)+(o:Int) by omega]
   ·refine⟨⟨Zd,Zd,Zd⟩,d,b,(n:Int),rfl,e.dk,Zo,Zo,λc B r C l m=>⟨aO rfl,λp f j k=>?_⟩⟩;obtain⟨c,rfl⟩:=gK r;refine q p (.full (1000000000000-c)) f ⟨Zo,Zo⟩ rfl ?_ ((e.draw l m).same j);rw[k];show some (HO.tup [V.str "full",.int ((1000000000000:Int)-(c:Int))])=some (HO.tup [V.str "full",.int ((1000000000000-c:Nat):Int)]);rw[show((1000000000000-c:Nat):Int)=(1000000000000:Int)-(c:Int) by omega]
   ·refine⟨d,b,2,rfl,e.dk,Zd,Zd,λc B r C l m=>⟨_,QYK ((e.draw l m).tup gt),_,rfl,.inl ⟨Zo,Zo⟩,_,QYK ((e.draw l m).tup gt),.str h,?_,aO rfl,λp f j k=>?_⟩⟩
    ·show nC _ (1+c*0)=_;rw[Int.mul_zero];rfl
    ·exact q p (.no h) f rfl rfl k ((e.draw l m).same j)
  | pass h g a n=>
   simp only [Dd.n]at H I J;simp only [lG,mem_cons,QZR,or_false]at u;rcases u with rfl|rfl
   ·refine⟨aO rfl,λp f j k=>?_⟩;exact q p .ok f trivial rfl k (e.same j)
   ·refine⟨d,b,2,rfl,e.dk,Zd,Zd,λc B r C l m=>?_⟩;rcases(by omega:c=0∨c=1) with rfl|rfl
    ·refine⟨_,QYK ((e.draw l m).tup gt),_,rfl,.inl ⟨Zo,Zo⟩,_,QYK ((e.draw l m).tup gt),.str h,rfl,aO rfl,λp f j k=>?_⟩;exact q p (.no h) f (.inl rfl) rfl k ((e.draw l m).same j)
    ·refine⟨_,QYK ((e.draw l m).tup gt),_,rfl,.inl ⟨Zo,Zo⟩,_,QYK ((e.draw l m).tup gt),.str g,rfl,aO rfl,λp f j k=>?_⟩;exact q p (.no g) f (.inr rfl) rfl k ((e.draw l m).same j)
structure MenusAt(H:Hp)(lm:TD)(M:List TD):Prop where
 ex:∃(a0 a1 a2 a3:TD)(ws us ps ks:List Str),M=[lm,a0,a1,a2,a3]/\H lm=some (.lst [.ref a0,.ref a1,.ref a2,.ref a3])/\H a0=some (.lst (ws.map V.str))/\H a1=some (.lst (us.map V.str))/\H a2=some (.lst (ps.map V.str))/\H a3=some (.lst (ks.map V.str)) ∧
  Menu ws/\Menu us/\(1<=ps.length/\ps.length<=6/\∀z∈ps,gB z)/\1<=ks.length/\ks.length<=6/\∀z∈ks,zX z
def MenusAt.keep{H a:Hp}{b:TD}{M:List TD}(h:MenusAt H b M)(k:∀c∈M,∀o,H c=some o->a c=some o):MenusAt a b M:=by
 refine yE0 h.ex (yE8 λd e f g i j ps l=>yA7 λζ m n p q s r=>?_);subst ζ;exact⟨d,e,f,g,i,j,ps,l,rfl,k _ Zs _ m,k _ Zs _ n,k _ Zs _ p,k _ Zs _ q,k _ Zs _ s,r⟩
def Fw.menus{d b:TD}{H a:Hp}{g:TD}{M:List TD}(f:Fw d b H a)(j:d∉M)(k:b∉M)(h:MenusAt H g M):MenusAt a g M:=h.keep λc i o e=>f.get e (λz=>j (z▸i)) (λz=>k (z▸i))
def Fw.put{d b a:TD}{H g:Hp}{o:HO}(f:Fw d b H g)(h:H a=none):Fw d b H (aI g a o):=by
 have i:=f.d0.ne h;refine⟨f.d0,?_,λc u e j l=>?_⟩
 ·obtain⟨m,s,k,n,p,q⟩:=f.dk.ex;exact⟨m,s,k,by rw[aD (λz=>i.1 z.symm)];exact n,by rw[aD (λz=>i.2 z.symm)];exact p,q⟩
 ·rw[aD (aF e h)];exact f.kp _ _ e j l
def oW:Sp:=λvs H Q _=>∃(d b c:TD)(M:List TD),vs=[.ref d,.ref c]/\Dk H d b/\MenusAt H c M/\d∉M/\b∉M/\∀(t:TD)(p k:Str)(a:Hp),gB p->zX k->a t=some (.tup [.str p,.str k])->Fw d b H a->Q (.ref t) a
def Uz(T:Txt K mg)(m:aG P w K mg base 1 "_law_draw" QZN bS)(D:DefAt K mg "_law_spot" kN QZJ):aG P w K mg base 2 "_law_spot" QZJ oW:=by
 refine D.gg Ah (λa4 cdv a5 Z s H vs a7 a8 n h=>?_)
 ·obtain⟨d,b,g,a9,rfl,p,A,B,C,q⟩:=h;refine yE0 A.ex (yE8 λr u l a ws us ps E=>yA12 λζ j h1 h2 v x mw mu η k1 k6 F=>?_);subst ζ;obtain⟨p1,p6,pn⟩:=η;have k:∀c∈[g,r,u,l,a],c≠d/\c≠b:=λc f=>⟨λz=>B (z▸f),λz=>C (z▸f)⟩
  refine⟨_,(md (mi (mj (kx (li (og (K:=K)) (li (og (K:=K)) (ku 1) kz) (mf m n rfl (kx (ku 0) (kx (oi (o0 (K:=K)) rfl T.b_len bN (kx (li (og (K:=K)) (ku 1) kz) lg)) lg)))) (kx (li (og (K:=K)) (li (og (K:=K)) (ku 1) kz) (mf m n rfl (kx (ku 0) (kx (oi (o0 (K:=K)) rfl T.b_len bN (kx (li (og (K:=K)) (ku 1) kz) lg)) lg)))) lg))))),?_⟩;refine⟨_,QYJ j,_,rfl,_,QYJ j,_,rfl,_,.inl (QYJ v),d,b,(ps.length:Int),by rw[aS],p,Zo,Zo,λr1 G I J y L=>?_⟩;have f1:=(Fw.refl p).draw y L;have ge:∀c∈[g,r,u,l,a],∀o,H c=some o->G c=some o:=λc f o e=>f1.get e (k c f).1 (k c f).2
  obtain⟨i,M,rfl,N⟩:=jQ I J;refine⟨_,QYJ (ge l Zs _ v),_,N,?_⟩;refine⟨_,QYJ (ge g Zs _ j),_,rfl,_,QYJ (ge g Zs _ j),_,rfl,_,.inl (QYJ (ge a Zs _ x)),d,b,(E.length:Int),by rw[aS],y,Zo,Zo,λr2 H2 O Q R S=>?_⟩;have f2:=f1.draw R S;obtain⟨b0,U,rfl,V⟩:=jQ O Q;refine⟨_,QYJ (f2.get x (k a Zs).1 (k a Zs).2),_,V,aO rfl,λt W X Y=>?_⟩;exact q t _ _ W (pn _ (getElem_mem M)) (F _ (getElem_mem U)) Y (f2.same X)
def Fl:Sp:=λvs H Q _=>∃(d b e:TD)(M:List TD)(n t:Nat),vs=[.ref d,.ref e,.int (n:Int),.int (t:Int)]/\Dk H d b/\MenusAt H e M/\d∉M/\b∉M ∧
 ∀(a:TD)(p k:Str)(x:Dd)(y:An)(c:Hp),gB p->zX k->x.Ok->An.Of x y->RX.At c a (.kept n t p k x y)->Fw d b H c->Q (.ref a) c
def Fm(x:Dd)(q:Bool):∀z∈wF x q,z∈lG x:=by
 cases a:x.far with
 | false=>rw[Al x a];exact λz h=>h
 | true=>rw[Fk x a];exact λz h=>(mem_filter.mp h).1
def Am(x:Dd):1<=(wF x true++wF x false).length/\(wF x true++wF x false).length<=6:=by cases x<;>exact⟨QZV rfl,QZV rfl⟩
def Va(T:Txt K mg)(a6:aG P w K mg base 1 "_law_draw" QZN bS)(T4:aG P w K mg base 3 "_law_deed" QZs rT)(H:aG P w K mg base 1 "_law_words" QZb Ak)(vd:aG P w K mg base 3 "_law_answer" QZa Pa)(J5:aG P w K mg base 2 "_law_spot" QZJ oW)(D:DefAt K mg "_law_kept" kO QYY):aG P w K mg base 4 "_law_kept" QYY Fl:=by
 refine D.gg iY (λa8 cdv a9 outer s b0 vs b1 b2 a h=>?_)
 ·revert h;refine yE6 λd b I b3 n t=>yA6 λζ dk J o p a4=>?_;subst ζ;have QC:=J;refine yE0 J.ex (yE8 λe f a2 a3 ws us ps ks=>yA12 λζ L h1 h2 h3 h4 mw mu η k1 k6 kn=>?_);subst ζ;obtain⟨p1,p6,pn⟩:=η;have g:∀c∈[I,e,f,a2,a3],c≠d/\c≠b:=λc M=>⟨λz=>o (z▸M),λz=>p (z▸M)⟩
  refine⟨_,(lj (mh (i:=4) iY.nd (mf T4 a rfl (kx (ku 0) (kx (li (og (K:=K)) (ku 1) kz) (kx (li (og (K:=K)) (ku 1) kz) lg))))) (lj (mh (i:=5) iY.nd (me sn (mf H a rfl (kx (ku 4) (kx qw lg))) (mf H a rfl (kx (ku 4) (kx qw lg))))) (lj (mh (i:=6) iY.nd (mf vd a rfl (kx (ku 0) (kx (ku 4) (kx (li (og (K:=K)) (ku 5) (mf a6 a rfl (kx (ku 0) (kx (oi (o0 (K:=K)) rfl T.b_len bN (kx (ku 5) lg)) lg)))) lg))))) (md (mi (me wn (me wn (mj (kx lq (kx (ku 2) (kx (ku 3) lg)))) (mf J5 a rfl (kx (ku 0) (kx (ku 1) lg)))) (mj (kx (ku 4) (kx (ku 6) lg))))))))),?_⟩;refine⟨_,QYJ L,_,rfl,_,QYJ L,_,rfl,d,b,e,f,ws,us,rfl,dk,h1,h2,⟨(g e Zs).1,(g e Zs).2,(g f Zs).1,(g f Zs).2⟩,mw,mu,λj x H1 N q f1=>?_⟩;refine⟨j,x,true,rfl,q,λl1 H2 n1 g1 r=>⟨j,x,false,rfl,r _ _ q,λl2 u n2 g2 v=>⟨_,_,v _ _ g1,g2,?_,λl O=>?_⟩⟩⟩
  ·have:=Am x;rw[lZ]at this;rw[aS,aS];exact eZ Zo
  have Q:Same H1 (aI u l (.lst ((wF x true).map V.str++(wF x false).map V.str))):=(r.trans v).trans (aE O);have g3:(aI u l (.lst ((wF x true).map V.str++(wF x false).map V.str))) l=some (.lst ((wF x true++wF x false).map V.str)):=by rw[aA,dW]
  have m:=f1.same Q;have R:=(f1.same (r.trans v)).dk.ne O;have y:=Q _ _ q;dsimp only [aJ];generalize aI u l (.lst ((wF x true).map V.str++(wF x false).map V.str))=H4 at g3 m y;have w6:=Am x;refine⟨_,.inl (QYJ g3),d,b,((wF x true++wF x false).length:Int),by rw[aS],m.dk,Zo,Zo,λb4 H5 r0 r1 A S=>?_⟩;have f5:=m.draw A S;have B:=(Fw.refl m.dk).draw A S;obtain⟨i,hi,rfl,ei⟩:=jQ r0 r1;have hz:(wF x true++wF x false)[i]∈lG x:=by
   rcases Zma.mp (getElem_mem hi) with h|h
   ·exact Fm x _ _ h
   ·exact Fm x _ _ h
  refine⟨_,QYJ (B.get g3 R.1 R.2),_,ei,d,b,j,x,_,rfl,A,B.tup y,N,hz,λc a5 H6 hy _ gy U=>?_⟩;have WV:=f5.trans U;refine⟨aO rfl,λt1 H7 C g7=>?_⟩;have E:=WV.same C;refine⟨d,b,I,_,rfl,E.dk,E.menus o p QC,o,p,λt2 a7 k H8 hp hk g8 F=>?_⟩;refine⟨_,_,F.tup g7,g8,QZV rfl,λt3 H9 W g9=>⟨aO rfl,λt4 Ha G ga=>⟨_,_,G _ _ g9,ga,QZV rfl,λt5 X Y gb=>?_⟩⟩⟩;have Z:TK H7 X:=F.tk.trans (((Same.tk W).trans (Same.tk G)).trans (Same.tk Y));refine a4 t5 a7 k x a5 X hp hk N hy ⟨j,c,gb,?_,?_⟩ (((((E.trans F).same W).same G).same Y))
  ·exact Z _ _ (C _ _ (U.tup (B.tup y)))
  ·exact Z _ _ (C _ _ gy)
def Fw.free{d b a:TD}{H c:Hp}(f:Fw d b H c)(h:c a=none):H a=none:=by
 have g:=f.dk.ne h
 cases e:H a with
 | none=>rfl
 | some o=>rw[f.kp _ _ e g.1 g.2]at h;cases h
structure yH(rs:List RX):Prop where
 wh:RX.Whole rs
 ok:∀r∈rs,r.Ok
 rk:∀r∈rs,r.rank<=2
 len:rs.length<=13
 nx:∀n t,.next n t∈rs->n<=900006/\t<500000000000
structure Hd1(n t:Nat)(zs:List Str)(rs:List RX):Prop where
 wh:RX.Whole rs
 ok:∀r∈rs,r.Ok
 nx:∀n' t',.next n' t'∈rs->n'=n/\t'=t
 one:.next n t∈rs
 rk:∀r∈rs,r.rank<=1
 hs:∀z m,.has z m∈rs->z∈zs
def aH{a:Type}{xs:List a}{x y:a}(h:y∈xs++[x]):y∈xs∨y=x:=by
 rcases Zma.mp h with h|h
 ·exact .inl h
 ·exact .inr (Zms.mp h)
def Hd1.skip{n t:Nat}{zs:List Str}{rs:List RX}(h:Hd1 n t zs rs)(z:Str):Hd1 n t (zs++[z]) rs:=⟨h.wh,h.ok,h.nx,h.one,h.rk,λy m q=>QZU _ (h.hs y m q)⟩
def Hd1.step{n t:Nat}{zs:List Str}{rs:List RX}(h:Hd1 n t zs rs){z:Str}{m:Nat}(hz:∀y∈zs,y.cps.toList<z.cps.toList)(c:gB z)(d:1<=m)(e:m<=1000000000000):Hd1 n t (zs++[z]) (rs++[.has z m]):=by
 refine⟨h.wh.snoc ⟨h.rk,⟨n,t,h.one⟩,λb f q=>hz b (h.hs _ _ q)⟩,λr a=>?_,λg i a=>?_,QZU _ h.one,λr a=>?_,λb f a=>?_⟩
 ·rcases aH a with a|rfl
  ·exact h.ok r a
  ·exact⟨c,d,e⟩
 ·rcases aH a with a|a
  ·exact h.nx _ _ a
  ·cases a
 ·rcases aH a with a|rfl
  ·exact h.rk r a
  ·exact aZ _
 ·rcases aH a with a|a
  ·exact QZU _ (h.hs _ _ a)
  ·cases a;exact QZT _ gJ
structure Hd2(n t last:Nat)(rs:List RX):Prop where
 wh:RX.Whole rs
 ok:∀r∈rs,r.Ok
 nx:∀n' t',.next n' t'∈rs->n'=n/\t'=t
 one:.next n t∈rs
 rk:∀r∈rs,r.rank<=2
 kp:∀n' t' p k x y,.kept n' t' p k x y∈rs->n'<=last
def Hd2.more{n t a b:Nat}{rs:List RX}(h:Hd2 n t a rs)(c:a<=b):Hd2 n t b rs:=⟨h.wh,h.ok,h.nx,h.one,h.rk,λd e p k x y q=>gL (h.kp d e p k x y q) c⟩
def Hd2.step{n t b m u:Nat}{rs:List RX}(h:Hd2 n t b rs){p k:Str}{x:Dd}{y:An}(c:b<m)(g:m<n)(A:n<=900006)(i:u<=t)(B:t<=1000000000000)(j:gB p)(l:zX k)(o:x.Ok)(d:An.Of x y):Hd2 n t m (rs++[.kept m u p k x y]):=by
 refine⟨h.wh.snoc ⟨h.rk,⟨n,t,h.one,g,i⟩,λe f s v C z q=>oC (h.kp _ _ _ _ _ _ q) c,d⟩,λr a=>?_,λe f a=>?_,QZU _ h.one,λr a=>?_,λe f s v D z a=>?_⟩
 ·rcases aH a with a|rfl
  ·exact h.ok r a
  ·exact⟨Zo,Zo,Zo,j,l,o,d⟩
 ·rcases aH a with a|a
  ·exact h.nx _ _ a
  ·cases a
 ·rcases aH a with a|rfl
  ·exact h.rk r a
  ·exact aZ _
 ·rcases aH a with a|a
  ·exact le_of_lt (oC (h.kp _ _ _ _ _ _ a) c)
  ·cases a;exact aZ _
def aCp{zs:List Str}(hs:zs.Pairwise λa b=>a.cps.toList<=b.cps.toList)(k:zs.Nodup){i:Nat}{z:Str}(h:zs[i]?=some z):∀y∈zs.take i,y.cps.toList<z.cps.toList:=by
 intro y l;obtain⟨d,m⟩:=Zgs.mp h;obtain⟨j,n,e⟩:=getElem_of_mem l;rw[oA]at n;rw[List.getElem_take]at e;have f:=(pairwise_iff_getElem.mp hs) j i Zo d Zo;have g:=(pairwise_iff_getElem.mp k) j i Zo d Zo;rw[e,m]at f g;rcases List.le_iff_lt_or_eq.mp f with c|c
 ·exact c
 ·exact QZW (by rw[oJ y,oJ z,c]) g
def rV:Sp:=λvs H Q _=>∃(d b e:TD)(M:List TD),vs=[.ref d,.ref e]/\Dk H d b/\MenusAt H e M/\d∉M/\b∉M ∧
 ∀(a:TD)(f:List RX)(g:List TD)(c:Hp),H a=none->RxsAt c a f g->yH f->Fw d b H c->Q (.ref a) c
def Vb(T:Txt K mg)(C:aG P w K mg base 1 "_law_draw" QZN bS)(C0:aG P w K mg base 2 "_law_end" QZN bS)(AW:aG P w K mg base 4 "_law_kept" QYY Fl)(D:DefAt K mg "_law_head" kP QZJ):aG P w K mg base 5 "_law_head" QZJ rV:=by
 refine D.gg cS (λb6 cdv b7 outer s a4 vs b8 b9 c b4=>?_)
 ·revert b4;refine yE4 λd b H c2=>yA6 λζ dk hM hd hb a9=>?_;subst ζ;refine⟨_,(lj (mh (i:=2) cS.nd (li (og (K:=K)) (oh (kx (me oa kz (mf C c rfl (kx (ku 0) (kx kz lg)))) (kx (me oa kz (mf C c rfl (kx (ku 0) (kx kz lg)))) lg))) (mf C c rfl (kx (ku 0) (kx kz lg))))) (lj (mh (i:=3) cS.nd (mf C0 c rfl (kx (ku 0) (kx (me R.gm kz (me re kz kz)) lg)))) (lj (mh (i:=4) cS.nd (oh (kx (mj (kx lq (kx (ku 2) (kx (ku 3) lg)))) lg))) (lj (qr PassesOwn.never rfl (ot (K:=K) (oi (R.iw (K:=K)) rfl T.b_sorted pV (kx (li (og (K:=K)) (ku 1) kz) lg))) (ny (i:=5) cS.nd) (md (nv (mo J4 (mf C c rfl (kx (ku 0) (kx kz lg))) kz) (md (qu (qy (K:=K) PySem.F.plainAttrs_list PySem.F.slot_list_append PySem.F.type_list_append yy (ku 4) (kx (mj (kx lq (kx (ku 5) (kx (me oa kz (mf C0 c rfl (kx (ku 0) (kx (me re kz kz) lg)))) lg)))) lg)))) nw))) (lj (mh (i:=6) cS.nd kz) (lj (qr PassesOwn.never rfl (Q3 rfl T.b_range (kx (mf C c rfl (kx (ku 0) (kx kz lg))) lg)) (ny (i:=7) cS.nd) (lj (mh (i:=6) cS.nd (me oa (me oa (ku 6) kz) (li (og (K:=K)) (oh (kx kz (kx kz (kx (mf C c rfl (kx (ku 0) (kx kz lg))) lg)))) (mf C c rfl (kx (ku 0) (kx kz lg)))))) (md (nv (mo IN (ku 6) (ku 2)) (md (qu (qy (K:=K) PySem.F.plainAttrs_list PySem.F.slot_list_append PySem.F.type_list_append yy (ku 4) (kx (mf AW c rfl (kx (ku 0) (kx (ku 1) (kx (ku 6) (kx (mf C0 c rfl (kx (ku 0) (kx (me oa (ku 3) kz) lg))) lg))))) lg)))) nw)))) (md (mi (ku 4))))))))),?_⟩;refine bJ (λf h=>∃n:Nat,f=[some (.ref d),some (.ref H),some (.int (n:Int)),none,none,none,none,none]/\1<=n/\n<=900006/\Fw d b a4 h) (λnx a8=>?_) ?_
  ·refine⟨d,b,12,rfl,dk,Zd,Zd,λr1 H1 a0 I D1 k1=>⟨d,b,900000,rfl,D1,Zd,Zd,λr2 H2 b0 b1 U k2=>⟨eL rfl,λp u=>⟨d,b,2,rfl,U.new u,Zd,Zd,λr3 H3 c0 c1 D3 k3=>?_⟩⟩⟩⟩;have W:=U.ne u;have J:=k3 p _ aA W.1 W.2;have ff:=((((Fw.refl dk).draw D1 k1).draw U k2).new u).draw D3 k3;rcases(by omega:r3=0∨r3=1) with rfl|rfl
   ·refine⟨_,QYJ J,_,rfl,a8 _ _ ⟨(1+r1).toNat,?_,Zo,Zo,ff⟩⟩;rw[Int.toNat_of_nonneg Zo];rfl
   ·refine⟨_,QYJ J,_,rfl,a8 _ _ ⟨(7+r2).toNat,?_,Zo,Zo,ff⟩⟩;rw[Int.toNat_of_nonneg Zo];rfl
  ·refine λf H1=>yE1 λn=>yA4 λζ zr V2 f1=>?_;subst ζ;refine⟨⟨Zd,Zd,Zd⟩,.inl ⟨Zd,Zd⟩,d,b,500000000000,rfl,f1.dk,Zd,Zd,λt H2 t0 t1 U k2=>?_⟩;obtain⟨t,rfl⟩:=gK t0;have f2:=f1.draw U k2;refine⟨aO rfl,λI H3 s3 g3=>⟨eL rfl,λj FU=>?_⟩⟩;have f3:=f2.same s3;have X:=f3.free FU;have Y:=f3.new (o:=.lst [.ref I]) FU;have R4:RxsAt (aI H3 j (.lst [.ref I])) j [.next n t] [I]:=⟨aA,.cons (aL g3 FU) .nil⟩;dsimp only [aJ];generalize aI H3 j (.lst [.ref I])=H4 at Y R4;have QG:=Y.menus hd hb hM;have QC:=QG;refine yE0 QG.ex (yE8 λa0 a1' a2 a3 l us ps ks=>yA12 λζ h0 h1 h2 h3 h4 mw mu η k1 k6 kn=>?_);subst ζ;obtain⟨p1,p6,pn⟩:=η;refine bJ (λf h=>∃(a:List RX)(e:List TD)(v:Option V),f=[some (.ref d),some (.ref H),some (.int (n:Int)),some (.int (t:Int)),some (.ref j),v,none,none]/\RxsAt h j a e/\Fw d b a4 h/\a.length<=7/\Hd1 n t (nM l) a) (λnx a8=>?_) ?_
   ·refine⟨_,QYJ h0,_,rfl,l,.inl (QYJ h1),by have:=mw.six;omega,λls Z=>⟨ls,rfl,⟨_,QYJ aA⟩,?_⟩⟩;have WX:ls≠j:=(aF R4.lst Z).symm;have L:=Y.new (o:=.lst ((nM l).map V.str)) Z;have R5:=R4.same (aE (o:=.lst ((nM l).map V.str)) Z);have xb:=Y.dk.ne Z;have w6:=mw.six;have fls:=Y.free Z;refine cD (aY K ls ((nM l).map V.str)) (λi f h=>∃(a:List RX)(e:List TD)(v:Option V),f=[some (.ref d),some (.ref H),some (.int (n:Int)),some (.int (t:Int)),some (.ref j),v,none,none]/\RxsAt h j a e/\Fw d b a4 h/\h ls=some (.lst ((nM l).map V.str))/\a.length<=1+i/\Hd1 n t ((nM l).take i) a) (λi f h ⟨_,_,_,_,_,_,b5,_⟩=>QYJ b5)
     ⟨[.next n t],[I],_,rfl,R5,L,aA,aZ _,?_⟩ ?_ ?_
    ·refine⟨RX.Whole.snoc .nil rfl,λa5 c=>?_,λn' t' c=>?_,gJ,λa5 c=>?_,λz m c=>?_⟩
     ·rw[Zms.mp c];exact⟨zr,Zo,Zo⟩
     ·cases Zms.mp c;exact⟨rfl,rfl⟩
     ·rw[Zms.mp c];exact zero_le _
     ·cases Zms.mp c
    ·refine λi a7 f H6 E=>yE3 λa e v=>yA6 λζ M y g6 l6 FV=>?_;subst ζ;rw[fK]at E;cases N:(nM l)[i]? with
     | none=>rw[N]at E;cases E
     | some z=>
      rw[N]at E;cases E;have hi:i<(nM l).length:=(Zgs.mp N).1;rw[mF]at hi;have AX:z∈l:=(iB l).mem_iff.mp (jI N);have FW:=aCp (nN l) ((iB l).nodup_iff.mpr mw.of.nd) N;have j3:(nM l).take (i+1)=(nM l).take i++[z]:=by rw[List.take_add_one,N];rfl
      refine⟨d,b,3,rfl,y.dk,Zd,Zd,λa5 H7 r0 r1 D7 k7=>?_⟩;have A:=y.draw D7 k7;have F7:=(Fw.refl y.dk).draw D7 k7;have q:=y.d0.ne X;have x:=M.keep F7.tk (F7.get M.lst q.1 q.2);have g7:=F7.get g6 xb.1 xb.2;refine bA (λ_=>?_) (λ_=>?_)
      ·refine⟨.inl ⟨rfl,_,QYJ x.lst⟩,⟨Zd,Zd,Zd⟩,d,b,1000000000000,rfl,D7,Zd,Zd,λm H8 m0 m1 O k8=>⟨aO rfl,λta H9 s9 g9=>?_⟩⟩;obtain⟨m,rfl⟩:=gK m0;have Q:=A.draw O k8;have F8:=(Fw.refl D7).draw O k8;have B:=Q.same s9;have r:=(x.keep F8.tk (F8.get x.lst q.1 q.2)).same s9;have WY:=s9 _ _ (F8.get g7 xb.1 xb.2);have lr:=r.len;refine⟨j,_,_,rfl,rfl,r.lst,by rw[aS];exact oC (m:=1000) Zo Zd,?_⟩;refine⟨a++[.has z (1+m)],e++[ta],_,rfl,r.snoc (fN r.lst) ?_ aA,B.put X,by rw[aD WX];exact WY,by simp;omega,?_⟩
       ·have:=fN r.lst (ys:=e.map V.ref++[.ref ta]) _ _ g9;show _=some (HO.tup [V.str "has",.str z,.int ((1+m:Nat):Int)]);rw[this,show((1+m:Nat):Int)=1+(m:Int) by omega]
       ·rw[j3];exact FV.step FW (mw.of.of z AX) Zo Zo
      ·refine⟨a,e,_,rfl,x,A,g7,Zo,?_⟩;rw[j3];exact FV.skip z
    ·refine λf H6=>yE3 λa e v=>yA6 λζ M y g6 l6 FV=>?_;subst ζ;refine a8 _ _ ⟨a,e,v,rfl,M,y,?_,?_⟩
     ·rw[aS,mF]at l6;omega
     ·rw[aS,iI (aZ _)]at FV;exact FV
   ·refine λf H5=>yE3 λa e v=>yA5 λζ R5 L l5 S=>?_;subst ζ;have q:=L.d0.ne X;refine⟨d,b,7,rfl,L.dk,Zd,Zd,λr7 H6 r0 r1 D6 k6=>⟨r7,rfl,Zo,Zo,?_⟩⟩;have F6:=(Fw.refl L.dk).draw D6 k6;have y:=L.draw D6 k6;have M:=R5.keep F6.tk (F6.get R5.lst q.1 q.2);refine cD (eV 0 r7.toNat) (λi f h=>∃(a:List RX)(e:List TD)(g:Nat)(o7:Option V),f=[some (.ref d),some (.ref H),some (.int (n:Int)),some (.int (t:Int)),some (.ref j),v,some (.int (g:Int)),o7]/\RxsAt h j a e/\Fw d b a4 h/\a.length<=7+i/\g<=9*i/\Hd2 n t g a) (λ_ _ _ _=>trivial)
     ⟨a,e,0,_,rfl,M,y,Zo,aZ _,⟨S.wh,S.ok,S.nx,S.one,λa5 c=>le_succ_of_le (S.rk a5 c),λn' t' p k a7 b3 a9=>QZW (S.rk _ a9) (by show ¬ (2<=1);decide)⟩⟩ ?_ ?_
    ·refine λi a7 f H7 E=>yE4 λa e g o7=>yA6 λζ x A l7 WZ F=>?_;subst ζ;obtain⟨rfl,hi⟩:=nS E;dsimp only [aJ];refine bJ (λf h=>∃(m:Nat),f=[some (.ref d),some (.ref H),some (.int (n:Int)),some (.int (t:Int)),some (.ref j),v,some (.int (m:Int)),some (.int (i:Int))]/\g<m/\m<=g+9/\RxsAt h j a e/\Fw d b a4 h) (λCZ w5=>?_) ?_
     ·refine⟨d,b,9,rfl,A.dk,Zd,Zd,λr8 H8 x0 x1 O k8=>⟨eL rfl,λp u=>⟨d,b,3,rfl,O.new u,Zd,Zd,λr9 H9 y0 y1 D9 k9=>?_⟩⟩⟩;obtain⟨r8,rfl⟩:=gK x0;have W:=O.ne u;have J:=k9 p _ aA W.1 W.2;have G:=(((Fw.refl A.dk).draw O k8).new u).draw D9 k9;have r:=x.keep G.tk (G.get x.lst q.1 q.2);have B:=A.trans G;rcases(by omega:r9=0∨r9=1∨r9=2) with rfl|rfl|rfl
      ·refine⟨_,QYJ J,_,rfl,w5 _ _ ⟨g+1,?_,Zo,Zo,r,B⟩⟩;rw[show((g+1:Nat):Int)=(g:Int)+1+0 by omega];rfl
      ·refine⟨_,QYJ J,_,rfl,w5 _ _ ⟨g+1,?_,Zo,Zo,r,B⟩⟩;rw[show((g+1:Nat):Int)=(g:Int)+1+0 by omega];rfl
      ·refine⟨_,QYJ J,_,rfl,w5 _ _ ⟨g+1+r8,?_,Zo,Zo,r,B⟩⟩;rw[show((g+1+r8:Nat):Int)=(g:Int)+1+(r8:Int) by omega];rfl
     ·refine λf H8=>yE1 λm=>yA5 λζ m1 m2 R8 Q=>?_;subst ζ;refine bA (λl9=>?_) (λ_=>?_)
      ·have yd:m<n:=by have:=U6 l9;omega
       refine⟨.inl ⟨rfl,_,QYJ R8.lst⟩,d,b,(t:Int)+1,rfl,Q.dk,Zo,Zo,λb2 H9 u0 u1 D9 k9=>?_⟩;obtain⟨b2,rfl⟩:=gK u0;have G:=(Fw.refl Q.dk).draw D9 k9;have B:=Q.trans G;have r:=R8.keep G.tk (G.get R8.lst q.1 q.2);refine⟨d,b,H,_,m,b2,rfl,D9,B.menus hd hb hM,hd,hb,λta p k a7 b3 Ha u hk XD hy at_ fa=>?_⟩;have Ra:=r.keep fa.tk (fa.get r.lst q.1 q.2);have lr:=Ra.len;refine⟨j,_,_,rfl,rfl,Ra.lst,by rw[aS];exact oC (m:=1000) Zo Zd,?_⟩;refine⟨a++[.kept m b2 p k a7 b3],e++[ta],m,_,rfl,Ra.snoc (fN Ra.lst) (at_.tk (fN Ra.lst)) aA,(B.trans fa).put X,by simp;omega,Zo,?_⟩;exact F.step m1 yd V2 Zo Zo u hk XD hy
      ·exact⟨a,e,m,_,rfl,R8,Q,Zo,Zo,F.more (le_of_lt m1)⟩
    ·refine λf H7=>yE4 λa e g o7=>yA6 λζ x A l7 WZ F=>?_;subst ζ;refine a9 j a e H7 X x ⟨F.wh,F.ok,F.rk,?_,λn' t' c=>?_⟩ A
     ·rw[gA]at l7;omega
     ·obtain⟨rfl,rfl⟩:=F.nx _ _ c;exact⟨Zo,Zo⟩
def Cu:("abcdefghijklmnopqrstuvwxyz":Str)=tx LET:=by rw[oJ ("abcdefghijklmnopqrstuvwxyz":Str),Ce]
def Vc:("abcdefghijklmnopqrstuvwxyz":Str)++("0123456789":Str)=tx KLET:=by rw[oJ ("abcdefghijklmnopqrstuvwxyz":Str),Ce,oJ ("0123456789":Str),aAq,xL];rfl
def mN{H:Hp}{a l:TD}{b:List Str}{xs:List TD}(c:H a=some (.lst (b.map V.str)))(d:1<=b.length)(f:H l=some (.lst (xs.map V.ref))):a≠l:=by
 intro e;rw[e,f]at c;cases b with
 | nil=>cases d
 | cons w b=>
  cases xs with
  | nil=>cases c
  | cons x xs=>cases c
def aAR:LET.Nodup:=by decide
def aCq:KLET.Nodup:=by decide
def Ao:Sp:=λvs H Q _=>∃(d b:TD),vs=[.ref d]/\Dk H d b/\∀(c:TD)(M:List TD)(a:Hp),MenusAt a c M->d∉M->b∉M->Fw d b H a->Q (.ref c) a
def aCr{d a b c e f:TD}(g:a≠d)(i:b≠d)(j:c≠d)(k:e≠d)(l:f≠d):d∉[a,b,c,e,f]:=by
 intro h;simp only [mem_cons,QZR,or_false]at h;rcases h with h|h|h|h|h
 ·exact g h.symm
 ·exact i h.symm
 ·exact j h.symm
 ·exact k h.symm
 ·exact l h.symm
def WordsOf.nm{a:List Str}(h:WordsOf LET 8 a):∀z∈a,gB z:=λz b=>h.of z b
def WordsOf.ky{a:List Str}(h:WordsOf KLET 12 a):∀z∈a,zX z:=λz b=>h.of z b
def Pb(T:Txt K mg)(z:aG P w K mg base 1 "_law_draw" QZN bS)(A:aG P w K mg base 2 "_law_unlike" QZc wE)(D:DefAt K mg "_law_menus" iQ QYZ):aG P w K mg base 3 "_law_menus" QYZ Ao:=by
 refine D.gg kS (λa7 cdv a8 outer s a9 vs b0 b1 k a4=>?_)
 ·obtain⟨d,b,rfl,W,a5⟩:=a4;refine⟨_,(lj (mh (i:=1) kS.nd lq) (lj (mh (i:=2) kS.nd (oh (kx (mf A k rfl (kx (ku 0) (kx (ku 1) (kx kz (kx (me oa kz (mf z k rfl (kx (ku 0) (kx kz lg)))) lg))))) lg))) (lj (qu (qy (K:=K) PySem.F.plainAttrs_list PySem.F.slot_list_append PySem.F.type_list_append yy (ku 2) (kx (mf A k rfl (kx (ku 0) (kx (ku 1) (kx kz (kx (me oa kz (mf z k rfl (kx (ku 0) (kx kz lg)))) lg))))) lg))) (lj (qu (qy (K:=K) PySem.F.plainAttrs_list PySem.F.slot_list_append PySem.F.type_list_append yy (ku 2) (kx (mf A k rfl (kx (ku 0) (kx (ku 1) (kx kz (kx (me oa kz (mf z k rfl (kx (ku 0) (kx kz lg)))) lg))))) lg))) (lj (qu (qy (K:=K) PySem.F.plainAttrs_list PySem.F.slot_list_append PySem.F.type_list_append yy (ku 2) (kx (mf A k rfl (kx (ku 0) (kx (me R.iu (ku 1) lq) (kx kz (kx (me oa kz (mf z k rfl (kx (ku 0) (kx kz lg)))) lg))))) lg))) (md (mi (ku 2)))))))),?_⟩;refine⟨d,b,5,rfl,W,Zd,Zd,λr H1 n J X e1=>?_⟩;obtain⟨r,rfl⟩:=gK n;refine⟨d,b,LET,8,2+r,by rw[<- Cu,show((2+r:Nat):Int)=2+(r:Int) by omega];rfl,X,Zo,Zo,Zd,aAR,by show 2+r<=26;omega,Zd,λa Y Z hw lw g B C D2 e2=>⟨eL rfl,λc p=>?_⟩⟩;have f2:=((Fw.refl W).draw X e1).draw D2 e2;have l:=D2.ne p;have E:=f2.new (o:=.lst [.ref a]) p;have f:(aI Z c (.lst [.ref a])) c=some (.lst ([a].map V.ref)):=aA;replace g:=aL (u:=.lst [.ref a]) g p;dsimp only [aJ];generalize aI Z c (.lst [.ref a])=H3 at E f g;refine⟨.inl ⟨rfl,_,QYJ f⟩,d,b,5,rfl,E.dk,Zd,Zd,λt H4 n J L e4=>?_⟩;obtain⟨t,rfl⟩:=gK n;refine⟨d,b,LET,8,2+t,by rw[<- Cu,show((2+t:Nat):Int)=2+(t:Int) by omega];rfl,L,Zo,Zo,Zd,aAR,by show 2+t<=26;omega,Zd,λe us F hu lu g1 M N D5 e5=>?_⟩;have f5:=(E.draw L e4).draw D5 e5;have F5:=((Fw.refl E.dk).draw L e4).draw D5 e5;replace f:=F5.get f l.1 l.2;replace g:=F5.get g B C;have O:=mN g Zo f;have Q:=mN g1 Zo f;refine⟨c,_,_,rfl,rfl,f,oC (m:=100) (QZV rfl) Zd,?_⟩;have G:=f5.put (f2.free p) (o:=.lst ([a].map V.ref++[.ref e]));replace f:(aI F c (.lst ([a].map V.ref++[.ref e]))) c=some (.lst ([a,e].map V.ref)):=aA;replace g:(aI F c (.lst ([a].map V.ref++[.ref e]))) a=_:=(aD O).trans g;replace g1:(aI F c (.lst ([a].map V.ref++[.ref e]))) e=_:=(aD Q).trans g1;generalize aI F c (.lst ([a].map V.ref++[.ref e]))=H6 at G f g g1;refine⟨.inl ⟨rfl,_,QYJ f⟩,d,b,6,rfl,G.dk,Zd,Zd,λv H7 n J S e7=>?_⟩;obtain⟨v,rfl⟩:=gK n;refine⟨d,b,LET,8,1+v,by rw[<- Cu,show((1+v:Nat):Int)=1+(v:Int) by omega];rfl,S,Zo,Zo,Zd,aAR,by show 1+v<=26;omega,Zd,λh ps x hp lp g2 n2 m2 D8 e8=>?_⟩;have f8:=(G.draw S e7).draw D8 e8;have U:=((Fw.refl G.dk).draw S e7).draw D8 e8;replace f:=U.get f l.1 l.2;replace g:=U.get g B C;replace g1:=U.get g1 M N;have QH:=mN g2 Zo f;refine⟨c,_,_,rfl,rfl,f,oC (m:=100) (QZV rfl) Zd,?_⟩;have H:=f8.put (f2.free p) (o:=.lst ([a,e].map V.ref++[.ref h]));replace f:(aI x c (.lst ([a,e].map V.ref++[.ref h]))) c=some (.lst ([a,e,h].map V.ref)):=aA;replace g:(aI x c (.lst ([a,e].map V.ref++[.ref h]))) a=_:=(aD O).trans g;replace g1:(aI x c (.lst ([a,e].map V.ref++[.ref h]))) e=_:=(aD Q).trans g1;replace g2:(aI x c (.lst ([a,e].map V.ref++[.ref h]))) h=_:=(aD QH).trans g2;generalize aI x c (.lst ([a,e].map V.ref++[.ref h]))=H9 at H f g g1 g2;refine⟨.inl ⟨rfl,_,QYJ f⟩,eZ Zk,d,b,6,rfl,H.dk,Zd,Zd,λy Ha n J Da ea=>?_⟩;obtain⟨y,rfl⟩:=gK n;refine⟨d,b,KLET,12,1+y,by rw[<- Vc,show((1+y:Nat):Int)=1+(y:Int) by omega];rfl,Da,Zo,Zo,Zd,aCq,by show 1+y<=36;omega,Zd,λj ks q hk lk g3 n3 m3 Db eb=>?_⟩;have fb:=(H.draw Da ea).draw Db eb;have I:=((Fw.refl H.dk).draw Da ea).draw Db eb;replace f:=I.get f l.1 l.2;replace g:=I.get g B C;replace g1:=I.get g1 M N;replace g2:=I.get g2 n2 m2;have XF:=mN g3 Zo f;refine⟨c,_,_,rfl,rfl,f,oC (m:=100) (QZV rfl) Zd,?_⟩;have fc:=fb.put (f2.free p) (o:=.lst ([a,e,h].map V.ref++[.ref j]));replace f:(aI q c (.lst ([a,e,h].map V.ref++[.ref j]))) c=some (.lst ([a,e,h,j].map V.ref)):=aA;replace g:(aI q c (.lst ([a,e,h].map V.ref++[.ref j]))) a=_:=(aD O).trans g;replace g1:(aI q c (.lst ([a,e,h].map V.ref++[.ref j]))) e=_:=(aD Q).trans g1;replace g2:(aI q c (.lst ([a,e,h].map V.ref++[.ref j]))) h=_:=(aD QH).trans g2;replace g3:(aI q c (.lst ([a,e,h].map V.ref++[.ref j]))) j=_:=(aD XF).trans g3;generalize aI q c (.lst ([a,e,h].map V.ref++[.ref j]))=Hc at fc f g g1 g2 g3;have mw:Menu Y:=⟨hw,Zo,Zo⟩;have mu:Menu us:=⟨hu,Zo,Zo⟩;have hM:MenusAt Hc c [c,a,e,h,j]:=⟨a,e,h,j,Y,us,ps,ks,rfl,f,g,g1,g2,g3,mw,mu,⟨Zo,Zo,hp.nm⟩,Zo,Zo,hk.ky⟩;have od:=aCr l.1 B M n2 n3;have ob:=aCr l.2 C N m2 m3;exact a5 c _ Hc hM od ob fc
def eF(f:Str->Nat)(z:Str)(v:Nat):Str->Nat:=λy=>if y=z then v else f y
def aT(f:Str->Nat):Dd->Option An
 | .add a n=>if 1000000000000<f a+n then some (.full (f a)) else some (.is1 (f a+n))
 | .take a n=>if f a<n then some (.short (f a)) else some (.is1 (f a-n))
 | .move a b n=>if f a<n then some (.short (f a)) else if 1000000000000<f b+n then some (.full (f b)) else some (.is2 (f a-n) (f b+n))
 | .send _ a n=>if f a<n then some (.short (f a)) else none
 | .fetch _ a n=>if 1000000000000<f a+n then some (.full (f a)) else none
 | .pass _ _ _ _=>none
def bO(f:Str->Nat):Dd->List An
 | .send h a n=>[.no h,.is1 (f a-n)]
 | .fetch h a n=>[.no h,.is1 (f a+n)]
 | .pass h g _ _=>[.no h,.no g,.ok]
 | _=>[]
def after(f:Str->Nat):Dd->An->(Str->Nat)
 | .add a n,.is1 _=>eF f a (f a+n)
 | .take a n,.is1 _=>eF f a (f a-n)
 | .move a b n,.is2 _ _=>eF (eF f a (f a-n)) b (f b+n)
 | .send _ a n,.is1 _=>eF f a (f a-n)
 | .fetch _ a n,.is1 _=>eF f a (f a+n)
 | _,_=>f
def iE(f:Str->Nat)(x:Dd)(q:Bool)(y:An):Prop:=(q=false/\aT f x=some y)∨(q=true/\aT f x=none/\y∈bO f x)
def BookIs(kvs:List (aV×V))(f:Str->Nat):Prop:=∀z:Str,(bB kvs (Sum.inr z)).getD (.int 0)=.int (f z:Int)
def dg{H:Hp}{bk:TD}{kvs:List (aV×V)}{f:Str->Nat}(a:H bk=some (.dK kvs))(b:BookIs kvs f)(z:Str):∃o,DGet H bk (.str z) o/\o.getD (.int 0)=.int (f z:Int):=⟨_,DGet.k (k:=Sum.inr z) a,b z⟩
def Fn{H:Hp}{bk:TD}{kvs:List (aV×V)}(a:H bk=some (.dK kvs)):IsD H bk:=.inl ⟨_,.inl a⟩
def tO{f:Str->Nat}(c:∀z,f z<=1000000000000){x:Dd}(m:x.Ok){q:Bool}{y:An}(h:iE f x q y)(i:q=true->x.far=true):An.Of x y/\(x.far=true->(q=true↔y.early=false)):=by
 rcases h with⟨rfl,h⟩|⟨rfl,d,e⟩
 ·cases x with
  | add a n=>
   simp only [aT]at h;have:=c a;split at h<;>cases h
   ·exact⟨⟨Zo,Zo⟩,λz=>nomatch z⟩
   ·exact⟨⟨Zo,Zo⟩,λz=>nomatch z⟩
  | take a n=>
   simp only [aT]at h;have:=c a;split at h<;>cases h
   ·exact⟨by show f a<n;omega,λz=>nomatch z⟩
   ·exact⟨by show f a-n+n<=1000000000000;omega,λz=>nomatch z⟩
  | move a b n=>
   simp only [aT]at h;have:=c a;have:=c b;split at h
   ·cases h;exact⟨by show f a<n;omega,λz=>nomatch z⟩
   ·split at h<;>cases h
    ·exact⟨⟨Zo,Zo⟩,λz=>nomatch z⟩
    ·exact⟨⟨Zo,Zo,Zo⟩,λz=>nomatch z⟩
  | send g a n=>
   simp only [aT]at h;split at h<;>cases h;exact⟨by show f a<n;omega,λ_=>⟨nofun,nofun⟩⟩
  | fetch g a n=>
   simp only [aT]at h;have:=c a;split at h<;>cases h;exact⟨⟨Zo,Zo⟩,λ_=>⟨nofun,nofun⟩⟩
  | pass g k a n=>cases h
 ·cases x with
  | add a n=>cases i rfl
  | take a n=>cases i rfl
  | move a b n=>cases i rfl
  | send g a n=>
   have:=c a;simp only [aT]at d;simp only [bO,mem_cons,QZR,or_false]at e;have l:n<=f a:=by
    by_cases j:f a<n
    ·rw[QZY j]at d;cases d
    ·omega
   rcases e with rfl|rfl
   ·exact⟨rfl,λ_=>⟨λ_=>rfl,λ_=>rfl⟩⟩
   ·exact⟨by show f a-n+n<=1000000000000;omega,λ_=>⟨λ_=>rfl,λ_=>rfl⟩⟩
  | fetch g a n=>
   simp only [aT]at d;simp only [bO,mem_cons,QZR,or_false]at e;have l:¬ 1000000000000<f a+n:=by
    intro j;rw[QZY j]at d;cases d
   rcases e with rfl|rfl
   ·exact⟨rfl,λ_=>⟨λ_=>rfl,λ_=>rfl⟩⟩
   ·exact⟨⟨Zo,Zo⟩,λ_=>⟨λ_=>rfl,λ_=>rfl⟩⟩
  | pass g k a n=>
   simp only [bO,mem_cons,QZR,or_false]at e;rcases e with rfl|rfl|rfl
   ·exact⟨.inl rfl,λ_=>⟨λ_=>rfl,λ_=>rfl⟩⟩
   ·exact⟨.inr rfl,λ_=>⟨λ_=>rfl,λ_=>rfl⟩⟩
   ·exact⟨trivial,λ_=>⟨λ_=>rfl,λ_=>rfl⟩⟩
def gY{f:Str->Nat}{z:Str}{v:Nat}(a:∀z,f z<=1000000000000)(b:v<=1000000000000):∀y,eF f z v y<=1000000000000:=λy=>by
 unfold eF;split
 ·exact b
 ·exact a y
def tP{f:Str->Nat}(c:∀z,f z<=1000000000000){x:Dd}{q:Bool}{y:An}(h:iE f x q y):∀z,after f x y z<=1000000000000:=by
 rcases h with⟨rfl,h⟩|⟨rfl,e,d⟩
 ·cases x with
  | add a n=>
   simp only [aT]at h;split at h<;>cases h
   ·exact c
   ·exact gY c Zo
  | take a n=>
   simp only [aT]at h;have:=c a;split at h<;>cases h
   ·exact c
   ·exact gY c Zo
  | move a b n=>
   simp only [aT]at h;have:=c a;split at h
   ·cases h;exact c
   ·split at h<;>cases h
    ·exact c
    ·exact gY (gY c Zo) Zo
  | send g a n=>
   simp only [aT]at h;split at h<;>cases h;exact c
  | fetch g a n=>
   simp only [aT]at h;split at h<;>cases h;exact c
  | pass g k a n=>cases h
 ·cases x with
  | add a n=>cases d
  | take a n=>cases d
  | move a b n=>cases d
  | send g a n=>
   have:=c a;simp only [bO,mem_cons,QZR,or_false]at d;rcases d with rfl|rfl
   ·exact c
   ·exact gY c Zo
  | fetch g a n=>
   simp only [aT]at e;simp only [bO,mem_cons,QZR,or_false]at d;have j:¬ 1000000000000<f a+n:=by
    intro i;rw[QZY i]at e;cases e
   rcases d with rfl|rfl
   ·exact c
   ·exact gY c Zo
  | pass g k a n=>
   simp only [bO,mem_cons,QZR,or_false]at d;rcases d with rfl|rfl|rfl<;>exact c
def BookIs.put{kvs:List (aV×V)}{f:Str->Nat}(h:BookIs kvs f)(z:Str)(v:Nat):BookIs (bI kvs (Sum.inr z) (.int (v:Int))) (eF f z v):=λy=>by
 rw[cZ];unfold eF;by_cases e:y=z
 ·rw[QZY (by rw[e]),QZY e];rfl
 ·rw[QZX (λc=>e (by injection c)),QZX e];exact h y
def tQ:Sp:=λvs H Q _=>∃(bk t:TD)(b:List (aV×V))(f:Str->Nat)(x:Dd),vs=[.ref bk,.ref t]/\H bk=some (.dK b)/\BookIs b f/\H t=some (.tup x.vs) ∧
 (∀y c a,aT f x=some y->Same H a->a c=some (.tup y.vs)->Q (.ref c) a)/\(aT f x=none->∀a,Same H a->Q .non a)
def Pd(T:Txt K mg)(D:DefAt K mg "_law_early" iR QZC):aG P w K mg base 1 "_law_early" QZC tQ:=by
 refine D.gg fI (λf cdv a2 outer s H vs a3 a4 Z h=>?_)
 ·revert h;refine yE5 λbk t kvs f a0=>yA6 λζ d L gt C U=>?_;subst ζ;have Q:=dH Z;refine⟨_,(lj (mh (i:=2) fI.nd (li (lx (K:=K)) (ku 1) (oj kz))) (lj (mh (i:=3) fI.nd (li (lx (K:=K)) (ku 1) (oj kz))) (lj (nv (mo nz (li (lx (K:=K)) (ku 1) kz) lq) (md (mh (i:=3) fI.nd (li (lx (K:=K)) (ku 1) kz))) nw) (lj (mh (i:=4) fI.nd (K8 Q (ku 0) (ku 3) kz)) (lj (nv (qv (ww (mo (qt (K:=K)) (li (lx (K:=K)) (ku 1) kz) (mj (kx lq (kx lq (kx lq lg))))) (AT (mo IN (ku 4) (ku 2))))) (md (mi (mj (kx lq (kx (ku 4) lg))))) nw) (lj (nv (qv (ww (mo (qt (K:=K)) (li (lx (K:=K)) (ku 1) kz) (mj (kx lq (kx lq lg)))) (AT (mo J4 (me oa (ku 4) (ku 2)) (me re kz kz))))) (md (mi (mj (kx lq (kx (ku 4) lg))))) nw) (lj (nv (qv (ww (mo nz (li (lx (K:=K)) (ku 1) kz) lq) (AT (mo J4 (me oa (K8 Q (ku 0) (li (lx (K:=K)) (ku 1) kz) kz) (ku 2)) (me re kz kz))))) (md (mi (mj (kx lq (kx (K8 Q (ku 0) (li (lx (K:=K)) (ku 1) kz) kz) lg))))) nw) (lj (nv (mo nz (li (lx (K:=K)) (ku 1) kz) lq) (md (mi (mj (kx lq (kx (me uf (ku 4) (ku 2)) (kx (me oa (K8 Q (ku 0) (li (lx (K:=K)) (ku 1) kz) kz) (ku 2)) lg)))))) nw) (lj (nv (mo (qt (K:=K)) (li (lx (K:=K)) (ku 1) kz) (mj (kx lq (kx lq lg)))) (md (mi (mj (kx lq (kx (me oa (ku 4) (li (og (K:=K)) (oh (kx (ku 2) (kx (oj (ku 2)) lg))) (zn R.ib rfl T.b_int pW (kx (om nz (li (lx (K:=K)) (ku 1) kz) lq) lg)))) lg))))) nw) (md (mi ue))))))))))),?_⟩
  cases a0 with
  | add a n=>
   refine⟨_,QYK gt,_,rfl,⟨_,QYK gt,_,rfl,⟨_,QYK gt,_,rfl,?_⟩⟩⟩;obtain⟨o,q,r⟩:=dg d L a;refine⟨bk,rfl,Fn d,o,q,?_⟩;rw[r];refine⟨_,QYK gt,_,rfl,aO rfl,λu v x g1=>⟨u,_,rfl,.inr (QYK g1),rfl,rfl,?_⟩⟩;have e:Same H v:=x;have y:=e _ _ gt;have N:=e _ _ d;refine⟨_,QYK y,_,rfl,aO rfl,λz A B g2=>⟨z,_,rfl,.inr (QYK g2),rfl,rfl,?_⟩⟩;have g:Same H A:=e.trans B;have j:=g _ _ gt;have E:=g _ _ d;refine⟨⟨Zd,Zd,Zd⟩,?_⟩;refine bA (λh=>?_) (λh=>?_)
   ·have F:(1000000000000:Int)<(f a:Int)+(n:Int):=U6 h;exact⟨aO rfl,λc l m p=>C (.full (f a)) c l (QZY Zo) (g.trans m) p⟩
   ·have F:¬ (1000000000000:Int)<(f a:Int)+(n:Int):=U0 h;refine⟨_,QYK j,_,rfl,_,QYK j,_,rfl,?_⟩;refine⟨_,QYK j,_,rfl,aO rfl,λG I J g3=>⟨G,_,rfl,.inr (QYK g3),rfl,rfl,?_⟩⟩;have k:Same H I:=g.trans J;have M:=k _ _ gt;have S:=k _ _ d;refine⟨eL rfl,λa1 O=>⟨_,QYK (aL M O),_,rfl,_,QYJ aA,_,rfl,aO rfl,λc l m p=>?_⟩⟩;refine C (.is1 (f a+n)) c l (QZX Zo) ((k.trans (aE O)).trans m) ?_;rw[p];show some (HO.tup [V.str "is",.int ((f a:Int)+(n:Int))])=some (HO.tup [V.str "is",.int ((f a+n:Nat):Int)]);rw[show((f a+n:Nat):Int)=(f a:Int)+(n:Int) by omega]
  | take a n=>
   refine⟨_,QYK gt,_,rfl,⟨_,QYK gt,_,rfl,⟨_,QYK gt,_,rfl,?_⟩⟩⟩;obtain⟨o,q,r⟩:=dg d L a;refine⟨bk,rfl,Fn d,o,q,?_⟩;rw[r];refine⟨_,QYK gt,_,rfl,aO rfl,λu v x g1=>⟨u,_,rfl,.inr (QYK g1),rfl,rfl,?_⟩⟩;have e:Same H v:=x;have y:=e _ _ gt;have N:=e _ _ d;refine bA (λh=>?_) (λh=>?_)
   ·have F:(f a:Int)<(n:Int):=U6 h;exact⟨aO rfl,λc l m p=>C (.short (f a)) c l (QZY Zo) (e.trans m) p⟩
   ·have F:¬ (f a:Int)<(n:Int):=U0 h;refine⟨_,QYK y,_,rfl,aO rfl,λz A B g2=>⟨z,_,rfl,.inr (QYK g2),rfl,rfl,?_⟩⟩;have g:Same H A:=e.trans B;have j:=g _ _ gt;have E:=g _ _ d;refine⟨_,QYK j,_,rfl,_,QYK j,_,rfl,?_⟩;refine⟨_,QYK j,_,rfl,aO rfl,λG I J g3=>⟨G,_,rfl,.inr (QYK g3),rfl,rfl,?_⟩⟩;have k:Same H I:=g.trans J;have M:=k _ _ gt;have S:=k _ _ d;refine⟨eL rfl,λa1 O=>⟨_,QYK (aL M O),_,rfl,_,QYJ aA,_,rfl,aO rfl,λc l m p=>?_⟩⟩;refine C (.is1 (f a-n)) c l (QZX Zo) ((k.trans (aE O)).trans m) ?_;rw[p];show some (HO.tup [V.str "is",.int ((f a:Int)+-(n:Int))])=some (HO.tup [V.str "is",.int ((f a-n:Nat):Int)]);rw[show((f a-n:Nat):Int)=(f a:Int)+-(n:Int) by omega]
  | move a b n=>
   refine⟨_,QYK gt,_,rfl,⟨_,QYK gt,_,rfl,⟨_,QYK gt,_,rfl,⟨_,QYK gt,_,rfl,?_⟩⟩⟩⟩;obtain⟨o,q,r⟩:=dg d L a;refine⟨bk,rfl,Fn d,o,q,?_⟩;rw[r];refine⟨_,QYK gt,_,rfl,aO rfl,λu v x g1=>⟨u,_,rfl,.inr (QYK g1),rfl,rfl,?_⟩⟩;have e:Same H v:=x;have y:=e _ _ gt;have N:=e _ _ d;refine bA (λh=>?_) (λh=>?_)
   ·have F:(f a:Int)<(n:Int):=U6 h;exact⟨aO rfl,λc l m p=>C (.short (f a)) c l (QZY Zo) (e.trans m) p⟩
   ·have F:¬ (f a:Int)<(n:Int):=U0 h;refine⟨_,QYK y,_,rfl,aO rfl,λz A B g2=>⟨z,_,rfl,.inr (QYK g2),rfl,rfl,?_⟩⟩;have g:Same H A:=e.trans B;have j:=g _ _ gt;have E:=g _ _ d;obtain⟨W,X,Y⟩:=dg E L b;refine⟨_,QYK j,_,rfl,bk,rfl,Fn E,_,QYK j,_,rfl,W,X,?_⟩;rw[Y];refine⟨⟨Zd,Zd,Zd⟩,?_⟩;refine bA (λh=>?_) (λh=>?_)
    ·have XH:(1000000000000:Int)<(f b:Int)+(n:Int):=U6 h;refine⟨bk,rfl,Fn E,_,QYK j,_,rfl,W,X,?_⟩;rw[Y];exact⟨aO rfl,λc l m p=>C (.full (f b)) c l ((QZX Zo).trans (QZY Zo)) (g.trans m) p⟩
    ·have XH:¬ (1000000000000:Int)<(f b:Int)+(n:Int):=U0 h;refine⟨_,QYK j,_,rfl,bk,rfl,Fn E,_,QYK j,_,rfl,W,X,?_⟩;rw[Y];refine⟨aO rfl,λc l m p=>?_⟩;refine C (.is2 (f a-n) (f b+n)) c l ((QZX Zo).trans (QZX Zo)) (g.trans m) ?_;rw[p];show some (HO.tup [V.str "is",.int ((f a:Int)-(n:Int)),.int ((f b:Int)+(n:Int))])=some (HO.tup [V.str "is",.int ((f a-n:Nat):Int),.int ((f b+n:Nat):Int)]);rw[show((f a-n:Nat):Int)=(f a:Int)-(n:Int) by omega,show((f b+n:Nat):Int)=(f b:Int)+(n:Int) by omega]
  | send h a n=>
   refine⟨_,QYK gt,_,rfl,⟨_,QYK gt,_,rfl,⟨_,QYK gt,_,rfl,?_⟩⟩⟩;obtain⟨o,q,r⟩:=dg d L a;refine⟨bk,rfl,Fn d,o,q,?_⟩;rw[r];refine⟨_,QYK gt,_,rfl,aO rfl,λu v x g1=>⟨u,_,rfl,.inr (QYK g1),rfl,rfl,?_⟩⟩;have e:Same H v:=x;have y:=e _ _ gt;have N:=e _ _ d;refine bA (λh=>?_) (λh=>?_)
   ·have F:(f a:Int)<(n:Int):=U6 h;exact⟨aO rfl,λc l m p=>C (.short (f a)) c l (QZY Zo) (e.trans m) p⟩
   ·have F:¬ (f a:Int)<(n:Int):=U0 h;refine⟨_,QYK y,_,rfl,aO rfl,λz A B g2=>⟨z,_,rfl,.inr (QYK g2),rfl,rfl,?_⟩⟩;have g:Same H A:=e.trans B;have j:=g _ _ gt;have E:=g _ _ d;refine⟨_,QYK j,_,rfl,_,QYK j,_,rfl,?_⟩;refine⟨_,QYK j,_,rfl,aO rfl,λG I J g3=>⟨G,_,rfl,.inr (QYK g3),rfl,rfl,?_⟩⟩;have k:Same H I:=g.trans J;have M:=k _ _ gt;have S:=k _ _ d;exact U (QZX Zo) _ k
  | fetch h a n=>
   refine⟨_,QYK gt,_,rfl,⟨_,QYK gt,_,rfl,⟨_,QYK gt,_,rfl,?_⟩⟩⟩;obtain⟨o,q,r⟩:=dg d L a;refine⟨bk,rfl,Fn d,o,q,?_⟩;rw[r];refine⟨_,QYK gt,_,rfl,aO rfl,λu v x g1=>⟨u,_,rfl,.inr (QYK g1),rfl,rfl,?_⟩⟩;have e:Same H v:=x;have y:=e _ _ gt;have N:=e _ _ d;refine⟨_,QYK y,_,rfl,aO rfl,λz A B g2=>⟨z,_,rfl,.inr (QYK g2),rfl,rfl,?_⟩⟩;have g:Same H A:=e.trans B;have j:=g _ _ gt;have E:=g _ _ d;refine⟨⟨Zd,Zd,Zd⟩,?_⟩;refine bA (λh=>?_) (λh=>?_)
   ·have F:(1000000000000:Int)<(f a:Int)+(n:Int):=U6 h;exact⟨aO rfl,λc l m p=>C (.full (f a)) c l (QZY Zo) (g.trans m) p⟩
   ·have F:¬ (1000000000000:Int)<(f a:Int)+(n:Int):=U0 h;refine⟨_,QYK j,_,rfl,_,QYK j,_,rfl,?_⟩;refine⟨_,QYK j,_,rfl,aO rfl,λG I J g3=>⟨G,_,rfl,.inr (QYK g3),rfl,rfl,?_⟩⟩;have k:Same H I:=g.trans J;have M:=k _ _ gt;have S:=k _ _ d;exact U (QZX Zo) _ k
  | pass h a5 a n=>
   refine⟨_,QYK gt,_,rfl,⟨_,QYK gt,_,rfl,⟨_,QYK gt,_,rfl,?_⟩⟩⟩;obtain⟨o,q,r⟩:=dg d L a;refine⟨bk,rfl,Fn d,o,q,?_⟩;rw[r];refine⟨_,QYK gt,_,rfl,aO rfl,λu v x g1=>⟨u,_,rfl,.inr (QYK g1),rfl,rfl,?_⟩⟩;have e:Same H v:=x;have y:=e _ _ gt;have N:=e _ _ d;refine⟨_,QYK y,_,rfl,aO rfl,λz A B g2=>⟨z,_,rfl,.inr (QYK g2),rfl,rfl,?_⟩⟩;have g:Same H A:=e.trans B;have j:=g _ _ gt;have E:=g _ _ d;refine⟨_,QYK j,_,rfl,_,QYK j,_,rfl,?_⟩;refine⟨_,QYK j,_,rfl,aO rfl,λG I J g3=>⟨G,_,rfl,.inr (QYK g3),rfl,rfl,?_⟩⟩;have k:Same H I:=g.trans J;have M:=k _ _ gt;have S:=k _ _ d;exact U (rfl) _ k
def Ap:Sp:=λvs H Q _=>∃(bk t:TD)(b:List (aV×V))(f:Str->Nat)(x:Dd),vs=[.ref bk,.ref t]/\H bk=some (.dK b)/\BookIs b f/\H t=some (.tup x.vs)/\x.far=true/\aT f x=none ∧
 ∀(l:TD)(d:List TD)(a:Hp),H l=none->a l=some (.lst (d.map V.ref))->Paired (λy c=>a c=some (.tup (An.vs y))) (bO f x) d->Same H a->Q (.ref l) a
def Pe(T:Txt K mg)(D:DefAt K mg "_law_lates" iU QZC):aG P w K mg base 1 "_law_lates" QZC Ap:=by
 refine D.gg oV (λf U A S s H vs Q E M h=>?_)
 ·revert h;refine yE5 λbk t W f x=>yA7 λζ u I gt v y q=>?_;subst ζ;have N:=dH M;refine⟨_,(lj (nv (mo nz (li (lx (K:=K)) (ku 1) kz) lq) (md (mi (oh (kx (mj (kx lq (kx (li (lx (K:=K)) (ku 1) kz) lg))) (kx (mj (kx lq (kx (li (lx (K:=K)) (ku 1) kz) lg))) (kx (mj (kx lq lg)) lg)))))) nw) (lj (mh (i:=2) oV.nd (me oa (K8 N (ku 0) (li (lx (K:=K)) (ku 1) kz) kz) (li (og (K:=K)) (oh (kx (li (lx (K:=K)) (ku 1) kz) (kx (oj (li (lx (K:=K)) (ku 1) kz)) lg))) (zn R.ib rfl T.b_int pW (kx (om nz (li (lx (K:=K)) (ku 1) kz) lq) lg))))) (md (mi (oh (kx (mj (kx lq (kx (li (lx (K:=K)) (ku 1) kz) lg))) (kx (mj (kx lq (kx (ku 2) lg))) lg))))))),?_⟩
  cases x with
  | add a n=>cases v
  | take a n=>cases v
  | move a b n=>cases v
  | pass h g a n=>
   refine⟨_,QYK gt,_,rfl,_,QYK gt,_,rfl,aO rfl,λm J k g1=>⟨_,QYK (k _ _ gt),_,rfl,aO rfl,λr L d g2=>⟨aO rfl,λO X B g3=>⟨eL rfl,λl c=>?_⟩⟩⟩⟩;have e:=(k.trans d).trans B;exact q l [m,r,O] _ (e.free c) aA (.cons (aL (B _ _ (d _ _ g1)) c) (.cons (aL (B _ _ g2) c) (.cons (aL g3 c) .nil))) (e.trans (aE c))
  | send h a n=>
   have Y:¬ f a<n:=λz=>by simp only [aT]at y;rw[QZY z]at y;cases y
   obtain⟨o,C,F⟩:=dg u I a;refine⟨_,QYK gt,_,rfl,bk,rfl,Fn u,_,QYK gt,_,rfl,o,C,?_⟩;rw[F];refine⟨_,QYK gt,_,rfl,_,QYK gt,_,rfl,eL rfl,λp j=>⟨_,QYK (aL gt j),_,rfl,_,QYJ aA,_,rfl,?_⟩⟩;have G:=aE (o:=.lst [.int (n:Int),.int (-(n:Int))]) j;refine⟨_,QYK (aL gt j),_,rfl,aO rfl,λm J k g1=>⟨aO rfl,λr L d g2=>⟨eL rfl,λl c=>?_⟩⟩⟩;have e:=(G.trans k).trans d;refine q l [m,r] _ (e.free c) aA (.cons (aL (d _ _ g1) c) (.cons ?_ .nil)) (e.trans (aE c));rw[aL g2 c];show some (HO.tup [V.str "is",.int ((f a:Int)+-(n:Int))])=some (HO.tup [V.str "is",.int ((f a-n:Nat):Int)]);rw[show((f a-n:Nat):Int)=(f a:Int)+-(n:Int) by omega]
  | fetch h a n=>
   obtain⟨o,C,F⟩:=dg u I a;refine⟨_,QYK gt,_,rfl,bk,rfl,Fn u,_,QYK gt,_,rfl,o,C,?_⟩;rw[F];refine⟨_,QYK gt,_,rfl,_,QYK gt,_,rfl,eL rfl,λp j=>⟨_,QYK (aL gt j),_,rfl,_,QYJ aA,_,rfl,?_⟩⟩;have G:=aE (o:=.lst [.int (n:Int),.int (-(n:Int))]) j;refine⟨_,QYK (aL gt j),_,rfl,aO rfl,λm J k g1=>⟨aO rfl,λr L d g2=>⟨eL rfl,λl c=>?_⟩⟩⟩;have e:=(G.trans k).trans d;refine q l [m,r] _ (e.free c) aA (.cons (aL (d _ _ g1) c) (.cons ?_ .nil)) (e.trans (aE c));rw[aL g2 c];show some (HO.tup [V.str "is",.int ((f a:Int)+(n:Int))])=some (HO.tup [V.str "is",.int ((f a+n:Nat):Int)]);rw[show((f a+n:Nat):Int)=(f a:Int)+(n:Int) by omega]
def nH:Dd->An->List (Str×Int)
 | .add a n,.is1 _=>[(a,(n:Int))]
 | .take a n,.is1 _=>[(a,-(n:Int))]
 | .move a b n,.is2 _ _=>[(a,-(n:Int)),(b,(n:Int))]
 | .send _ a n,.is1 _=>[(a,-(n:Int))]
 | .fetch _ a n,.is1 _=>[(a,(n:Int))]
 | _,_=>[]
def aCs(H:Hp)(c:Str×Int)(p:TD):Prop:=H p=some (.tup [.str c.1,.int c.2])
def nT:Sp:=λvs H Q _=>∃(t c:TD)(x:Dd)(y:An),vs=[.ref t,.ref c]/\H t=some (.tup x.vs)/\H c=some (.tup y.vs)/\An.Of x y ∧
 ∀(l:TD)(ps:List TD)(a:Hp),H l=none->a l=some (.lst (ps.map V.ref))->Paired (aCs a) (nH x y) ps->Same H a->Q (.ref l) a
def Xh(y:An):nC y.vs 0=some (.str (vI y)):=by cases y<;>rfl
def tT{y:An}(h:vI y="is"):(∃m,y=.is1 m)∨∃l m,y=.is2 l m:=by
 cases y with
 | is1 m=>exact .inl ⟨m,rfl⟩
 | is2 l m=>exact .inr ⟨l,m,rfl⟩
 | short m=>exact QZW (show("short":Str)="is" from h) Zk
 | full m=>exact QZW (show("full":Str)="is" from h) Zk
 | no m=>exact QZW (show("no":Str)="is" from h) Zk
 | ok=>exact QZW (show("ok":Str)="is" from h) Zk
def Aq(T:Txt K mg)(D:DefAt K mg "_law_changes" fX QZr):aG P w K mg base 1 "_law_changes" QZr nT:=by
 refine D.gg tM (λf M A L s H vs Q E N h=>?_)
 ·obtain⟨t,c,x,y,rfl,gt,G,z,q⟩:=h;refine⟨_,(lj (nv (mo P1 (li (lx (K:=K)) (ku 1) kz) lq) (md (mi (oh lg))) nw) (lj (nv (mo nz (li (lx (K:=K)) (ku 0) kz) lq) (md (mi (oh (kx (mj (kx (li (lx (K:=K)) (ku 0) kz) (kx (oj (li (lx (K:=K)) (ku 0) kz)) lg))) (kx (mj (kx (li (lx (K:=K)) (ku 0) kz) (kx (li (lx (K:=K)) (ku 0) kz) lg))) lg))))) nw) (md (mi (oh (kx (mj (kx (li (lx (K:=K)) (ku 0) (oj kz)) (kx (li (og (K:=K)) (oh (kx (li (lx (K:=K)) (ku 0) (oj kz)) (kx (oj (li (lx (K:=K)) (ku 0) (oj kz))) lg))) (zn R.ib rfl T.b_int pW (kx (om (qt (K:=K)) (li (lx (K:=K)) (ku 0) kz) (mj (kx lq (kx lq lg)))) lg))) lg))) lg)))))),?_⟩;refine⟨_,QYK G,_,Xh y,?_⟩;by_cases o:vI y="is"
  ·show if (!decide (vI y="is"))=true then _ else _
   refine xO (by rw[UV o];rfl) ?_
   cases x with
   | add a n=>
    rcases tT o with⟨m,rfl⟩|⟨l,m,rfl⟩
    ·refine⟨_,QYK gt,_,rfl,_,QYK gt,_,rfl,_,QYK gt,_,rfl,_,QYK gt,_,rfl,eL rfl,λp i=>⟨_,QYK (aL gt i),_,rfl,aO rfl,λu C j v=>⟨u,_,rfl,.inr (QYK v),rfl,rfl,_,QYJ (j _ _ aA),_,rfl,aO rfl,λr B k g1=>⟨eL rfl,λl d=>?_⟩⟩⟩⟩;have S:=((aE i).trans j).trans k;exact q l [r] _ (S.free d) aA (.cons (aL g1 d) .nil) (S.trans (aE d))
    ·exact z.elim
   | take a n=>
    rcases tT o with⟨m,rfl⟩|⟨l,m,rfl⟩
    ·refine⟨_,QYK gt,_,rfl,_,QYK gt,_,rfl,_,QYK gt,_,rfl,_,QYK gt,_,rfl,eL rfl,λp i=>⟨_,QYK (aL gt i),_,rfl,aO rfl,λu C j v=>⟨u,_,rfl,.inr (QYK v),rfl,rfl,_,QYJ (j _ _ aA),_,rfl,aO rfl,λr B k g1=>⟨eL rfl,λl d=>?_⟩⟩⟩⟩;have S:=((aE i).trans j).trans k;exact q l [r] _ (S.free d) aA (.cons (aL g1 d) .nil) (S.trans (aE d))
    ·exact z.elim
   | send h a n=>
    rcases tT o with⟨m,rfl⟩|⟨l,m,rfl⟩
    ·refine⟨_,QYK gt,_,rfl,_,QYK gt,_,rfl,_,QYK gt,_,rfl,_,QYK gt,_,rfl,eL rfl,λp i=>⟨_,QYK (aL gt i),_,rfl,aO rfl,λu C j v=>⟨u,_,rfl,.inr (QYK v),rfl,rfl,_,QYJ (j _ _ aA),_,rfl,aO rfl,λr B k g1=>⟨eL rfl,λl d=>?_⟩⟩⟩⟩;have S:=((aE i).trans j).trans k;exact q l [r] _ (S.free d) aA (.cons (aL g1 d) .nil) (S.trans (aE d))
    ·exact z.elim
   | fetch h a n=>
    rcases tT o with⟨m,rfl⟩|⟨l,m,rfl⟩
    ·refine⟨_,QYK gt,_,rfl,_,QYK gt,_,rfl,_,QYK gt,_,rfl,_,QYK gt,_,rfl,eL rfl,λp i=>⟨_,QYK (aL gt i),_,rfl,aO rfl,λu C j v=>⟨u,_,rfl,.inr (QYK v),rfl,rfl,_,QYJ (j _ _ aA),_,rfl,aO rfl,λr B k g1=>⟨eL rfl,λl d=>?_⟩⟩⟩⟩;have S:=((aE i).trans j).trans k;exact q l [r] _ (S.free d) aA (.cons (aL g1 d) .nil) (S.trans (aE d))
    ·exact z.elim
   | move a b n=>
    rcases tT o with⟨m,rfl⟩|⟨I,m,rfl⟩
    ·exact z.elim
    ·refine⟨_,QYK gt,_,rfl,_,QYK gt,_,rfl,_,QYK gt,_,rfl,aO rfl,λr B k g1=>⟨_,QYK (k _ _ gt),_,rfl,_,QYK (k _ _ gt),_,rfl,aO rfl,λJ O F g2=>⟨eL rfl,λl d=>?_⟩⟩⟩;have S:=k.trans F;exact q l [r,J] _ (S.free d) aA (.cons (aL (F _ _ g1) d) (.cons (aL g2 d) .nil)) (S.trans (aE d))
   | pass h g a n=>rcases tT o with⟨m,rfl⟩|⟨I,m,rfl⟩<;>exact z.elim
  ·show if (!decide (vI y="is"))=true then _ else _
   refine Ie (by rw[UF o];rfl) ?_;refine⟨eL rfl,λl d=>?_⟩;have e:nH x y=[]:=by cases x<;>cases y<;>first|rfl|exact QZW rfl o
   exact q l [] _ d aA (by rw[e];exact .nil) (aE d)
def fQ(f:Str->Nat)(c:Str×Int):Str->Nat:=eF f c.1 ((f c.1:Int)+c.2).toNat
def tV(f:Str->Nat)(a:List (Str×Int)):Str->Nat:=a.foldl fQ f
def Ar:(Str->Nat)->List (Str×Int)->Prop
 | _,[]=>True
 | f,c::a=>0<=(f c.1:Int)+c.2/\Ar (fQ f c) a
def jA{f:Str->Nat}{x:Dd}{q:Bool}{y:An}(j:x.Ok)(h:iE f x q y):tV f (nH x y)=after f x y/\Ar f (nH x y):=by
 rcases h with⟨rfl,h⟩|⟨rfl,d,c⟩
 ·cases x with
  | add a n=>
   simp only [aT]at h;split at h<;>cases h
   ·exact⟨rfl,trivial⟩
   ·refine⟨?_,by show(0:Int)<=_+_;omega,trivial⟩;show eF f a ((f a:Int)+(n:Int)).toNat=eF f a (f a+n);rw[show((f a:Int)+(n:Int)).toNat=f a+n by omega]
  | take a n=>
   simp only [aT]at h;split at h<;>cases h
   ·exact⟨rfl,trivial⟩
   ·refine⟨?_,by show(0:Int)<=(f a:Int)+-(n:Int);omega,trivial⟩;show eF f a ((f a:Int)+-(n:Int)).toNat=eF f a (f a-n);rw[show((f a:Int)+-(n:Int)).toNat=f a-n by omega]
  | move a b n=>
   have l:b≠a:=λz=>j.2.2.1 z.symm
   simp only [aT]at h;split at h
   ·cases h;exact⟨rfl,trivial⟩
   ·split at h<;>cases h
    ·exact⟨rfl,trivial⟩
    ·have e:fQ f (a,-(n:Int)) b=f b:=by unfold fQ eF;exact QZX l
     refine⟨?_,by show(0:Int)<=(f a:Int)+-(n:Int);omega,?_,trivial⟩
     ·show fQ (fQ f (a,-(n:Int))) (b,(n:Int))=eF (eF f a (f a-n)) b (f b+n);have i:fQ f (a,-(n:Int))=eF f a (f a-n):=by
       unfold fQ;rw[show((f a:Int)+-(n:Int)).toNat=f a-n by omega]
      unfold fQ at e ⊢;dsimp only at e ⊢;rw[e,show((f b:Int)+(n:Int)).toNat=f b+n by omega];unfold fQ at i;rw[i]
     ·show(0:Int)<=(fQ f (a,-(n:Int)) b:Int)+(n:Int);omega
  | send g a n=>
   simp only [aT]at h;split at h<;>cases h;exact⟨rfl,trivial⟩
  | fetch g a n=>
   simp only [aT]at h;split at h<;>cases h;exact⟨rfl,trivial⟩
  | pass g k a n=>cases h
 ·cases x with
  | add a n=>cases c
  | take a n=>cases c
  | move a b n=>cases c
  | send g a n=>
   simp only [aT]at d;simp only [bO,mem_cons,QZR,or_false]at c;have o:¬ f a<n:=by
    intro m;rw[QZY m]at d;cases d
   rcases c with rfl|rfl
   ·exact⟨rfl,trivial⟩
   ·refine⟨?_,by show(0:Int)<=(f a:Int)+-(n:Int);omega,trivial⟩;show eF f a ((f a:Int)+-(n:Int)).toNat=eF f a (f a-n);rw[show((f a:Int)+-(n:Int)).toNat=f a-n by omega]
  | fetch g a n=>
   simp only [bO,mem_cons,QZR,or_false]at c;rcases c with rfl|rfl
   ·exact⟨rfl,trivial⟩
   ·refine⟨?_,by show(0:Int)<=(f a:Int)+(n:Int);omega,trivial⟩;show eF f a ((f a:Int)+(n:Int)).toNat=eF f a (f a+n);rw[show((f a:Int)+(n:Int)).toNat=f a+n by omega]
  | pass g k a n=>
   simp only [bO,mem_cons,QZR,or_false]at c;rcases c with rfl|rfl|rfl<;>exact⟨rfl,trivial⟩
def kT(x:Dd)(y:An):(nH x y).length<=2:=by cases x<;>cases y<;>exact QZV rfl
def nU:Sp:=λvs H Q _=>∃(bk t c:TD)(a:List (aV×V))(f:Str->Nat)(x:Dd)(y:An),vs=[.ref bk,.ref t,.ref c]/\H bk=some (.dK a)/\BookIs a f/\a.length<=900/\H t=some (.tup x.vs)/\H c=some (.tup y.vs)/\An.Of x y/\Ar f (nH x y) ∧
 ∀(b:List (aV×V))(d:Hp),d bk=some (.dK b)->BookIs b (tV f (nH x y))->b.length<=a.length+2->K1 bk H d->Q .non d
def Cv(T:Txt K mg)(Z:aG P w K mg base 1 "_law_changes" QZr nT)(D:DefAt K mg "_law_changed" eC QZA):aG P w K mg base 2 "_law_changed" QZA nU:=by
 refine D.gg cN (λf cdv a3 outer s a4 vs a5 a6 O a0=>?_)
 ·revert a0;refine yE7 λbk t c N f x y=>yA9 λζ E hB hl gt gc hy hG a1=>?_;subst ζ;have Q:=dH O;refine⟨_,(md (qr PassesOwn.never rfl (ot (K:=K) (mf Z O rfl (kx (ku 1) (kx (ku 2) lg)))) (FM (K:=K) (n:=2) rfl (qp (ny (i:=3) cN.nd) (qp (ny (i:=4) cN.nd) FS))) (md (ut (me oa (K8 Q (ku 0) (ku 3) kz) (ku 4)) (u8 (ku 0) (ku 3) (yx Q)))))),?_⟩;refine⟨t,c,x,y,rfl,gt,gc,hy,λl ps R fl g1 S F=>⟨l,rfl,⟨_,QYJ g1⟩,?_⟩⟩;have AZ:bk≠l:=aF E fl;have h2:=kT x y;have ml:(nH x y).length=ps.length:=S.length;refine cD (aY K l (ps.map V.ref)) (λi o q=>∃(a:List (aV×V))(g:Str->Nat)(G H:Option V),o=[some (.ref bk),some (.ref t),some (.ref c),G,H]/\q bk=some (.dK a)/\BookIs a g/\a.length<=N.length+i/\Ar g ((nH x y).drop i)/\tV g ((nH x y).drop i)=tV f (nH x y)/\K1 bk R q/\q l=some (.lst (ps.map V.ref))) (λi o q ⟨_,_,_,_,_,_,_,_,_,_,_,e⟩=>QYJ e)
   ⟨N,f,_,_,rfl,F _ _ E,hB,aZ _,hG,rfl,(λ_ _ e _=>e),g1⟩ ?_ ?_
  ·refine λi v o U d=>yE4 λa g G H=>yA8 λζ h r W u b A X=>?_;subst ζ;rw[fK]at d;cases I:ps[i]? with
   | none=>rw[I]at d;cases d
   | some p=>
    rw[I]at d;cases d;obtain⟨hi,ei⟩:=Zgs.mp I;obtain⟨Q5,J⟩:=Paired.get' (j:=i) S hi;rw[ei]at J;generalize AD:(nH x y)[i]=cc at J;obtain⟨z,B⟩:=cc;have L:R p=some (.tup [.str z,.int B]):=J;have qa:=A _ _ L (λe=>by rw[e,F _ _ E]at L;cases L);have ed:(nH x y).drop i=(z,B)::(nH x y).drop (i+1):=by rw[List.drop_eq_getElem_cons Q5,AD]
    rw[ed]at u b;refine⟨p,_,rfl,QYK qa,rfl,_,_,rfl,_,_,rfl,rfl,?_⟩;obtain⟨a2,ho,eo⟩:=dg h r z;refine⟨bk,rfl,Fn h,a2,ho,?_⟩;rw[eo];refine⟨bk,_,rfl,DPut.k (k:=Sum.inr z) h (oC (m:=1000) Zo Zd),?_⟩;have e0:(0:Int)<=(g z:Int)+B:=u.1;have Y:=r.put z ((g z:Int)+B).toNat;rw[Int.toNat_of_nonneg e0]at Y;refine⟨_,_,_,_,rfl,aA,Y,gL (cR _ _ _) Zo,u.2,b,λc' o' M C=>?_,?_⟩
    ·rw[aD C];exact A _ _ M C
    ·rw[aD AZ.symm];exact X
  ·refine λo U=>yE4 λa g G H=>yA8 λζ h r W u b A X=>?_;subst ζ;rw[aS]at W b;rw[<- ml,drop_length]at b;refine a1 a U h ?_ Zo (λc' o' M C=>A _ _ (F _ _ M) C);rw[<- b];exact r
def Xi:Dd->Nat->Dd
 | .add a _,m=>.add a m|.take a _,m=>.take a m|.move a b _,m=>.move a b m|.send h a _,m=>.send h a m|.fetch h a _,m=>.fetch h a m|.pass h g a _,m=>.pass h g a m
def Pf{x:Dd}{m:Nat}(h:x.Ok)(d:1<=m)(e:m<=1000000000000):(Xi x m).Ok:=by
 cases x with
 | add a n=>exact⟨h.1,d,e⟩
 | take a n=>exact⟨h.1,d,e⟩
 | move a b n=>exact⟨h.1,h.2.1,h.2.2.1,d,e⟩
 | send a b n=>exact⟨h.1,h.2.1,d,e⟩
 | fetch a b n=>exact⟨h.1,h.2.1,d,e⟩
 | pass a b c n=>exact⟨h.1,h.2.1,h.2.2.1,h.2.2.2.1,d,e⟩
def Pg(x:Dd)(m:Nat):jZ x.vs none (some (-1))++[.int (m:Int)]=(Xi x m).vs:=by cases x<;>rfl
def aDq(x:Dd):∃z:Str,nC x.vs (-2)=some (.str z):=by cases x<;>exact⟨_,rfl⟩
def lS:Sp:=λvs H Q _=>∃(d b bk t:TD)(e:List (aV×V))(f:Str->Nat)(x:Dd),vs=[.ref d,.ref bk,.ref t]/\Dk H d b/\H bk=some (.dK e)/\BookIs e f/\H t=some (.tup x.vs)/\x.Ok ∧
 ∀(g:TD)(a:Dd)(c:Hp),a.Ok->a.far=x.far->c g=some (.tup a.vs)->Fw d b H c->Q (.ref g) c
def Dk.dict{H:Hp}{d b a:TD}{kvs:List (aV×V)}(D:Dk H d b)(g:H a=some (.dK kvs)):a≠d/\a≠b:=by
 obtain⟨h,s,k,c,f,i⟩:=D.ex;exact⟨(λe=>by rw[e,c]at g;cases g),(λe=>by rw[e,f]at g;cases g)⟩
def Fw.dict{d b a:TD}{H c:Hp}{kvs:List (aV×V)}(f:Fw d b H c)(g:H a=some (.dK kvs)):c a=some (.dK kvs):=f.get g (Dk.dict f.d0 g).1 (Dk.dict f.d0 g).2
def Ph(T:Txt K mg)(g:aG P w K mg base 1 "_law_draw" QZN bS)(D:DefAt K mg "_law_sized" iV QZq):aG P w K mg base 2 "_law_sized" QZq lS:=by
 refine D.gg dR (λf cdv a3 outer s a0 vs a4 a5 e h=>?_)
 ·revert h;refine yE7 λd b bk t kvs f x=>yA7 λζ j I J gt L a1=>?_;subst ζ;have M:=dH e;refine⟨_,(lj (mh (i:=3) dR.nd (li (lx (K:=K)) (ku 2) (oj kz))) (lj (nv (mo nz (li (lx (K:=K)) (ku 2) kz) lq) (md (mh (i:=3) dR.nd (li (lx (K:=K)) (ku 2) (me oa kz (mf g e rfl (kx (ku 0) (kx kz lg))))))) nw) (lj (mh (i:=4) dR.nd (K8 M (ku 1) (ku 3) kz)) (lj (mh (i:=5) dR.nd (oh (kx (li (lx (K:=K)) (ku 2) (oj kz)) (kx (me oa kz (mf g e rfl (kx (ku 0) (kx kz lg)))) (kx (ku 4) (kx (me oa (ku 4) kz) (kx (me uf (me re kz kz) (ku 4)) (kx (me oa (me uf (me re kz kz) (ku 4)) kz) lg)))))))) (lj (mh (i:=6) dR.nd (li (og (K:=K)) (ku 5) (mf g e rfl (kx (ku 0) (kx kz lg))))) (md (mi (me wn (pi uh (ku 2) tz (ow (oj kz))) (mj (kx (oi (R.jw rfl) rfl T.b_max lK (kx kz (kx (oi (R.iz rfl) rfl T.b_min aAl (kx (me re kz kz) (kx (ku 6) lg))) lg))) lg)))))))))),?_⟩;obtain⟨N,O⟩:=aDq x;refine⟨_,QYK gt,_,O,?_⟩;dsimp only [aJ,uX];refine aAm (t:=Gr _ _ _) (λl Q=>∃z:Str,l=[some (.ref d),some (.ref bk),some (.ref t),some (.str z),none,none,none]/\Fw d b a0 Q) (λnx k=>?_) ?_
  ·refine⟨_,QYK gt,_,qZ x,?_⟩;show if decide (x.wd="move")=true then _ else _
   refine bA (λh=>?_) (λ_=>k _ _ ⟨N,rfl,.refl j⟩);refine⟨d,b,2,rfl,j,Zd,Zd,λr S U W X Y=>?_⟩;have f1:=(Fw.refl j).draw X Y;have c:=U6 h
   cases x with
   | move a Z n=>
    rcases(by omega:r=0∨r=1) with rfl|rfl
    ·exact⟨_,QYK (f1.tup gt),_,rfl,k _ _ ⟨a,rfl,f1⟩⟩
    ·exact⟨_,QYK (f1.tup gt),_,rfl,k _ _ ⟨Z,rfl,f1⟩⟩
   | add a n=>exact QZW (show("add":Str)="move" from c) Zk
   | take a n=>exact QZW (show("take":Str)="move" from c) Zk
   | send a b n=>exact QZW (show("send":Str)="move" from c) Zk
   | fetch a b n=>exact QZW (show("fetch":Str)="move" from c) Zk
   | pass a b a7 n=>exact QZW (show("pass":Str)="move" from c) Zk
  ·rintro l S ⟨z,rfl,f1⟩;have p:=f1.dict I;have U4:=f1.tup gt;obtain⟨o,ho,eo⟩:=dg p J z;refine⟨bk,rfl,Fn p,o,ho,?_⟩;rw[eo];refine⟨_,QYK U4,_,aCo x,d,b,9,rfl,f1.dk,Zd,Zd,λr H2 U W q k2=>⟨⟨Zd,Zd,Zd⟩,⟨Zd,Zd,Zd⟩,eL rfl,λa2 u=>?_⟩⟩;have f2:=f1.draw q k2;have y:=q.ne u;have A:=f2.new (o:=.lst [.int (x.n:Int),.int (1+r),.int (f z:Int),.int ((f z:Int)+1),.int (10^(12:Int).toNat-(f z:Int)),.int (10^(12:Int).toNat-(f z:Int)+1)]) u;refine⟨d,b,6,rfl,A.dk,Zd,Zd,λr6 H4 i0 i1 D4 B=>?_⟩;have C:=A.draw D4 B;have gp:=B a2 _ aA y.1 y.2;obtain⟨v,hv⟩:∃v:Int,nC [V.int (x.n:Int),.int (1+r),.int (f z:Int),.int ((f z:Int)+1),.int (10^(12:Int).toNat-(f z:Int)),.int (10^(12:Int).toNat-(f z:Int)+1)] r6=some (.int v):=by
    rcases six i0 i1 with rfl|rfl|rfl|rfl|rfl|rfl<;>exact⟨_,rfl⟩
   refine⟨_,QYJ gp,_,hv,?_⟩;dsimp only [aJ];have XJ:=C.tup gt;refine⟨_,XJ,λp1 H5 s5 g5=>⟨⟨Zd,Zd,Zd⟩,aO rfl,λp2 H6 E g6=>⟨_,_,E _ _ g5,g6,?_,λp3 H7 s7 F=>?_⟩⟩⟩
   ·cases x<;>exact QZV rfl
   have f7:=((C.same s5).same E).same s7;obtain⟨m,em,m1,m2⟩:∃m:Nat,(if (if v<(10:Int)^(12:Int).toNat then v else (10:Int)^(12:Int).toNat)>1 then (if v<(10:Int)^(12:Int).toNat then v else (10:Int)^(12:Int).toNat) else (1:Int))=(m:Int)/\1<=m/\m<=1000000000000:=by
    have zx:(10:Int)^(12:Int).toNat=1000000000000:=rfl;rw[zx];by_cases G:v<1000000000000
    ·rw[QZY G];by_cases H:v>1
     ·rw[QZY H];exact⟨v.toNat,Zo,Zo,Zo⟩
     ·rw[QZX H];exact⟨1,rfl,Zo,Zo⟩
    ·rw[QZX G];exact⟨1000000000000,Zd,Zo,Zo⟩
   rw[em,Pg]at F;exact a1 p3 _ H7 (Pf L m1 m2) (by cases x<;>rfl) F f7
def Fo(H:Hp)(e:TD)(n:Nat)(t:TD)(x:Dd)(q:Bool):Prop:=H e=some (.lst [.int (n:Int),.ref t,.bl q])/\H t=some (.tup x.vs)
def tW:Sp:=λvs H Q _=>∃(d b bk e t:TD)(h:List (aV×V))(f:Str->Nat)(x:Dd)(n:Nat)(a:Bool),vs=[.ref d,.ref bk,.ref e]/\Dk H d b/\H bk=some (.dK h)/\BookIs h f/\Fo H e n t x a/\(a=true->x.far=true)/\e≠d/\e≠b ∧
 (∀y c g,iE f x a y->Fw d b H g->g c=some (.tup (An.vs y))->Q (.ref c) g)/\(∀g,Fw d b H g->Q .non g)
def tX{f:Str->Nat}{x:Dd}(h:x.far=false):aT f x≠none:=by
 cases x with
 | add a n=>simp only [aT];split<;>exact λz=>nomatch z
 | take a n=>simp only [aT];split<;>exact λz=>nomatch z
 | move a b n=>
  simp only [aT];split
  ·exact λz=>nomatch z
  ·split<;>exact λz=>nomatch z
 | send a b n=>cases h
 | fetch a b n=>cases h
 | pass a b c n=>cases h
def Jh(f:Str->Nat){x:Dd}(h:x.far=true):0<(bO f x).length:=by cases x<;>first|exact Nat.zero_lt_succ _|cases h
def yI(x:Dd):qW (.str x.wd) [.str "send",.str "fetch",.str "pass"]=x.far:=by cases x<;>rfl
def Pi(T:Txt K mg)(M:aG P w K mg base 1 "_law_draw" QZN bS)(N:aG P w K mg base 1 "_law_early" QZC tQ)(O:aG P w K mg base 1 "_law_lates" QZC Ap)(D:DefAt K mg "_law_right" iW QZl):aG P w K mg base 2 "_law_right" QZl tW:=by
 refine D.gg gX (λf cdv a3 outer s a4 vs a5 a7 q a0=>?_)
 ·revert a0;refine yE10 λd a1 bk e t A f x n a=>yA10 λζ B C E η ha ed eb F G=>?_;subst ζ;obtain⟨ge,gt⟩:=η;refine⟨_,(lj (mh (i:=3) gX.nd (mf N q rfl (kx (ku 1) (kx (li (og (K:=K)) (ku 2) kz) lg)))) (lj (mh (i:=4) gX.nd (om (qt (K:=K)) (li (lx (K:=K)) (li (og (K:=K)) (ku 2) kz) kz) (mj (kx lq (kx lq (kx lq lg)))))) (lj (nv (qv (ww (wr (li (og (K:=K)) (ku 2) kz)) (AT (mo R.jn (ku 3) ue)))) (lj (mh (i:=5) gX.nd (mf O q rfl (kx (ku 1) (kx (li (og (K:=K)) (ku 2) kz) lg)))) (md (mi (li (og (K:=K)) (ku 5) (mf M q rfl (kx (ku 0) (kx (oi (o0 (K:=K)) rfl T.b_len bN (kx (ku 5) lg)) lg))))))) nw) (lj (nv (qv (NE (wr (li (og (K:=K)) (ku 2) kz)) (R.fh (qv (ww (mo R.jn (ku 3) ue) (AT (wr (ku 4)))))))) (md (mi ue)) nw) (md (mi (ku 3))))))),?_⟩;refine⟨_,QYJ ge,_,rfl,bk,t,A,f,x,rfl,C,E,gt,λa2 c Q m b S=>?_,λm Q b=>?_⟩
  ·dsimp only [aJ];have l:=b _ _ ge;have o:=b _ _ gt;refine⟨_,QYJ l,_,rfl,_,QYK o,_,qZ x,aO rfl,λu k g g2=>⟨u,_,rfl,.inr (QYK g2),rfl,rfl,?_⟩⟩;have h:=g _ _ l;have f2:=((Fw.refl B).same b).same g;show uX _ _ _ [some (.ref d),some (.ref bk),some (.ref e),some (.ref c),some (.bl (qW (.str x.wd) [.str "send",.str "fetch",.str "pass"])),none] k;rw[yI];refine⟨_,QYJ h,_,rfl,?_⟩
   cases a with
   | true=>exact⟨_,QYJ h,_,rfl,G k f2⟩
   | false=>exact⟨_,QYJ h,_,rfl,F a2 c k (.inl ⟨rfl,m⟩) f2 (g _ _ S)⟩
  ·dsimp only [aJ];have l:=b _ _ ge;have o:=b _ _ gt;refine⟨_,QYJ l,_,rfl,_,QYK o,_,qZ x,aO rfl,λu k g g2=>⟨u,_,rfl,.inr (QYK g2),rfl,rfl,?_⟩⟩;have h:=g _ _ l;have f2:=((Fw.refl B).same b).same g;have v:x.far=true:=by
    cases U:x.far with
    | true=>rfl
    | false=>exact QZW m (tX U)
   show uX _ _ _ [some (.ref d),some (.ref bk),some (.ref e),some .non,some (.bl (qW (.str x.wd) [.str "send",.str "fetch",.str "pass"])),none] k;rw[yI,v];refine⟨_,QYJ h,_,rfl,?_⟩
   cases a with
   | true=>
    refine⟨_,QYJ h,_,rfl,bk,t,A,f,x,rfl,g _ _ (b _ _ C),E,g _ _ o,v,m,λa8 p H3 V H I W=>?_⟩;have y:=f2.same W;have J:=f2.dk.ne V;have zy:(bO f x).length=p.length:=I.length;have hlp:0<(bO f x).length:=Jh f v;have hlq:(bO f x).length<=3:=by cases x<;>exact QZV rfl
    refine⟨_,.inl (QYJ H),d,a1,(p.length:Int),by rw[aS],y.dk,Zo,Zo,λr X Y r1 Z k4=>?_⟩;have z:=(Fw.refl y.dk).draw Z k4;obtain⟨r,rfl⟩:=gK Y;have L:r<p.length:=by omega
    obtain⟨XN,pr⟩:=Paired.get' (j:=r) I L;refine⟨_,QYJ (z.get H J.1 J.2),.ref p[r],eY (by rw[fK,eT L];rfl),?_⟩;exact F _ _ X (.inr ⟨rfl,m,getElem_mem XN⟩) (y.trans z) (z.tup pr)
   | false=>exact⟨_,QYJ h,_,rfl,G k f2⟩
def bE:RX->Str|.next _ _=>"next"|.has _ _=>"has"|.kept _ _ _ _ _ _=>"kept"|.came _ _ _ _ _=>"came"|.asked _=>"asked"|.done _ _ _=>"done"
def Pj:RX->V|.next n _=>.int (n:Int)|.has z _=>.str z|.kept n _ _ _ _ _=>.int (n:Int)|.came n _ _ _ _=>.int (n:Int)|.asked n=>.int (n:Int)|.done n _ _=>.int (n:Int)
def Vd:RX->V|.next _ t=>.int (t:Int)|.has _ m=>.int (m:Int)|.kept _ t _ _ _ _=>.int (t:Int)|.came _ t _ _ _=>.int (t:Int)|.asked _=>.non|.done _ t _=>.int (t:Int)
def eI{H:Hp}{a:TD}{r:RX}(h:r.At H a):∃xs,H a=some (.tup xs)/\nC xs 0=some (.str (bE r))/\nC xs 1=some (Pj r)/\(Vd r≠.non->nC xs 2=some (Vd r)):=by
 cases r with
 | next n t=>exact⟨_,h,rfl,rfl,λ_=>rfl⟩
 | has z m=>exact⟨_,h,rfl,rfl,λ_=>rfl⟩
 | kept n t p k d y=>obtain⟨b,c,e,f,g⟩:=h;exact⟨_,e,rfl,rfl,λ_=>rfl⟩
 | came n t p k d=>obtain⟨b,e,f⟩:=h;exact⟨_,e,rfl,rfl,λ_=>rfl⟩
 | asked n=>exact⟨_,h,rfl,rfl,λz=>QZW rfl z⟩
 | done n t y=>obtain⟨b,e,f⟩:=h;exact⟨_,e,rfl,rfl,λ_=>rfl⟩
def cO(rs:List RX):Str->Nat:=rs.foldl (λf r=>match r with|.has z m=>eF f z m|_=>f) (λ_=>0)
inductive lT:List RX->(Str->Nat)->Prop
 | head {rs:List RX}:yH rs->lT rs (cO rs)
 | came {rs:List RX}{f:Str->Nat}{n t:Nat}{p k:Str}{x:Dd}:lT rs f->lT (rs++[.came n t p k x]) f
 | asked {rs:List RX}{f:Str->Nat}{n:Nat}:lT rs f->lT (rs++[.asked n]) f
 | done {rs:List RX}{f:Str->Nat}{n t t0:Nat}{p k:Str}{x:Dd}{q:Bool}{y:An}:lT rs f->.came n t0 p k x∈rs->iE f x q y->lT (rs++[.done n t y]) (after f x y)
structure Un where
 n:Nat
 x:Dd
 q:Bool
 e:Addr
 t:Addr
structure LvP(rs:List RX)(f:Str->Nat)(num turn:Nat)(us:List Un):Prop where
 wh:RX.Whole rs
 ok:∀r∈rs,r.Ok
 lv:lT rs f
 fb:∀z,f z<=1000000000000
 cnum:∀n t p k x,.came n t p k x∈rs->n<=num
 knum:∀n t p k x y,.kept n t p k x y∈rs->n<=num
 trn:∀q∈rs,q.turn<=turn
 und:∀u∈us,u.x.Ok/\(∃t p k,.came u.n t p k u.x∈rs)/\(∀t y,.done u.n t y∉rs)/\(u.q=true↔.asked u.n∈rs)/\(u.q=true->u.x.far=true)
 nd:(us.map (·.n)).Nodup
 asn:∀n,.asked n∈rs->∃t p k x,.came n t p k x∈rs
 dnn:∀n t y,.done n t y∈rs->∃t p k x,.came n t p k x∈rs
def LvP.turn'{rs:List RX}{f:Str->Nat}{num turn turn':Nat}{us:List Un}(h:LvP rs f num turn us)(a:turn<=turn'):LvP rs f num turn' us:=
 ⟨h.wh,h.ok,h.lv,h.fb,h.cnum,h.knum,λq b=>gL (h.trn q b) a,h.und,h.nd,h.asn,h.dnn⟩
def LvP.came{rs:List RX}{f:Str->Nat}{num turn n:Nat}{us:List Un}(h:LvP rs f num turn us)(F:num<n)(G:n<=999999)(H:turn<=1000000000000){p k:Str}{x:Dd}{e t:TD}(I:gB p)(J:zX k)(A:x.Ok) :
  LvP (rs++[.came n turn p k x]) f n turn (us++[⟨n,x,false,e,t⟩]):=by
 have L:.asked n∉rs:=λm=>by obtain⟨t,p,k,x,m⟩:=h.asn n m;have:=h.cnum _ _ _ _ _ m;omega
 have M:∀t y,.done n t y∉rs:=λt y m=>by obtain⟨t,p,k,x,m⟩:=h.dnn n t y m;have:=h.cnum _ _ _ _ _ m;omega
 refine⟨h.wh.snoc ⟨λd g l o N m=>oC (h.cnum _ _ _ _ _ m) F,λg l o N j m=>QZW (h.knum _ _ _ _ _ _ m) Zo,h.trn⟩,λr c=>?_,h.lv.came,h.fb,λd g l o O c=>?_,λd g l o O j c=>?_,λq s=>?_,λu i=>?_,?_,λd c=>?_,λd g j c=>?_⟩
 ·rcases aH c with c|rfl
  ·exact h.ok r c
  ·exact⟨Zo,G,H,I,J,A⟩
 ·rcases aH c with c|c
  ·have:=h.cnum _ _ _ _ _ c;omega
  ·cases c;exact aZ _
 ·rcases aH c with c|c
  ·have:=h.knum _ _ _ _ _ _ c;omega
  ·cases c
 ·rcases aH s with s|rfl
  ·exact h.trn q s
  ·exact aZ _
 ·rcases aH i with i|rfl
  ·obtain⟨Q,⟨B,C,D,v⟩,R,E,S⟩:=h.und u i;refine⟨Q,⟨B,C,D,QZU _ v⟩,λg j m=>?_,⟨λz=>QZU _ (E.mp z),λm=>?_⟩,S⟩
   ·rcases aH m with m|m
    ·exact R _ _ m
    ·cases m
   ·rcases aH m with m|m
    ·exact E.mpr m
    ·cases m
  ·refine⟨A,⟨turn,p,k,QZT _ gJ⟩,λg j m=>?_,⟨nofun,λm=>?_⟩,nofun⟩
   ·rcases aH m with m|m
    ·exact M _ _ m
    ·cases m
   ·rcases aH m with m|m
    ·exact QZW m L
    ·cases m
 ·rw[dW];refine nodup_append.mpr ⟨h.nd,Zs,λa T b U=>?_⟩;obtain⟨u,i,rfl⟩:=Zmm.mp T;obtain⟨_,⟨B,C,D,v⟩,_⟩:=h.und u i;have:=h.cnum _ _ _ _ _ v;have V:b=n:=by simpa using U
  omega
 ·rcases aH c with c|c
  ·obtain⟨t,p,k,x,m⟩:=h.asn d c;exact⟨t,p,k,x,QZU _ m⟩
  ·cases c
 ·rcases aH c with c|c
  ·obtain⟨t,p,k,x,m⟩:=h.dnn d _ _ c;exact⟨t,p,k,x,QZU _ m⟩
  ·cases c
def Pk{us:List Un}(h:(us.map (·.n)).Nodup){i j:Nat}{u v:Un}(f:us[i]?=some u)(g:us[j]?=some v)(k:i≠j):u.n≠v.n:=by
 intro e;obtain⟨a,b⟩:=Zgs.mp f;obtain⟨c,d⟩:=Zgs.mp g;have p:=pairwise_iff_getElem.mp h;rcases Nat.lt_or_gt_of_ne k with z|z
 ·have:=p i j (by simpa using a) (by simpa using c) z;simp only [getElem_map,b,d]at this;exact this e
 ·have:=p j i (by simpa using c) (by simpa using a) z;simp only [getElem_map,b,d]at this;exact this e.symm
def oX{b:Type}{us:List b}{j:Nat}{u v:b}(h:v∈us.set j u):v=u∨∃i,i≠j/\us[i]?=some v:=by
 obtain⟨i,a,e⟩:=getElem_of_mem h;rw[getElem_set]at e;split at e
 ·exact .inl e.symm
 ·rename_i c;rw[length_set]at a;exact .inr ⟨i,λz=>c z.symm,by rw[eT a,e]⟩
def LvP.mark{rs:List RX}{f:Str->Nat}{num turn j:Nat}{us:List Un}{u:Un}(h:LvP rs f num turn us)(g:us[j]?=some u)(b:u.q=false)(y:u.x.far=true) :
  LvP (rs++[.asked u.n]) f num turn (us.set j {u with q:=true }):=by
 have F:=jI g;obtain⟨g1,⟨l,n,o,g2⟩,g3,G,V⟩:=h.und u F;have no:.asked u.n∉rs:=λm=>by rw[G.mpr m]at b;cases b
 have A:=h.ok _ g2;refine⟨h.wh.snoc ⟨⟨l,n,o,u.x,g2,y⟩,no,g3⟩,λr a=>?_,h.lv.asked,h.fb,λc d H I J a=>?_,λc d H I J s a=>?_,λq b=>?_,λv L=>?_,?_,λc a=>?_,λc d s a=>?_⟩
 ·rcases aH a with a|rfl
  ·exact h.ok r a
  ·exact⟨A.1,A.2.1⟩
 ·rcases aH a with a|a
  ·exact h.cnum _ _ _ _ _ a
  ·cases a
 ·rcases aH a with a|a
  ·exact h.knum _ _ _ _ _ _ a
  ·cases a
 ·rcases aH b with b|rfl
  ·exact h.trn q b
  ·exact zero_le _
 ·rcases oX L with rfl|⟨i,M,B⟩
  ·refine⟨g1,⟨l,n,o,QZU _ g2⟩,λd s m=>?_,⟨λ_=>QZT _ gJ,λ_=>rfl⟩,λ_=>y⟩;rcases aH m with m|m
   ·exact g3 _ _ m
   ·cases m
  ·obtain⟨C,⟨N,O,Q,D⟩,R,E,S⟩:=h.und v (jI B);have T:=Pk h.nd B g M;refine⟨C,⟨N,O,Q,QZU _ D⟩,λd s m=>?_,⟨λz=>QZU _ (E.mp z),λm=>?_⟩,S⟩
   ·rcases aH m with m|m
    ·exact R _ _ m
    ·cases m
   ·rcases aH m with m|m
    ·exact E.mpr m
    ·injection m with m;exact QZW m T
 ·have e:(us.set j {u with q:=true }).map (·.n)=us.map (·.n):=by
   obtain⟨W,U⟩:=Zgs.mp g;rw[map_set];apply ext_getElem Zs;intro i C D;rw[getElem_set];split
   ·rename_i z;subst z;simp[U]
   ·rfl
  rw[e];exact h.nd
 ·rcases aH a with a|a
  ·obtain⟨t,p,k,x,m⟩:=h.asn c a;exact⟨t,p,k,x,QZU _ m⟩
  ·cases a;exact⟨l,n,o,u.x,QZU _ g2⟩
 ·rcases aH a with a|a
  ·obtain⟨t,p,k,x,m⟩:=h.dnn c _ _ a;exact⟨t,p,k,x,QZU _ m⟩
  ·cases a
def LvP.done{rs:List RX}{f:Str->Nat}{num turn j:Nat}{us:List Un}{u:Un}{y:An}(h:LvP rs f num turn us)(g:us[j]?=some u)(F:turn<=1000000000000)(c:iE f u.x u.q y) :
  LvP (rs++[.done u.n turn y]) (after f u.x y) num turn (us.eraseIdx j):=by
 have G:=jI g;obtain⟨g1,⟨l,n,o,g2⟩,g3,s,H⟩:=h.und u G;obtain⟨I,A⟩:=tO h.fb g1 c H;have B:=h.ok _ g2;refine⟨h.wh.snoc ⟨h.trn,g3,l,n,o,u.x,g2,I,λz=>⟨λm=>(A z).mp (s.mpr m),λm=>s.mp ((A z).mpr m)⟩⟩,λr a=>?_,h.lv.done g2 c,tP h.fb c,λb d J L M a=>?_,λb d J L M C a=>?_,λq e=>?_,λv N=>?_,?_,λb a=>?_,λb d C a=>?_⟩
 ·rcases aH a with a|rfl
  ·exact h.ok r a
  ·exact⟨B.1,B.2.1,F⟩
 ·rcases aH a with a|a
  ·exact h.cnum _ _ _ _ _ a
  ·cases a
 ·rcases aH a with a|a
  ·exact h.knum _ _ _ _ _ _ a
  ·cases a
 ·rcases aH e with e|rfl
  ·exact h.trn q e
  ·exact aZ _
 ·obtain⟨i,O,D⟩:=List.mem_eraseIdx_iff_getElem?.mp N;obtain⟨Q,⟨R,S,T,U⟩,V,E,W⟩:=h.und v (jI D);have X:=Pk h.nd D g O;refine⟨Q,⟨R,S,T,QZU _ U⟩,λd C m=>?_,⟨λz=>QZU _ (E.mp z),λm=>?_⟩,W⟩
  ·rcases aH m with m|m
   ·exact V _ _ m
   ·injection m with m;exact QZW m X
  ·rcases aH m with m|m
   ·exact E.mpr m
   ·cases m
 ·exact h.nd.sublist ((List.eraseIdx_sublist us j).map _)
 ·rcases aH a with a|a
  ·obtain⟨t,p,k,x,m⟩:=h.asn b a;exact⟨t,p,k,x,QZU _ m⟩
  ·cases a
 ·rcases aH a with a|a
  ·obtain⟨t,p,k,x,m⟩:=h.dnn b _ _ a;exact⟨t,p,k,x,QZU _ m⟩
  ·cases a;exact⟨l,n,o,u.x,QZU _ g2⟩
def LvP.start{rs:List RX}{num turn:Nat}(h:yH rs)(b:∀n t p k x y,.kept n t p k x y∈rs->n<=num)(c:∀n t,.next n t∈rs->t<=turn)(d:∀z,cO rs z<=1000000000000):LvP rs (cO rs) num turn []:=by
 have no:∀r∈rs,r.rank=3->False:=λr f e=>by have:=h.rk r f;omega
 refine⟨h.wh,h.ok,.head h,d,λn t p k x m=>(no _ m rfl).elim,b,λq a=>?_,(λu g=>nomatch g),nodup_nil,λn m=>(no _ m rfl).elim,λn t y m=>(no _ m rfl).elim⟩
 cases q with
 | next n t=>exact c _ _ a
 | has z m=>exact zero_le _
 | kept n t p k x y=>exact zero_le _
 | came n t p k x=>exact(no _ a rfl).elim
 | asked n=>exact(no _ a rfl).elim
 | done n t y=>exact(no _ a rfl).elim
def Ji{rs:List RX}(h:∀r∈rs,r.Ok)(z:Str):cO rs z<=1000000000000:=by
 have:∀(rs:List RX)(f:Str->Nat),(∀r∈rs,r.Ok)->(∀z,f z<=1000000000000)->∀z,rs.foldl (λf r=>match r with|.has z m=>eF f z m|_=>f) f z<=1000000000000:=by
  intro rs;induction rs with
  | nil=>exact λf _ a=>a
  | cons r rs b=>
   intro f h a;refine b _ (λr c=>h r (kY _ c)) ?_
   cases r with
   | has y m=>exact gY a (h _ gJ).2.2
   | _=>exact a
 exact this rs _ h (λ_=>zero_le _) z
def Fp(x:Dd):∀v∈x.vs,dY v=true:=by
 intro v a;cases x<;>simp only [Dd.vs,mem_cons,QZR,or_false]at a<;>rcases a with rfl|rfl|rfl|rfl|rfl<;>rfl
structure LvH(H:Hp)(d b ra bk ul:TD)(H':Hp)(rs:List RX)(as:List TD)(kvs:List (aV×V))(f:Str->Nat)(us:List Un):Prop where
 d0:Dk H d b
 r0:∃xs,H ra=some (.lst xs)
 fbk:H bk=none
 ful:H ul=none
 fes:∀u∈us,H u.e=none
 nra:ra≠d/\ra≠b
 nbu:bk≠ul
 nue:∀u∈us,u.e≠ul/\u.e≠bk
 nde:(us.map (·.e)).Nodup
 dk:Dk H' d b
 rows:RxsAt H' ra rs as
 book:H' bk=some (.dK kvs)
 bis:BookIs kvs f
 und:H' ul=some (.lst ((us.map (·.e)).map V.ref))
 ent:∀u∈us,Fo H' u.e u.n u.t u.x u.q
 fr:∀c o,H c=some o->c≠d->c≠b->c≠ra->H' c=some o
section
variable {H H' A1:Hp}{d b ra bk ul:TD}{rs:List RX}{as:List TD}{kvs:List (aV×V)}{f:Str->Nat}{us:List Un}
def LvH.ra_ne(h:LvH H d b ra bk ul H' rs as kvs f us):ra≠bk/\ra≠ul/\∀u∈us,ra≠u.e:=by
 obtain⟨e,a⟩:=h.r0;exact⟨aF a h.fbk,aF a h.ful,λu c=>aF a (h.fes u c)⟩
def LvH.ne_d(h:LvH H d b ra bk ul H' rs as kvs f us){c:TD}(a:H c=none):c≠d/\c≠b:=h.d0.ne a
def LvH.fw(h:LvH H d b ra bk ul H' rs as kvs f us)(F:Fw d b H' A1):LvH H d b ra bk ul A1 rs as kvs f us:=by
 have g:=h.ne_d h.fbk;have i:=h.ne_d h.ful;refine⟨h.d0,h.r0,h.fbk,h.ful,h.fes,h.nra,h.nbu,h.nue,h.nde,F.dk,h.rows.keep F.tk (F.get h.rows.lst h.nra.1 h.nra.2),F.get h.book g.1 g.2,h.bis,F.get h.und i.1 i.2,λu a=>?_,λc o e j k l=>F.get (h.fr c o e j k l) j k⟩;have ne:=h.ne_d (h.fes u a);exact⟨F.get (h.ent u a).1 ne.1 ne.2,F.tup (h.ent u a).2⟩
def Dk.put'{o:HO}{a:TD}(D:Dk H' d b)(c:a≠d)(e:a≠b):Dk (aI H' a o) d b:=by
 obtain⟨g,s,k,h,i,j⟩:=D.ex;exact⟨g,s,k,by rw[aD c.symm];exact h,by rw[aD e.symm];exact i,j⟩
def LvH.row(h:LvH H d b ra bk ul H' rs as kvs f us){r:RX}{a:TD}(j:r.At H' a):LvH H d b ra bk ul (aI H' ra (.lst (as.map V.ref++[.ref a]))) (rs++[r]) (as++[a]) kvs f us:=by
 obtain⟨k,l,m⟩:=h.ra_ne;have tk:TK H' (aI H' ra (.lst (as.map V.ref++[.ref a]))):=fN h.rows.lst;refine⟨h.d0,h.r0,h.fbk,h.ful,h.fes,h.nra,h.nbu,h.nue,h.nde,Dk.put' h.dk h.nra.1 h.nra.2,h.rows.snoc tk (j.tk tk) aA,by rw[aD k.symm];exact h.book,h.bis,by rw[aD l.symm];exact h.und,λu g=>⟨by rw[aD (m u g).symm];exact(h.ent u g).1,tk _ _ (h.ent u g).2⟩,λc o e n m2 i=>by rw[aD i];exact h.fr c o e n m2 i⟩
def LvH.push(h:LvH H d b ra bk ul H' rs as kvs f us){n:Nat}{x:Dd}{q:Bool}{e t:TD}(i:Fo H' e n t x q)(m:H e=none)(j:e≠ul)(p:e≠bk)(r:∀u∈us,u.e≠e) :
  LvH H d b ra bk ul (aI H' ul (.lst ((us.map (·.e)).map V.ref++[.ref e]))) rs as kvs f (us++[⟨n,x,q,e,t⟩]):=by
 obtain⟨B,s,C⟩:=h.ra_ne;have k:=h.ne_d h.ful;have tk:TK H' (aI H' ul (.lst ((us.map (·.e)).map V.ref++[.ref e]))):=fN h.und;refine⟨h.d0,h.r0,h.fbk,h.ful,λu g=>?_,h.nra,h.nbu,λu g=>?_,?_,Dk.put' h.dk k.1 k.2,h.rows.keep tk (by rw[aD s];exact h.rows.lst),by rw[aD h.nbu];exact h.book,h.bis,by rw[aA,dW,dW];rfl,λu g=>?_,λc o l v m2 y=>by rw[aD (aF l h.ful)];exact h.fr c o l v m2 y⟩
 ·rcases aH g with g|rfl
  ·exact h.fes u g
  ·exact m
 ·rcases aH g with g|rfl
  ·exact h.nue u g
  ·exact⟨j,p⟩
 ·rw[dW];refine nodup_append.mpr ⟨h.nde,Zs,λa z c A=>?_⟩;obtain⟨u,g,rfl⟩:=Zmm.mp z;have:c=e:=by simpa using A
  rw[this];exact r u g
 ·rcases aH g with g|rfl
  ·exact⟨by rw[aD (h.nue u g).1];exact(h.ent u g).1,tk _ _ (h.ent u g).2⟩
  ·exact⟨by rw[aD j];exact i.1,tk _ _ i.2⟩
def aAS(h:(us.map (·.e)).Nodup){i j:Nat}{u v:Un}(l:us[i]?=some u)(m:us[j]?=some v)(n:i≠j):u.e≠v.e:=by
 intro e;obtain⟨a,c⟩:=Zgs.mp l;obtain⟨g,k⟩:=Zgs.mp m;have p:=pairwise_iff_getElem.mp h;rcases Nat.lt_or_gt_of_ne n with z|z
 ·have:=p i j (by simpa using a) (by simpa using g) z;simp only [getElem_map,c,k]at this;exact this e
 ·have:=p j i (by simpa using g) (by simpa using a) z;simp only [getElem_map,c,k]at this;exact this e.symm
def LvH.mark(h:LvH H d b ra bk ul H' rs as kvs f us){j:Nat}{u:Un}(k:us[j]?=some u) :
  LvH H d b ra bk ul (aI H' u.e (.lst [.int (u.n:Int),.ref u.t,.bl true])) rs as kvs f (us.set j {u with q:=true }):=by
 obtain⟨y,A,r⟩:=h.ra_ne;have a:=jI k;have ne:=h.ne_d (h.fes u a);have tk:TK H' (aI H' u.e (.lst [.int (u.n:Int),.ref u.t,.bl true])):=fN (h.ent u a).1;have m:(us.set j {u with q:=true }).map (·.e)=us.map (·.e):=by
  obtain⟨B,s⟩:=Zgs.mp k;rw[map_set];apply ext_getElem Zs;intro i C D;rw[getElem_set];split
  ·rename_i z;subst z;simp[s]
  ·rfl
 refine⟨h.d0,h.r0,h.fbk,h.ful,λv g=>?_,h.nra,h.nbu,λv g=>?_,by rw[m];exact h.nde,Dk.put' h.dk ne.1 ne.2,h.rows.keep tk (by rw[aD (r u a)];exact h.rows.lst),by rw[aD (h.nue u a).2.symm];exact h.book,h.bis,by rw[aD (h.nue u a).1.symm,m];exact h.und,λv g=>?_,λc o n t m2 x=>by rw[aD (aF n (h.fes u a))];exact h.fr c o n t m2 x⟩
 ·rcases oX g with rfl|⟨i,l,e⟩
  ·exact h.fes u a
  ·exact h.fes v (jI e)
 ·rcases oX g with rfl|⟨i,l,e⟩
  ·exact h.nue u a
  ·exact h.nue v (jI e)
 ·rcases oX g with rfl|⟨i,l,e⟩
  ·exact⟨aA,tk _ _ (h.ent u a).2⟩
  ·have p:=jI e;exact⟨by rw[aD (aAS h.nde e k l)];exact(h.ent v p).1,tk _ _ (h.ent v p).2⟩
def LvH.drop(h:LvH H d b ra bk ul H' rs as kvs f us)(j:Nat):LvH H d b ra bk ul (aI H' ul (.lst (((us.map (·.e)).eraseIdx j).map V.ref))) rs as kvs f (us.eraseIdx j):=by
 obtain⟨p,i,q⟩:=h.ra_ne;have e:=h.ne_d h.ful;have tk:TK H' (aI H' ul (.lst (((us.map (·.e)).eraseIdx j).map V.ref))):=fN h.und;have sub:∀u∈us.eraseIdx j,u∈us:=λu a=>List.mem_of_mem_eraseIdx a
 have k:(us.eraseIdx j).map (·.e)=(us.map (·.e)).eraseIdx j:=by
  have:∀(us:List Un)(j:Nat),(us.eraseIdx j).map (·.e)=(us.map (·.e)).eraseIdx j:=by
   intro us;induction us with
   | nil=>intro j;simp
   | cons u us l=>
    intro j;cases j with
    | zero=>simp
    | succ j=>rw[eraseIdx_cons_succ,map_cons,map_cons,eraseIdx_cons_succ,l]
  exact this us j
 refine⟨h.d0,h.r0,h.fbk,h.ful,λu a=>h.fes u (sub u a),h.nra,h.nbu,λu a=>h.nue u (sub u a),h.nde.sublist ((List.eraseIdx_sublist us j).map _),Dk.put' h.dk e.1 e.2,h.rows.keep tk (by rw[aD i];exact h.rows.lst),by rw[aD h.nbu];exact h.book,h.bis,by rw[aA,k],λu a=>⟨by rw[aD (h.nue u (sub u a)).1];exact(h.ent u (sub u a)).1,tk _ _ (h.ent u (sub u a)).2⟩,λc o g m m2 n=>by rw[aD (aF g h.ful)];exact h.fr c o g m m2 n⟩
def LvH.pay(h:LvH H d b ra bk ul H' rs as kvs f us){i:List (aV×V)}{l:Str->Nat}(k:K1 bk H' A1)(g:A1 bk=some (.dK i))(p:BookIs i l):LvH H d b ra bk ul A1 rs as i l us:=by
 obtain⟨q,C,D⟩:=h.ra_ne;have m:=h.ne_d h.fbk;have tk:TK H' A1:=λa E e=>k _ _ e (λz=>by rw[z,h.book]at e;cases e)
 refine⟨h.d0,h.r0,h.fbk,h.ful,h.fes,h.nra,h.nbu,h.nue,h.nde,?_,h.rows.keep tk (k _ _ h.rows.lst q),g,p,k _ _ h.und h.nbu.symm,λu j=>⟨k _ _ (h.ent u j).1 (h.nue u j).2,tk _ _ (h.ent u j).2⟩,λc o n r m2 t=>k _ _ (h.fr c o n r m2 t) (aF n h.fbk)⟩;obtain⟨v,s,x,y,A,B⟩:=h.dk.ex;exact⟨v,s,x,k _ _ y m.1.symm,k _ _ A m.2.symm,B⟩
def LvH.rem(h:LvH H d b ra bk ul H' rs as kvs f us)(n:(us.map (·.n)).Nodup){j:Nat}{u:Un}(g:us[j]?=some u){Q:VK}(q:Q .non (aI H' ul (.lst (((us.map (·.e)).eraseIdx j).map V.ref)))):lQ (.ref ul) [.ref u.e] H' Q:=by
 have m:=jI g;refine⟨us.map (·.e),j,h.und,by rw[fK,g];rfl,h.nde,λc o p=>?_,q⟩;obtain⟨v,l,rfl⟩:=Zmm.mp o;obtain⟨i,r,s⟩:=getElem_of_mem l;have k:us[i]?=some v:=by rw[eT r,s]
 have t:i≠j:=λz=>p (by rw[z]at k;rw[g]at k;cases k;rfl)
 refine⟨(v.n:Int),(u.n:Int),[.ref v.t,.bl v.q],[.ref u.t,.bl u.q],(h.ent v l).1,(h.ent u m).1,?_,rfl,λi C D a e=>?_⟩
 ·have:=Pk n k g t;omega
 ·match i,a,e with
  | 0,a,e=>
   cases a;cases e;exact .inr ⟨v.t,u.t,_,_,rfl,rfl,(h.ent v l).2,(h.ent u m).2,λj x y A B=>⟨Fp v.x x (jI A),Fp u.x y (jI B)⟩⟩
  | 1,a,e=>cases a;cases e;exact .inl ⟨rfl,rfl⟩
  | i+2,a,e=>cases a
end
def Cw{rs:List RX}(h:RX.Whole rs){n t:Nat}{p k:Str}{x:Dd}{y:An}(c:.kept n t p k x y∈rs):∃a b,RX.next a b∈rs/\n<a:=by
 induction h with
 | nil=>cases c
 | snoc i f g=>
  rcases aH c with c|rfl
  ·obtain⟨a,b,d,e⟩:=g c;exact⟨a,b,QZU _ d,e⟩
  ·obtain⟨_,⟨a,b,d,e,_⟩,_⟩:=f;exact⟨a,b,QZU _ d,e⟩
def bY(rs:List RX):List (aV×V):=rs.filterMap λr=>match r with|.has z m=>some (Sum.inr z,.int (m:Int))|_=>none
theorem dM:∀(rs:List RX)(kvs:List (aV×V))(f:Str->Nat),BookIs kvs f->BookIs (aN kvs (bY rs)) (rs.foldl (λf r=>match r with|.has z m=>eF f z m|_=>f) f)
 | [],kvs,f,h=>h
 | r::rs,kvs,f,h=>by
  cases r with
  | has z m=>exact dM rs _ _ (h.put z m)
  | next n t=>exact dM rs _ _ h
  | kept n t p k x y=>exact dM rs _ _ h
  | came n t p k x=>exact dM rs _ _ h
  | asked n=>exact dM rs _ _ h
  | done n t y=>exact dM rs _ _ h
def Pl:RX->List (aV×V)|.has z m=>[(Sum.inr z,.int (m:Int))]|_=>[]
def Jj{r:RX}(h:bE r≠"has"):Pl r=[]:=by cases r<;>first|rfl|exact QZW rfl h
def tY(rs:List RX)(r:RX):bY (rs++[r])=bY rs++Pl r:=by
 unfold bY;rw[QZQ];cases r<;>rfl
def Cy{r:RX}(h:bE r="has"):∃z m,r=.has z m:=by
 cases r with
 | has z m=>exact⟨z,m,rfl⟩
 | next n t=>exact QZW (show("next":Str)="has" from h) Zk
 | kept n t p k x y=>exact QZW (show("kept":Str)="has" from h) Zk
 | came n t p k x=>exact QZW (show("came":Str)="has" from h) Zk
 | asked n=>exact QZW (show("asked":Str)="has" from h) Zk
 | done n t y=>exact QZW (show("done":Str)="has" from h) Zk
def rW{r:RX}(h:bE r="next"):∃n t,r=.next n t:=by
 cases r with
 | next n t=>exact⟨n,t,rfl⟩
 | has z m=>exact QZW (show("has":Str)="next" from h) Zk
 | kept n t p k x y=>exact QZW (show("kept":Str)="next" from h) Zk
 | came n t p k x=>exact QZW (show("came":Str)="next" from h) Zk
 | asked n=>exact QZW (show("asked":Str)="next" from h) Zk
 | done n t y=>exact QZW (show("done":Str)="next" from h) Zk
def Fq{r:RX}(h:bE r="kept"):∃n t p k x y,r=.kept n t p k x y:=by
 cases r with
 | kept n t p k x y=>exact⟨n,t,p,k,x,y,rfl⟩
 | has z m=>exact QZW (show("has":Str)="kept" from h) Zk
 | next n t=>exact QZW (show("next":Str)="kept" from h) Zk
 | came n t p k x=>exact QZW (show("came":Str)="kept" from h) Zk
 | asked n=>exact QZW (show("asked":Str)="kept" from h) Zk
 | done n t y=>exact QZW (show("done":Str)="kept" from h) Zk
def aM{a:Type}{xs:List a}{i:Nat}{x:a}(h:xs[i]?=some x):xs.take (i+1)=xs.take i++[x]:=by rw[List.take_add_one,h];rfl
def LvH.men{H g:Hp}{d b i bk k j:TD}{rs:List RX}{l:List TD}{kvs:List (aV×V)}{f:Str->Nat}{us:List Un}{M:List TD}(h:LvH H d b i bk k g rs l kvs f us)(m:MenusAt H j M)(n:d∉M)(p:b∉M)(q:i∉M):MenusAt g j M:=
 m.keep λc a o e=>h.fr c o e (λz=>n (z▸a)) (λz=>p (z▸a)) (λz=>q (z▸a))
def aAT(H:Hp)(d b h m bk j n:TD)(k i:Nat)(l:St)(o:Hp):Prop:=∃(c:List RX)(p:List TD)(g:List (aV×V))(f:Str->Nat)(e:List Un)(a turn:Nat)(q r s t u:Option V),l=[some (.ref d),some (.ref h),some (.ref m),some (.int (k:Int)),some (.ref bk),some (.ref j),some (.ref n),some (.int (a:Int)),some (.int (turn:Int)),q,r,s,t,u]/\LvH H d b h bk j o c p g f e/\LvP c f a turn e/\c.length<=13+i/\a<=900006+9*i/\turn<=500000000000+9*i/\g.length<=13+2*i/\e.length<=i
def Ve(T:Txt K mg)(a6:aG P w K mg base 1 "_law_draw" QZN bS)(T4:aG P w K mg base 3 "_law_deed" QZs rT)(J5:aG P w K mg base 2 "_law_spot" QZJ oW)(L3:aG P w K mg base 2 "_law_sized" QZq lS){fa:TD}{cdv:Q4}{A:Around}{outer:List Env}{s:QZZ}{H0:Hp}{E:XK}(k:Room 3 (A.deeper (PyProof.Rows.envOfC "_law_lived" (aB bM) s.heap.objs.size fa cdv))) :
  ∃t,XB (nB sO P w K mg base QZp "_law_lived" (aB bM) fa cdv A outer s H0 E).nox (stT (Um (stB (Um (bF bM) 5)) 2)) t ∧
  ∀(D:pJ)(H N:Hp)(d b c n bk j x:TD)(M:List TD)(v i L num turn turn':Nat)(rs:List RX)(q:List TD)(kvs:List (aV×V))(f:Str->Nat)(us:List Un)(O Q R:Option V),MenusAt H n M->d∉M->b∉M->c∉M->i<30->LvH H d b c bk j N rs q kvs f us->LvP rs f num turn' us->rs.length<=13+i->num<=900006+9*i->turn<=500000000000+9*i->kvs.length<=13+2*i->us.length<=i->turn<=turn'->turn'<=turn+9->(∀ p y,aAT H d b c n bk j x v (i+1) p y->D.nx p y) →
   t D [some (.ref d),some (.ref c),some (.ref n),some (.int (v:Int)),some (.ref bk),some (.ref j),some (.ref x),some (.int (num:Int)),some (.int (turn':Int)),some (.int (i:Int)),some (.int (L:Int)),O,Q,R] N:=by
 have hu:=k.units0;have U5:=k.units;refine⟨_,(lj (mh (i:=7) bH.nd (me oa (me oa (ku 7) kz) (li (og (K:=K)) (oh (kx kz (kx kz (kx (mf a6 k rfl (kx (ku 0) (kx kz lg))) lg)))) (mf a6 k rfl (kx (ku 0) (kx kz lg)))))) (lj (mh (i:=11) bH.nd (mf L3 k rfl (kx (ku 0) (kx (ku 4) (kx (mf T4 k rfl (kx (ku 0) (kx (li (og (K:=K)) (ku 2) kz) (kx (li (og (K:=K)) (ku 2) kz) lg)))) lg))))) (lj (qu (qy (K:=K) PySem.F.plainAttrs_list PySem.F.slot_list_append PySem.F.type_list_append yy (ku 1) (kx (me wn (me wn (mj (kx lq (kx (ku 7) (kx (ku 8) lg)))) (mf J5 k rfl (kx (ku 0) (kx (ku 2) lg)))) (mj (kx (ku 11) lg))) lg))) (md (qu (qy (K:=K) PySem.F.plainAttrs_list PySem.F.slot_list_append PySem.F.type_list_append yy (ku 5) (kx (oh (kx (ku 7) (kx (ku 11) (kx qw lg)))) lg))))))),?_⟩;intro D H N d b c n bk j x M v i L num turn turn' rs q kvs f us O Q R hM z B oR hi S P8 l1 l2 l3 l4 l5 t1 t2 GA;refine bJ (λp y=>∃(m:Nat),p=[some (.ref d),some (.ref c),some (.ref n),some (.int (v:Int)),some (.ref bk),some (.ref j),some (.ref x),some (.int (m:Int)),some (.int (turn':Int)),some (.int (i:Int)),some (.int (L:Int)),O,Q,R]/\num<m/\m<=num+9/\LvH H d b c bk j y rs q kvs f us) (λCZ U=>?_) ?_
 ·refine⟨d,b,9,rfl,S.dk,Zd,Zd,λr8 H8 x0 x1 W k8=>⟨eL rfl,λa8 X=>⟨d,b,3,rfl,W.new X,Zd,Zd,λY Ha y0 y1 D9 k9=>?_⟩⟩⟩;obtain⟨r8,rfl⟩:=gK x0;have J2:=W.ne X;have Z:=k9 a8 _ aA J2.1 J2.2;have l:=S.fw ((((Fw.refl S.dk).draw W k8).new X).draw D9 k9);rcases(by omega:Y=0∨Y=1∨Y=2) with rfl|rfl|rfl
  ·exact⟨_,QYJ Z,_,rfl,U _ _ ⟨num+1,rfl,Zo,Zo,l⟩⟩
  ·exact⟨_,QYJ Z,_,rfl,U _ _ ⟨num+1,rfl,Zo,Zo,l⟩⟩
  ·exact⟨_,QYJ Z,_,rfl,U _ _ ⟨num+1+r8,rfl,Zo,Zo,l⟩⟩
 rintro p Ha ⟨m,rfl,m1,m2,l⟩;have IQ:=l.men hM z B oR;refine yE0 IQ.ex (yE8 λC F a2 a3 ws XU ps ks=>yA9 λeM h0 h1 h2 h3 h4 mw mu _=>?_);have G:∀a4∈M,a4≠d/\a4≠b:=λa4 hc=>⟨(λa5=>z (a5▸hc)),(λa5=>B (a5▸hc))⟩
 have i0:C∈M:=by rw[eM];simp
 have i1:F∈M:=by rw[eM];simp
 refine⟨_,QYJ h0,_,rfl,_,QYJ h0,_,rfl,d,b,C,F,ws,XU,rfl,l.dk,h1,h2,⟨(G C i0).1,(G C i0).2,(G F i1).1,(G F i1).2⟩,mw,mu,λtd xd Hb XX XY fb=>?_⟩;have I:=l.fw fb;refine⟨d,b,bk,td,kvs,f,xd,rfl,I.dk,I.book,I.bis,XY,XX,λu x' Hc M1 _ QI fc=>?_⟩;have Lc:=I.fw fc;refine⟨.inl ⟨rfl,_,QYJ Lc.rows.lst⟩,aO rfl,λq1 Hd sd gd=>?_⟩;have Ld:=Lc.fw ((Fw.refl Lc.dk).same sd);refine⟨d,b,n,M,rfl,Ld.dk,Ld.men hM z B oR,z,B,λq2 pp kk He XZ qd ge fe=>?_⟩;refine⟨_,_,fe.tup gd,ge,QZV rfl,λq3 Hf sf gf=>⟨aO rfl,λq4 Hg sg gg=>⟨_,_,sg _ _ gf,gg,QZV rfl,λq5 Hh sh gh=>?_⟩⟩⟩;have Fh:=(((fe.same sf).same sg).same sh);have J:=Ld.fw Fh;have lr:=J.rows.len;refine⟨c,_,_,rfl,rfl,J.rows.lst,by rw[aS];exact oC (m:=1000) Zo Zd,?_⟩;have g:=J.row (r:=.came m turn' pp kk x') (a:=q5) ⟨u,gh,Fh.tup (sd _ _ QI)⟩;have QJ:(aI Hh c (.lst (q.map V.ref++[.ref q5]))) u=some (.tup x'.vs):=fN J.rows.lst _ _ (Fh.tup (sd _ _ QI));generalize aI Hh c (.lst (q.map V.ref++[.ref q5]))=Hi at g QJ;refine⟨.inl ⟨rfl,_,QYJ g.und⟩,eL rfl,λe h=>?_⟩;have Lj:=g.fw ((Fw.refl g.dk).new (o:=.lst [.int (m:Int),.ref u,.bl false]) h);have YA:Fo (aI Hi e (.lst [.int (m:Int),.ref u,.bl false])) e m u x' false:=⟨aA,aL QJ h⟩;have YB:e≠j:=(aF g.und h).symm;have BD:e≠bk:=(aF g.book h).symm;have YC:∀a7∈us,a7.e≠e:=λa7 hu=>aF (g.ent a7 hu).1 h
 have YD:H e=none:=by
  cases hh:H e with
  | none=>rfl
  | some o=>
   have QK:=g.dk.ne h;have:e≠c:=(aF g.rows.lst h).symm;rw[g.fr e o hh QK.1 QK.2 this]at h;cases h
 refine⟨j,_,_,rfl,rfl,Lj.und,by rw[aS,aS];exact oC (m:=1000) Zo Zd,?_⟩;exact GA _ _ ⟨_,_,kvs,f,_,m,turn',_,_,_,_,_,rfl,Lj.push YA YD YB BD YC,P8.came m1 Zo Zo XZ qd M1,by simp;omega,Zo,Zo,Zo,by simp;omega⟩
def Vf(T:Txt K mg)(a6:aG P w K mg base 1 "_law_draw" QZN bS)(W7:aG P w K mg base 2 "_law_right" QZl tW)(y9:aG P w K mg base 2 "_law_changed" QZA nU){fa:TD}{cdv:Q4}{A:Around}{outer:List Env}{s:QZZ}{H0:Hp}{E:XK}(G:Room 3 (A.deeper (PyProof.Rows.envOfC "_law_lived" (aB bM) s.heap.objs.size fa cdv))) :
  ∃t,XB (nB sO P w K mg base QZp "_law_lived" (aB bM) fa cdv A outer s H0 E).nox (stE (Um (stB (Um (bF bM) 5)) 2)) t ∧
  ∀(D:pJ)(H Y:Hp)(d b e I bk p O:TD)(M:List TD)(N i X num turn turn':Nat)(rs:List RX)(q:List TD)(kvs:List (aV×V))(f:Str->Nat)(us:List Un)(Z P2 P4:Option V),MenusAt H I M->d∉M->b∉M->e∉M->i<30->LvH H d b e bk p Y rs q kvs f us->LvP rs f num turn' us->rs.length<=13+i->num<=900006+9*i->turn<=500000000000+9*i->kvs.length<=13+2*i->us.length<=i->turn<=turn'->turn'<=turn+9->us≠[]->(∀ F g,aAT H d b e I bk p O N (i+1) F g->D.nx F g) →
   t D [some (.ref d),some (.ref e),some (.ref I),some (.int (N:Int)),some (.ref bk),some (.ref p),some (.ref O),some (.int (num:Int)),some (.int (turn':Int)),some (.int (i:Int)),some (.int (X:Int)),Z,P2,P4] Y:=by
 have hu:=G.units0;have U5:=G.units;refine⟨_,(lj (mh (i:=12) bH.nd (li (og (K:=K)) (ku 5) (mf a6 G rfl (kx (ku 0) (kx (oi (o0 (K:=K)) rfl T.b_len bN (kx (ku 5) lg)) lg))))) (lj (mh (i:=13) bH.nd (mf W7 G rfl (kx (ku 0) (kx (ku 4) (kx (ku 12) lg))))) (md (nv (qv (ww (mo nz (ku 10) kz) (ww (J0 (wr (li (og (K:=K)) (ku 12) kz))) (AT (mo (qt (K:=K)) (li (lx (K:=K)) (li (og (K:=K)) (ku 12) kz) kz) (mj (kx lq (kx lq (kx lq lg))))))))) (lj (qu (qy (K:=K) PySem.F.plainAttrs_list PySem.F.slot_list_append PySem.F.type_list_append yy (ku 1) (kx (mj (kx lq (kx (li (og (K:=K)) (ku 12) kz) lg))) lg))) (md (ut qw (u8 (ku 12) kz R.jl)))) (md (nv (mo R.fm (ku 13) ue) (lj (qu (qy (K:=K) PySem.F.plainAttrs_list PySem.F.slot_list_append PySem.F.type_list_append yy (ku 1) (kx (mj (kx lq (kx (li (og (K:=K)) (ku 12) kz) (kx (ku 8) (kx (ku 13) lg))))) lg))) (lj (qu (mf y9 G rfl (kx (ku 4) (kx (li (og (K:=K)) (ku 12) kz) (kx (ku 13) lg))))) (md (qu (qy (K:=K) PySem.F.plainAttrs_list PySem.F.slot_list_remove PySem.F.type_list_remove (R.jg U5) (ku 5) (kx (ku 12) lg)))))) nw)))))),?_⟩;intro D H Y d b e I bk p O M N i X num turn turn' rs q kvs f us Z P2 P4 hM oD oB oR hi Q z l1 l2 l3 l4 l5 t1 t2 u7 GA;have YE:0<us.length:=by cases us with|nil=>exact QZW rfl u7|cons _ _=>exact Nat.succ_pos _
 refine⟨_,.inl (QYJ Q.und),d,b,(us.length:Int),by rw[aS,aS],Q.dk,Zo,Zo,λr Ha r0 r1 Da ka=>?_⟩;have n:=Q.fw ((Fw.refl Q.dk).draw Da ka);obtain⟨j,rfl⟩:=gK r0;have hj:j<us.length:=by omega
 obtain⟨u,B⟩:∃u,us[j]?=some u:=⟨us[j],eT hj⟩;have o:=jI B;refine yE0 (z.und u o) (yA5 λg1 ζ g3 g4 g5=>?_);obtain⟨tc,pc,kc,g2⟩:=ζ;refine⟨_,QYJ n.und,.ref u.e,eY (by rw[fK,fK,B];rfl),?_⟩;dsimp only [aJ];refine bJ (λF g=>∃(v:V),F=[some (.ref d),some (.ref e),some (.ref I),some (.int (N:Int)),some (.ref bk),some (.ref p),some (.ref O),some (.int (num:Int)),some (.int (turn':Int)),some (.int (i:Int)),some (.int (X:Int)),Z,some (.ref u.e),some v]/\LvH H d b e bk p g rs q kvs f us/\(v=.non∨∃y c,v=.ref c/\iE f u.x u.q y/\g c=some (.tup y.vs))) (λCZ w5=>?_) ?_
 ·have QL:=n.ne_d (n.fes u o);exact⟨d,b,bk,u.e,u.t,kvs,f,u.x,u.n,u.q,rfl,n.dk,n.book,n.bis,n.ent u o,g5,QL.1,QL.2,λy c g J ff gc=>w5 _ _ ⟨.ref c,rfl,n.fw ff,.inr ⟨y,c,rfl,J,gc⟩⟩,λg ff=>w5 _ _ ⟨.non,rfl,n.fw ff,.inl rfl⟩⟩
 rintro F Hb ⟨v,rfl,L,YF⟩;refine Ad (λc g=>LvH H d b e bk p g rs q kvs f us/\TK Hb g/\(c=true->u.q=false/\u.x.far=true)) (λk hk=>?_) ?_ ?_
 ·have en:=(L.ent u o);refine bA (λ_=>?_) (λ_=>hk _ _ ⟨L,.refl,nofun⟩);refine⟨_,QYJ en.1,_,rfl,?_⟩;show if (!u.q)=true then _ else _
  refine bA (λhq=>?_) (λ_=>hk _ _ ⟨L,.refl,nofun⟩);refine⟨_,QYJ en.1,_,rfl,_,QYK en.2,_,qZ u.x,aO rfl,λtq Hc sc gc=>⟨tq,_,rfl,.inr (QYK gc),rfl,rfl,?_⟩⟩;refine hk _ _ ⟨L.fw ((Fw.refl L.dk).same sc),Same.tk sc,λa0=>⟨by simpa using hq,?_⟩⟩;rw[<- yI];exact a0
 ·rintro Hc ⟨h,QM,hc⟩;obtain⟨hq,hf⟩:=hc rfl;refine⟨.inl ⟨rfl,_,QYJ h.rows.lst⟩,_,QYJ (h.ent u o).1,_,rfl,aO rfl,λC S U gd=>?_⟩;have x:=h.fw ((Fw.refl h.dk).same U);have lr:=x.rows.len;refine⟨e,_,_,rfl,rfl,x.rows.lst,by rw[aS];exact oC (m:=1000) Zo Zd,?_⟩;have l:=x.row (r:=.asked u.n) (a:=C) gd;generalize aI S e (.lst (q.map V.ref++[.ref C]))=He at l;refine⟨u.e,_,2,2,rfl,rfl,(l.ent u o).1,rfl,?_⟩;exact GA _ _ ⟨_,_,kvs,f,_,num,turn',_,_,_,_,_,rfl,l.mark B,z.mark B hq hf,by simp;omega,Zo,Zo,Zo,by rw[length_set];omega⟩
 ·refine λHc=>yA3 λh QM hc=>?_;rcases YF with rfl|⟨y,cc,rfl,J,YG⟩
  ·exact GA _ _ ⟨rs,q,kvs,f,us,num,turn',_,_,_,_,_,rfl,h,z,Zo,Zo,Zo,Zo,Zo⟩
  ·obtain⟨r1,r2⟩:=tO z.fb g1 J g5;obtain⟨ea,hG⟩:=jA g1 J;refine⟨.inl ⟨rfl,_,QYJ h.rows.lst⟩,_,QYJ (h.ent u o).1,_,rfl,aO rfl,λC S U gd=>?_⟩;have x:=h.fw ((Fw.refl h.dk).same U);have lr:=x.rows.len;have gcd:=U _ _ (QM _ _ YG);refine⟨e,_,_,rfl,rfl,x.rows.lst,by rw[aS];exact oC (m:=1000) Zo Zd,?_⟩;have l:=x.row (r:=.done u.n turn' y) (a:=C) ⟨cc,gd,gcd⟩;have QN:(aI S e (.lst (q.map V.ref++[.ref C]))) cc=some (.tup y.vs):=fN x.rows.lst _ _ gcd;generalize aI S e (.lst (q.map V.ref++[.ref C]))=He at l QN;refine⟨_,QYJ (l.ent u o).1,_,rfl,bk,u.t,cc,kvs,f,u.x,y,rfl,l.book,l.bis,Zo,(l.ent u o).2,QN,r1,hG,λC6 Hf gf bf lf kf=>?_⟩;have W:=l.pay kf gf bf;refine⟨.inl ⟨rfl,_,QYJ W.und⟩,?_⟩;dsimp only [hX,rE,vr];show lQ (.ref p) [.ref u.e] Hf _;refine W.rem z.nd B ?_;rw[ea]at W;exact GA _ _ ⟨_,_,C6,_,_,num,turn',_,_,_,_,_,rfl,W.drop j,z.done B Zo J,by simp;omega,Zo,Zo,Zo,by have:=List.length_eraseIdx_le us j;omega⟩
def As:Sp:=λvs H Q _=>∃(d b a i:TD)(M:List TD)(j:List RX)(k:List TD)(h:Nat),vs=[.ref d,.ref a,.ref i,.int (h:Int)]/\Dk H d b/\RxsAt H a j k/\yH j/\MenusAt H i M/\d∉M/\b∉M/\a∉M/\a≠d/\a≠b/\h<=30 ∧
 ∀(e:List RX)(l:List TD)(f:Str->Nat)(g:Hp),RxsAt g a e l->RX.Whole e->(∀r∈e,r.Ok)->lT e f->e.length<=43->Dk g d b->(∀c o,H c=some o->c≠d->c≠b->c≠a->g c=some o)->Q (.ref a) g
def Pn(T:Txt K mg)(a6:aG P w K mg base 1 "_law_draw" QZN bS)(T4:aG P w K mg base 3 "_law_deed" QZs rT)(J5:aG P w K mg base 2 "_law_spot" QZJ oW)(L3:aG P w K mg base 2 "_law_sized" QZq lS)(W7:aG P w K mg base 2 "_law_right" QZl tW)(y9:aG P w K mg base 2 "_law_changed" QZA nU)(D:DefAt K mg "_law_lived" bM QYX):aG P w K mg base 4 "_law_lived" QYX As:=by
 refine D.gg bH (λf cdv a5 outer s H vs a7 E hr h=>?_)
 ·revert h;refine yE8 λd b l Z a2 q BE I=>yA12 λζ dk O xg hM oD oB oR IS IT QO a4=>?_;subst ζ;have hu:=hr.units0;have U5:=hr.units;have l0:=xg.len;have LY:=O.len;obtain⟨tc1,h1,p1⟩:=Ve (P:=P) (w:=w) (base:=base) T a6 T4 J5 L3 (fa:=f) (outer:=outer) (H0:=H) (E:=E) hr;obtain⟨tc2,h2,p2⟩:=Vf (P:=P) (w:=w) (base:=base) T a6 W7 y9 (fa:=f) (outer:=outer) (H0:=H) (E:=E) hr;refine⟨_,(lj (mh (i:=4) bH.nd (zn (R.gu (K:=K) rfl) rfl T.b_dict rO (kx (ou rfl (js:=[none]) (N:=QZI) (CompScope.by (aB bM) QZp rfl rfl Zk) (aQ rfl) (ot (K:=K) (ku 1)) (λa3 s₂ H₂ fp=>⟨(ny (i:=0) (show(QZI:List Str).Nodup by decide +kernel)),(qo (mo nz (li (lx (K:=K)) (ku 0) kz) lq)),(mj (kx (li (lx (K:=K)) (ku 0) kz) (kx (li (lx (K:=K)) (ku 0) kz) lg)))⟩)) lg))) (lj (mh (i:=5) bH.nd (oh lg)) (lj (mh (i:=6) bH.nd (pi (R.ia (K:=K)) (oh (kx lq (kx lq lg))) tz (ow (me oa kz (mf a6 hr rfl (kx (ku 0) (kx kz lg))))))) (lj (mh (i:=7) bH.nd (oi (R.dw (K:=K) rfl) rfl T.b_max lK (kx (me sn (ou rfl (js:=[none,some 6]) (N:=["_law_row","_law_words_here"]) (CompScope.by (aB bM) QZp rfl rfl Zk) (aQ rfl) (ot (K:=K) (ku 1)) (λa3 s₂ H₂ fp=>⟨(ny (i:=0) (show(["_law_row","_law_words_here"]:List Str).Nodup by decide +kernel)),(qo (mo (qt (K:=K)) (li (lx (K:=K)) (ku 0) kz) (ku 1))),(li (lx (K:=K)) (ku 0) kz)⟩)) (oh (kx kz lg))) lg))) (lj (mh (i:=8) bH.nd (oi (R.dw (K:=K) rfl) rfl T.b_max lK (kx (me sn (ou rfl (js:=[none]) (N:=QZI) (CompScope.by (aB bM) QZp rfl rfl Zk) (aQ rfl) (ot (K:=K) (ku 1)) (λa3 s₂ H₂ fp=>⟨(ny (i:=0) (show(QZI:List Str).Nodup by decide +kernel)),(qo (mo nz (li (lx (K:=K)) (ku 0) kz) lq)),(li (lx (K:=K)) (ku 0) kz)⟩)) (oh (kx kz lg))) lg))) (lj (qr PassesOwn.never rfl (Q3 rfl T.b_range (kx (ku 3) lg)) (ny (i:=9) bH.nd) (lj (mh (i:=10) bH.nd (mf a6 hr rfl (kx (ku 0) (kx kz lg)))) (lj (mh (i:=8) bH.nd (me oa (ku 8) (li (og (K:=K)) (oh (kx kz (kx kz (kx kz (kx (mf a6 hr rfl (kx (ku 0) (kx kz lg))) lg))))) (mf a6 hr rfl (kx (ku 0) (kx kz lg)))))) (md (nv (qv (NE (mo IN (ku 10) kz) (R.fh (mo (R.jx (K:=K) hu) (ku 5) (oh lg)))))
   h1
   h2))))) (md (mi (ku 1))))))))),?_⟩
  refine bJ (λj a=>∃(bk:TD)(J:List (aV×V)),j=[some (.ref d),some (.ref l),some (.ref Z),some (.int (I:Int)),some (.ref bk),none,none,none,none,none,none,none,none,none]/\H bk=none/\a bk=some (.dK J)/\BookIs J (cO q)/\J.length<=13/\Same H a) (λnx U=>?_) ?_
  ·refine⟨l,rfl,⟨_,QYJ O.lst⟩,?_⟩;refine aX (aY K l (BE.map V.ref)) (by rw[aS];omega) (λi g a=>∃L:List W,g=L.map (λz=>V.ref z.1)/\Ww a L/\L.map (·.2)=bY (q.take i)/\Same H a/\L.length<=i) (λi g a ⟨L,e,_,_,s',F⟩=>⟨QYJ (s' _ _ O.lst),by rw[e,aS];exact F⟩) ⟨[],rfl,(λ_ h=>nomatch h),rfl,(λ_ _ e=>e),aZ _⟩ (?_) (?_)
   ·refine λi x g a hx=>yE1 λL=>yA5 λe hw ez s' F=>?_;obtain⟨a1,r,rfl,ha,i9,b6⟩:=(O.same s').get hx;obtain⟨xs,a0,x0,x1,x2⟩:=eI b6;have j3:=aM i9;refine⟨_,QYK a0,_,x0,?_⟩;show if decide (bE r="has")=true then _ else _
    refine bA (λh=>?_) (λh=>?_)
    ·obtain⟨z,m,rfl⟩:=Cy (U6 h);refine⟨_,QYK a0,_,x1,_,QYK a0,_,x2 nofun,aO rfl,λtp H2 s2 g2=>?_⟩;refine⟨L++[(tp,(Sum.inr z,.int (m:Int)))],by rw[e,dW];rfl,λy hy=>?_,?_,s'.trans s2,by simp;omega⟩
     ·rcases aH hy with hy|rfl
      ·exact s2 _ _ (hw y hy)
      ·exact g2
     ·rw[dW,ez,j3,tY];rfl
    ·refine⟨L,e,hw,?_,s',Zo⟩;rw[ez,j3,tY,Jj (U0 h),append_nil]
   ·rintro g a ⟨L,e,hw,ez,s',F⟩;intro p A;have X:(aI a p (.lst g)) p=some (.lst (L.map λz=>V.ref z.1)):=by rw[aA,e]
    have s1:Same H (aI a p (.lst g)):=s'.trans (aE A);have zz:Ww (aI a p (.lst g)) L:=λz hz=>aL (hw z hz) A
    generalize aI a p (.lst g)=H1 at X s1 zz;rw[aS]at F;refine⟨L,QYJ X,zz,Zo,λbk GB=>?_⟩;refine U _ _ ⟨bk,_,rfl,s1.free GB,aA,?_,?_,s1.trans (aE GB)⟩
    ·rw[ez,aS,<- LY,iI (aZ _)];exact dM q [] _ (λz=>rfl)
    ·have:=dZ (L.map (·.2)) [];rw[aS]at this;simp at this;omega
  refine λj H1=>yE2 λbk T2=>yA6 λζ fbk xh LZ lk0 s1=>?_;subst ζ;have f1:=(Fw.refl dk).same s1;refine⟨eL rfl,λB IU=>?_⟩;have ful:=s1.free IU;have nbu:bk≠B:=aF xh IU;have f2:=f1.new (o:=.lst []) IU;have QP:(aI H1 B (.lst [])) B=some (.lst []):=aA;replace xh:=aL (u:=.lst []) xh IU;dsimp only [aJ];generalize aI H1 B (.lst [])=H2 at f2 QP xh;refine bJ (λj a=>∃(C:TD)(wz:List Str),j=[some (.ref d),some (.ref l),some (.ref Z),some (.int (I:Int)),some (.ref bk),some (.ref B),some (.ref C),none,none,none,none,none,none,none]/\a C=some (.lst (wz.map V.str))/\(wz=[("kept":Str)]∨wz=[("kept":Str),"next"])/\C≠d/\C≠b/\Fw d b H2 a) (λnx U=>?_) ?_
  ·refine⟨eL rfl,λp A=>⟨d,b,2,rfl,f2.dk.new A,Zd,Zd,λr H3 r0 r1 D3 k3=>?_⟩⟩;have pd:=f2.dk.ne A;have F3:=((Fw.refl f2.dk).new (o:=.lst [.str "kept",.str "next"]) A).draw D3 k3;have X:=k3 p _ aA pd.1 pd.2;rcases(by omega:r=0∨r=1) with rfl|rfl
   ·refine⟨_,QYJ X,λC BF=>U _ _ ⟨C,["kept"],rfl,aA,.inl rfl,(F3.dk.ne BF).1,(F3.dk.ne BF).2,F3.new BF⟩⟩
   ·refine⟨_,QYJ X,λC BF=>U _ _ ⟨C,["kept","next"],rfl,aA,.inr rfl,(F3.dk.ne BF).1,(F3.dk.ne BF).2,F3.new BF⟩⟩
  refine λj H3=>yE2 λC wz=>yA6 λζ YH BG nwd nwb F3=>?_;subst ζ;have f3:=f2.trans F3;have R3:=O.keep f3.tk (f3.get O.lst IS IT);refine bJ (λj a=>∃(num:Nat),j=[some (.ref d),some (.ref l),some (.ref Z),some (.int (I:Int)),some (.ref bk),some (.ref B),some (.ref C),some (.int (num:Int)),none,none,none,none,none,none]/\num<=900006/\(∀n t p k x y,.kept n t p k x y∈q->n<=num)/\Fw d b H2 a) (λnx U=>?_) ?_
  ·refine⟨l,rfl,⟨_,QYJ R3.lst⟩,?_⟩;refine aX (aY K l (BE.map V.ref)) (by rw[aS];omega) (λi g a=>a=H3/\∃c:List Nat,g=c.map (λn:Nat=>V.int (n:Int))/\c.length<=i/\(∀n∈c,n<=900006)/\∀n t p k x y,.kept n t p k x y∈q.take i->n∈c) (λi g a ⟨Q,c,e,F,_⟩=>⟨by rw[Q];exact QYJ R3.lst,by rw[e,aS];exact F⟩) ⟨rfl,[],rfl,aZ _,(λ_ h=>nomatch h),(λ_ _ _ _ _ _ h=>nomatch h)⟩ (?_) (?_)
   ·rintro i x g a hx ⟨Q,c,e,F,u4,G⟩;subst Q;obtain⟨a1,r,rfl,ha,i9,b6⟩:=R3.get hx;obtain⟨xs,a0,x0,x1,x2⟩:=eI b6;have j3:=aM i9;have GC:r∈q:=jI i9;refine⟨_,QYK a0,_,x0,C,_,rfl,.inl (QYJ YH),rfl,by rcases BG with rfl|rfl<;>rfl,?_⟩;have yes:∀n:Nat,Pj r=.int (n:Int)->n<=900006->(∀n' t p k x y,.kept n' t p k x y∈q.take (i+1)->n'∈c++[n])->(∃xs,SqT K a a1 xs/\∃v,nC xs 1=some v/\(a=a/\∃rm:List Nat,g++[v]=rm.map (λn:Nat=>V.int (n:Int))/\rm.length<=i+1/\(∀n∈rm,n<=900006)/\∀n t p k x y,.kept n t p k x y∈q.take (i+1)->n∈rm)):=λn e1 hn YI=>by
     refine⟨_,QYK a0,_,x1,rfl,c++[n],by rw[e,dW,e1];rfl,by simp;omega,λm hm=>?_,YI⟩;rcases aH hm with hm|rfl
     ·exact u4 m hm
     ·exact hn
    have no:(∀n' t p k x y,r≠.kept n' t p k x y)->a=a/\∃rm:List Nat,g=rm.map (λn:Nat=>V.int (n:Int))/\rm.length<=i+1/\(∀n∈rm,n<=900006)/\∀n t p k x y,.kept n t p k x y∈q.take (i+1)->n∈rm:=λu7=>by
     refine⟨rfl,c,e,Zo,u4,λn t p k x y hm=>?_⟩;rw[j3]at hm;rcases aH hm with hm|hm
     ·exact G _ _ _ _ _ _ hm
     ·exact QZW hm.symm (u7 _ _ _ _ _ _)
    show if qW (.str (bE r)) (wz.map V.str)=true then _ else _
    cases r with
    | kept n t p k x y=>
     refine Ie (by rcases BG with rfl|rfl<;>rfl) ?_;refine yes n rfl ?_ (λn' t' p' k' x' y' hm=>?_)
     ·have h1:=xg.ok _ GC;have:∃n0 t0,RX.next n0 t0∈q/\n<n0:=Cw xg.wh GC;obtain⟨n0,t0,GD,l9⟩:=this;have:=xg.nx _ _ GD;omega
     ·rw[j3]at hm;rcases aH hm with hm|hm
      ·exact QZU _ (G _ _ _ _ _ _ hm)
      ·cases hm;exact QZT _ gJ
    | next n t=>
     rcases BG with rfl|rfl
     ·exact xO rfl (no (λ_ _ _ _ _ _ z=>nomatch z))
     ·refine Ie rfl (yes n rfl (xg.nx _ _ GC).1 (λn' t' p' k' x' y' hm=>?_));rw[j3]at hm;rcases aH hm with hm|hm
      ·exact QZU _ (G _ _ _ _ _ _ hm)
      ·cases hm
    | has z m=>exact xO (by rcases BG with rfl|rfl<;>rfl) (no (λ_ _ _ _ _ _ z=>nomatch z))
    | came n t p k x=>exact xO (by rcases BG with rfl|rfl<;>rfl) (no (λ_ _ _ _ _ _ z=>nomatch z))
    | asked n=>exact xO (by rcases BG with rfl|rfl<;>rfl) (no (λ_ _ _ _ _ _ z=>nomatch z))
    | done n t y=>exact xO (by rcases BG with rfl|rfl<;>rfl) (no (λ_ _ _ _ _ _ z=>nomatch z))
   ·rintro g a ⟨Q,c,e,F,u4,G⟩;subst Q;intro p A;rw[aS]at F G;rw[<- LY,iI (aZ _)]at G;refine⟨eL rfl,λp2 C5=>⟨_,_,aL aA C5,aA,by rw[e,aS];exact eZ (by simp;omega),λp3 Q6=>?_⟩⟩;refine⟨p3,(c.map (λn:Nat=>(n:Int)))++[0],rfl,QYJ (by rw[aA,e,dW,map_map];rfl),Zs,λmx zp E2=>?_⟩;have nn:∃m:Nat,mx=m/\m<=900006:=by
     rcases Zma.mp zp with h|h
     ·obtain⟨n,hn,rfl⟩:=Zmm.mp h;exact⟨n,rfl,u4 n hn⟩
     ·rw[Zms.mp h];exact⟨0,rfl,Zo⟩
    obtain⟨m,rfl,hm⟩:=nn;refine U _ _ ⟨m,rfl,hm,λn t p' k x y hh=>?_,((F3.new A).new C5).new Q6⟩;have:=E2 (n:Int) (QZU _ (mem_map_of_mem (G _ _ _ _ _ _ hh)));omega
  rintro j H4 ⟨num,rfl,YJ,YK,F4⟩;have f4:=f2.trans F4;have R4:=O.keep f4.tk (f4.get O.lst IS IT);refine bJ (λj a=>∃(turn:Nat),j=[some (.ref d),some (.ref l),some (.ref Z),some (.int (I:Int)),some (.ref bk),some (.ref B),some (.ref C),some (.int (num:Int)),some (.int (turn:Int)),none,none,none,none,none]/\turn<500000000000/\(∀n t,.next n t∈q->t<=turn)/\Fw d b H2 a) (λnx U=>?_) ?_
  ·refine⟨l,rfl,⟨_,QYJ R4.lst⟩,?_⟩;refine aX (aY K l (BE.map V.ref)) (by rw[aS];omega) (λi g a=>a=H4/\∃c:List Nat,g=c.map (λn:Nat=>V.int (n:Int))/\c.length<=i/\(∀n∈c,n<500000000000)/\∀n t,.next n t∈q.take i->t∈c) (λi g a ⟨Q,c,e,F,_⟩=>⟨by rw[Q];exact QYJ R4.lst,by rw[e,aS];exact F⟩) ⟨rfl,[],rfl,aZ _,(λ_ h=>nomatch h),(λ_ _ h=>nomatch h)⟩ (?_) (?_)
   ·rintro i x g a hx ⟨Q,c,e,F,u4,G⟩;subst Q;obtain⟨a1,r,rfl,ha,i9,b6⟩:=R4.get hx;obtain⟨xs,a0,x0,x1,x2⟩:=eI b6;have j3:=aM i9;have GC:r∈q:=jI i9;refine⟨_,QYK a0,_,x0,?_⟩;show if decide (bE r="next")=true then _ else _
    refine bA (λh=>?_) (λh=>?_)
    ·obtain⟨n,t,rfl⟩:=rW (U6 h);refine⟨_,QYK a0,_,x2 nofun,rfl,c++[t],by rw[e,dW];rfl,by simp;omega,λm hm=>?_,λn' t' hm=>?_⟩
     ·rcases aH hm with hm|rfl
      ·exact u4 m hm
      ·exact(xg.nx _ _ GC).2
     ·rw[j3]at hm;rcases aH hm with hm|hm
      ·exact QZU _ (G _ _ hm)
      ·cases hm;exact QZT _ gJ
    ·refine⟨rfl,c,e,Zo,u4,λn' t' hm=>?_⟩;rw[j3]at hm;rcases aH hm with hm|hm
     ·exact G _ _ hm
     ·subst hm;exact QZW rfl (U0 h)
   ·rintro g a ⟨Q,c,e,F,u4,G⟩;subst Q;intro p A;rw[aS]at F G;rw[<- LY,iI (aZ _)]at G;refine⟨eL rfl,λp2 C5=>⟨_,_,aL aA C5,aA,by rw[e,aS];exact eZ (by simp;omega),λp3 Q6=>?_⟩⟩;refine⟨p3,(c.map (λn:Nat=>(n:Int)))++[0],rfl,QYJ (by rw[aA,e,dW,map_map];rfl),Zs,λmx zp E2=>?_⟩;have nn:∃m:Nat,mx=m/\m<500000000000:=by
     rcases Zma.mp zp with h|h
     ·obtain⟨n,hn,rfl⟩:=Zmm.mp h;exact⟨n,rfl,u4 n hn⟩
     ·rw[Zms.mp h];exact⟨0,rfl,Zo⟩
    obtain⟨m,rfl,hm⟩:=nn;refine U _ _ ⟨m,rfl,hm,λn t hh=>?_,((F4.new A).new C5).new Q6⟩;have:=E2 (t:Int) (QZU _ (mem_map_of_mem (G _ _ hh)));omega
  rintro j H5 ⟨turn,rfl,QQ,YL,F5⟩;have f5:=f2.trans F5;have R5:=O.keep f5.tk (f5.get O.lst IS IT);have II:=dk.ne fbk;have QR:=dk.ne ful;have L5:LvH H d b l bk B H5 q BE T2 (cO q) []:=⟨dk,⟨_,O.lst⟩,fbk,ful,(λ_ h=>nomatch h),⟨IS,IT⟩,nbu,(λ_ h=>nomatch h),nodup_nil,f5.dk,R5,F5.get xh II.1 II.2,LZ,F5.get QP QR.1 QR.2,(λ_ h=>nomatch h),λa9 o e n1 n2 _=>f5.get e n1 n2⟩;have P5:=LvP.start (num:=num) (turn:=turn) xg YK YL (Ji xg.ok);refine bJ (λj a=>∃(M:List RX)(Y:List TD)(J:List (aV×V))(f:Str->Nat)(S:List Un)(num turn:Nat)(o9 BC mn P2 P4:Option V),j=[some (.ref d),some (.ref l),some (.ref Z),some (.int (I:Int)),some (.ref bk),some (.ref B),some (.ref C),some (.int (num:Int)),some (.int (turn:Int)),o9,BC,mn,P2,P4]/\LvH H d b l bk B a M Y J f S/\LvP M f num turn S/\M.length<=43) (λnx U=>?_) ?_
  ·refine⟨(I:Int),rfl,Zo,Zo,?_⟩;have em:(I:Int).toNat=I:=by omega
   refine cD (eV 0 (I:Int).toNat) (aAT H d b l Z bk B C I) (λ_ _ _ _=>trivial)
    ⟨q,BE,T2,cO q,[],num,turn,_,_,_,_,_,rfl,L5,P5,Zo,Zo,Zo,Zo,aZ _⟩ ?_ ?_
   ·refine λi x j H6 hx=>yE12 λM Y J f S num turn o9 BC mn P2 P4=>yA8 λζ L6 P6 l1 l2 l3 l4 l5=>?_;subst ζ;obtain⟨rfl,hi⟩:=nS hx;rw[em]at hi;refine⟨d,b,4,rfl,L6.dk,Zd,Zd,λway H7 w0 w1 D7 k7=>?_⟩;obtain⟨way,rfl⟩:=gK w0;have L7:=L6.fw ((Fw.refl L6.dk).draw D7 k7);dsimp only [aJ];refine bJ (λj a=>∃(turn':Nat),j=[some (.ref d),some (.ref l),some (.ref Z),some (.int (I:Int)),some (.ref bk),some (.ref B),some (.ref C),some (.int (num:Int)),some (.int (turn':Int)),some (.int (i:Int)),some (.int (way:Int)),mn,P2,P4]/\turn<=turn'/\turn'<=turn+9/\LvH H d b l bk B a M Y J f S) (λCZ w5=>?_) ?_
    ·refine⟨d,b,9,rfl,L7.dk,Zd,Zd,λr8 H8 x0 x1 D8 k8=>⟨eL rfl,λp A=>⟨d,b,4,rfl,D8.new A,Zd,Zd,λr9 H9 y0 y1 D9 k9=>?_⟩⟩⟩;obtain⟨r8,rfl⟩:=gK x0;have J2:=D8.ne A;have X:=k9 p _ aA J2.1 J2.2;have L9:=L7.fw ((((Fw.refl L7.dk).draw D8 k8).new A).draw D9 k9);rcases aCm y0 y1 with rfl|rfl|rfl|rfl
     ·refine⟨_,QYJ X,_,rfl,w5 _ _ ⟨turn,?_,Zo,Zo,L9⟩⟩;rw[show(turn:Int)=(turn:Int)+0 by omega];rfl
     ·refine⟨_,QYJ X,_,rfl,w5 _ _ ⟨turn,?_,Zo,Zo,L9⟩⟩;rw[show(turn:Int)=(turn:Int)+0 by omega];rfl
     ·exact⟨_,QYJ X,_,rfl,w5 _ _ ⟨turn+1,rfl,Zo,Zo,L9⟩⟩
     ·exact⟨_,QYJ X,_,rfl,w5 _ _ ⟨turn+r8,rfl,Zo,Zo,L9⟩⟩
    ·rintro j H8 ⟨turn',rfl,t1,t2,L8⟩;have P8:=P6.turn' t1;refine Ad (λv a=>LvH H d b l bk B a M Y J f S/\(v=false->S≠[])) (λk hk=>?_) ?_ ?_
     ·refine bA (λ_=>hk _ _ ⟨L8,nofun⟩) (λ_=>?_);refine⟨eL rfl,λp A=>⟨B,p,_,rfl,rfl,QYJ (aL L8.und A),QYJ aA,?_⟩⟩;refine hk _ _ ⟨L8.fw ((Fw.refl L8.dk).new A),λe z=>?_⟩;subst z;cases e
     ·rintro H9 ⟨L9,hv⟩;exact p1 _ H H9 d b l Z bk B C a2 I i way num turn turn' M Y J f S mn P2 P4 hM oD oB oR Zo L9 P8 l1 l2 l3 l4 l5 t1 t2 (λ_ _ h=>h)
     ·rintro H9 ⟨L9,hv⟩;exact p2 _ H H9 d b l Z bk B C a2 I i way num turn turn' M Y J f S mn P2 P4 hM oD oB oR Zo L9 P8 l1 l2 l3 l4 l5 t1 t2 (hv rfl) (λ_ _ h=>h)
   ·refine λj H6=>yE12 λM Y J f S num turn o9 BC mn P2 P4=>yA8 λζ L6 P6 l1 l2 l3 l4 l5=>?_;subst ζ;rw[gA]at l1;exact U _ _ ⟨M,Y,J,f,S,num,turn,o9,BC,mn,P2,P4,rfl,L6,P6,Zo⟩
  refine λj H6=>yE12 λM Y J f S num turn o9 BC mn P2 P4=>yA4 λζ L6 P6 l1=>?_;subst ζ;exact a4 M Y f H6 L6.rows P6.wh P6.ok P6.lv l1 L6.dk L6.fr
def jB:RX->aV|.next n _=>Sum.inl (n:Int)|.has z _=>Sum.inr z|.kept n _ _ _ _ _=>Sum.inl (n:Int)|.came n _ _ _ _=>Sum.inl (n:Int)|.asked n=>Sum.inl (n:Int)|.done n _ _=>Sum.inl (n:Int)
def aAU(r:RX):Pj r=kV (jB r):=by cases r<;>rfl
def kU(wd:Str)(r:RX)(a:TD):List (aV×V):=if bE r=wd then [(jB r,.ref a)] else []
def bR(wd:Str)(rs:List RX)(b:List TD):Nat->List (aV×V)
 | 0=>[]
 | i+1=>bR wd rs b i++(match rs[i]?,b[i]? with|some r,some a=>kU wd r a|_,_=>[])
def jR{wd:Str}{rs:List RX}{b:List TD}{i:Nat}{r:RX}{a:TD}(c:rs[i]?=some r)(d:b[i]?=some a):bR wd rs b (i+1)=bR wd rs b i++kU wd r a:=by
 simp only [bR,c,d]
theorem tZ(wd:Str)(rs:List RX)(a:List TD):∀i,(bR wd rs a i).length<=i
 | 0=>aZ _
 | i+1=>by
  have:=tZ wd rs a i;unfold bR;rw[lZ];split
  ·unfold kU;split<;>simp<;>omega
  ·simp;omega
theorem uA{wd:Str}{rs:List RX}{c:List TD}{k:aV}{v:V}:∀ {i:Nat},(k,v)∈bR wd rs c i->∃j r a,j<i/\rs[j]?=some r/\c[j]?=some a/\bE r=wd/\k=jB r/\v=.ref a
 | 0,h=>nomatch h
 | i+1,h=>by
  unfold bR at h;rcases Zma.mp h with h|h
  ·obtain⟨j,r,a,d,b⟩:=uA h;exact⟨j,r,a,Zo,b⟩
  ·split at h
   ·rename_i r a e f;unfold kU at h;split at h
    ·rename_i g;have:=Zms.mp h;injection this with d b
     exact⟨i,r,a,lt_succ_self _,e,f,g,d,b⟩
    ·cases h
   ·cases h
theorem Au{wd:Str}{rs:List RX}{b:List TD}{j:Nat}{r:RX}{a:TD}(c:rs[j]?=some r)(d:b[j]?=some a)(f:bE r=wd):∀ {i:Nat},j<i->(jB r,V.ref a)∈bR wd rs b i
 | 0,h=>nomatch h
 | i+1,h=>by
  by_cases e:j=i
  ·subst e;rw[jR c d];refine QZT _ ?_;unfold kU;rw[QZY f];exact gJ
  ·unfold bR;exact QZU _ (Au c d f Zo)
def Cz(kvs l:List (aV×V))(k:aV)(v:V):aN kvs (l++[(k,v)])=bI (aN kvs l) k v:=by unfold aN;rw[foldl_append];rfl
theorem kW{k:aV}{v:V}:∀ {l kvs:List (aV×V)},bB (aN kvs l) k=some v->(k,v)∈l∨bB kvs k=some v
 | [],kvs,h=>.inr h
 | (b,c)::l,kvs,h=>by
  have d:bB (aN (bI kvs b c) l) k=some v:=h;rcases kW d with a|a
  ·exact .inl (kY _ a)
  ·rw[cZ]at a;by_cases e:k=b
   ·rw[QZY e]at a;injection a with a
    rw[<- a,e];exact .inl gJ
   ·rw[QZX e]at a;exact .inr a
theorem uB{k:aV}:∀ {l kvs:List (aV×V)},(k∈l.map (·.1)∨∃v,bB kvs k=some v)->∃v,bB (aN kvs l) k=some v
 | [],kvs,h=>by
  rcases h with h|h
  ·cases h
  ·exact h
 | (a,b)::l,kvs,h=>by
  refine uB (l:=l) (kvs:=bI kvs a b) ?_;rcases h with h|⟨v,h⟩
  ·rcases mem_cons.mp h with h|h
   ·right
    rw[cZ,QZY h];exact⟨_,rfl⟩
   ·exact .inl h
  ·right
   rw[cZ];split
   ·exact⟨_,rfl⟩
   ·exact⟨v,h⟩
def uC{wd:Str}{rs:List RX}{b:List TD}(u:rs.length=b.length){r:RX}(g:r∈rs)(h:bE r=wd):∃(j:Nat)(c:RX)(a:TD),bB (aN [] (bR wd rs b rs.length)) (jB r)=some (.ref a)/\rs[j]?=some c/\b[j]?=some a/\bE c=wd/\jB r=jB c:=by
 obtain⟨j,f,i⟩:=getElem_of_mem g;have m:rs[j]?=some r:=by rw[eT f,i]
 have n:b[j]?=some b[j]:=eT Zo;have o:=Au m n h f;obtain⟨v,d⟩:=uB (kvs:=[]) (k:=jB r) (l:=bR wd rs b rs.length) (.inl (mem_map_of_mem o));rcases kW d with e|e
 ·refine yE0 (uA e) (yE3 λp c q=>yA6 λ_ g1 g2 g3 s t=>?_);rw[t]at d;exact⟨p,c,q,d,g1,g2,g3,s⟩
 ·cases e
def rX:Sp:=λvs H Q _=>∃(c:TD)(wd:Str)(a:List RX)(d:List TD),vs=[.ref c,.str wd]/\RxsAt H c a d/\a.length<=100/\∀(p:TD)(b:Hp),H p=none->b p=some (.dK (aN [] (bR wd a d a.length)))->Same H b->Q (.ref p) b
def vJ(D:DefAt K mg "by_numbers" gQ QZt):aG P w K mg base 1 "by_numbers" QZt rX:=by
 refine D.gg jC (λf O A N s H vs Q E y h=>?_)
 ·obtain⟨l,wd,e,j,rfl,n,R,q⟩:=h;have z:=dH y;have le:=n.len;refine⟨_,(lj (mh (i:=2) jC.nd PP) (lj (qr PassesOwn.never rfl (ot (K:=K) (ku 0)) (ny (i:=3) jC.nd) (md (nv (mo nz (li (lx (K:=K)) (ku 3) kz) (ku 1)) (md (ut (ku 3) (u8 (ku 2) (li (lx (K:=K)) (ku 3) kz) (yx z)))) nw))) (md (mi (ku 2))))),?_⟩;refine λp o=>?_;have S:p≠l:=(aF n.lst o).symm;dsimp only [aJ];refine bJ (λb k=>∃c,b=[some (.ref l),some (.str wd),some (.ref p),c]/\k p=some (.dK (aN [] (bR wd e j e.length)))/\Same H k) (λT B=>?_) ?_
  ·refine⟨l,rfl,⟨_,QYJ (aL n.lst o)⟩,cD (aY K l (j.map V.ref)) (λi b k=>∃c,b=[some (.ref l),some (.str wd),some (.ref p),c]/\k p=some (.dK (aN [] (bR wd e j i)))/\Same H k) (λi b k ⟨_,_,_,C⟩=>QYJ (C _ _ n.lst))
    ⟨_,rfl,aA,aE o⟩ ?_ ?_⟩
   ·rintro i x b t F ⟨c,rfl,g1,d⟩;obtain⟨a,r,rfl,u,v,G⟩:=(n.same d).get F;obtain⟨U,g,I,J,W⟩:=eI G;have X:=(Zgs.mp u).1;have Y:=tZ wd e j i;have L:=dZ (bR wd e j i) [];refine⟨_,QYK g,_,I,?_⟩;show if decide (bE r=wd)=true then _ else _
    refine bA (λh=>?_) (λh=>?_)
    ·have M:DPut t p (Pj r) (.ref a) (aI t p (.dK (bI (aN [] (bR wd e j i)) (jB r) (.ref a)))):=by
      rw[aAU];exact DPut.k g1 (oC (m:=1000) (by simp at L;omega) Zd)
     refine⟨_,QYK g,_,J,p,_,rfl,M,?_⟩
     ·refine⟨_,rfl,?_,bX o d⟩;rw[aA,jR v u];unfold kU;rw[QZY (U6 h),Cz]
    ·refine⟨_,rfl,?_,d⟩;rw[jR v u];unfold kU;rw[QZX (U0 h),append_nil];exact g1
   ·rintro b t ⟨c,rfl,g1,d⟩;rw[aS,<- le]at g1;exact B _ _ ⟨c,rfl,g1,d⟩
  ·rintro b t ⟨c,rfl,g1,d⟩;exact q p t o g1 d
def Fs:Sp:=λvs H Q _=>∃a b c:Int,vs=[.int a,.int b,.int c]/\Q (.bl (decide (c<a+b))) H
def Po(D:DefAt K mg "is_alive" kJ QZn):aG P w K mg base 1 "is_alive" QZn Fs:=by
 refine D.gg Af (λf e A d s H vs Q E g h=>?_)
 ·obtain⟨a,b,c,rfl,q⟩:=h;refine⟨_,(md (mi (om J4 (me oa (ku 0) (ku 1)) (ku 2)))),?_⟩;exact q
def yJ(T:Txt K mg)(n:aG P w K mg base 1 "_law_draw" QZN bS)(t:aG P w K mg base 5 "_law_head" QZJ rV)(D:DefAt K mg "_law_some_head" eO QZJ):aG P w K mg base 6 "_law_some_head" QZJ rV:=by
 refine D.gg fP (λf L A J s H vs Q E e h=>?_)
 ·obtain⟨d,b,u,M,rfl,g,v,j,k,q⟩:=h;refine⟨_,(lj (mh (i:=2) fP.nd (oh lg)) (lj (nv (mo nz (mf n e rfl (kx (ku 0) (kx kz lg))) kz) (md (mh (i:=2) fP.nd (mf t e rfl (kx (ku 0) (kx (ku 1) lg))))) nw) (md (mi (ku 2))))),?_⟩;refine⟨eL rfl,λp a=>?_⟩;have f1:=(Fw.refl g).new (o:=.lst []) a;have g1:(aI H p (.lst [])) p=some (.lst []):=aA;dsimp only [aJ];generalize aI H p (.lst [])=N at f1 g1;refine⟨d,b,2,rfl,f1.dk,Zd,Zd,λr x O S c l=>?_⟩;have f2:=f1.draw c l;have y:=(Fw.refl f1.dk).draw c l;refine bA (λ_=>?_) (λ_=>?_)
  ·refine⟨d,b,u,M,rfl,c,f2.menus j k v,j,k,λz B C F fr R G I=>?_⟩;exact q z B C F (f2.free fr) R G (f2.trans I)
  ·have m:=g.ne a;exact q p [] [] x a (.nil (y.get g1 m.1 m.2)) ⟨.nil,(λ_ h=>nomatch h),(λ_ h=>nomatch h),zero_le _,(λ_ _ h=>nomatch h)⟩ f2
def dF{rs:List RX}(h:RX.Whole rs){n t t':Nat}{p k d e:Str}{x f:Dd}(b:.came n t p k x∈rs)(a:.came n t' d e f∈rs):RX.came n t p k x=.came n t' d e f:=by
 induction h with
 | nil=>cases b
 | snoc i c g=>
  rcases aH b with b|b
  ·rcases aH a with a|a
   ·exact g b a
   ·rw[<- a]at c;exact QZW (c.1 _ _ _ _ _ b) (lt_irrefl _)
  ·rcases aH a with a|a
   ·rw[<- b]at c;exact QZW (c.1 _ _ _ _ _ a) (lt_irrefl _)
   ·rw[b,a]
def dG{rs:List RX}(h:RX.Whole rs){n t:Nat}{y:An}(a:.done n t y∈rs):∃b p k x,RX.came n b p k x∈rs/\An.Of x y:=by
 induction h with
 | nil=>cases a
 | snoc g e f=>
  rcases aH a with a|a
  ·obtain⟨b,p,k,x,c,d⟩:=f a;exact⟨b,p,k,x,QZU _ c,d⟩
  ·rw[<- a]at e;obtain⟨_,_,b,p,k,x,c,d,_⟩:=e;exact⟨b,p,k,x,QZU _ c,d⟩
def mO{r:RX}(h:bE r="came"):∃n t p k x,r=.came n t p k x:=by
 cases r with
 | came n t p k x=>exact⟨n,t,p,k,x,rfl⟩
 | has z m=>exact QZW (show("has":Str)="came" from h) Zk
 | next n t=>exact QZW (show("next":Str)="came" from h) Zk
 | kept n t p k x y=>exact QZW (show("kept":Str)="came" from h) Zk
 | asked n=>exact QZW (show("asked":Str)="came" from h) Zk
 | done n t y=>exact QZW (show("done":Str)="came" from h) Zk
def oY{r:RX}(h:bE r="done"):∃n t y,r=.done n t y:=by
 cases r with
 | done n t y=>exact⟨n,t,y,rfl⟩
 | has z m=>exact QZW (show("has":Str)="done" from h) Zk
 | next n t=>exact QZW (show("next":Str)="done" from h) Zk
 | kept n t p k x y=>exact QZW (show("kept":Str)="done" from h) Zk
 | asked n=>exact QZW (show("asked":Str)="done" from h) Zk
 | came n t p k x=>exact QZW (show("came":Str)="done" from h) Zk
def lU(rs:List RX)(r:RX)(h:bE r≠"has"):cO (rs++[r])=cO rs:=by
 unfold cO;rw[foldl_append];cases r<;>first|rfl|exact QZW rfl h
structure RepF(rs:List RX)(F:Nat->Str->Nat)(f:Str->Nat):Prop where
 z:F 0=cO rs
 done:∀i n t y,rs[i]?=some (.done n t y)->∃t0 p k x q,.came n t0 p k x∈rs/\iE (F i) x q y/\F (i+1)=after (F i) x y
 rest:∀i r,rs[i]?=some r->bE r≠"done"->F (i+1)=F i
 last:F rs.length=f
def jS{a:Type}{xs:List a}{x y:a}{i:Nat}(h:(xs++[x])[i]?=some y):(i<xs.length/\xs[i]?=some y)∨(i=xs.length/\y=x):=by
 rcases lt_or_ge i xs.length with z|z
 ·rw[getElem?_append_left z]at h;exact .inl ⟨z,h⟩
 ·rw[getElem?_append_right z]at h;have b:=(Zgs.mp h).1;have:i=xs.length:=by simp at b;omega
  subst this;rw[sub_self]at h;cases h;exact .inr ⟨rfl,rfl⟩
def Jk{rs:List RX}{f:Str->Nat}(h:lT rs f):∃F,RepF rs F f:=by
 induction h with
 | head h=>exact⟨λ_=>cO _,rfl,λi n t y e=>QZW (h.rk _ (jI e)) (by show ¬ (3<=2);decide),λ_ _ _ _=>rfl,rfl⟩
 | @came rs f n t p k x B g=>
  obtain⟨F,b⟩:=g;refine⟨λi=>if i<=rs.length then F i else f,?_,λi j l m e=>?_,λi r e d=>?_,?_⟩
  ·show(if 0<=rs.length then F 0 else f)=_;rw[QZY (zero_le _),b.z,lU rs (.came n t p k x) (show("came":Str)≠"has" by decide +kernel)]
  ·rcases jS e with⟨a,e⟩|⟨_,e⟩
   ·refine yE0 (b.done i j l m e) (yE5 λc o s u q=>yA3 λv z A=>?_);refine⟨c,o,s,u,q,QZU _ v,?_,?_⟩
    ·rw[QZY (le_of_lt a)];exact z
    ·rw[QZY (le_of_lt a),QZY Zo];exact A
   ·cases e
  ·rcases jS e with⟨a,e⟩|⟨a,e⟩
   ·rw[QZY (le_of_lt a),QZY Zo];exact b.rest i r e d
   ·subst a;rw[QZX Zo,QZY (aZ _),b.last]
  ·show(if (rs++[_]).length<=rs.length then _ else f)=f;rw[QZX Zs]
 | @asked rs f n B g=>
  obtain⟨F,b⟩:=g;refine⟨λi=>if i<=rs.length then F i else f,?_,λi j l m e=>?_,λi r e d=>?_,?_⟩
  ·show(if 0<=rs.length then F 0 else f)=_;rw[QZY (zero_le _),b.z,lU rs (.asked n) (show("asked":Str)≠"has" by decide +kernel)]
  ·rcases jS e with⟨a,e⟩|⟨_,e⟩
   ·obtain⟨c,o,s,u,q,v,z,A⟩:=b.done i j l m e;refine⟨c,o,s,u,q,QZU _ v,?_,?_⟩
    ·rw[QZY (le_of_lt a)];exact z
    ·rw[QZY (le_of_lt a),QZY Zo];exact A
   ·cases e
  ·rcases jS e with⟨a,e⟩|⟨a,e⟩
   ·rw[QZY (le_of_lt a),QZY Zo];exact b.rest i r e d
   ·subst a;rw[QZX Zo,QZY (aZ _),b.last]
  ·show(if (rs++[_]).length<=rs.length then _ else f)=f;rw[QZX Zs]
 | @done rs f n t c p k x q y B C D g=>
  obtain⟨F,b⟩:=g;refine⟨λi=>if i<=rs.length then F i else after f x y,?_,λi j l m e=>?_,λi r e d=>?_,?_⟩
  ·show(if 0<=rs.length then F 0 else _)=_;rw[QZY (zero_le _),b.z,lU rs (.done n t y) (show("done":Str)≠"has" by decide +kernel)]
  ·rcases jS e with⟨a,e⟩|⟨a,e⟩
   ·refine yE0 (b.done i j l m e) (yE5 λc o s u q=>yA3 λv z A=>?_);refine⟨c,o,s,u,q,QZU _ v,?_,?_⟩
    ·rw[QZY (le_of_lt a)];exact z
    ·rw[QZY (le_of_lt a),QZY Zo];exact A
   ·injection e with E G H
    subst E G H a;refine⟨c,p,k,x,q,QZU _ C,?_,?_⟩
    ·rw[QZY (aZ _),b.last];exact D
    ·rw[QZX Zo,QZY (aZ _),b.last]
  ·rcases jS e with⟨a,e⟩|⟨a,e⟩
   ·rw[QZY (le_of_lt a),QZY Zo];exact b.rest i r e d
   ·subst e;exact QZW rfl d
  ·show(if (rs++[_]).length<=rs.length then _ else after f x y)=_;rw[QZX Zs]
def aDr:RX->Bool|.done _ _ _=>true|_=>false
def iF:RX->Bool|.came _ _ _ _ _=>true|_=>false
def Ft:RX->Bool|.has _ _=>true|_=>false
def bP(rs:List RX):List Nat:=rs.filterMap λr=>match r with|.done n _ _=>some n|_=>none
def bW(rs:List RX):List Nat:=rs.filterMap λr=>match r with|.came n _ _ _ _=>some n|_=>none
def hV{rs:List RX}{n:Nat}(h:n∈bP rs):∃t y,.done n t y∈rs:=by
 obtain⟨r,a,e⟩:=mem_filterMap.mp h;cases r<;>cases e;exact⟨_,_,a⟩
def qF{rs:List RX}{n t:Nat}{p k:Str}{x:Dd}(h:.came n t p k x∈rs):n∈bW rs:=mem_filterMap.mpr ⟨_,h,rfl⟩
def uD{rs:List RX}(h:RX.Whole rs):(bP rs).Nodup:=by
 induction h with
 | nil=>exact nodup_nil
 | @snoc rs r j d c=>
  unfold bP at c ⊢;rw[QZQ];cases r with
  | done n t y=>
   refine nodup_append.mpr ⟨c,Zs,λa e b f=>?_⟩;have g:b=n:=by simpa using f
   subst g;rintro rfl;obtain⟨k,l,i⟩:=hV e;exact d.2.1 _ _ i
  | _=>simpa using c
def De{xs:List Nat}:∀ {ys:List Nat},xs.Nodup->(∀x∈xs,x∈ys)->xs.length<=ys.length:=by
 induction xs with
 | nil=>exact λ_ _=>zero_le _
 | cons x r c=>
  intro ys d h;obtain⟨f,g⟩:=nodup_cons.mp d;have a:=h x gJ;have:=c (ys:=ys.erase x) g λy b=>(List.mem_erase_of_ne (λe=>f (by rw[<- e];exact b))).mpr (h y (kY _ b))
  rw[List.length_erase_of_mem a]at this;have i:0<ys.length:=List.length_pos_of_mem a;rw[sA];omega
def Av(rs:List RX):(bY rs).length+(bP rs).length+(bW rs).length<=rs.length:=by
 induction rs with
 | nil=>exact aZ _
 | cons r rs a=>
  unfold bY bP bW at a ⊢;cases r<;>simp only [QZP,sA]<;>omega
def wG{rs:List RX}(h:RX.Whole rs):(bY rs).length+2*(bP rs).length<=rs.length:=by
 have d:=Av rs;have e:=De (uD h) (ys:=bW rs) λn a=>by
  obtain⟨t,y,b⟩:=hV a;obtain⟨f,p,k,x,c,_⟩:=dG h b;exact qF c
 omega
def nV(rs:List RX)(i:Nat):(bP (rs.take i)).length<=(bP rs).length:=by
 unfold bP;exact((List.take_sublist i rs).filterMap _).length_le
def oZ:Dd->List (Str×Int)
 | .add a n=>[(a,(n:Int))]
 | .take a n=>[(a,-(n:Int))]
 | .move a b n=>[(a,-(n:Int)),(b,(n:Int))]
 | .send _ a n=>[(a,-(n:Int))]
 | .fetch _ a n=>[(a,(n:Int))]
 | .pass _ _ _ _=>[]
def Pq{x:Dd}{y:An}(a:An.Of x y)(h:vI y="is"):nH x y=oZ x:=by
 rcases tT h with⟨m,rfl⟩|⟨l,m,rfl⟩<;>cases x<;>first|rfl|exact a.elim
def aAV{x:Dd}{y:An}(h:vI y≠"is"):nH x y=[]:=by cases x<;>cases y<;>first|rfl|exact QZW rfl h
def Fu:Sp:=λvs H Q _=>∃(t:TD)(x:Dd),vs=[.ref t]/\H t=some (.tup x.vs)/\∀(tp:TD)(b:List Z)(a:Hp),Same H a->a tp=some (.tup (dA b))->ZAt a b->b.map (·.2)=oZ x->Q (.ref tp) a
def rK(T:Txt K mg)(D:DefAt K mg "done_changes" dJ QZM):aG P w K mg base 1 "done_changes" QZM Fu:=by
 refine D.gg lB (λf J A I s H vs Q E L h=>?_)
 ·obtain⟨p,x,rfl,c,q⟩:=h;refine⟨_,(lj (nv (mo nz (li (lx (K:=K)) (ku 0) kz) lq) (md (mi (mj lg))) nw) (lj (nv (mo nz (li (lx (K:=K)) (ku 0) kz) lq) (md (mi (mj (kx (mj (kx (li (lx (K:=K)) (ku 0) kz) (kx (oj (li (lx (K:=K)) (ku 0) (oj kz))) lg))) (kx (mj (kx (li (lx (K:=K)) (ku 0) kz) (kx (li (lx (K:=K)) (ku 0) (oj kz)) lg))) lg))))) nw) (lj (nv (mo (qt (K:=K)) (li (lx (K:=K)) (ku 0) kz) (mj (kx lq (kx lq lg)))) (md (mi (mj (kx (mj (kx (li (lx (K:=K)) (ku 0) (oj kz)) (kx (oj (li (lx (K:=K)) (ku 0) (oj kz))) lg))) lg)))) nw) (md (mi (mj (kx (mj (kx (li (lx (K:=K)) (ku 0) (oj kz)) (kx (li (lx (K:=K)) (ku 0) (oj kz)) lg))) lg))))))),?_⟩;have u:∀ {B:Hp}{a:TD}{x:Str}{i:Int},B a=some (.tup [.str x,.int i])->ZAt B [(a,x,i)]:=λh z r=>by
   rw[Zms.mp r];exact h
  cases x with
  | add a n=>
   refine⟨_,QYK c,_,rfl,_,QYK c,_,rfl,_,QYK c,_,rfl,aO rfl,λk t d g1=>⟨k,_,rfl,.inr (QYK g1),rfl,rfl,?_⟩⟩;exact⟨_,QYK (d _ _ c),_,rfl,_,QYK (d _ _ c),_,rfl,aO rfl,λl v j g2=>⟨aO rfl,λm o e g3=>q m [(l,a,(n:Int))] o ((d.trans j).trans e) g3 (u (e _ _ g2)) rfl⟩⟩
  | take a n=>
   refine⟨_,QYK c,_,rfl,_,QYK c,_,rfl,_,QYK c,_,rfl,aO rfl,λk t d g1=>⟨k,_,rfl,.inr (QYK g1),rfl,rfl,?_⟩⟩;exact⟨_,QYK (d _ _ c),_,rfl,_,QYK (d _ _ c),_,rfl,aO rfl,λl v j g2=>⟨aO rfl,λm o e g3=>q m [(l,a,-(n:Int))] o ((d.trans j).trans e) g3 (u (e _ _ g2)) rfl⟩⟩
  | send h a n=>
   refine⟨_,QYK c,_,rfl,_,QYK c,_,rfl,_,QYK c,_,rfl,aO rfl,λk t d g1=>⟨k,_,rfl,.inr (QYK g1),rfl,rfl,?_⟩⟩;exact⟨_,QYK (d _ _ c),_,rfl,_,QYK (d _ _ c),_,rfl,aO rfl,λl v j g2=>⟨aO rfl,λm o e g3=>q m [(l,a,-(n:Int))] o ((d.trans j).trans e) g3 (u (e _ _ g2)) rfl⟩⟩
  | fetch h a n=>
   refine⟨_,QYK c,_,rfl,_,QYK c,_,rfl,_,QYK c,_,rfl,aO rfl,λk t d g1=>⟨k,_,rfl,.inr (QYK g1),rfl,rfl,?_⟩⟩;exact⟨_,QYK (d _ _ c),_,rfl,_,QYK (d _ _ c),_,rfl,aO rfl,λl v j g2=>⟨aO rfl,λm o e g3=>q m [(l,a,(n:Int))] o ((d.trans j).trans e) g3 (u (e _ _ g2)) rfl⟩⟩
  | move a b n=>
   refine⟨_,QYK c,_,rfl,_,QYK c,_,rfl,_,QYK c,_,rfl,_,QYK c,_,rfl,aO rfl,λl v j g2=>⟨_,QYK (j _ _ c),_,rfl,_,QYK (j _ _ c),_,rfl,aO rfl,λm o e g3=>⟨aO rfl,λC F y G=>?_⟩⟩⟩;refine q C [(l,a,-(n:Int)),(m,b,(n:Int))] F ((j.trans e).trans y) G (λz r=>?_) rfl;rcases mem_cons.mp r with rfl|r
   ·exact y _ _ (e _ _ g2)
   ·rw[Zms.mp r];exact y _ _ g3
  | pass h g a n=>
   refine⟨_,QYK c,_,rfl,?_⟩;exact⟨aO rfl,λk t d g1=>q k [] t d g1 (λ_ h=>nomatch h) rfl⟩
def Pr:Sp:=λvs H Q _=>∃(t c:TD)(x:Dd)(y:An),vs=[.ref t,.ref c]/\H t=some (.tup x.vs)/\H c=some (.tup y.vs)/\An.Of x y/\∀(tp:TD)(b:List Z)(a:Hp),Same H a->a tp=some (.tup (dA b))->ZAt a b->b.map (·.2)=nH x y->Q (.ref tp) a
def vK(T:Txt K mg)(b:aG P w K mg base 1 "done_changes" QZM Fu)(D:DefAt K mg "changes_of" gN QZx):aG P w K mg base 2 "changes_of" QZx Pr:=by
 refine D.gg vE (λf u A r s H vs Q E d h=>?_)
 ·obtain⟨t,c,x,y,rfl,gt,i,j,q⟩:=h;refine⟨_,(lj (nv (mo P1 (li (lx (K:=K)) (ku 1) kz) lq) (md (mi (mj lg))) nw) (md (mi (mf b d rfl (kx (ku 0) lg))))),?_⟩;refine⟨_,QYK i,_,Xh y,?_⟩;show if (!decide (vI y="is"))=true then _ else _
  by_cases a:vI y="is"
  ·refine xO (by rw[UV a];rfl) ?_;exact⟨t,x,rfl,gt,λtp k l m g z e=>q tp k l m g z (by rw[e,Pq j a])⟩
  ·refine Ie (by rw[UF a];rfl) ?_;exact⟨aO rfl,λn o p g1=>q n [] o p g1 (λ_ h=>nomatch h) (by rw[aAV a];rfl)⟩
def Ps{C:TD}(T:Txt K mg)(B:Wz K C)(D:ClsAt K mg "Book" C "Book.__init__" cE QZv [[],[.non]]):∀d∈([[],[.non]]:List (List V)),Mkr P w K mg base 1 "Book" C QZv d (Ff C):=by
 refine D.gg qD (λf N A M s H vs Q E S h=>?_)
 ·revert h;refine yE4 λp c r O=>yA6 λζ k F G m q=>?_;subst ζ;refine⟨_,(lj (CJ (K:=K) (ku 0) PP) (md (nv (mo R.fm (ku 1) ue) (md (CJ (K:=K) (ku 0) (zn (R.gu (K:=K) rfl) rfl T.b_dict rO (kx (ku 1) lg)))) nw))),?_⟩;intro a n;have t:=aF k n;refine⟨C,c,[],(by rw[aD t];exact k),B.cl,B.nA,(by show 0<1000;decide),?_⟩;have g1:(aI (aI H a (.dK [])) p (.ins C c [("amounts",.ref a)])) p=some (.ins C c [("amounts",.ref a)]):=aA;have g2:(aI (aI H a (.dK [])) p (.ins C c [("amounts",.ref a)])) a=some (.dK []):=by rw[aD t.symm];exact aA
  have g:∀b o,H b=some o->b≠p->(aI (aI H a (.dK [])) p (.ins C c [("amounts",.ref a)])) b=some o:=λb o e j=>by rw[aD j,aD (aF e n)];exact e
  dsimp only;rw[aDm];generalize aI (aI H a (.dK [])) p (.ins C c [("amounts",.ref a)])=u at g1 g2 g;rcases F with⟨rfl,rfl⟩|⟨l,v,rfl,x,y,rfl⟩
  ·exact q u a n g1 g2 g
  ·have I:l≠p:=cI x k nofun;have J:ZAt u v:=λz m=>g _ _ (y z m) (cI (y z m) k nofun)
   refine⟨wz v,by rw[aAz];exact QYJ (g _ _ x I),aCg J,by unfold wz;rw[aS];simpa using m,λd i=>?_⟩;have L:H d=none:=by
    cases e:H d with
    | none=>rfl
    | some o=>
     by_cases z:d=p
     ·rw[z,g1]at i;cases i
     ·rw[g d o e z]at i;cases i
   rw[aAA,qA G];refine⟨C,c,_,(by rw[aD (aF g1 i)];exact g1),B.cl,B.nA,(by show 1<1000;decide),?_⟩;refine q _ d L (by rw[aA,put1]) (by rw[aD (aF g1 i).symm];exact aA) λb o e j=>?_;rw[aD j,aD (aF (g b o e j) i)];exact g b o e j
def yK{C:TD}(B:Wz K C)(D:MethAt K C "amount" "Book.amount" fU QZz):rG P w K mg base 1 C "amount" QZz (kD C):=by
 refine D.gg tL (λf j A i s H vs Q E b h=>?_)
 ·obtain⟨p,n,l,rfl,bk,q⟩:=h;have c:=dH b;obtain⟨e,d,g,a⟩:=bk.ex;refine⟨_,(md (mi (K8 c (ox (K:=K) (ku 0)) (ku 1) kz))),?_⟩;refine⟨C,e,_,.ref d,g,B.cl,B.nA,gC _,d,rfl,.inl ⟨_,.inl a⟩,_,DGet.k (k:=Sum.inr n) a,?_⟩;rw[mH];exact q
def Dg{C:TD}(T:Txt K mg)(B:Wz K C)(D:MethAt K C "rows" "Book.rows" gE QZG):rG P w K mg base 1 C "rows" QZG (zP C):=by
 refine D.gg yE (λa2 cdv a3 outer s H vs a4 a5 U h=>?_)
 ·obtain⟨a6,b,rfl,bk,F,a0⟩:=h;have G:=dH U;obtain⟨v,d,I,J⟩:=bk.ex;refine⟨_,(md (mi (ou rfl (js:=[none,some 0]) (N:=["name","self"]) (CompScope.by (aB gE) QZG rfl rfl Zk) (aQ rfl) (ot (K:=K) (oi (R.iy rfl) rfl T.b_sorted pV (kx (ox (K:=K) (ku 0)) lg))) (λC s₂ H₂ fp=>⟨(ny (i:=0) (show(["name","self"]:List Str).Nodup by decide +kernel)),(qo (mo J4 (ug G (ox (K:=K) (ku 1)) (ku 0)) kz)),(R.jm (kx (ku 0) (kx (ug G (ox (K:=K) (ku 1)) (ku 0)) lg)))⟩)))),?_⟩;refine⟨C,v,_,.ref d,I,B.cl,B.nA,gC _,b.map (·.1),_,.inl J,tD b,by rw[aS];exact F,λl W=>⟨l,rfl,⟨_,QYJ aA⟩,?_⟩⟩;have j:Same H (aI H l (.lst ((nM (b.map (·.1))).map V.str))):=aE W;have g1:(aI H l (.lst ((nM (b.map (·.1))).map V.str))) l=some (.lst ((nM (b.map (·.1))).map V.str)):=aA;generalize aI H l (.lst ((nM (b.map (·.1))).map V.str))=L at j g1;have hlen:(nM (b.map (·.1))).length<64:=by rw[mF,aS];exact F
  refine aX (aY K l ((nM (b.map (·.1))).map V.str)) (by rw[aS];omega) (λi q g=>∃c:List Z,q=dA c/\Same L g/\ZAt g c/\c.length<=i/\c.map (·.2)=(((nM (b.map (·.1))).take i).filter λn=>decide (0<cM b n)).map λn=>(n,cM b n))
   (λi q g ⟨c,e,f,_,X,_⟩=>⟨QYJ (f _ _ g1),by rw[e];unfold dA;rw[aS];exact X⟩) ⟨[],rfl,Same.refl _,(λ_ h=>nomatch h),aZ _,rfl⟩ (λi a7 q g o ⟨c,e,f,r,M,u⟩=>?_) (λq g ⟨c,e,f,r,M,u⟩=>?_)
  ·rw[fK]at o;cases p:(nM (b.map (·.1)))[i]? with
   | none=>rw[p]at o;cases o
   | some n=>
    rw[p]at o;cases o;have Y:n∈b.map (·.1):=(iB _).mem_iff.mp (jI p);obtain⟨a,O⟩:=nO Y;have x:cM b n=a:=by unfold cM;rw[O];rfl
    have gd:∀y,Same L y->DGet y d (.str n) (some (.int a)):=λy oz=>by
     have:=DGet.k (k:=Sum.inr n) (oz  _ _ (j _ _ J));rw[rP,O]at this;exact this
    have Q:=f _ _ (j _ _ I);refine⟨C,v,_,.ref d,Q,B.cl,B.nA,gC _,d,_,rfl,gd g f,?_⟩;refine bA (λz=>?_) (λz=>?_)
    ·have A:0<a:=by simpa using z
     refine⟨C,v,_,.ref d,Q,B.cl,B.nA,gC _,d,_,rfl,gd g f,eL rfl,λt S=>⟨c++[(t,n,a)],by rw[e];unfold dA;rw[dW];rfl,f.trans (aE S),?_,by rw[lZ];simpa using M,?_⟩⟩
     ·intro a1 vb;rcases Zma.mp vb with m|m
      ·exact(r.same (aE S)) a1 m
      ·rw[Zms.mp m];exact aA
     ·rw[dW,u,aM p,filter_append,dW];congr 1;rw[filter_cons,QZY (by rw[x];exact UV A)];rw[<- x];rfl
    ·have A:¬ 0<a:=by simpa using z
     refine⟨c,e,f,r,Zo,?_⟩;rw[u,aM p,filter_append,filter_cons,QZX (by rw[x];simpa using A)];simp
  ·intro l2 E;subst e;refine a0 l2 c _ (j.trans (f.trans (aE E))) ?_ aA (r.same (aE E)) ?_
   ·exact j.free (f.free E)
   ·rw[u,aS,take_length];rfl
def qG(prs:List (Str×Int))(n:Str)(v:Int):List (Str×Int):=if n∈prs.map (·.1) then Nz prs n v else prs++[(n,v)]
def nE:List (Str×Int)->List (Str×Int)->List (Str×Int)
 | prs,[]=>prs
 | prs,q::r=>nE (qG prs q.1 (cM prs q.1+q.2)) r
theorem qH:∀(a prs:List (Str×Int))(q:Str×Int),nE prs (a++[q])=qG (nE prs a) q.1 (cM (nE prs a) q.1+q.2)
 | [],_,_=>rfl
 | p::r,prs,q=>qH r _ q
def uE{prs:List (Str×Int)}{n:Str}{v:Int}:bI (jH prs) (Sum.inr n) (.int v)=jH (qG prs n v):=by
 unfold qG;by_cases h:n∈prs.map (·.1)
 ·rw[QZY h];exact Uh h
 ·rw[QZX h];have a:bB (jH prs) (Sum.inr n)=none:=by
   cases e:bB (jH prs) (Sum.inr n) with
   | none=>rfl
   | some x=>
    have:=Ep e;rw[tD]at this;obtain⟨m,b,c⟩:=Zmm.mp this;cases c;exact QZW b h
  rw[lI _ a];unfold jH;rw[dW];rfl
def wH{prs:List (Str×Int)}{n:Str}{v:Int}:(qG prs n v).map (·.1)=if n∈prs.map (·.1) then prs.map (·.1) else prs.map (·.1)++[n]:=by
 unfold qG;by_cases h:n∈prs.map (·.1)
 ·rw[QZY h,QZY h];exact Ir _ _ _
 ·rw[QZX h,QZX h,dW];rfl
def Vg{prs:List (Str×Int)}{n:Str}{v:Int}(h:(prs.map (·.1)).Nodup):((qG prs n v).map (·.1)).Nodup:=by
 rw[wH];split
 ·exact h
 ·rename_i a;exact xI h a
def pA:∀(a prs:List (Str×Int)),(prs.map (·.1)).Nodup->((nE prs a).map (·.1)).Nodup
 | [],_,h=>h
 | _::r,_,h=>pA r _ (Vg h)
def Pu(prs:List (Str×Int))(q:Str×Int):Prop:=0<=cM prs q.1+q.2/\cM prs q.1+q.2<=1000000000000
def yL{H:Hp}{zs:List Z}{i:Nat}{x:V}(hz:ZAt H zs)(a:(dA zs)[i]?=some x):∃z,zs[i]?=some z/\x=.ref z.1/\H z.1=some (.tup [.str z.2.1,.int z.2.2]):=by
 unfold dA at a;rw[fK]at a;obtain⟨z,b,rfl⟩:=Option.map_eq_some_iff.mp a;exact⟨z,b,rfl,hz z (jI b)⟩
theorem jT:∀(a prs:List (Str×Int)),(nE prs a).length<=prs.length+a.length
 | [],prs=>aZ _
 | q::r,prs=>by
  have h:=jT r (qG prs q.1 (cM prs q.1+q.2));have b:(qG prs q.1 (cM prs q.1+q.2)).length<=prs.length+1:=by
   have:=congrArg length (wH (prs:=prs) (n:=q.1) (v:=cM prs q.1+q.2));rw[aS]at this;rw[this];split<;>simp
  show(nE (qG prs q.1 (cM prs q.1+q.2)) r).length<=_;rw[sA];omega
def qI(C:TD):Sp:=λvs H Q E=>∃(p f d t:TD)(a:List (Str×Int))(c:List Z),vs=[.ref p,.ref t]/\H p=some (.ins C f [("amounts",.ref d)])/\H d=some (.dK (jH a))/\(a.map (·.1)).Nodup/\H t=some (.tup (dA c))/\ZAt H c/\a.length+c.length<=100 ∧
 (∀q∈c.map (·.2),Pu a q)/\∀e,e d=some (.dK (jH (nE a (c.map (·.2)))))->(∀b o,H b=some o->b≠d->e b=some o)->Q .non e
def Dh{C:TD}(T:Txt K mg)(B:Wz K C)(L:rG P w K mg base 1 C "amount" QZz (kD C))(D:MethAt K C "change" "Book.change" fV QZm):rG P w K mg base 2 C "change" QZm (qI C):=by
 refine D.gg dL (λa1 cdv a2 outer s H vs a3 a4 A h=>?_)
 ·revert h;refine yE6 λp r d t q a=>yA9 λζ y u M v E hl S U=>?_;subst ζ;have V:=dH A;have W:(dA a).length=a.length:=by unfold dA;rw[aS]
  refine⟨_,(lj (qr PassesOwn.never rfl (R.fi (K:=K) (ku 1)) (FM (K:=K) (n:=2) rfl (qp (ny (i:=2) dL.nd) (qp (ny (i:=3) dL.nd) FS))) (md (nv (J0 (R.ir wu wu kz (me oa (xz L A (ku 0) (kx (ku 2) lg)) (ku 3)) (R.gI rfl T.g_MOST))) (md R.ij) nw))) (md (qr PassesOwn.never rfl (R.fi (K:=K) (ku 1)) (FM (K:=K) (n:=2) rfl (qp (ny (i:=2) dL.nd) (qp (ny (i:=3) dL.nd) FS))) (md (ut (me oa (xz L A (ku 0) (kx (ku 2) lg)) (ku 3)) (u8 (ox (K:=K) (ku 0)) (ku 2) (yx V))))))),?_⟩;refine bJ (λQ f=>f=H/\∃j l,Q=[some (.ref p),some (.ref t),j,l]) (λnx X=>?_) ?_
  ·refine⟨t,rfl,⟨_,QYK v⟩,cD (kB K t (dA a)) (λi c f=>f=H/\∃j l,c=[some (.ref p),some (.ref t),j,l]) (λi c f ⟨e,_⟩=>by rw[e];exact QYK v) ⟨rfl,_,_,rfl⟩ ?_ (λc f h=>X c f h)⟩;rintro i a0 c f F ⟨rfl,j,l,rfl⟩;obtain⟨z,G,rfl,I⟩:=yL E F;have N:=S z.2 (mem_map_of_mem (jI G));refine⟨z.1,_,rfl,QYK I,rfl,_,_,rfl,_,_,rfl,rfl,r,_,y,nP _ Zk,p,z.2.1,q,rfl,⟨⟨r,d,y,u⟩,M⟩,?_⟩;refine Ie (UV N.1) ?_;show if (!decide (cM q z.2.1+z.2.2<=1000000000000))=true then _ else _
   refine xO (by rw[UV N.2];rfl) ?_;exact⟨rfl,_,_,rfl⟩
  ·rintro c f ⟨rfl,j,l,rfl⟩;have Y:t≠d:=cI v u nofun;refine⟨t,rfl,⟨_,QYK v⟩,cD (kB K t (dA a)) (λi c x=>x d=some (.dK (jH (nE q ((a.map (·.2)).take i))))/\(∀b o,f b=some o->b≠d->x b=some o)/\∃j l,c=[some (.ref p),some (.ref t),j,l]) (λi c x ⟨_,k,_⟩=>QYK (k _ _ v Y)) ⟨u,λb o e _=>e,_,_,rfl⟩ ?_ ?_⟩
   ·rintro i a0 c x F ⟨g,k,j,l,rfl⟩;obtain⟨z,G,rfl,I⟩:=yL (λz m=>k _ _ (E z m) (cI (E z m) u nofun)) F;have Z:(a.map (·.2))[i]?=some z.2:=by rw[fK,G];rfl
    have J:=k _ _ y (cI y u nofun);have YO:=pA ((a.map (·.2)).take i) q M;have hle:=jT ((a.map (·.2)).take i) q;have YQ:((a.map (·.2)).take i).length<=a.length:=by rw[oA,aS];exact min_le_right _ _
    refine⟨z.1,_,rfl,QYK I,rfl,_,_,rfl,_,_,rfl,rfl,r,_,J,nP _ Zk,p,z.2.1,nE q ((a.map (·.2)).take i),rfl,⟨⟨r,d,J,g⟩,YO⟩,?_⟩;refine⟨C,r,_,.ref d,J,B.cl,B.nA,gC _,d,_,rfl,DPut.k (k:=Sum.inr z.2.1) g ?_,?_,λb o e O=>?_,_,_,rfl⟩
    ·unfold jH;rw[aS];exact oC (m:=1000) Zo Zd
    ·rw[aA,uE,aM Z,qH]
    ·rw[aD O];exact k b o e O
   ·rintro c x ⟨g,k,j,l,rfl⟩;refine U _ ?_ k;rw[g,W,iI (by rw[aS];exact aZ _)]
def Dl:RX->Prop|.has _ m=>m<=1000000000000|.came _ _ _ _ d=>d.Ok|_=>True
def aAW{r:RX}(h:r.Ok):Dl r:=by
 cases r with
 | has z m=>exact h.2.2
 | came n t p k d=>exact h.2.2.2.2.2
 | _=>trivial
def Dm{rs:List RX}(h:∀r∈rs,Dl r)(z:Str):cO rs z<=1000000000000:=by
 have:∀(rs:List RX)(f:Str->Nat),(∀r∈rs,Dl r)->(∀z,f z<=1000000000000)->∀z,rs.foldl (λf r=>match r with|.has z m=>eF f z m|_=>f) f z<=1000000000000:=by
  intro rs;induction rs with
  | nil=>exact λf _ a=>a
  | cons r rs b=>
   intro f h a z;rw[foldl_cons];refine b _ (λr c=>h r (kY _ c)) ?_ z
   cases r with
   | has y m=>exact gY a (h _ gJ)
   | _=>exact a
 exact this rs _ h (λ_=>zero_le _) z
def RepF.leS{rs:List RX}{F:Nat->Str->Nat}{f:Str->Nat}(h:RepF rs F f)(ok:∀r∈rs,Dl r):∀i,i<=rs.length->∀z,F i z<=1000000000000
 | 0,_,z=>by rw[h.z];exact Dm ok z
 | i+1,g,z=>by
  have a:=h.leS ok i Zo;obtain⟨r,b⟩:∃r,rs[i]?=some r:=⟨rs[i],eT Zo⟩;by_cases e:bE r="done"
  ·obtain⟨n,t,y,rfl⟩:=oY e;obtain⟨j,p,k,x,q,_,c,d⟩:=h.done i n t y b;rw[d];exact tP a c z
  ·rw[h.rest i r b e];exact a z
def eP(rs:List RX):List (Str×Int):=rs.filterMap λr=>match r with|.has z m=>some (z,(m:Int))|_=>none
theorem mP:∀rs:List RX,bY rs=jH (eP rs)
 | []=>rfl
 | r::rs=>by
  have a:=mP rs;unfold bY eP jH at a ⊢;cases r<;>simp only [QZP,map_cons]<;>first|exact a|rw[a]
def pB(rs:List RX):(eP rs).length=(bY rs).length:=by rw[mP];unfold jH;rw[aS]
def Pw{rs:List RX}{z:Str}{m:Int}(h:(z,m)∈eP rs):∃a,.has z a∈rs:=by
 obtain⟨r,b,e⟩:=mem_filterMap.mp h;cases r<;>cases e;exact⟨_,b⟩
def mQ{rs:List RX}(h:RX.Whole rs):((eP rs).map (·.1)).Nodup:=by
 induction h with
 | nil=>exact nodup_nil
 | @snoc rs r l d c=>
  have e:eP (rs++[r])=eP rs++eP [r]:=by unfold eP;rw[QZQ]
  rw[e,dW];cases r with
  | has z m=>
   refine nodup_append.mpr ⟨c,by simp[eP],λa f b g=>?_⟩;have i:b=z:=by simpa [eP]using g
   subst i;rintro rfl;obtain⟨q,j,rfl⟩:=Zmm.mp f;obtain⟨n,k⟩:=Pw (z:=q.1) (m:=q.2) j;exact QZW (d.2.2 _ _ k) (List.lt_irrefl _)
  | _=>simpa [eP]using c
def uF{rs:List RX}(h:RX.Whole rs)(z:Str):cM (eP rs) z=(cO rs z:Int):=by
 have a:=dM rs [] (λ_=>0) (λ_=>rfl) z;rw[mP,qA (mQ h),mH]at a;injection a
def Px(prs:List (Str×Int))(n m:Str)(v:Int):cM (qG prs n v) m=if m=n then v else cM prs m:=by
 have a:=mH (qG prs n v) m;rw[<- uE,cZ]at a;by_cases e:m=n
 ·rw[QZY (by rw[e])]at a;rw[QZY e];injection a with a
  exact a.symm
 ·rw[QZX (λc=>e (by injection c)),mH]at a;rw[QZX e];injection a with a
  exact a.symm
theorem pC:∀(a:List (Str×Int))(prs:List (Str×Int))(g:Str->Nat),Ar g a->(∀z,cM prs z=(g z:Int))->∀z,cM (nE prs a) z=(tV g a z:Int)
 | [],prs,g,_,h=>h
 | c::a,prs,g,b,h=>by
  refine pC a (qG prs c.1 (cM prs c.1+c.2)) (fQ g c) b.2 (λz=>?_);rw[Px,h];unfold fQ eF;by_cases e:z=c.1
  ·rw[QZY e,QZY e,Int.toNat_of_nonneg b.1]
  ·rw[QZX e,QZX e];exact h z
def Aw{f:Str->Nat}(i:∀z,f z<=1000000000000){x:Dd}{q:Bool}{y:An}(m:x.Ok)(h:iE f x q y):∀c∈nH x y,0<=(f c.1:Int)+c.2/\(f c.1:Int)+c.2<=1000000000000:=by
 have o:=m.n;rcases h with⟨rfl,h⟩|⟨rfl,j,e⟩
 ·cases x with
  | add a n=>
   have:=i a;simp only [aT]at h;split at h<;>cases h
   ·exact λc d=>nomatch d
   ·intro c d;rw[Zms.mp d];exact⟨by show(0:Int)<=(f a:Int)+(n:Int);omega,by show(f a:Int)+(n:Int)<=_;omega⟩
  | take a n=>
   have:=i a;simp only [aT]at h;split at h<;>cases h
   ·exact λc d=>nomatch d
   ·intro c d;rw[Zms.mp d];exact⟨by show(0:Int)<=(f a:Int)+-(n:Int);omega,by show(f a:Int)+-(n:Int)<=_;omega⟩
  | move a b n=>
   have:=i a;have:=i b;simp only [aT]at h;split at h
   ·cases h;exact λc d=>nomatch d
   ·split at h<;>cases h
    ·exact λc d=>nomatch d
    ·intro c d;rcases mem_cons.mp d with rfl|d
     ·exact⟨by show(0:Int)<=(f a:Int)+-(n:Int);omega,by show(f a:Int)+-(n:Int)<=_;omega⟩
     ·rw[Zms.mp d];exact⟨by show(0:Int)<=(f b:Int)+(n:Int);omega,by show(f b:Int)+(n:Int)<=_;omega⟩
  | send g a n=>
   simp only [aT]at h;split at h<;>cases h;exact λc d=>nomatch d
  | fetch g a n=>
   simp only [aT]at h;split at h<;>cases h;exact λc d=>nomatch d
  | pass g k a n=>cases h
 ·cases x with
  | add a n=>cases e
  | take a n=>cases e
  | move a b n=>cases e
  | send g a n=>
   have:=i a;simp only [aT]at j;simp only [bO,mem_cons,QZR,or_false]at e;have l:¬ f a<n:=λl=>by rw[QZY l]at j;cases j
   rcases e with rfl|rfl
   ·exact λc d=>nomatch d
   ·intro c d;rw[Zms.mp d];exact⟨by show(0:Int)<=(f a:Int)+-(n:Int);omega,by show(f a:Int)+-(n:Int)<=_;omega⟩
  | fetch g a n=>
   have:=i a;simp only [aT]at j;simp only [bO,mem_cons,QZR,or_false]at e;have l:¬ 1000000000000<f a+n:=λl=>by rw[QZY l]at j;cases j
   rcases e with rfl|rfl
   ·exact λc d=>nomatch d
   ·intro c d;rw[Zms.mp d];exact⟨by show(0:Int)<=(f a:Int)+(n:Int);omega,by show(f a:Int)+(n:Int)<=_;omega⟩
  | pass g k a n=>
   simp only [bO,mem_cons,QZR,or_false]at e;rcases e with rfl|rfl|rfl<;>exact λc d=>nomatch d
def yM(C:TD):Sp:=λvs H Q _=>∃(c:TD)(a:List RX)(e:List TD),vs=[.ref c]/\RxsAt H c a e/\a.length<=100/\RX.Whole a ∧
 ∀(p f d:TD)(b:Hp),H p=none->H d=none->b p=some (.ins C f [("amounts",.ref d)])->b d=some (.dK (jH (eP a)))->Same H b->Q (.ref p) b
def vL{C:TD}(T:Txt K mg)(S:Mkr P w K mg base 1 "Book" C QZv [] (Ff C))(D:DefAt K mg "first_book" fF QZK):aG P w K mg base 3 "first_book" QZK (yM C):=by
 refine D.gg vH (λa6 cdv a7 outer s H vs a8 a9 U h=>?_)
 ·obtain⟨A,u,W,rfl,n,hl,X,a0⟩:=h;have le:=n.len;refine⟨_,(md (mi (R.jy S U rfl (kx (ou rfl (js:=[none]) (N:=QZF) (CompScope.by (aB fF) QZK rfl rfl Zk) (aQ rfl) (ot (K:=K) (ku 0)) (λC s₂ H₂ fp=>⟨(ny (i:=0) (show(QZF:List Str).Nodup by decide +kernel)),(qo (mo nz (li (lx (K:=K)) (ku 0) kz) lq)),(pi uh (ku 0) (ow kz) tz)⟩)) lg)))),?_⟩;refine⟨A,rfl,⟨_,QYJ n.lst⟩,?_⟩;refine aX (aY K A (W.map V.ref)) (by rw[aS];omega) (λi c b=>∃a:List Z,c=dA a/\ZAt b a/\a.map (·.2)=eP (u.take i)/\Same H b/\a.length<=i) (λi c b ⟨a,e,_,_,d,o⟩=>⟨QYJ (d _ _ n.lst),by rw[e];unfold dA;rw[aS];exact o⟩) ⟨[],rfl,(λ_ h=>nomatch h),rfl,(λ_ _ e=>e),aZ _⟩ (?_) (?_)
  ·refine λi x c b g=>yE1 λa=>yA5 λe p f d o=>?_;obtain⟨b0,r,rfl,ha,Y,B⟩:=(n.same d).get g;obtain⟨xs,a1,x0,x1,x2⟩:=eI B;have E:=aM Y;have F:eP (u.take i++[r])=eP (u.take i)++eP [r]:=by unfold eP;rw[QZQ]
   refine⟨_,QYK a1,_,x0,?_⟩;show if decide (bE r="has")=true then _ else _
   refine bA (λh=>?_) (λh=>?_)
   ·obtain⟨z,m,rfl⟩:=Cy (U6 h);refine⟨_,B,λtp G I g2=>⟨a++[(tp,z,(m:Int))],by rw[e];unfold dA;rw[dW];rfl,λa2 v=>?_,?_,d.trans I,by simp;omega⟩⟩
    ·rcases aH v with v|rfl
     ·exact I _ _ (p a2 v)
     ·exact g2
    ·rw[dW,f,E,F];rfl
   ·refine⟨a,e,p,?_,d,Zo⟩;rw[f,E,F];have:eP [r]=[]:=by
     cases r with
     | has z m=>exact QZW rfl (U0 h)
     | _=>rfl
    rw[this,append_nil]
  ·rintro c b ⟨a,e,p,f,d,o⟩;intro l J;rw[aS]at o f;rw[<- le,iI (aZ _)]at f;have j:Same H (aI b l (.lst c)):=d.trans (aE J);have L:(aI b l (.lst c)) l=some (.lst (dA a)):=by rw[aA,e]
   have M:ZAt (aI b l (.lst c)) a:=λz y=>aL (p z y) J
   generalize aI b l (.lst c)=O at j L M;intro x q g ui u7;have t:Same O (aI (aI O q (.own x)) x (.ins C q [])):=λa3 a4 e=>by
    rw[aD (aF e g),aD (aF e ui)];exact e
   refine⟨x,q,.ref l,a.map (·.2),rfl,aA,.inr ⟨l,a,rfl,t _ _ L,λz y=>t _ _ (M z y),rfl⟩,by rw[f];exact mQ X,by rw[aS];omega,λG a5 hd h1 Q k=>⟨rfl,?_⟩⟩;rw[f]at Q;refine a0 x q a5 G (j.free g) (j.free (t.free hd)) h1 Q (λa3 a4 e=>k _ _ (t _ _ (j _ _ e)) (aF (j _ _ e) g))
def Fv(C:TD):Sp:=λvs H Q _=>∃(e g:TD)(a:List RX)(h:List TD)(F:Nat->Str->Nat)(f:Str->Nat),vs=[.ref e,.ref g]/\RxsAt H e a h/\a.length<=100/\(bY a).length+2*(bP a).length<=43/\RX.Whole a/\(∀r∈a,Dl r)/\RepF a F f/\H g=some (.dK (aN [] (bR "came" a h a.length))) ∧
 ∀(p i d:TD)(b:List (Str×Int))(c:Hp),H p=none->H d=none->c p=some (.ins C i [("amounts",.ref d)])->c d=some (.dK (jH b))->(b.map (·.1)).Nodup->(∀z,cM b z=(f z:Int))->b.length<=(bY a).length+2*(bP a).length->Same H c->Q (.ref p) c
def pE{H:Hp}{m:TD}{rs:List RX}{d:List TD}(o:RX.Whole rs)(RR:RxsAt H m rs d){n t:Nat}{p k:Str}{x:Dd}(e:.came n t p k x∈rs):∃(a b:TD)(t':Nat),bB (aN [] (bR "came" rs d rs.length)) (Sum.inl (n:Int))=some (.ref a)/\H a=some (.tup [.str "came",.int (n:Int),.int (t':Int),.str p,.str k,.ref b])/\H b=some (.tup x.vs):=by
 refine yE0 (uC RR.len e (wd:="came") rfl) (yE3 λj I f=>yA5 λq g r s u=>?_);obtain⟨h,t',J,L,M,rfl⟩:=mO s;have y:n=h:=by
  have:(Sum.inl (n:Int):aV)=Sum.inl (h:Int):=u;injection this with this
  omega
 subst y;have z:=dF o e (jI g);injection z with _ _ A B C
 subst A;subst B;subst C;obtain⟨N,O,c,Q,l,D⟩:=RR.get (i:=j) (v:=.ref f) (by rw[fK,r];rfl);injection c with c
 subst c;rw[g]at l;injection l with c
 subst c;obtain⟨E,F,G⟩:=D;exact⟨f,E,t',q,F,G⟩
def eQ(rs:List RX)(r:RX):bP (rs++[r])=bP rs++bP [r]:=by unfold bP;rw[QZQ]
def vM{C:TD}(T:Txt K mg)(A2:aG P w K mg base 3 "first_book" QZK (yM C))(A3:aG P w K mg base 2 "changes_of" QZx Pr)(w9:rG P w K mg base 2 C "change" QZm (qI C))(D:DefAt K mg "risen_book" gT QZB):aG P w K mg base 4 "risen_book" QZB (Fv C):=by
 refine D.gg jD (λa0 cdv a6 outer s a1 vs a7 a9 E h=>?_)
 ·revert h;refine yE6 λv G e N F a0=>yA9 λζ m hl tm o M x gcd a4=>?_;subst ζ;have d6:=dH E;have le:=m.len;refine⟨_,(lj (mh (i:=2) jD.nd (mf A2 E rfl (kx (ku 0) lg))) (lj (qr PassesOwn.never rfl (ot (K:=K) (ku 0)) (ny (i:=3) jD.nd) (md (nv (mo nz (li (lx (K:=K)) (ku 3) kz) lq) (md (qu (xz w9 E (ku 2) (kx (mf A3 E rfl (kx (li (lx (K:=K)) (ug d6 (ku 1) (li (lx (K:=K)) (ku 3) kz)) kz) (kx (li (lx (K:=K)) (ku 3) kz) lg))) lg)))) nw))) (md (mi (ku 2))))),?_⟩;refine⟨v,e,N,rfl,m,Zo,o,λp A d H1 fp O Q gd R=>?_⟩;have MF:p≠d:=cI Q gd nofun;dsimp only [aJ];refine bJ (λj f=>∃(a:List (Str×Int))(q:Option V),j=[some (.ref v),some (.ref G),some (.ref p),q]/\f p=some (.ins C A [("amounts",.ref d)])/\f d=some (.dK (jH a))/\(a.map (·.1)).Nodup/\(∀z,cM a z=(a0 z:Int))/\a.length<=(bY e).length+2*(bP e).length/\Same a1 f) (λnx a8=>?_) ?_
  ·refine⟨v,rfl,⟨_,QYJ (R _ _ m.lst)⟩,cD (aY K v (N.map V.ref)) (λi j f=>∃(a:List (Str × Int))(q:Option V),j=[some (.ref v),some (.ref G),some (.ref p),q]/\f p=some (.ins C A [("amounts",.ref d)])/\f d=some (.dK (jH a))/\(a.map (·.1)).Nodup/\(∀z,cM a z=(F i z:Int))/\a.length<=(bY e).length+2*(bP (e.take i)).length/\Same a1 f) (λi j f ⟨_,_,_,_,_,_,_,_,s'⟩=>QYJ (s' _ _ m.lst))
    ⟨eP e,_,rfl,Q,gd,mQ o,λz=>by rw[x.z];exact uF o z,by rw[pB];omega,R⟩ ?_ ?_⟩
   ·refine λi b0 j H hx=>yE2 λa q=>yA7 λζ g r l b u c=>?_;subst ζ;refine yE0 ((m.same c).get hx) (yE2 λb1 a2=>yA4 λζ ha B S=>?_);subst ζ;have MG:i<e.length:=(Zgs.mp B).1;obtain⟨xs,a5,x0,x1,x2⟩:=eI S;have U:=aM B;refine⟨_,QYK a5,_,x0,?_⟩;show if decide (bE a2="done")=true then _ else _
    refine bA (λh=>?_) (λh=>?_)
    ·obtain⟨n,t,y,rfl⟩:=oY (U6 h);obtain⟨cy,W,gy⟩:=S;refine yE0 (x.done i n t y B) (yE5 λt0 pp kk xd qq=>yA3 λJ X vg=>?_);refine yE0 (dG o (jI B)) (yE4 λYS YT IV YU=>yA2 λBN T5=>?_);have GF:=dF o J BN;injection GF with _ _ _ _ e5
     subst e5;have Y:xd.Ok:=M _ J;refine yE0 (pE o (m.same c) J) (yE3 λca cb ct=>yA3 λhv yi uq=>?_);have yj:DGet H G (.int (n:Int)) (some (.ref ca)):=by rw[<- hv];exact DGet.k (k:=Sum.inl (n:Int)) (c _ _ gcd)
     obtain⟨ea,hG⟩:=jA Y X;have hle:=x.leS M i Zo;refine⟨A,_,g,nP _ Zk,_,QYK W,_,rfl,G,_,rfl,yj,_,QYK yi,_,rfl,_,QYK W,_,rfl,cb,cy,xd,y,rfl,uq,gy,T5,λtp Z H3 I g3 hz L=>?_⟩;have lz:Z.length<=2:=by
      have:=congrArg length L;rw[aS]at this;have:=kT xd y;omega
     refine⟨p,A,d,tp,a,Z,rfl,I _ _ g,I _ _ r,l,g3,hz,?_,λqc hq=>?_,λH4 g4 k4=>?_⟩
     ·have:=nV e i;omega
     ·rw[L]at hq;have:=Aw hle Y X qc hq;unfold Pu;rw[b];exact this
     ·rw[L]at g4;refine⟨nE a (nH xd y),_,rfl,k4 _ _ (I _ _ g) MF,g4,pA _ _ l,λz=>?_,?_,λb2 b3 a3=>k4 _ _ (I _ _ (c _ _ a3)) (aF a3 O)⟩
      ·rw[pC _ _ _ hG b,ea,vg]
      ·have h1:=jT (nH xd y) a;have h2:=kT xd y;rw[U,eQ,lZ];show _<=_+2*(_+1);omega
    ·refine⟨a,_,rfl,g,r,l,λz=>?_,?_,c⟩
     ·rw[x.rest i a2 B (U0 h)];exact b z
     ·rw[U,eQ,lZ];omega
   ·refine λj H=>yE2 λa q=>yA7 λζ g r l b u c=>?_;subst ζ;rw[aS,<- le]at b u;rw[iI (aZ _)]at u;rw[x.last]at b;exact a8 _ _ ⟨a,_,rfl,g,r,l,b,Zo,c⟩
  ·refine λj H=>yE2 λa q=>yA7 λζ g r l b u c=>?_;subst ζ;exact a4 p A d a H fp O g r l b u c
abbrev E6:=Nat×Nat×Str×Str×Dd×An
abbrev O4:=Nat×Str×Str×Dd
def At6(H:Hp)(e:E6)(a:TD):Prop:=∃b c,H a=some (.tup [.int (e.1:Int),.int (e.2.1:Int),.str e.2.2.1,.str e.2.2.2.1,.ref b,.ref c])/\H b=some (.tup e.2.2.2.2.1.vs)/\H c=some (.tup e.2.2.2.2.2.vs)
def AtO(H:Hp)(e:O4)(a:TD):Prop:=∃b,H a=some (.tup [.int (e.1:Int),.str e.2.1,.str e.2.2.1,.ref b])/\H b=some (.tup e.2.2.2.vs)
def At6.tk{H d:Hp}(s:TK H d){e:E6}{a:TD}(h:At6 H e a):At6 d e a:=let ⟨b,c,f,g,i⟩:=h;⟨b,c,s _ _ f,s _ _ g,s _ _ i⟩
def AtO.tk{H c:Hp}(s:TK H c){e:O4}{a:TD}(h:AtO H e a):AtO c e a:=let ⟨b,d,f⟩:=h;⟨b,s _ _ d,s _ _ f⟩
def fJ(rs:List RX)(n:Nat):Option (Str×Str×Dd):=rs.findSome? λr=>match r with|.came m _ p k x=>if m=n then some (p,k,x) else none|_=>none
def qJ{rs:List RX}(c:RX.Whole rs){n t:Nat}{p k:Str}{x:Dd}(b:.came n t p k x∈rs):fJ rs n=some (p,k,x):=by
 cases h:fJ rs n with
 | none=>
  unfold fJ at h;have:=List.findSome?_eq_none_iff.mp h _ b;simp at this
 | some v=>
  unfold fJ at h;obtain⟨r,d,e⟩:=List.exists_of_findSome?_eq_some h
  cases r with
  | came m j l o q=>
   dsimp only at e;by_cases a:m=n
   ·rw[QZY a]at e;subst a;have:=dF c b d;injection this with _ _ f g i
    rw[<- e,f,g,i]
   ·rw[QZX a]at e;cases e
  | _=>cases e
def jU:RX->List E6|.kept n t p k x y=>[(n,t,p,k,x,y)]|_=>[]
def Ax(rs:List RX):RX->List E6
 | .done n t y=>match fJ rs n with|some (p,k,x)=>[(n,t,p,k,x,y)]|none=>[]
 | _=>[]
def eJ(rs:List RX):List E6:=rs.flatMap jU++rs.flatMap (Ax rs)
def cP{a b:Type}(f:a->List b)(xs:List a)(x:a):(xs++[x]).flatMap f=xs.flatMap f++f x:=by rw[List.flatMap_append];simp
def Py{r:RX}(h:bE r≠"kept"):jU r=[]:=by cases r<;>first|rfl|exact QZW rfl h
def Pz{rs:List RX}{r:RX}(h:bE r≠"done"):Ax rs r=[]:=by cases r<;>first|rfl|exact QZW rfl h
def uG{rs:List RX}(a:RX.Whole rs){n t b:Nat}{p k:Str}{x:Dd}{y:An}(c:.came n b p k x∈rs):Ax rs (.done n t y)=[(n,t,p,k,x,y)]:=by
 show(match fJ rs n with|some (p,k,x)=>[(n,t,p,k,x,y)]|none=>[])=_;rw[qJ a c]
def Paired.append'{d e:Type}{R:d->e->Prop}{xs b:List d}{ys c:List e}(h:Paired R xs ys)(h':Paired R b c):Paired R (xs++b) (ys++c):=by
 induction h with
 | nil=>exact h'
 | cons a t f=>exact .cons a f
def Qa(rs:List RX)(f:RX->List E6)(h:∀r,(f r).length<=1):(rs.flatMap f).length<=rs.length:=by
 induction rs with
 | nil=>exact aZ _
 | cons r rs a=>have:=h r;rw[QZO,lZ,sA];omega
def Qb(r:RX):(jU r).length<=1:=by cases r<;>exact QZV rfl
def Fx:Sp:=λvs H Q _=>∃(c d:TD)(a:List RX)(e:List TD),vs=[.ref c,.ref d]/\RxsAt H c a e/\a.length<=100/\RX.Whole a/\H d=some (.dK (aN [] (bR "came" a e a.length))) ∧
 ∀(l:TD)(ls:List TD)(b:Hp),H l=none->b l=some (.lst (ls.map V.ref))->Paired (At6 b) (eJ a) ls->Same H b->Q (.ref l) b
def vN(T:Txt K mg)(D:DefAt K mg "risen_kept" dP QZB):aG P w K mg base 1 "risen_kept" QZB Fx:=by
 refine D.gg nG (λa7 cdv a9 outer s a0 vs b0 b2 hr h=>?_)
 ·obtain⟨m,H,p,W,rfl,q,hl,I,gcd,a1⟩:=h;have d6:=dH hr;have le:=q.len;refine⟨_,(lj (R.gs (i:=2) nG.nd rfl (Or.inl rfl) rfl (js:=[none]) (N:=QZF) (CompScope.by (aB dP) QYT rfl rfl Zk) (aQ rfl) (ot (K:=K) (ku 0)) (λa2 s₂ H₂ fp=>⟨(ny (i:=0) (show(QZF:List Str).Nodup by decide +kernel)),(qo (mo nz (li (lx (K:=K)) (ku 0) kz) lq)),(pi uh (ku 0) (ow kz) tz)⟩) rfl) (md (mi (me sn (ku 2) (ou rfl (js:=[none,some 1]) (N:=["row","came"]) (CompScope.by (aB dP) QYT rfl rfl Zk) (aQ rfl) (ot (K:=K) (ku 0)) (λa2 s₂ H₂ fp=>⟨(ny (i:=0) (show(["row","came"]:List Str).Nodup by decide +kernel)),(qo (mo nz (li (lx (K:=K)) (ku 0) kz) lq)),(me wn (me wn (pi uh (ku 0) (ow kz) (ow kz)) (pi uh (ug d6 (ku 1) (li (lx (K:=K)) (ku 0) kz)) (ow kz) tz)) (pi uh (ku 0) (ow kz) tz))⟩)))))),?_⟩;refine bJ (λU a=>∃(u:TD)(ls:List TD),U=[some (.ref m),some (.ref H),some (.ref u)]/\a u=some (.lst (ls.map V.ref))/\Paired (At6 a) (p.flatMap jU) ls/\Same a0 a) (λnx a8=>?_) ?_
  ·refine⟨m,rfl,⟨_,QYJ q.lst⟩,?_⟩;refine aX (aY K m (W.map V.ref)) (by rw[aS];omega) (λi d a=>∃ls:List TD,d=ls.map V.ref/\Paired (At6 a) ((p.take i).flatMap jU) ls/\Same a0 a/\ls.length<=i) (λi d a ⟨ls,e,_,b,j⟩=>⟨QYJ (b _ _ q.lst),by rw[e,aS];exact j⟩) ⟨[],rfl,.nil,(λ_ _ e=>e),aZ _⟩ (?_) (?_)
   ·rintro i x d a J ⟨ls,e,f,b,j⟩;obtain⟨a3,r,rfl,ha,B,v⟩:=(q.same b).get J;obtain⟨xs,g,L,x1,x2⟩:=eI v;have y:=aM B;refine⟨_,QYK g,_,L,?_⟩;show if decide (bE r="kept")=true then _ else _
    refine bA (λh=>?_) (λh=>?_)
    ·refine yE0 (Fq (U6 h)) (yE6 λn t a4 k x a5 ζ=>?_);subst ζ;obtain⟨b1,M,A,O,FT⟩:=v;refine⟨_,A,λtp X c g2=>⟨ls++[tp],by rw[e,dW];rfl,?_,b.trans c,by simp;omega⟩⟩;rw[y,cP];exact Paired.snoc (Paired.map' (λ_ _ z=>z.tk (Same.tk c)) f) ⟨b1,M,g2,c _ _ O,c _ _ FT⟩
    ·refine⟨ls,e,?_,b,Zo⟩;rw[y,cP,Py (U0 h),append_nil];exact f
   ·rintro d a ⟨ls,e,f,b,j⟩;intro u Y;rw[aS,<- le,iI (aZ _)]at f;exact a8 _ _ ⟨u,ls,rfl,by rw[aA,e],Paired.map' (λ_ _ z=>z.tk (Same.tk (aE Y))) f,b.trans (aE Y)⟩
  rintro U H1 ⟨u,ls,rfl,DD,Z,C⟩;have E:=q.same C;have lk:=Z.length;have lk1:=Qa p jU Qb;refine⟨m,rfl,⟨_,QYJ E.lst⟩,?_⟩;refine aX (aY K m (W.map V.ref)) (by rw[aS];omega) (λi d a=>∃ls:List TD,d=ls.map V.ref/\Paired (At6 a) ((p.take i).flatMap (Ax p)) ls/\Same H1 a/\ls.length<=i) (λi d a ⟨ls,e,_,b,j⟩=>⟨QYJ (b _ _ E.lst),by rw[e,aS];exact j⟩) ⟨[],rfl,.nil,(λ_ _ e=>e),aZ _⟩ (?_) (?_)
  ·refine λi x d a J=>yE1 λF=>yA4 λe f b j=>?_;obtain⟨a3,r,rfl,ha,B,v⟩:=(E.same b).get J;obtain⟨xs,g,L,x1,x2⟩:=eI v;have y:=aM B;refine⟨_,QYK g,_,L,?_⟩;show if decide (bE r="done")=true then _ else _
   refine bA (λh=>?_) (λh=>?_)
   ·obtain⟨n,t,a5,rfl⟩:=oY (U6 h);obtain⟨M,A,O⟩:=v;obtain⟨t0,a4,k,x,C7,_⟩:=dG I (jI B);refine yE0 (pE I (E.same b) C7) (yE3 λca cb ct=>yA3 λhv yi uq=>?_);have yj:∀Q,Same a Q->DGet Q H (.int (n:Int)) (some (.ref ca)):=λQ ss=>by rw[<- hv];exact DGet.k (k:=Sum.inl (n:Int)) (ss _ _ (b _ _ (C _ _ gcd)))
    refine⟨_,A,λt1 X c g2=>⟨_,QYK (c _ _ A),_,rfl,H,_,rfl,yj X c,_,c _ _ yi,λt2 H3 l g3=>⟨_,_,l _ _ g2,g3,QZV rfl,λt3 H4 s4 g4=>⟨_,s4 _ _ (l _ _ (c _ _ A)),λt4 H5 s5 g5=>⟨_,_,s5 _ _ g4,g5,QZV rfl,λt5 H6 s6 g6=>?_⟩⟩⟩⟩⟩;have G:Same a H6:=(((c.trans l).trans s4).trans s5).trans s6;refine⟨F++[t5],by rw[e,dW];rfl,?_,b.trans G,by simp;omega⟩;rw[y,cP,uG I C7];exact Paired.snoc (Paired.map' (λ_ _ z=>z.tk (Same.tk G)) f) ⟨cb,M,g6,G _ _ uq,G _ _ O⟩
   ·refine⟨F,e,?_,b,Zo⟩;rw[y,cP,Pz (U0 h),append_nil];exact f
  ·rintro d a ⟨F,e,f,b,j⟩;intro kl2 GG;rw[aS,<- le,iI (aZ _)]at f;rw[aS]at j;have c:=b.trans (aE (o:=.lst d) GG);refine⟨_,_,c _ _ DD,aA,by rw[e,aS,aS];exact eZ Zo,λa6 S=>?_⟩;have l:=c.trans (aE (o:=.lst (ls.map V.ref++d)) S);refine a1 a6 (ls++F) _ (C.free (c.free S)) (by rw[aA,e,dW]) ?_ (C.trans l);exact Paired.append' (Paired.map' (λ_ _ z=>z.tk (Same.tk l)) Z) (Paired.map' (λ_ _ z=>z.tk (Same.tk ((aE GG).trans (aE S)))) f)
def jV(wd:Str)(rs:List RX)(k:aV):Bool:=rs.any λr=>decide (bE r=wd)&&decide (jB r=k)
def qK{wd:Str}{rs:List RX}{c:List TD}(f:rs.length=c.length)(k:aV):(bB (aN [] (bR wd rs c rs.length)) k).isSome=jV wd rs k:=by
 cases h:jV wd rs k with
 | true=>
  obtain⟨r,g,e⟩:=any_eq_true.mp h;rw[Bool.and_eq_true]at e;obtain⟨j,l,a,b,_⟩:=uC f g (U6 e.1);rw[U6 e.2]at b;rw[b];rfl
 | false=>
  cases b:bB (aN [] (bR wd rs c rs.length)) k with
  | none=>rfl
  | some v=>
   exfalso;rcases kW b with d|d
   ·obtain⟨j,r,a,_,g1,g2,g3,i,m⟩:=uA d;have:=List.any_eq_false.mp h r (jI g1);rw[UV g3,UV i.symm]at this;exact this rfl
   ·cases d
def lV(rs:List RX)(n:Nat):Bool:=jV "asked" rs (Sum.inl (n:Int))&&!jV "done" rs (Sum.inl (n:Int))
def pF(rs:List RX):RX->List O4|.came n _ p k x=>if lV rs n=true then [(n,p,k,x)] else []|_=>[]
def rA(rs:List RX):List O4:=rs.flatMap (pF rs)
def qL{rs:List RX}(h:RX.Whole rs):(bW rs).Pairwise (·<·):=by
 induction h with
 | nil=>exact .nil
 | @snoc rs r l d c=>
  have e:bW (rs++[r])=bW rs++bW [r]:=by unfold bW;rw[QZQ]
  rw[e];cases r with
  | came n t p k x=>
   refine List.pairwise_append.mpr ⟨c,List.pairwise_singleton _ _,λa f b g=>?_⟩;have i:b=n:=Zms.mp g;subst i;obtain⟨r,j,e⟩:=mem_filterMap.mp f;cases r<;>cases e;exact d.1 _ _ _ _ _ j
  | _=>simpa [bW]using c
theorem qM{rs:List RX}{b:List TD}(d:rs.length=b.length):∀i,i<=rs.length->(bR "came" rs b i).map (·.1)=(bW (rs.take i)).map λn:Nat=>(Sum.inl (n:Int):aV)
 | 0,_=>rfl
 | i+1,g=>by
  obtain⟨r,c⟩:∃r,rs[i]?=some r:=⟨rs[i],eT Zo⟩;obtain⟨a,f⟩:∃a,b[i]?=some a:=⟨b[i],eT Zo⟩;have e:bW (rs.take i++[r])=bW (rs.take i)++bW [r]:=by unfold bW;rw[QZQ]
  rw[jR c f,aM c,e,dW,dW,qM d i Zo]
  congr 1
  unfold kU;by_cases h:bE r="came"
  ·rw[QZY h];obtain⟨n,t,p,k,x,rfl⟩:=mO h;rfl
  ·rw[QZX h];cases r<;>first|rfl|exact QZW rfl h
def uH{rs:List RX}{c:List TD}(d:RX.Whole rs)(f:rs.length=c.length):aN [] (bR "came" rs c rs.length)=bR "came" rs c rs.length:=by
 rw[jM _ _ ?_ (λ_ _=>rfl)]
 ·rfl
 ·rw[qM f _ (aZ _),iI (aZ _)];show List.Pairwise (·≠·) _;rw[pairwise_map];exact(qL d).imp λ{a b} h e=>by
   have:(Sum.inl (a:Int):aV)=Sum.inl (b:Int):=e;injection this with this
   omega
def cX(rs:List RX):List Nat:=rs.filterMap λr=>match r with|.next n _=>some n|_=>none
def cY(rs:List RX):List Nat:=rs.filterMap λr=>match r with|.next _ t=>some t|.came _ t _ _ _=>some t|.done _ t _=>some t|_=>none
def nI(a:List Nat):List V:=a.map λn:Nat=>V.int (n:Int)
def lW(rs:List RX):List Int:=(1::(cX rs).map λn:Nat=>(n:Int))++(bW rs).map λn:Nat=>(n:Int)+1
def turnL(rs:List RX):List Int:=0::(cY rs).map λn:Nat=>(n:Int)
def IsMax(l:List Int)(m:Int):Prop:=m∈l/\∀a∈l,a<=m
def IsMax.uniq{l:List Int}{m a:Int}(h:IsMax l m)(h':IsMax l a):m=a:=by
 have:=h.2 _ h'.1;have:=h'.2 _ h.1;omega
def rB(rs:List RX)(r:RX):cX (rs++[r])=cX rs++cX [r]:=by unfold cX;rw[QZQ]
def rC(rs:List RX)(r:RX):cY (rs++[r])=cY rs++cY [r]:=by unfold cY;rw[QZQ]
def uI{a:Type}(f:RX->Option a)(rs:List RX)(i:Nat):((rs.take i).filterMap f).length<=i:=gL (length_filterMap_le _ _) (by rw[oA];omega)
def Jl{s:St}{H:Hp}{f:TD}{rs:List RX}{j:List TD}{Q:List V->Hp->Prop}(RR:RxsAt H f rs j)(u:rs.length<=100)(h:Q (nI (cX rs)) H) :
  iK [none] (aJ 0) (mT (nF mEq (nF (lF K) (vr 0) (tC (.int 0))) (tC (.str "next")))) (nF (lF K) (vr 0) (tC (.int 1))) s (Rr K f) H Q:=by
 have le:=RR.len;refine aX (aY K f (j.map V.ref)) (by rw[aS];omega) (λi c d=>d=H/\c=nI (cX (rs.take i))) (λi c d ⟨b,e⟩=>⟨by rw[b];exact QYJ RR.lst,by rw[e];unfold nI cX;rw[aS];exact uI _ _ _⟩) ⟨rfl,rfl⟩ (?_) (?_)
 ·rintro i x c d l ⟨b,e⟩;subst b;obtain⟨a,r,rfl,v,m,o⟩:=RR.get l;obtain⟨y,g,p,q,z⟩:=eI o;have k:=aM m;refine⟨_,QYK g,_,p,?_⟩;show if decide (bE r="next")=true then _ else _
  refine bA (λh=>?_) (λh=>?_)
  ·obtain⟨n,t,rfl⟩:=rW (U6 h);refine⟨_,QYK g,_,q,rfl,?_⟩;rw[k,rB,e];unfold nI;rw[dW];rfl
  ·refine⟨rfl,?_⟩;rw[k,rB,e];have:cX [r]=[]:=by
    cases r with
    | next n t=>exact QZW rfl (U0 h)
    | _=>rfl
   rw[this,append_nil]
 ·rintro c d ⟨b,e⟩;subst b;rw[aS,<- le,iI (aZ _)]at e;rw[e];exact h
def aAX(r:RX):qW (.str (bE r)) [.str "next",.str "came",.str "done"]=true↔∃t,cY [r]=[t]/\Vd r=.int ((t:Nat):Int):=by
 cases r with
 | next n t=>exact⟨λ_=>⟨t,rfl,rfl⟩,λ_=>rfl⟩
 | came n t p k x=>exact⟨λ_=>⟨t,rfl,rfl⟩,λ_=>rfl⟩
 | done n t y=>exact⟨λ_=>⟨t,rfl,rfl⟩,λ_=>rfl⟩
 | has z m=>exact⟨λz=>QZW (show false=true from z) U7,λ⟨t,h,_⟩=>nomatch h⟩
 | kept n t p k x y=>exact⟨λz=>QZW (show false=true from z) U7,λ⟨t,h,_⟩=>nomatch h⟩
 | asked n=>exact⟨λz=>QZW (show false=true from z) U7,λ⟨t,h,_⟩=>nomatch h⟩
def qN{E:St}{H:Hp}{f:TD}{rs:List RX}{l:List TD}{Q:List V->Hp->Prop}(RR:RxsAt H f rs l)(F:rs.length<=100)(h:∀b,Same H b->Q (nI (cY rs)) b) :
  iK [none] (aJ 0) (mT (nF (Zi K false) (nF (lF K) (vr 0) (tC (.int 0))) (zL (hX (tC (.str "next")) (hX (tC (.str "came")) (hX (tC (.str "done")) rE)))))) (nF (lF K) (vr 0) (tC (.int 2))) E (Rr K f) H Q:=by
 have le:=RR.len;refine aX (aY K f (l.map V.ref)) (by rw[aS];omega) (λi d b=>Same H b/\d=nI (cY (rs.take i))) (λi d b ⟨c,e⟩=>⟨QYJ (c _ _ RR.lst),by rw[e];unfold nI cY;rw[aS];exact uI _ _ _⟩) ⟨(λ_ _ e=>e),rfl⟩ (?_) (?_)
 ·rintro i x d b s ⟨c,e⟩;obtain⟨a,r,rfl,G,u,v⟩:=(RR.same c).get s;obtain⟨I,g,A,J,B⟩:=eI v;have o:=aM u;refine⟨_,QYK g,_,A,aO rfl,λC L j g2=>⟨C,_,rfl,.inr (QYK g2),rfl,rfl,?_⟩⟩;show if qW (.str (bE r)) [.str "next",.str "came",.str "done"]=true then _ else _
  refine bA (λh=>?_) (λh=>?_)
  ·obtain⟨t,D,q⟩:=(aAX r).mp h;refine⟨_,QYK (j _ _ g),_,B (by rw[q];exact λz=>nomatch z),c.trans j,?_⟩;rw[o,rC,e,D,q];unfold nI;rw[dW];rfl
  ·refine⟨c.trans j,?_⟩;rw[o,rC,e];have:cY [r]=[]:=by
    cases r with
    | has z m=>rfl
    | kept n t p k x y=>rfl
    | asked n=>rfl
    | _=>exact QZW (show true=false from h) Zd
   rw[this,append_nil]
 ·rintro d b ⟨c,e⟩;rw[aS,<- le,iI (aZ _)]at e;rw[e];exact h b c
def Jm{q:St}{H:Hp}{k:TD}{o:Obj}{kvs:List (aV×V)}{b:List Nat}{Q:List V->Hp->Prop}(g:H k=some (.frz o (.dK kvs)))(m:kvs.map (·.1)=b.map λn:Nat=>(Sum.inl (n:Int):aV))(r:b.length<=100)(h:Q (b.map λn:Nat=>V.int ((n:Int)+1)) H) :
  iK [none] (aJ 0) Mb (nF (Bl λi j=>.int (i+j)) (vr 0) (tC (.int 1))) q (Itd k o kvs) H Q:=by
 have lk:kvs.length=b.length:=by have:=congrArg length m;simpa using this
 refine aX (Fa k o kvs) (by rw[aS];omega) (λi d f=>f=H/\d=(b.take i).map λn:Nat=>V.int ((n:Int)+1)) (λi d f ⟨c,e⟩=>⟨by rw[c];exact g,by rw[e,aS,oA];omega⟩) ⟨rfl,rfl⟩ (?_) (?_)
 ·rintro i x d f p ⟨c,e⟩;subst c;have a:(kvs.map (·.1))[i]?.map kV=some x:=by rw[fK]at p ⊢;rw[<- p];cases kvs[i]? <;> rfl
  rw[m,fK]at a;cases l:b[i]? with
  | none=>rw[l]at a;cases a
  | some n=>
   rw[l]at a;injection a with a
   subst a;refine⟨rfl,?_⟩;rw[aM l,dW,e];rfl
 ·rintro d f ⟨c,e⟩;subst c;rw[aS,lk,iI (aZ _)]at e;rw[e];exact h
def wI{H:Hp}{a:TD}{u:HO}{o:Obj}(g:H a=some u){H2:Hp}(s:Same (aI H a (.frz o u)) H2):Same H (aI H2 a u):=λc x e=>by
 by_cases z:c=a
 ·subst z;rw[g]at e;cases e;exact aA
 ·rw[aD z];exact s _ _ (by rw[aD z];exact e)
def Same.keep{H H2:Hp}{a:TD}{u:HO}(g:H a=some u)(o:Obj):∀c x,H c=some x->c≠a->(aI H a (.frz o u)) c=some x:=λc x e n=>by rw[aD n];exact e
theorem Ay{H:Hp}{d:TD}{rs:List RX}{b:List TD}(RR:RxsAt H d rs b):∀i,i<=rs.length->Paired (λ(r:RX) (e:aV×V)=>iF r=true/\e.1=jB r/\r∈rs) ((rs.take i).filter iF) (bR "came" rs b i)
 | 0,_=>.nil
 | i+1,g=>by
  have le:=RR.len;obtain⟨r,c⟩:∃r,rs[i]?=some r:=⟨rs[i],eT Zo⟩;obtain⟨a,f⟩:∃a,b[i]?=some a:=⟨b[i],eT Zo⟩;rw[jR c f,aM c,filter_append];refine Paired.append' (Ay RR i Zo) ?_;unfold kU;by_cases h:bE r="came"
  ·rw[QZY h];obtain⟨n,t,p,k,x,rfl⟩:=mO h;exact .cons ⟨rfl,rfl,jI c⟩ .nil
  ·rw[QZX h];have:iF r=false:=by cases r<;>first|rfl|exact QZW rfl h
   rw[filter_cons,this];exact .nil
theorem rD(a:List RX):∀rs:List RX,rs.flatMap (pF a)=(rs.filter iF).flatMap (pF a)
 | []=>rfl
 | r::rs=>by
  rw[QZO,rD a rs,filter_cons];cases r<;>rfl
def aAY(H:Hp)(e:O4)(a:TD):Prop:=∃(t:Nat)(b:TD),H a=some (.tup [.str "came",.int (e.1:Int),.int (t:Int),.str e.2.1,.str e.2.2.1,.ref b])/\H b=some (.tup e.2.2.2.vs)
def Qc(a rs:List RX):(rs.flatMap (pF a)).length<=rs.length:=by
 induction rs with
 | nil=>exact aZ _
 | cons r rs b=>
  have:(pF a r).length<=1:=by
   cases r with
   | came n t p k x=>
    show(if lV a n=true then [(n,p,k,x)] else []).length<=1;split
    ·exact aZ _
    ·exact zero_le _
   | _=>exact zero_le _
  rw[QZO,lZ,sA];omega
structure Vh(f:Str->Nat)(hs:List Str):Prop where
 asc:hs.Pairwise λa b=>a.cps.toList<b.cps.toList
 iff:∀z,z∈hs↔0<f z
def Jn{zs:List Str}(hs:zs.Pairwise λa b=>a.cps.toList<=b.cps.toList)(d:zs.Nodup):zs.Pairwise λa b=>a.cps.toList<b.cps.toList:=
 (hs.and d).imp λ{y z} ⟨e,f⟩=>by
  rcases List.le_iff_lt_or_eq.mp e with c|c
  ·exact c
  ·exact QZW (by rw[oJ y,oJ z,c]) f
def Jo(prs:List (Str×Int)):List Str:=(nM (prs.map (·.1))).filter λn=>decide (0<cM prs n)
def Qd(prs:List (Str×Int)):(Jo prs).length<=prs.length:=gL (length_filter_le _ _) (by rw[mF,aS];exact aZ _)
def aAZ{prs:List (Str×Int)}{z:Str}(h:z∉prs.map (·.1)):cM prs z=0:=by
 unfold cM;cases e:prs.lookup z with
 | none=>rfl
 | some a=>
  exfalso;have:(z,a)∈prs:=by
   clear h;induction prs with
   | nil=>cases e
   | cons q prs c=>
    rw[lookup_cons]at e;by_cases b:z==q.1
    ·rw[b]at e;cases e;rw[eq_of_beq b];exact gJ
    ·rw[Bool.eq_false_iff.mpr b]at e;exact kY _ (c e)
  exact h (Zmm.mpr ⟨_,this,rfl⟩)
def Vi{prs:List (Str×Int)}{f:Str->Nat}(b:(prs.map (·.1)).Nodup)(a:∀z,cM prs z=(f z:Int)):Vh f (Jo prs)/\Ci prs=(Jo prs).map λz=>(z,(f z:Int)):=by
 refine⟨⟨List.Pairwise.filter _ (Jn (nN _) ((iB _).nodup_iff.mpr b)),λz=>?_⟩,?_⟩
 ·unfold Jo;rw[mem_filter,(iB _).mem_iff,decide_eq_true_iff,a];refine⟨λh=>by omega,λh=>⟨?_,Zo⟩⟩;by_cases c:z∈prs.map (·.1)
  ·exact c
  ·have:=aAZ c;rw[a]at this;omega
 ·unfold Ci Jo;exact map_congr_left λz _=>by rw[a]
structure aCt(H0 H:Hp)(rs:List RX)(f:Str->Nat)(tp:TD)(kl ol:TD):Prop where
 ex:∃(bl:TD)(m1 m2:Int)(ks os:List TD)(zs:List Z)(hs:List Str),H tp=some (.tup [.ref bl,.ref kl,.ref ol,.int m1,.int m2])/\H kl=some (.lst (ks.map V.ref))/\Paired (At6 H) (eJ rs) ks/\H ol=some (.lst (os.map V.ref))/\Paired (AtO H) (rA rs) os/\IsMax (lW rs) m1/\IsMax (turnL rs) m2/\H bl=some (.lst (dA zs))/\ZAt H zs/\Vh f hs/\zs.map (·.2)=(hs.map λz=>(z,(f z:Int)))/\hs.length<=(bY rs).length+2*(bP rs).length
 fk:H0 kl=none
 fo:H0 ol=none
 ne:kl≠ol
def Fy:Sp:=λvs H Q _=>∃(c:TD)(a:List RX)(d:List TD)(F:Nat->Str->Nat)(f:Str->Nat),vs=[.ref c]/\RxsAt H c a d/\a.length<=100/\(bY a).length+2*(bP a).length<=43/\RX.Whole a/\(∀r∈a,Dl r)/\RepF a F f ∧
 ∀(tp e g:TD)(b:Hp),aCt H b a f tp e g->Same H b->Q (.ref tp) b
def Qe{C:TD}(T:Txt K mg)(a9:aG P w K mg base 1 "by_numbers" QZt rX)(W9:aG P w K mg base 4 "risen_book" QZB (Fv C))(mz:rG P w K mg base 1 C "rows" QZG (zP C))(X0:aG P w K mg base 1 "risen_kept" QZB Fx)(D:DefAt K mg "risen" gP QZK):aG P w K mg base 5 "risen" QZK Fy:=by
 refine D.gg lR (λa3 cdv a7 outer s a0 vs b0 b1 B a4=>?_)
 ·revert a4;refine yE5 λv b c F a3=>yA8 λζ I hl tm O hok hF a1=>?_;subst ζ;have d6:=dH B;have le:=I.len;refine⟨_,(lj (mh (i:=1) lR.nd (mf a9 B rfl (kx (ku 0) (kx lq lg)))) (lj (mh (i:=2) lR.nd (mf a9 B rfl (kx (ku 0) (kx lq lg)))) (lj (mh (i:=3) lR.nd (mf a9 B rfl (kx (ku 0) (kx lq lg)))) (lj (R.jz (R.gs (i:=4) lR.nd rfl (Or.inl rfl) rfl (js:=[none,some 1,some 2,some 3]) (N:=["number","done","asked","came"]) (CompScope.by (aB gP) QZu rfl rfl Zk) (aQ rfl) (R.wD (ku 3)) (λC Y Z Q=>⟨(ny (i:=0) (show(["number","done","asked","came"]:List Str).Nodup by decide +kernel)),(qo (qv (ww (mo (R.eh d6) (ku 0) (ku 2)) (AT (mo (R.fu d6) (ku 0) (ku 1)))))),(ug d6 (ku 3) (ku 0))⟩) rfl)) (md (mi (mj (kx (R.ke mz B (mf W9 B rfl (kx (ku 0) (kx (ku 3) lg)))) (kx (mf X0 B rfl (kx (ku 0) (kx (ku 3) lg))) (kx (ou rfl (js:=[none]) (N:=QZF) (CompScope.by (aB gP) QZu rfl rfl Zk) (aQ rfl) (ot (K:=K) (ku 4)) (λC Y Z Q=>⟨(ny (i:=0) (show(QZF:List Str).Nodup by decide +kernel)),wv,(me wn (pi uh (ku 0) (ow kz) (ow kz)) (pi uh (ku 0) (ow kz) tz))⟩)) (kx (oi (R.dw (K:=K) rfl) rfl T.b_max lK (kx (me sn (me sn (oh (kx kz lg)) (ou rfl (js:=[none]) (N:=QZF) (CompScope.by (aB gP) QZu rfl rfl Zk) (aQ rfl) (ot (K:=K) (ku 0)) (λC Y Z Q=>⟨(ny (i:=0) (show(QZF:List Str).Nodup by decide +kernel)),(qo (mo nz (li (lx (K:=K)) (ku 0) kz) lq)),(li (lx (K:=K)) (ku 0) kz)⟩))) (R.kh (ou rfl (js:=[none]) (N:=["number"]) (CompScope.by (aB gP) QZu rfl rfl Zk) (aQ rfl) (R.wD (ku 3)) (λC Y Z Q=>⟨(ny (i:=0) (show(["number"]:List Str).Nodup by decide +kernel)),wv,(me oa (ku 0) kz)⟩)))) lg)) (kx (oi (R.dw (K:=K) rfl) rfl T.b_max lK (kx (me sn (oh (kx kz lg)) (ou rfl (js:=[none]) (N:=QZF) (CompScope.by (aB gP) QZu rfl rfl Zk) (aQ rfl) (ot (K:=K) (ku 0)) (λC Y Z Q=>⟨(ny (i:=0) (show(QZF:List Str).Nodup by decide +kernel)),(qo (mo (qt (K:=K)) (li (lx (K:=K)) (ku 0) kz) (mj (kx lq (kx lq (kx lq lg)))))),(li (lx (K:=K)) (ku 0) kz)⟩))) lg)) lg)))))))))))),?_⟩;refine⟨v,"done",b,c,rfl,I,Zo,λdn H1 fdn GH s1=>?_⟩;refine⟨v,"asked",b,c,rfl,I.same s1,Zo,λak H2 YV DE S=>?_⟩;refine⟨v,"came",b,c,rfl,(I.same s1).same S,Zo,λd l GI gcd s3=>?_⟩;have sH:Same a0 l:=(s1.trans S).trans s3;have R3:=I.same sH;have MI:=s3 _ _ (S _ _ GH);have GJ:=s3 _ _ DE;have YW:dn≠d:=aF (S _ _ GH) GI;have YX:ak≠d:=aF DE GI;have nrc:v≠d:=aF ((I.same s1).same S).lst GI;dsimp only [aJ];refine bJ (λσ' f=>∃(sl:TD)(h:List TD),σ'=[some (.ref v),some (.ref dn),some (.ref ak),some (.ref d),some (.ref sl)]/\f sl=some (.lst (h.map V.ref))/\Paired (aAY f) (rA b) h/\Same l f) (λnx a8=>?_) ?_
  ·refine⟨_,gcd,λo=>?_⟩;have em:=uH O le;have np:=Ay R3 b.length (aZ _);rw[iI (aZ _)]at np;have YY:=tZ "came" b c b.length;have kF:=Same.keep (H2:=l) gcd o;have y:(aI l d (.frz o (.dK (aN [] (bR "came" b c b.length))))) d=some (.frz o (.dK (aN [] (bR "came" b c b.length)))):=aA;have JB:TK l (aI l d (.frz o (.dK (aN [] (bR "came" b c b.length))))):=λa xs e=>kF _ _ e (λz=>by rw[z,gcd]at e;cases e)
   have lpp:(b.filter iF).length=(bR "came" b c b.length).length:=np.length;refine aX (Fa d o (aN [] (bR "came" b c b.length))) (by rw[aS,em];omega) (λj g f=>f=aI l d (.frz o (.dK (aN [] (bR "came" b c b.length))))/\∃h:List TD,g=h.map V.ref/\Paired (aAY f) (((b.filter iF).take j).flatMap (pF b)) h/\h.length<=j) (λj g f ⟨U,h,e,_,E⟩=>⟨by rw[U];exact y,by rw[e,aS];exact E⟩) ⟨rfl,[],rfl,.nil,aZ _⟩ (?_) (?_)
   ·rintro j x g f m ⟨U,h,e,u,E⟩;rw[fK,em]at m;cases BO:(bR "came" b c b.length)[j]? with
    | none=>rw[BO]at m;cases m
    | some kv=>
     rw[BO]at m;injection m with m
     subst m;obtain⟨hj,ej⟩:=Zgs.mp BO;obtain⟨QW,QX,xl,QY⟩:=Paired.get' (j:=j) np hj;rw[ej]at xl;have QZ:(b.filter iF)[j]?=some (b.filter iF)[j]:=eT QW;generalize (b.filter iF)[j]=a5 at QX xl QY QZ;cases a5 with
     | came n t p k x=>
      dsimp only;rw[xl];have j3:=aM QZ;subst U;refine yE0 (pE O R3 QY) (yE3 λca cb ct=>yA3 λhv yi uq=>?_);have GK:DGet (aI l d (.frz o (.dK (aN [] (bR "came" b c b.length))))) ak (.int (n:Int)) (bB (aN [] (bR "asked" b c b.length)) (Sum.inl (n:Int))):=DGet.k (k:=Sum.inl (n:Int)) (kF _ _ GJ YX);have YZ:DGet (aI l d (.frz o (.dK (aN [] (bR "came" b c b.length))))) dn (.int (n:Int)) (bB (aN [] (bR "done" b c b.length)) (Sum.inl (n:Int))):=DGet.k (k:=Sum.inl (n:Int)) (kF _ _ MI YW);have Zg:DGet (aI l d (.frz o (.dK (aN [] (bR "came" b c b.length))))) d (.int (n:Int)) (some (.ref ca)):=.inl ⟨_,Sum.inl (n:Int),.inr ⟨o,y⟩,rfl,hv.symm⟩;have no:lV b n=false->(aI l d (.frz o (.dK (aN [] (bR "came" b c b.length))))=aI l d (.frz o (.dK (aN [] (bR "came" b c b.length))))/\∃h:List TD,g=h.map V.ref/\Paired (aAY (aI l d (.frz o (.dK (aN [] (bR "came" b c b.length)))))) (((b.filter iF).take (j+1)).flatMap (pF b)) h/\h.length<=j+1):=λrq=>by
       refine⟨rfl,h,e,?_,Zo⟩;rw[j3,cP];have:pF b (.came n t p k x)=[]:=by show(if lV b n=true then _ else _)=_;rw[QZX (by rw[rq];exact U7)]
       rw[this,append_nil];exact u
      refine⟨_,GK,?_⟩;show if (bB (aN [] (bR "asked" b c b.length)) (Sum.inl (n:Int))).isSome=true then _ else _
      rw[qK le];refine bA (λJ=>?_) (λJ=>no (by unfold lV;rw[J];rfl));refine⟨_,YZ,?_⟩;show if (!(bB (aN [] (bR "done" b c b.length)) (Sum.inl (n:Int))).isSome)=true then _ else _
      rw[qK le];refine bA (λW=>?_) (λW=>no (by unfold lV;rw[J,W];rfl));refine⟨d,_,rfl,Zg,rfl,h++[ca],by rw[e,dW];rfl,?_,by simp;omega⟩;rw[j3,cP];have:pF b (.came n t p k x)=[(n,p,k,x)]:=by show(if lV b n=true then _ else _)=_;rw[QZY (by unfold lV;rw[J,W];rfl)]
      rw[this];exact Paired.snoc u ⟨ct,cb,JB _ _ yi,JB _ _ uq⟩
     | _=>cases QX
   ·rintro g f ⟨U,h,e,u,E⟩;intro sl JC;subst U;rw[iI (show(b.filter iF).length<=((aN [] (bR "came" b c b.length)).map λa1=>kV a1.1).length by rw[aS,em];omega),<- rD]at u;have Zn:d≠sl:=aF y JC;have G:=wI gcd (aE (o:=.lst g) JC);refine⟨d,_,o,⟨_,gcd⟩,aL y JC,?_⟩;refine a8 _ _ ⟨sl,h,rfl,by rw[aD Zn.symm,aA,e],Paired.map' (λ_ _ z=>?_) u,G⟩;obtain⟨t,a2,J,W⟩:=z;have back:∀ {a:TD}{xs:List V},(aI l d (.frz o (.dK (aN [] (bR "came" b c b.length))))) a=some (.tup xs)->(aI (aI (aI l d (.frz o (.dK (aN [] (bR "came" b c b.length))))) sl (.lst g)) d (.dK (aN [] (bR "came" b c b.length)))) a=some (.tup xs):=λ{a xs} e=>by
     have:a≠d:=λz=>by rw[z,y]at e;cases e
     rw[aD this];exact aL e JC
    exact⟨t,a2,back J,back W⟩
  rintro σ' H4 ⟨sl,h,rfl,ZA,ps,G⟩;have R4:=R3.same G;have P7:=G _ _ gcd;refine⟨v,d,b,c,F,a3,rfl,R4,hl,tm,O,hok,hF,P7,λp dx a6 prs H5 Q fd gp gd nd am ln s5=>?_⟩;refine⟨dx,_,gp,nP _ Zk,p,prs,rfl,⟨⟨dx,a6,gp,gd⟩,nd⟩,oC (gL ln tm) Zd,λbl zs H6 s6 fb gb hz ez=>?_⟩;have JD:=s5.trans s6;refine⟨v,d,b,c,rfl,R4.same JD,hl,O,JD _ _ P7,λkl ks H7 ZC DD pk s7=>?_⟩;have X:=JD.trans s7;have GN:=X _ _ ZA;have GO:=ps.length;have ZD:=Qc b b;refine⟨sl,rfl,⟨_,QYJ GN⟩,?_⟩;refine aX (aY K sl (h.map V.ref)) (by rw[aS];unfold rA at GO;omega) (λi g f=>∃os:List TD,g=os.map V.ref/\Paired (AtO f) ((rA b).take i) os/\Same H7 f/\os.length<=i) (λi g f ⟨os,e,_,q,E⟩=>⟨QYJ (q _ _ GN),by rw[e,aS];exact E⟩) ⟨[],rfl,.nil,(λ_ _ e=>e),aZ _⟩ (?_) (?_)
  ·rintro i x g f m ⟨os,e,u,q,E⟩;rw[fK]at m;cases MJ:h[i]? with
   | none=>rw[MJ]at m;cases m
   | some a=>
    rw[MJ]at m;cases m;obtain⟨hi,ei⟩:=Zgs.mp MJ;obtain⟨Q5,pa⟩:=Paired.get' (j:=i) ps hi;rw[ei]at pa;have DF:(rA b)[i]?=some (rA b)[i]:=eT Q5;generalize (rA b)[i]=eo at pa DF;obtain⟨t,a2,g1,g2⟩:=pa;have FI:=q _ _ (X _ _ g1);refine⟨_,FI,λt1 Ha L ga=>⟨_,L _ _ FI,λt2 Hb M ZE=>⟨_,_,M _ _ ga,ZE,QZV rfl,λt3 Hc sc gc=>?_⟩⟩⟩;have ur:=(L.trans M).trans sc;refine⟨os++[t3],by rw[e,dW];rfl,?_,q.trans ur,by simp;omega⟩;rw[aM DF];exact Paired.snoc (Paired.map' (λ_ _ z=>z.tk (Same.tk ur)) u) ⟨a2,gc,ur _ _ (q _ _ (X _ _ g2))⟩
  ·refine λg f=>yE1 λos=>yA4 λe u q E=>?_;intro r A;rw[aS,<- GO,iI (aZ _)]at u;have JE:=X.trans (q.trans (aE (o:=.lst g) A));have RA:Paired (At6 (aI f r (.lst g))) (eJ b) ks:=Paired.map' (λ_ _ z=>z.tk (Same.tk (q.trans (aE A)))) pk;have RD:Paired (AtO (aI f r (.lst g))) (rA b) os:=Paired.map' (λ_ _ z=>z.tk (Same.tk (aE A))) u;have GP:(aI f r (.lst g)) bl=some (.lst (dA zs)):=aL (q _ _ (s7 _ _ gb)) A;have RE:ZAt (aI f r (.lst g)) zs:=λz BK=>aL (q _ _ (s7 _ _ (hz z BK))) A
   have RF:(aI f r (.lst g)) r=some (.lst (os.map V.ref)):=by rw[aA,e]
   have GQ:(aI f r (.lst g)) kl=some (.lst (ks.map V.ref)):=aL (q _ _ DD) A;have ZF:kl≠r:=aF (q _ _ DD) A;have ZG:a0 r=none:=sH.free (G.free ((X.trans q).free A));have MK:a0 kl=none:=sH.free (G.free (JD.free ZC));generalize aI f r (.lst g)=H8 at JE RA RD RF GQ GP RE;have R8:=R4.same JE;have ML:=JE _ _ P7;refine⟨eL rfl,λp1 px=>?_⟩;have s9:=aE (o:=.lst [.int 1]) px;have g1:(aI H8 p1 (.lst [.int 1])) p1=some (.lst [.int 1]):=aA;generalize aI H8 p1 (.lst [.int 1])=H9 at s9 g1;refine⟨v,rfl,⟨_,QYJ (R8.same s9).lst⟩,Jl (R8.same s9) Zo λp2 C5=>?_⟩;have nle:(cX b).length<=b.length:=length_filterMap_le _ _;have cle:(bW b).length<=b.length:=length_filterMap_le _ _;refine⟨_,_,aL g1 C5,aA,by unfold nI;rw[aS];exact eZ (by simp;omega),λp3 Q6=>?_⟩;have L:=((s9.trans (aE (o:=.lst (nI (cX b))) C5)).trans (aE (o:=.lst ([.int 1]++nI (cX b))) Q6));have g3:(aI (aI H9 p2 (.lst (nI (cX b)))) p3 (.lst ([.int 1]++nI (cX b)))) p3=some (.lst (.int 1::nI (cX b))):=aA;generalize aI (aI H9 p2 (.lst (nI (cX b)))) p3 (.lst ([.int 1]++nI (cX b)))=Ha at L g3;have BP:=L _ _ ML;refine⟨_,BP,λo=>?_⟩;have hk:(aN [] (bR "came" b c b.length)).map (·.1)=(bW b).map λn:Nat=>(Sum.inl (n:Int):aV):=by
    rw[uH O le,qM le _ (aZ _),iI (aZ _)]
   refine Jm aA hk Zo λp4 U2=>?_;have y:(aI Ha d (.frz o (.dK (aN [] (bR "came" b c b.length))))) d=some (.frz o (.dK (aN [] (bR "came" b c b.length)))):=aA;have ZH:d≠p4:=aF y U2;refine⟨d,_,o,⟨_,BP⟩,aL y U2,?_⟩;have M:=wI BP (aE (o:=.lst ((bW b).map λn:Nat=>V.int ((n:Int)+1))) U2);have g4:(aI (aI (aI Ha d (.frz o (.dK (aN [] (bR "came" b c b.length))))) p4 (.lst ((bW b).map λn:Nat=>V.int ((n:Int)+1)))) d (.dK (aN [] (bR "came" b c b.length)))) p4=some (.lst ((bW b).map λn:Nat=>V.int ((n:Int)+1))):=by rw[aD ZH.symm];exact aA
   generalize aI (aI (aI Ha d (.frz o (.dK (aN [] (bR "came" b c b.length))))) p4 (.lst ((bW b).map λn:Nat=>V.int ((n:Int)+1)))) d (.dK (aN [] (bR "came" b c b.length)))=Hb at M g4;refine⟨_,_,M _ _ g3,g4,by unfold nI;rw[aS];exact eZ (by simp;omega),λp5 FQ=>?_⟩;refine⟨p5,lW b,rfl,QYJ (by rw[aA];unfold lW nI;simp[dW,map_map]<;>rfl),by unfold lW;simp,λm1 FJ GR=>?_⟩;have sc:=((L.trans M).trans (aE (o:=.lst ((.int 1::nI (cX b))++(bW b).map λn:Nat=>V.int ((n:Int)+1))) FQ));generalize aI Hb p5 (.lst ((.int 1::nI (cX b))++(bW b).map λn:Nat=>V.int ((n:Int)+1)))=Hc at sc;refine⟨eL rfl,λp6 vc=>?_⟩;have sd:=sc.trans (aE (o:=.lst [.int 0]) vc);have g6:(aI Hc p6 (.lst [.int 0])) p6=some (.lst [.int 0]):=aA;generalize aI Hc p6 (.lst [.int 0])=Hd at sd g6;refine⟨v,rfl,⟨_,QYJ (R8.same sd).lst⟩,qN (R8.same sd) Zo λHe se p7 vh=>?_⟩;have MM:(cY b).length<=b.length:=length_filterMap_le _ _;refine⟨_,_,aL (se _ _ g6) vh,aA,by unfold nI;rw[aS];exact eZ (by simp;omega),λp8 BQ=>?_⟩;refine⟨p8,turnL b,rfl,QYJ (by rw[aA];unfold turnL nI;simp[map_map]<;>rfl),by unfold turnL;simp,λm2 U3 T6=>⟨aO rfl,λtp Hf sf gf=>?_⟩⟩;have H:=((sd.trans se).trans ((aE (o:=.lst (nI (cY b))) vh).trans (aE (o:=.lst ([.int 0]++nI (cY b))) BQ))).trans sf;obtain⟨pR,eR⟩:=Vi nd am;refine a1 tp kl r Hf ⟨⟨bl,m1,m2,ks,os,zs,Jo prs,gf,H _ _ GQ,Paired.map' (λ_ _ z=>z.tk (Same.tk H)) RA,H _ _ RF,Paired.map' (λ_ _ z=>z.tk (Same.tk H)) RD,⟨FJ,GR⟩,⟨U3,T6⟩,H _ _ GP,λz BK=>H _ _ (RE z BK),pR,ez.trans eR,gL (Qd prs) ln⟩,MK,ZG,ZF⟩ ((sH.trans G).trans (JE.trans H))
def eS(ps:List RX)(w:Str):Option RX:=ps.foldl (λo r=>if bE r=w then some r else o) none
def dN(ps:List RX)(r:RX)(w:Str):eS (ps++[r]) w=if bE r=w then some r else eS ps w:=by
 unfold eS;rw[foldl_append];rfl
def cQ(ps:List RX):Nat:=ps.foldl (λ_ r=>r.rank) 0
def jF(ps:List RX)(r:RX):cQ (ps++[r])=r.rank:=by unfold cQ;rw[foldl_append];rfl
def Fz:RX->Bool|.next _ _=>true|.came _ _ _ _ _=>true|.done _ _ _=>true|_=>false
def cH(ps:List RX):Nat:=ps.foldl (λt r=>if Fz r=true then r.turn else t) 0
def nJ(ps:List RX)(r:RX):cH (ps++[r])=if Fz r=true then r.turn else cH ps:=by unfold cH;rw[foldl_append];rfl
def Vj{r:RX}(h:¬ Fz r=true):r.turn=0:=by cases r<;>first|rfl|exact QZW rfl h
def uJ{ps:List RX}(h:RX.Whole ps):∀ {w:Str}{r:RX},eS ps w=some r->r∈ps/\bE r=w:=by
 induction h with
 | nil=>intro w r e;cases e
 | @snoc b q _ _ a=>
  intro w r e;rw[dN]at e;split at e
  ·cases e;exact⟨QZT _ gJ,by assumption⟩
  ·exact⟨QZU _ (a e).1,(a e).2⟩
def jW{ps:List RX}(h:RX.Whole ps):∀ {r:RX},r∈ps->eS ps (bE r)≠none:=by
 induction h with
 | nil=>intro r e;cases e
 | @snoc b q _ _ a=>
  intro r e;rw[dN];rcases aH e with e|rfl
  ·split
   ·intro z;cases z
   ·exact a e
  ·rw[QZY rfl];intro z;cases z
def Vk{ps:List RX}(h:RX.Whole ps):∀q∈ps,q.rank<=cQ ps:=by
 induction h with
 | nil=>intro q e;cases e
 | @snoc c r _ b f=>
  intro q e;rw[jF];rcases aH e with a|rfl
  ·cases r with
   | next n t=>rw[show c=[] from b]at a;cases a
   | has z m=>exact b.1 q a
   | kept n t p k d y=>exact b.1 q a
   | came n t p k d=>cases q<;>(show _<=3;exact QZV rfl)
   | asked n=>cases q<;>(show _<=3;exact QZV rfl)
   | done n t y=>cases q<;>(show _<=3;exact QZV rfl)
  ·exact aZ _
def iG{ps:List RX}(h:RX.Whole ps)(k:Nat):(∀q∈ps,q.rank<=k)↔cQ ps<=k:=by
 refine⟨λz=>?_,λz q a=>gL (Vk h q a) z⟩
 cases h with
 | nil=>exact zero_le _
 | @snoc b r _ _=>rw[jF];exact z r (QZT _ gJ)
def pG{ps:List RX}(h:RX.Whole ps):∀k:Nat,(∀q∈ps,q.turn<=k)↔cH ps<=k:=by
 induction h with
 | nil=>intro k;exact⟨λ_=>zero_le _,λ_ q e=>nomatch e⟩
 | @snoc i r j b g=>
  intro k;rw[nJ];refine⟨λz=>?_,λz q c=>?_⟩
  ·split
   ·exact z r (QZT _ gJ)
   ·exact(g k).mp λq c=>z q (QZU _ c)
  ·rcases aH c with a|rfl
   ·split at z
    ·cases r with
     | next n t=>rw[show i=[] from b]at a;cases a
     | came n t p k d=>exact gL (b.2.2 q a) z
     | done n t y=>exact gL (b.1 q a) z
     | _=>rename_i f;cases f
    ·exact(g k).mpr z q a
   ·split at z
    ·exact z
    ·rename_i f;rw[Vj f];exact zero_le _
def wJ{ps:List RX}(h:RX.Whole ps):∀ {n t b t':Nat},.next n t∈ps->.next b t'∈ps->n=b/\t=t':=by
 induction h with
 | nil=>intro n t b t' e;cases e
 | @snoc d r k f i=>
  have no:∀ {n t b t':Nat},r=.next n t->.next b t'∉d:=λe m=>by rw[e]at f;rw[show d=[] from f]at m;cases m
  intro n t b t' j g;rcases aH j with c|c
  ·rcases aH g with a|a
   ·exact i c a
   ·exact QZW c (no a.symm)
  ·rcases aH g with a|a
   ·exact QZW a (no c.symm)
   ·rw[<- c]at a;cases a;exact⟨rfl,rfl⟩
def Qg{ps:List RX}(h:RX.Whole ps):∀ {z:Str}{m:Nat},eS ps "has"=some (.has z m)->∀a b,.has a b∈ps->a=z∨a.cps.toList<z.cps.toList:=by
 induction h with
 | nil=>intro z m e;cases e
 | @snoc g r i c d=>
  intro z m e a b hm;rw[dN]at e;split at e
  ·cases e;rcases aH hm with hm|hm
   ·exact .inr (c.2.2 _ _ hm)
   ·cases hm;exact .inl rfl
  ·rename_i f;rcases aH hm with hm|hm
   ·exact d e _ _ hm
   ·subst hm;exact QZW rfl f
def Jp{ps:List RX}(h:RX.Whole ps):∀ {n t:Nat}{p k:Str}{x:Dd}{y:An},eS ps "kept"=some (.kept n t p k x y)->∀a t' b c d f,.kept a t' b c d f∈ps->a<=n:=by
 induction h with
 | nil=>intro n t p k x y e;cases e
 | @snoc l r m g i=>
  intro n t p k x y e a t' b c d f hm;rw[dN]at e;split at e
  ·cases e;rcases aH hm with hm|hm
   ·exact le_of_lt (g.2.2.1 _ _ _ _ _ _ hm)
   ·cases hm;exact aZ _
  ·rename_i j;rcases aH hm with hm|hm
   ·exact i e _ _ _ _ _ _ hm
   ·subst hm;exact QZW rfl j
def Jq{ps:List RX}(h:RX.Whole ps):∀ {n t:Nat}{p k:Str}{x:Dd},eS ps "came"=some (.came n t p k x)->∀a t' b c d,.came a t' b c d∈ps->a<=n:=by
 induction h with
 | nil=>intro n t p k x e;cases e
 | @snoc j r l f g=>
  intro n t p k x e a t' b c d hm;rw[dN]at e;split at e
  ·cases e;rcases aH hm with hm|hm
   ·exact le_of_lt (f.1 _ _ _ _ _ hm)
   ·cases hm;exact aZ _
  ·rename_i i;rcases aH hm with hm|hm
   ·exact g e _ _ _ _ _ hm
   ·subst hm;exact QZW rfl i
def Ga(y:An):Prop:=∃x:Dd,x.Ok/\An.Of x y
def lX:RX->Prop
 | .kept _ _ _ _ d y=>d.Ok/\An.Of d y
 | .came _ _ _ _ d=>d.Ok
 | .done _ _ y=>Ga y
 | .has _ m=>m<=1000000000000
 | _=>True
def Vl{y:An}(c:Ga y){g:Str}(e:y=.no g):gB g:=by
 obtain⟨d,b,h⟩:=c;subst e;cases d with
 | send u a n=>rw[show g=u from h];exact b.1
 | fetch u a n=>rw[show g=u from h];exact b.1
 | pass u f a n=>
  rcases(show g=u∨g=f from h) with rfl|rfl
  ·exact b.1
  ·exact b.2.1
 | _=>exact h.elim
def Do{ps:List RX}(h:RX.Whole ps)(b:∀r∈ps,r.Ok):∀r∈ps,lX r:=by
 induction h with
 | nil=>intro r e;cases e
 | @snoc f r s g i=>
  intro q a;have c:∀r∈f,r.Ok:=λr j=>b r (QZU _ j)
  rcases aH a with a|rfl
  ·exact i c q a
  ·have:=b q (QZT _ gJ)
   cases q with
   | kept n t p k d y=>exact⟨this.2.2.2.2.2.1,this.2.2.2.2.2.2⟩
   | came n t p k d=>exact this.2.2.2.2.2
   | has z m=>exact this.2.2
   | done n t y=>
    obtain⟨_,_,u,p,k,d,l,o,_⟩:=g;exact⟨d,(c _ l).2.2.2.2.2,o⟩
   | _=>trivial
def Az(rs:List RX):Option Nat->Prop
 | none=>RX.Whole rs
 | some i=>∃r,rs[i]?=some r/\RX.Whole (rs.take i)/\¬ RX.Fits (rs.take i) r
def lY{rs:List RX}(h:RX.Whole rs):∀ {i:Nat}{r:RX},rs[i]?=some r->RX.Whole (rs.take i)/\RX.Fits (rs.take i) r:=by
 induction h with
 | nil=>intro i r e;cases e
 | @snoc rs q b c d=>
  intro i r e;by_cases a:i<rs.length
  ·rw[getElem?_append_left a]at e;rw[List.take_append_of_le_length (le_of_lt a)];exact d e
  ·rw[getElem?_append_right Zo]at e;have:i=rs.length:=by
    have:=(Zgs.mp e).1;simp at this;omega
   subst this;rw[sub_self]at e;cases e;rw[List.take_left];exact⟨b,c⟩
def uK{rs:List RX}(h:RX.Whole rs)(k:Nat):RX.Whole (rs.take k):=by
 by_cases a:k<rs.length
 ·exact(lY h (eT a)).1
 ·rw[iI Zo];exact h
def Qh{rs:List RX}{o o':Option Nat}(h:Az rs o)(h':Az rs o'):o=o':=by
 have a:∀ {i j:Nat},Az rs (some i)->Az rs (some j)->¬ i<j:=λ{i j} c d b=>by
  obtain⟨r,f,_,g⟩:=c;obtain⟨_,_,k,_⟩:=d;have e:(rs.take j)[i]?=some r:=by rw[List.getElem?_take_of_lt b];exact f
  have:=(lY k e).2;rw[List.take_take,min_eq_left (le_of_lt b)]at this;exact g this
 cases o with
 | none=>cases o' with
  | none=>rfl
  | some j=>obtain⟨r,e,_,n⟩:=h';exact QZW (lY h e).2 n
 | some i=>cases o' with
  | none=>obtain⟨r,e,_,n⟩:=h;exact QZW (lY h' e).2 n
  | some j=>
   have l:=a h h';have m:=a h' h;rw[show i=j by omega]
def aCu:Option Nat->V|none=>.non|some i=>.int (i:Int)
def eK:Dd->List (Str×List V)
 | .send h a n=>[(h,[.str "add",.str a,.int (n:Int)])]
 | .fetch h a n=>[(h,[.str "take",.str a,.int (n:Int)])]
 | .pass h g a n=>[(h,[.str "take",.str a,.int (n:Int)]),(g,[.str "add",.str a,.int (n:Int)])]
 | _=>[]
def Dp{d:Dd}(h:d.Ok):DWN d.wd (d.n:Int) d.vs (eK d):=by
 cases d with
 | add a n=>exact⟨⟨a,a,a,_,.add⟩,(λq c=>nomatch c)⟩
 | take a n=>exact⟨⟨a,a,a,_,.take⟩,(λq c=>nomatch c)⟩
 | move a b n=>exact⟨⟨a,b,a,_,.move⟩,(λq c=>nomatch c)⟩
 | send g a n=>exact⟨⟨g,a,a,_,.send⟩,λq c=>by rw[Zms.mp c];exact h.1⟩
 | fetch g a n=>exact⟨⟨g,a,a,_,.fetch⟩,λq c=>by rw[Zms.mp c];exact h.1⟩
 | pass g e a n=>exact⟨⟨g,e,a,_,.pass⟩,λq c=>by
   simp only [eK,mem_cons,QZR,or_false]at c;rcases c with rfl|rfl
   ·exact h.1
   ·exact h.2.1⟩
def Ba(d:Dd):(eK d).length=0↔d.far=false:=by cases d<;>simp[eK,Dd.far]
def Rt(a b:Int)(m:Nat):bD [.int (m:Int)] [(a,b)]=true↔a<=(m:Int)/\(m:Int)<=b:=by
 simp[bD,Cf]
def wi2(a b c d:Int)(l m:Nat):bD [.int (l:Int),.int (m:Int)] [(a,b),(c,d)]=true↔(a<=(l:Int)/\(l:Int)<=b)/\c<=(m:Int)/\(m:Int)<=d:=by
 simp[bD,Cf]
def Vm(a b:Int)(l m:Nat):bD [.int (l:Int),.int (m:Int)] [(a,b)]=true↔False:=by simp[bD]
def aDs(a b c d:Int)(m:Nat):bD [.int (m:Int)] [(a,b),(c,d)]=true↔False:=by simp[bD]
def aA0{d:Dd}{y:An}(f:d.Ok):Ip d.wd ((eK d).map (·.1)) (d.n:Int) y.vs=true↔An.Of d y:=by
 have i:=f.n;have c:∀ {p:Prop},¬ p->((false=true)↔p):=λh=>⟨nofun,λz=>QZW z h⟩
 cases d with
 | add a n=>cases y with
  | is1 m=>show bD [.int (m:Int)] [((n:Int),1000000000000)]=true↔n<=m/\m<=1000000000000;rw[Rt];omega
  | is2 l m=>show bD [.int (l:Int),.int (m:Int)] [((n:Int),1000000000000)]=true↔False;exact Vm ..
  | short m=>exact c id
  | full m=>show bD [.int (m:Int)] [(1000000000000-(n:Int)+1,1000000000000)]=true↔1000000000000<m+n/\m<=1000000000000;rw[Rt];omega
  | no h=>exact c id
  | ok=>exact c id
 | take a n=>cases y with
  | is1 m=>show bD [.int (m:Int)] [(0,1000000000000-(n:Int))]=true↔m+n<=1000000000000;rw[Rt];omega
  | is2 l m=>show bD [.int (l:Int),.int (m:Int)] [(0,1000000000000-(n:Int))]=true↔False;exact Vm ..
  | short m=>show bD [.int (m:Int)] [(0,(n:Int)-1)]=true↔m<n;rw[Rt];omega
  | full m=>exact c id
  | no h=>exact c id
  | ok=>exact c id
 | move a b n=>cases y with
  | is1 m=>show bD [.int (m:Int)] [(0,1000000000000-(n:Int)),((n:Int),1000000000000)]=true↔False;exact aDs ..
  | is2 l m=>
   have j:1<=n/\n<=1000000000000:=i;show bD [.int (l:Int),.int (m:Int)] [(0,1000000000000-(n:Int)),((n:Int),1000000000000)]=true↔l+n<=1000000000000/\n<=m/\m<=1000000000000;rw[wi2];omega
  | short m=>show bD [.int (m:Int)] [(0,(n:Int)-1)]=true↔m<n;rw[Rt];omega
  | full m=>show bD [.int (m:Int)] [(1000000000000-(n:Int)+1,1000000000000)]=true↔1000000000000<m+n/\m<=1000000000000;rw[Rt];omega
  | no h=>exact c id
  | ok=>exact c id
 | send g a n=>cases y with
  | is1 m=>show bD [.int (m:Int)] [(0,1000000000000-(n:Int))]=true↔m+n<=1000000000000;rw[Rt];omega
  | is2 l m=>show bD [.int (l:Int),.int (m:Int)] [(0,1000000000000-(n:Int))]=true↔False;exact Vm ..
  | short m=>show bD [.int (m:Int)] [(0,(n:Int)-1)]=true↔m<n;rw[Rt];omega
  | full m=>exact c id
  | no h=>show rH (.str h) [g]=true↔h=g;simp[rH]
  | ok=>exact c id
 | fetch g a n=>cases y with
  | is1 m=>show bD [.int (m:Int)] [((n:Int),1000000000000)]=true↔n<=m/\m<=1000000000000;rw[Rt];omega
  | is2 l m=>show bD [.int (l:Int),.int (m:Int)] [((n:Int),1000000000000)]=true↔False;exact Vm ..
  | short m=>exact c id
  | full m=>show bD [.int (m:Int)] [(1000000000000-(n:Int)+1,1000000000000)]=true↔1000000000000<m+n/\m<=1000000000000;rw[Rt];omega
  | no h=>show rH (.str h) [g]=true↔h=g;simp[rH]
  | ok=>exact c id
 | pass g e a n=>cases y with
  | is1 m=>exact c id
  | is2 l m=>exact c id
  | short m=>exact c id
  | full m=>exact c id
  | no h=>show rH (.str h) [g,e]=true↔h=g∨h=e;simp[rH]
  | ok=>exact⟨λ_=>trivial,λ_=>rfl⟩
def aCv{H:Hp}{c:TD}{y:An}(h:H c=some (.tup y.vs))(b:Ga y):Tg H (.ref c):=by
 refine .tup h (by cases y<;>exact QZV rfl) λv a=>?_
 cases y with
 | is1 m=>simp only [An.vs,mem_cons,QZR,or_false]at a;rcases a with rfl|rfl<;>first|exact .int|exact .str Zk
 | is2 l m=>simp only [An.vs,mem_cons,QZR,or_false]at a;rcases a with rfl|rfl|rfl<;>first|exact .int|exact .str Zk
 | short m=>simp only [An.vs,mem_cons,QZR,or_false]at a;rcases a with rfl|rfl<;>first|exact .int|exact .str Zk
 | full m=>simp only [An.vs,mem_cons,QZR,or_false]at a;rcases a with rfl|rfl<;>first|exact .int|exact .str Zk
 | no g=>
  have:=Vl b rfl;simp only [An.vs,mem_cons,QZR,or_false]at a;rcases a with rfl|rfl
  ·exact .str Zk
  ·exact .str (by have:=this.2.1;omega)
 | ok=>simp only [An.vs,mem_cons,QZR,or_false]at a;rw[a];exact .str Zk
structure WkT(K:W.Frag)(C:TD):Prop where
 cl:Cls K C
 n1:NoAttr K C "last_rows"
 n2:NoAttr K C "last_rank"
 n3:NoAttr K C "last_turn"
 n4:NoAttr K C "kept_numbers"
 n5:NoAttr K C "came_deeds"
 n6:NoAttr K C "asked_numbers"
 n7:NoAttr K C "done_numbers"
structure WA where
 dx:Addr
 d1:Addr
 d2:Addr
 d3:Addr
 d4:Addr
 d5:Addr
def wkF(A:WA)(a b:Nat):List (Str×V):=[("last_rows",.ref A.d1),("last_rank",.int (a:Int)),("last_turn",.int (b:Int)),("kept_numbers",.ref A.d2),("came_deeds",.ref A.d3),("asked_numbers",.ref A.d4),("done_numbers",.ref A.d5)]
def NumK(kvs:List (aV×V))(p:Nat->Prop):Prop:=∀n:Nat,(bB kvs (Sum.inl (n:Int))).isSome=true↔p n
structure aCw(H:Hp)(kvs:List (aV×V))(ps:List RX):Prop where
 em:kvs.length=0↔ps=[]
 no:∀w:Str,eS ps w=none->bB kvs (Sum.inr w)=none
 yes:∀(w:Str)(r:RX),eS ps w=some r->∃b,bB kvs (Sum.inr w)=some (.ref b)/\r.At H b
structure aCx(H:Hp)(kvs:List (aV×V))(ps:List RX):Prop where
 no:∀n:Nat,bB kvs (Sum.inl (n:Int))=none->∀t p k x,.came n t p k x∉ps
 yes:∀(n:Nat)(v:V),bB kvs (Sum.inl (n:Int))=some v->∃b t p k x,v=.ref b/\H b=some (.tup x.vs)/\.came n t p k x∈ps
structure WkG(H:Hp)(C a:TD)(A:WA)(rk tn:Nat)(k1 k2 k3 k4 k5:List (aV×V)):Prop where
 ins:H a=some (.ins C A.dx (wkF A rk tn))
 g1:H A.d1=some (.dK k1)
 g2:H A.d2=some (.dK k2)
 g3:H A.d3=some (.dK k3)
 g4:H A.d4=some (.dK k4)
 g5:H A.d5=some (.dK k5)
structure WkP(H:Hp)(ps:List RX)(k1 k2 k3 k4 k5:List (aV×V)):Prop where
 l1:k1.length<=ps.length
 l2:k2.length<=ps.length
 l3:k3.length<=ps.length
 l4:k4.length<=ps.length
 l5:k5.length<=ps.length
 last:aCw H k1 ps
 kept:NumK k2 λn=>∃t p k x y,.kept n t p k x y∈ps
 came:aCx H k3 ps
 asked:NumK k4 λn=>.asked n∈ps
 done:NumK k5 λn=>∃t y,.done n t y∈ps
structure WkF(H0:Hp)(a:TD)(A:WA):Prop where
 fa:H0 a=none
 f1:H0 A.d1=none
 f2:H0 A.d2=none
 f3:H0 A.d3=none
 f4:H0 A.d4=none
 f5:H0 A.d5=none
 nd:[A.d1,A.d2,A.d3,A.d4,A.d5].Nodup
def WkAt(H0 H:Hp)(C a:TD)(A:WA)(ps:List RX):Prop:=WkF H0 a A/\Same H0 H/\∃b c d e f,WkG H C a A (cQ ps) (cH ps) b c d e f/\WkP H ps b c d e f
def WkG.same{H b:Hp}{C a:TD}{A:WA}{c d:Nat}{e f g i j:List (aV×V)}(h:WkG H C a A c d e f g i j)(s:Same H b):WkG b C a A c d e f g i j:=
 ⟨s _ _ h.ins,s _ _ h.g1,s _ _ h.g2,s _ _ h.g3,s _ _ h.g4,s _ _ h.g5⟩
def WkP.tk{H d:Hp}{ps:List RX}{f g i j l:List (aV×V)}(h:WkP H ps f g i j l)(s:TK H d):WkP d ps f g i j l:=
 ⟨h.l1,h.l2,h.l3,h.l4,h.l5,⟨h.last.em,h.last.no,λw r e=>by obtain⟨b,a,c⟩:=h.last.yes w r e;exact⟨b,a,c.tk s⟩⟩,h.kept,⟨h.came.no,λn v e=>by obtain⟨b,t,p,k,x,a,c,m⟩:=h.came.yes n v e;exact⟨b,t,p,k,x,a,s _ _ c,m⟩⟩,h.asked,h.done⟩
def WkAt.same{H0 H b:Hp}{C a:TD}{A:WA}{ps:List RX}(h:WkAt H0 H C a A ps)(s:Same H b):WkAt H0 b C a A ps:=by
 obtain⟨c,d,e,f,g,i,j,k,l⟩:=h;exact⟨c,d.trans s,e,f,g,i,j,k.same s,l.tk s.tk⟩
section
variable {H:Hp}{C a:TD}{A:WA}{rk tn:Nat}{k1 k2 k3 k4 k5:List (aV×V)}
def WkG.ne(h:WkG H C a A rk tn k1 k2 k3 k4 k5):a≠A.d1/\a≠A.d2/\a≠A.d3/\a≠A.d4/\a≠A.d5:=
 ⟨cI h.ins h.g1 nofun,cI h.ins h.g2 nofun,cI h.ins h.g3 nofun,cI h.ins h.g4 nofun,cI h.ins h.g5 nofun⟩
def WkF.nn{H0:Hp}(f:WkF H0 a A):A.d1≠A.d2/\A.d1≠A.d3/\A.d1≠A.d4/\A.d1≠A.d5/\A.d2≠A.d3/\A.d2≠A.d4/\A.d2≠A.d5/\A.d3≠A.d4/\A.d3≠A.d5/\A.d4≠A.d5:=by
 have:=f.nd;simp only [nodup_cons,mem_cons,QZR,or_false,not_or]at this;obtain⟨⟨b,c,d,e⟩,⟨g,h,i⟩,⟨j,k⟩,l,_⟩:=this;exact⟨b,c,d,e,g,h,i,j,k,l⟩
def WkG.put1{H0:Hp}(f:WkF H0 a A)(h:WkG H C a A rk tn k1 k2 k3 k4 k5)(k:List (aV×V)):WkG (aI H A.d1 (.dK k)) C a A rk tn k k2 k3 k4 k5:=by
 obtain⟨b,i,j,l,m⟩:=h.ne;refine yE0 f.nn (yA10 λc d e g n o p q r s=>?_);exact⟨by rw[aD b];exact h.ins,aA,by rw[aD c.symm];exact h.g2,by rw[aD d.symm];exact h.g3,by rw[aD e.symm];exact h.g4,by rw[aD g.symm];exact h.g5⟩
def WkG.put2{H0:Hp}(f:WkF H0 a A)(h:WkG H C a A rk tn k1 k2 k3 k4 k5)(k:List (aV×V)):WkG (aI H A.d2 (.dK k)) C a A rk tn k1 k k3 k4 k5:=by
 obtain⟨i,b,j,l,m⟩:=h.ne;refine yE0 f.nn (yA10 λc n o p d e g q r s=>?_);exact⟨by rw[aD b];exact h.ins,by rw[aD c];exact h.g1,aA,by rw[aD d.symm];exact h.g3,by rw[aD e.symm];exact h.g4,by rw[aD g.symm];exact h.g5⟩
def WkG.put3{H0:Hp}(f:WkF H0 a A)(h:WkG H C a A rk tn k1 k2 k3 k4 k5)(k:List (aV×V)):WkG (aI H A.d3 (.dK k)) C a A rk tn k1 k2 k k4 k5:=by
 obtain⟨i,j,b,l,m⟩:=h.ne;refine yE0 f.nn (yA10 λn c o p d q r e g s=>?_);exact⟨by rw[aD b];exact h.ins,by rw[aD c];exact h.g1,by rw[aD d];exact h.g2,aA,by rw[aD e.symm];exact h.g4,by rw[aD g.symm];exact h.g5⟩
def WkG.put4{H0:Hp}(f:WkF H0 a A)(h:WkG H C a A rk tn k1 k2 k3 k4 k5)(k:List (aV×V)):WkG (aI H A.d4 (.dK k)) C a A rk tn k1 k2 k3 k k5:=by
 obtain⟨i,j,l,b,m⟩:=h.ne;refine yE0 f.nn (yA10 λn o c p q d r e s g=>?_);exact⟨by rw[aD b];exact h.ins,by rw[aD c];exact h.g1,by rw[aD d];exact h.g2,by rw[aD e];exact h.g3,aA,by rw[aD g.symm];exact h.g5⟩
def WkG.put5{H0:Hp}(f:WkF H0 a A)(h:WkG H C a A rk tn k1 k2 k3 k4 k5)(k:List (aV×V)):WkG (aI H A.d5 (.dK k)) C a A rk tn k1 k2 k3 k4 k:=by
 obtain⟨i,j,l,m,b⟩:=h.ne;refine yE0 f.nn (yA10 λn o p c q r d s e g=>?_);exact⟨by rw[aD b];exact h.ins,by rw[aD c];exact h.g1,by rw[aD d];exact h.g2,by rw[aD e];exact h.g3,by rw[aD g];exact h.g4,aA⟩
def WkG.fld(h:WkG H C a A rk tn k1 k2 k3 k4 k5)(b c:Nat):WkG (aI H a (.ins C A.dx (wkF A b c))) C a A b c k1 k2 k3 k4 k5:=by
 obtain⟨d,e,f,g,i⟩:=h.ne;exact⟨aA,by rw[aD d.symm];exact h.g1,by rw[aD e.symm];exact h.g2,by rw[aD f.symm];exact h.g3,by rw[aD g.symm];exact h.g4,by rw[aD i.symm];exact h.g5⟩
end
def Xj(ps:List RX):RX->Prop
 | .has z _=>∀f m,.has f m∈ps->f.cps.toList<z.cps.toList
 | .kept n _ _ _ _ _=>∀a b c d e g,.kept a b c d e g∈ps->a<n
 | .came n _ _ _ _=>∀a b c d e,.came a b c d e∈ps->a<n
 | _=>False
def Vn:RX->Bool|.has _ _=>true|.kept _ _ _ _ _ _=>true|.came _ _ _ _ _=>true|_=>false
def uL(C:TD):Sp:=λvs H Q _=>∃(a b:TD)(d:Hp)(A:WA)(ps:List RX)(r:RX),vs=[.ref a,.ref b]/\WkAt d H C a A ps/\r.At H b/\RX.Whole ps/\Vn r=true/\∀c:Bool,(c=true↔Xj ps r)->Q (.bl c) H
def aCy{a b c:Str}(d:a=b∨a.cps.toList<b.cps.toList)(e:b.cps.toList<c.cps.toList):a.cps.toList<c.cps.toList:=by
 rcases d with rfl|d
 ·exact e
 ·exact List.lt_trans d e
def Jr{C:TD}(B:WkT K C)(D:MethAt K C "rises" "Walk.rises" gO QZL):rG P w K mg base 1 C "rises" QZL (uL C):=by
 refine D.gg vG (λa2 cdv A outer s a3 vs a4 a5 J h=>?_)
 ·obtain⟨a6,a7,H0,A,ps,r,rfl,⟨_,_,k1,v,k3,k4,k5,W,x⟩,L,a,y,q⟩:=h;have E:=dH J;obtain⟨xs,g,F,M,x2⟩:=eI L;refine⟨_,(md (mi (R.or (om (R.fu E) (li (lx (K:=K)) (ku 1) kz) (ox (K:=K) (ku 0))) (qx (om R.jh (li (lx (K:=K)) (ug E (ox (K:=K) (ku 0)) (li (lx (K:=K)) (ku 1) kz)) kz) (li (lx (K:=K)) (ku 1) kz)))))),?_⟩;refine⟨_,QYK g,_,F,C,A.dx,_,.ref A.d1,W.ins,B.cl,B.n1,rfl,_,DGet.k (k:=Sum.inr (bE r)) W.g1,?_⟩
  cases e:eS ps (bE r) with
  | none=>
   rw[x.last.no _ e];refine q true ⟨λ_=>?_,λ_=>rfl⟩
   cases r with
   | has z a0=>exact λG H c=>QZW e (jW (r:=.has G H) a c)
   | kept n t p k d a1=>exact λb f i j l I c=>QZW e (jW (r:=.kept b f i j l I) a c)
   | came n t p k d=>exact λb f i j l c=>QZW e (jW (r:=.came b f i j l) a c)
   | _=>cases y
  | some r'=>
   obtain⟨b',N,O⟩:=x.last.yes _ _ e;obtain⟨o,u⟩:=uJ a e;obtain⟨MH,Q,x0',S,MO⟩:=eI O;have dg:=DGet.k (k:=Sum.inr (bE r)) W.g1;rw[N]at dg ⊢;refine⟨C,A.dx,_,.ref A.d1,W.ins,B.cl,B.n1,rfl,_,QYK g,_,F,A.d1,_,rfl,dg,_,QYK Q,_,S,_,QYK g,_,M,?_⟩
   cases r with
   | has z a0=>
    obtain⟨G,H,rfl⟩:=Cy u;refine q _ ⟨λh T m2 m=>?_,λh=>?_⟩
    ·exact aCy (Qg a e T m2 m) (U6 h)
    ·exact UV (h _ _ o)
   | kept n t p k d a1=>
    obtain⟨b,f,i,j,l,I,rfl⟩:=Fq u;refine q _ ⟨λh U V X v Y y2 m=>?_,λh=>?_⟩
    ·have:=Jp a e _ _ _ _ _ _ m;have Z:(b:Int)<(n:Int):=U6 h;omega
    ·exact UV (by have:=h _ _ _ _ _ _ o;omega)
   | came n t p k d=>
    obtain⟨b,f,i,j,l,rfl⟩:=mO u;refine q _ ⟨λh U V X v Y m=>?_,λh=>?_⟩
    ·have:=Jq a e _ _ _ _ _ m;have Z:(b:Int)<(n:Int):=U6 h;omega
    ·exact UV (by have:=h _ _ _ _ _ o;omega)
   | _=>cases y
def Gb(C:TD):Sp:=λvs H Q _=>∃(a b:TD)(f:Hp)(A:WA)(ps:List RX)(n t:Nat)(p k:Str)(x:Dd)(y:An)(c d:Nat),vs=[.ref a,.ref b]/\WkAt f H C a A ps/\RX.At H b (.kept n t p k x y)/\RX.Whole ps/\.next c d∈ps/\∀e:Bool,(e=true↔Xj ps (.kept n t p k x y)/\n<c/\t<=d)->Q (.bl e) H
def Qi{C:TD}(B:WkT K C)(r:rG P w K mg base 1 C "rises" QZL (uL C))(D:MethAt K C "fits_kept" "Walk.fits_kept" dO QZL):rG P w K mg base 2 C "fits_kept" QZL (Gb C):=by
 refine D.gg iX (λf N A M s H vs a0 a1 d h=>?_)
 ·revert h;refine yE13 λa b u A ps n t a2 k a3 a4 v x=>yA6 λζ j l c m q=>?_;subst ζ;have⟨_,_,O,Q,R,S,T,W,y⟩:=j;have E:=dH d;obtain⟨U,V,g,_⟩:=id l;have F:eS ps "next"=some (.next v x):=by
   cases e:eS ps "next" with
   | none=>exact QZW e (jW c m)
   | some a5=>
    obtain⟨G,I⟩:=uJ c e;obtain⟨X,Y,rfl⟩:=rW I;obtain⟨rfl,rfl⟩:=wJ c G m;rfl
  obtain⟨Z,J,gn⟩:=y.last.yes _ _ F;have dg:=DGet.k (k:=Sum.inr ("next":Str)) W.g1;rw[J]at dg;refine⟨_,(lj (mh (i:=2) iX.nd (ug E (ox (K:=K) (ku 0)) lq)) (md (mi (sw (xz r d (ku 0) (kx (ku 1) lg)) (sw (om IN (li (lx (K:=K)) (ku 1) kz) (li (lx (K:=K)) (ku 2) kz)) (qx (om wu (li (lx (K:=K)) (ku 1) kz) (li (lx (K:=K)) (ku 2) kz)))))))),?_⟩;refine⟨C,A.dx,_,.ref A.d1,W.ins,B.cl,B.n1,rfl,A.d1,_,rfl,dg,?_⟩;refine⟨A.dx,_,W.ins,rfl,a,b,u,A,ps,_,rfl,j,l,c,rfl,λo p=>?_⟩;show if o=true then _ else _
  cases o with
  | false=>exact q false ⟨nofun,λz=>p.mpr z.1⟩
  | true=>
   have L:=p.mp rfl;refine⟨_,QYK g,_,rfl,_,QYK gn,_,rfl,?_⟩;refine bA (λh=>?_) (λh=>?_)
   ·refine⟨_,QYK g,_,rfl,_,QYK gn,_,rfl,?_⟩;refine q _ ⟨λz=>⟨L,?_,?_⟩,λz=>?_⟩
    ·have:=U6 h;omega
    ·have:=U6 z;omega
    ·exact UV (by have:=z.2.2;omega)
   ·exact q false ⟨nofun,λz=>QZW (U0 h) (by have:=z.2.1;omega)⟩
def Qj(C:TD):Sp:=λvs H Q _=>∃(a b:TD)(e:Hp)(A:WA)(ps:List RX)(n t:Nat)(y:An)(f:Nat)(p k:Str)(x:Dd),vs=[.ref a,.ref b]/\WkAt e H C a A ps/\RX.At H b (.done n t y)/\RX.Whole ps/\Ga y/\x.Ok/\.came n f p k x∈ps/\∀(c:Bool)(d:Hp),(c=true↔An.Of x y/\(x.far=true->(.asked n∈ps↔y.early=false)))->Same H d->Q (.bl c) d
def Vo{y:An}:∃u,nC y.vs 0=some (.str u)/\qW (.str u) UAW=y.early:=by
 cases y with
 | is1 m=>exact⟨"is",rfl,rfl⟩
 | is2 l m=>exact⟨"is",rfl,rfl⟩
 | short m=>exact⟨"short",rfl,rfl⟩
 | full m=>exact⟨"full",rfl,rfl⟩
 | no h=>exact⟨"no",rfl,rfl⟩
 | ok=>exact⟨"ok",rfl,rfl⟩
def Gc{H:Hp}{C a:TD}{A:WA}{ps:List RX}{m o:Nat}{d f c i j:List (aV×V)}(g:WkG H C a A m o d f c i j)(h:WkP H ps d f c i j)(q:RX.Whole ps){n t:Nat}{p k:Str}{x:Dd}(l:.came n t p k x∈ps):∃b,DGet H A.d3 (.int (n:Int)) (some (.ref b))/\H b=some (.tup x.vs):=by
 have dg:=DGet.k (k:=Sum.inl (n:Int)) g.g3
 cases e:bB c (Sum.inl (n:Int)) with
 | none=>exact QZW l (h.came.no n e t p k x)
 | some v=>
  obtain⟨b,u,y,z,B,rfl,r,s⟩:=h.came.yes n v e;have:=dF q l s;cases this;rw[e]at dg;exact⟨b,dg,r⟩
def Qk{b c:Bool}{p:Prop}(h:b=true↔p):(!decide (b=c))=true↔(p↔c=false):=by
 cases b<;>cases c<;>simp_all
def Vp{C:TD}(T:Txt K mg)(a0:Top w.params K mg)(B:WkT K C)(H:aG P w K mg base 4 "is_answer" QZi Fe)(I:aG P w K mg base 1 "asks_of" QZM nQ)(D:MethAt K C "fits_answer" "Walk.fits_answer" cT QZL):rG P w K mg base 5 C "fits_answer" QZL (Qj C):=by
 refine D.gg dX (λa3 cdv A outer s a1 vs a4 a5 d h=>?_)
 ·revert h;refine yE12 λa6 a7 H0 A ps n t y t0 a8 k x=>yA8 λζ η J L M e N q=>?_;subst ζ;obtain⟨_,_,k1,k2,k3,k4,k5,W,l⟩:=η;have m:=dH d;obtain⟨O,Q,S⟩:=a0.g_UNASKED_WORDS;obtain⟨c,g,f⟩:=id J;obtain⟨o,dg,gd⟩:=Gc W l L N;refine⟨_,(lj (mh (i:=2) dX.nd (ug m (ox (K:=K) (ku 0)) (li (lx (K:=K)) (ku 1) kz))) (lj (nv (J0 (wr (mf H d rfl (kx (ku 2) (kx (li (lx (K:=K)) (ku 1) kz) lg))))) (md (mi qw)) nw) (lj (mh (i:=3) dX.nd (om (R.eh m) (li (lx (K:=K)) (ku 1) kz) (ox (K:=K) (ku 0)))) (md (mi (R.or (om nz (oi (o0 (K:=K)) rfl T.b_len bN (kx (mf I d rfl (kx (ku 2) lg)) lg)) kz) (qx (om P1 (ku 3) (om (qt (K:=K)) (li (lx (K:=K)) (li (lx (K:=K)) (ku 1) kz) kz) (R.gR rfl Q)))))))))),?_⟩;refine⟨C,A.dx,_,.ref A.d3,W.ins,B.cl,B.n5,rfl,_,QYK g,_,rfl,A.d3,_,rfl,dg,?_⟩;refine⟨_,QYK g,_,rfl,o,x.wd,x.n,x.vs,eK x,.ref c,rfl,gd,Dp e,aCv f M,λU a=>?_⟩;have V:Ck a1 x.wd ((eK x).map (·.1)) (x.n:Int) (.ref c)=Ip x.wd ((eK x).map (·.1)) (x.n:Int) y.vs:=by unfold Ck;rw[tF f]
  rw[V];have j:=aA0 (y:=y) e;generalize Ip x.wd ((eK x).map (·.1)) (x.n:Int) y.vs=X at j;cases X with
  | false=>exact q false U ⟨nofun,λz=>j.mpr z.1⟩ a
  | true=>
   have p:=j.mp rfl;have r:=W.same a;refine⟨_,QYK (a _ _ g),_,rfl,C,A.dx,_,.ref A.d4,r.ins,B.cl,B.n6,rfl,_,DGet.k (k:=Sum.inl (n:Int)) r.g4,?_⟩;have u:=l.asked n;dsimp only [aJ];obtain⟨Y,Z⟩:=(Dp e).dwx;refine⟨o,x.wd,x.vs,Y,eK x,rfl,a _ _ gd,Z,λtu v E s2 g2 ha=>⟨v,.inr (QYK g2),?_⟩⟩;have b:=a.trans s2;have hlen:=ha.length;have F:=Ba x;show if decide ((v.length:Int)=0)=true then _ else _
   refine bA (λh=>?_) (λh=>?_)
   ·refine q true E ⟨λ_=>⟨p,λz=>?_⟩,λ_=>rfl⟩ b;have:=U6 h;have:=F.mp Zo;rw[this]at z;cases z
   ·have hf:x.far=true:=by
     cases a2:x.far with
     | true=>rfl
     | false=>
      have:=F.mpr a2;exact QZW (U0 h) Zo
    obtain⟨a9,ZJ,G⟩:=Vo (y:=y);refine⟨_,QYK (b _ _ g),_,rfl,_,QYK (b _ _ f),_,ZJ,O,_,rfl,.inr (S _),rfl,rfl,?_⟩;refine q _ E ⟨λz=>⟨p,λ_=>?_⟩,λz=>?_⟩ b
    ·exact(Qk u).mp (G▸z)
    ·have:=(Qk u).mpr (z.2 hf);rw[<- G]at this;exact this
def Gd(C:TD):Sp:=λvs H Q _=>∃(a b:TD)(e:Hp)(A:WA)(ps:List RX)(r:RX),vs=[.ref a,.ref b]/\WkAt e H C a A ps/\r.At H b/\RX.Whole ps/\(∀q∈ps,lX q)/\lX r/\∀(c:Bool)(d:Hp),(c=true↔RX.Fits ps r)->Same H d->Q (.bl c) d
def Vq(r:RX):RKS.lookup (bE r)=some (r.rank:Int):=by cases r<;>rfl
def Ql{C:TD}(T:Txt K mg)(a0:Top w.params K mg)(B:WkT K C)(u5:rG P w K mg base 1 C "rises" QZL (uL C))(M5:rG P w K mg base 2 C "fits_kept" QZL (Gb C))(J7:rG P w K mg base 5 C "fits_answer" QZL (Qj C))(b9:aG P w K mg base 1 "asks_of" QZM nQ)(D:MethAt K C "fits" "Walk.fits" iN QZL):rG P w K mg base 6 C "fits" QZL (Gd C):=by
 refine D.gg oT (λa2 cdv A outer s H vs a3 a4 J h=>?_)
 ·revert h;refine yE6 λa b U A ps a1=>yA7 λζ L m f RJ RL q=>?_;subst ζ;have⟨_,_,Y,k2,M,k4,k5,W,u⟩:=L;have I:=dH J;obtain⟨aR,X2,N⟩:=a0.g_RANKS;have l:=Same.refl H;have V:(bB Y (Sum.inr ("next":Str))).isSome=true↔∃n t,.next n t∈ps:=by
   constructor
   ·intro h;cases e:eS ps "next" with
    | none=>rw[u.last.no _ e]at h;cases h
    | some r'=>
     obtain⟨c,BU⟩:=uJ f e;obtain⟨Z,F,rfl⟩:=rW BU;exact⟨Z,F,c⟩
   ·rintro⟨n,t,c⟩
    cases e:eS ps "next" with
    | none=>exact QZW e (jW f c)
    | some r'=>obtain⟨b',hv,_⟩:=u.last.yes _ _ e;rw[hv];rfl
  have X:∀n:Nat,(bB M (Sum.inl (n:Int))).isSome=true↔∃t p k x,.came n t p k x∈ps:=λn=>by
   constructor
   ·intro h;cases e:bB M (Sum.inl (n:Int)) with
    | none=>rw[e]at h;cases h
    | some v=>obtain⟨b,t,p,k,x,_,_,c⟩:=u.came.yes n v e;exact⟨t,p,k,x,c⟩
   ·rintro⟨t,p,k,x,c⟩
    cases e:bB M (Sum.inl (n:Int)) with
    | none=>exact QZW c (u.came.no n e _ _ _ _)
    | some v=>rfl
  refine⟨_,(lj (mh (i:=2) oT.nd (li (lx (K:=K)) (ku 1) kz)) (lj (nv (mo nz (ku 2) lq) (md (mi (om nz (oi R.ji rfl T.b_len bN (kx (ox (K:=K) (ku 0)) lg)) kz))) nw) (lj (nv (mo IN (li (R.jo (K:=K) (P:=w.params)) (R.gR rfl X2) (ku 2)) (ox (K:=K) (ku 0))) (md (mi qw)) nw) (lj (nv (mo nz (ku 2) lq) (md (mi (sw (om (R.eh I) lq (ox (K:=K) (ku 0))) (qx (xz u5 J (ku 0) (kx (ku 1) lg)))))) nw) (lj (nv (mo nz (ku 2) lq) (md (mi (sw (om (R.eh I) lq (ox (K:=K) (ku 0))) (qx (xz M5 J (ku 0) (kx (ku 1) lg)))))) nw) (lj (nv (mo nz (ku 2) lq) (md (mi (sw (xz u5 J (ku 0) (kx (ku 1) lg)) (sw (om (R.fu I) (li (lx (K:=K)) (ku 1) kz) (ox (K:=K) (ku 0))) (qx (om R.ge (li (lx (K:=K)) (ku 1) kz) (ox (K:=K) (ku 0)))))))) nw) (lj (nv (qv (NE (mo (R.fu I) (li (lx (K:=K)) (ku 1) kz) (ox (K:=K) (ku 0))) (R.fh (mo (R.eh I) (li (lx (K:=K)) (ku 1) kz) (ox (K:=K) (ku 0)))))) (md (mi qw)) nw) (lj (nv (mo nz (ku 2) lq) (md (mi (sw (om (R.fu I) (li (lx (K:=K)) (ku 1) kz) (ox (K:=K) (ku 0))) (qx (om J4 (oi (o0 (K:=K)) rfl T.b_len bN (kx (mf b9 J rfl (kx (ug I (ox (K:=K) (ku 0)) (li (lx (K:=K)) (ku 1) kz)) lg)) lg)) kz))))) nw) (md (mi (sw (om R.ge (li (lx (K:=K)) (ku 1) kz) (ox (K:=K) (ku 0))) (qx (xz J7 J (ku 0) (kx (ku 1) lg)))))))))))))),?_⟩
  cases a1 with
  | next n t=>
   refine⟨_,QYK m,_,rfl,?_⟩;refine⟨C,A.dx,_,.ref A.d1,W.ins,B.cl,B.n1,rfl,_,W.g1,?_⟩;refine q _ H ⟨λz=>?_,λz=>?_⟩ l
   ·exact u.last.em.mp (by have:=U6 z;omega)
   ·exact UV (by have:=u.last.em.mpr z;omega)
  | has z a5=>
   refine⟨_,QYK m,_,rfl,?_⟩;refine⟨RKS,1,N,rfl,C,A.dx,_,.int (cQ ps:Int),W.ins,B.cl,B.n2,rfl,?_⟩;refine bA (λh=>?_) (λh=>?_)
   ·refine q false H ⟨nofun,λz=>?_⟩ l;have:=(iG f 1).mp z.1;exact QZW (U6 h) Zo
   ·have MQ:cQ ps<=1:=by have:=U0 h;omega
    refine⟨C,A.dx,_,.ref A.d1,W.ins,B.cl,B.n1,rfl,_,DGet.k (k:=Sum.inr ("next":Str)) W.g1,?_⟩;show if (bB Y (Sum.inr ("next":Str))).isSome=true then _ else _
    refine bA (λd=>?_) (λd=>?_)
    ·refine⟨A.dx,_,W.ins,rfl,a,b,U,A,ps,_,rfl,L,m,f,rfl,λG E=>?_⟩;exact q G H ⟨λz=>⟨(iG f 1).mpr MQ,V.mp d,E.mp z⟩,λz=>E.mpr z.2.2⟩ l
    ·refine q false H ⟨nofun,λz=>?_⟩ l;rw[V.mpr z.2.1]at d;cases d
  | kept n t p k x y=>
   obtain⟨b1,b2,g,_⟩:=id m;refine⟨_,QYK g,_,rfl,?_⟩;refine⟨RKS,2,N,rfl,C,A.dx,_,.int (cQ ps:Int),W.ins,B.cl,B.n2,rfl,?_⟩;refine bA (λh=>?_) (λh=>?_)
   ·refine q false H ⟨nofun,λz=>?_⟩ l;have:=(iG f 2).mp z.1;exact QZW (U6 h) Zo
   ·have MQ:cQ ps<=2:=by have:=U0 h;omega
    refine⟨C,A.dx,_,.ref A.d1,W.ins,B.cl,B.n1,rfl,_,DGet.k (k:=Sum.inr ("next":Str)) W.g1,?_⟩;show if (bB Y (Sum.inr ("next":Str))).isSome=true then _ else _
    refine bA (λd=>?_) (λd=>?_)
    ·obtain⟨n0,O,GD⟩:=V.mp d;refine⟨A.dx,_,W.ins,rfl,a,b,U,A,ps,n,t,p,k,x,y,n0,O,rfl,L,m,f,GD,λG E=>?_⟩;refine q G H ⟨λz=>?_,λz=>E.mpr ?_⟩ l
     ·obtain⟨o,r,h4⟩:=E.mp z;exact⟨(iG f 2).mpr MQ,⟨n0,O,GD,r,h4⟩,o,RL.2⟩
     ·obtain⟨_,⟨Z,F,j,r,h4⟩,o,_⟩:=z;obtain⟨rfl,rfl⟩:=wJ f j GD;exact⟨o,r,h4⟩
    ·refine q false H ⟨nofun,λz=>?_⟩ l;obtain⟨Z,F,j,_⟩:=z.2.1;rw[V.mpr ⟨_,_,j⟩]at d;cases d
  | came n t p k x=>
   obtain⟨b1,g,_⟩:=id m;refine⟨_,QYK g,_,rfl,?_⟩;refine⟨RKS,3,N,rfl,C,A.dx,_,.int (cQ ps:Int),W.ins,B.cl,B.n2,rfl,?_⟩;refine bA (λh=>?_) (λh=>?_)
   ·exact QZW (U6 h) (by have:=(iG f 3).mp (λq _=>by cases q<;>exact QZV rfl);omega)
   ·refine⟨A.dx,_,W.ins,rfl,a,b,U,A,ps,_,rfl,L,m,f,rfl,λG E=>?_⟩;show if G=true then _ else _
    cases G with
    | false=>exact q false H ⟨nofun,λz=>E.mpr z.1⟩ l
    | true=>
     refine⟨_,QYK g,_,rfl,C,A.dx,_,.ref A.d2,W.ins,B.cl,B.n4,rfl,_,DGet.k (k:=Sum.inl (n:Int)) W.g2,?_⟩;have Q:=u.kept n;show if (!(bB k2 (Sum.inl (n:Int))).isSome)=true then _ else _
     refine bA (λd=>?_) (λd=>?_)
     ·refine⟨_,QYK g,_,rfl,C,A.dx,_,.int (cH ps:Int),W.ins,B.cl,B.n3,rfl,?_⟩;refine q _ H ⟨λz=>⟨E.mp rfl,λF p' k' d' y' c=>?_,?_⟩,λz=>?_⟩ l
      ·rw[Q.mpr ⟨_,_,_,_,_,c⟩]at d;cases d
      ·exact(pG f t).mpr (by have:=U6 z;omega)
      ·exact UV (by have:=(pG f t).mp z.2.2;omega)
     ·refine q false H ⟨nofun,λz=>?_⟩ l;obtain⟨F,p',k',x',y',c⟩:=Q.mp (by simpa using d);exact QZW c (z.2.1 _ _ _ _ _)
  | asked n=>
   refine⟨_,QYK m,_,rfl,?_⟩;refine⟨RKS,3,N,rfl,C,A.dx,_,.int (cQ ps:Int),W.ins,B.cl,B.n2,rfl,?_⟩;refine bA (λh=>?_) (λh=>?_)
   ·exact QZW (U6 h) (by have:=(iG f 3).mp (λq _=>by cases q<;>exact QZV rfl);omega)
   ·refine⟨_,QYK m,_,rfl,C,A.dx,_,.ref A.d3,W.ins,B.cl,B.n5,rfl,_,DGet.k (k:=Sum.inl (n:Int)) W.g3,?_⟩;show if (!(bB M (Sum.inl (n:Int))).isSome)=true then _ else _
    refine bA (λd=>?_) (λd=>?_)
    ·refine q false H ⟨nofun,λz=>?_⟩ l;obtain⟨⟨t,p,k,x,c,_⟩,_⟩:=z;rw[(X n).mpr ⟨_,_,_,_,c⟩]at d;cases d
    ·refine yE0 ((X n).mp (by simpa using d)) (yE4 λt p k x c=>?_);refine⟨_,QYK m,_,rfl,C,A.dx,_,.ref A.d5,W.ins,B.cl,B.n7,rfl,_,DGet.k (k:=Sum.inl (n:Int)) W.g5,?_⟩;have S:=u.done n;show if (bB k5 (Sum.inl (n:Int))).isSome=true then _ else _
     refine bA (λo=>?_) (λo=>?_)
     ·refine q false H ⟨nofun,λz=>?_⟩ l;obtain⟨F,y',j⟩:=S.mp o;exact QZW j (z.2.2 _ _)
     ·have MR:∀t y,.done n t y∉ps:=λt y j=>by rw[S.mpr ⟨_,_,j⟩]at o;cases o
      refine⟨_,QYK m,_,rfl,C,A.dx,_,.ref A.d4,W.ins,B.cl,B.n6,rfl,_,DGet.k (k:=Sum.inl (n:Int)) W.g4,?_⟩;have Q:=u.asked n;show if (!(bB k4 (Sum.inl (n:Int))).isSome)=true then _ else _
      refine bA (λr=>?_) (λr=>?_)
      ·have ZK:.asked n∉ps:=λj=>by rw[Q.mpr j]at r;cases r
       obtain⟨bd,dg,gd⟩:=Gc W u f c;have hx:x.Ok:=RJ _ c;obtain⟨cs,ui⟩:=(Dp hx).dwx;refine⟨C,A.dx,_,.ref A.d3,W.ins,B.cl,B.n5,rfl,_,QYK m,_,rfl,A.d3,_,rfl,dg,bd,x.wd,x.vs,cs,eK x,rfl,gd,ui,λtu us H2 s2 g2 ha=>⟨us,.inr (QYK g2),?_⟩⟩;have hlen:=ha.length;have W6:=Ba x;refine q _ H2 ⟨λz=>⟨⟨t,p,k,x,c,?_⟩,ZK,MR⟩,λz=>?_⟩ s2
       ·cases e:x.far with
        | true=>rfl
        | false=>have:=W6.mpr e;have:=U6 z;omega
       ·obtain⟨⟨F,p',k',x',j,JG⟩,_⟩:=z;have:=dF f c j;cases this;refine UV ?_;have:(eK x).length≠0:=λz=>by rw[W6.mp z]at JG;cases JG
        omega
      ·refine q false H ⟨nofun,λz=>?_⟩ l;exact QZW (Q.mp (by simpa using r)) z.2.1
  | done n t y=>
   obtain⟨b1,g,_⟩:=id m;refine⟨_,QYK g,_,rfl,?_⟩;refine⟨RKS,3,N,rfl,C,A.dx,_,.int (cQ ps:Int),W.ins,B.cl,B.n2,rfl,?_⟩;refine bA (λh=>?_) (λh=>?_)
   ·exact QZW (U6 h) (by have:=(iG f 3).mp (λq _=>by cases q<;>exact QZV rfl);omega)
   ·refine⟨_,QYK g,_,rfl,C,A.dx,_,.ref A.d3,W.ins,B.cl,B.n5,rfl,_,DGet.k (k:=Sum.inl (n:Int)) W.g3,?_⟩;show if (!(bB M (Sum.inl (n:Int))).isSome)=true then _ else _
    refine bA (λd=>?_) (λd=>?_)
    ·refine q false H ⟨nofun,λz=>?_⟩ l;obtain⟨_,_,t,p,k,x,c,_⟩:=z;rw[(X n).mpr ⟨_,_,_,_,c⟩]at d;cases d
    ·refine yE0 ((X n).mp (by simpa using d)) (yE4 λO p k x c=>?_);refine⟨_,QYK g,_,rfl,C,A.dx,_,.ref A.d5,W.ins,B.cl,B.n7,rfl,_,DGet.k (k:=Sum.inl (n:Int)) W.g5,?_⟩;have S:=u.done n;show if (bB k5 (Sum.inl (n:Int))).isSome=true then _ else _
     refine bA (λo=>?_) (λo=>?_)
     ·refine q false H ⟨nofun,λz=>?_⟩ l;obtain⟨F,y',j⟩:=S.mp o;exact QZW j (z.2.1 _ _)
     ·have MR:∀t y,.done n t y∉ps:=λt y j=>by rw[S.mpr ⟨_,_,j⟩]at o;cases o
      refine⟨_,QYK g,_,rfl,C,A.dx,_,.int (cH ps:Int),W.ins,B.cl,B.n3,rfl,?_⟩;refine bA (λr=>?_) (λr=>?_)
      ·have ht:=(pG f t).mpr (by have:=U6 r;omega);refine⟨A.dx,_,W.ins,rfl,a,b,U,A,ps,n,t,y,O,p,k,x,rfl,L,m,f,RL,RJ _ c,c,λG H' E s'=>?_⟩;refine q G H' ⟨λz=>⟨ht,MR,O,p,k,x,c,E.mp z⟩,λz=>?_⟩ s';obtain⟨_,_,F,p',k',x',j,hz⟩:=z;have:=dF f c j;cases this;exact E.mpr hz
      ·refine q false H ⟨nofun,λz=>?_⟩ l;have:=(pG f t).mp z.1;exact QZW (U0 r) Zo
def s2K(k:List (aV×V)):RX->List (aV×V)|.kept n _ _ _ _ _=>bI k (Sum.inl (n:Int)) (.bl true)|_=>k
def s3K(k:List (aV×V))(bd:TD):RX->List (aV×V)|.came n _ _ _ _=>bI k (Sum.inl (n:Int)) (.ref bd)|_=>k
def s4K(k:List (aV×V)):RX->List (aV×V)|.asked n=>bI k (Sum.inl (n:Int)) (.bl true)|_=>k
def s5K(k:List (aV×V)):RX->List (aV×V)|.done n _ _=>bI k (Sum.inl (n:Int)) (.bl true)|_=>k
def NumK.put{k:List (aV×V)}{p q:Nat->Prop}(h:NumK k p)(n:Nat)(v:V)(a:∀m,q m↔p m∨m=n):NumK (bI k (Sum.inl (n:Int)) v) q:=by
 intro m;rw[cZ,a];by_cases e:m=n
 ·subst e;rw[QZY rfl];simp
 ·rw[QZX (λz=>e (by have:=Sum.inl.inj z;omega)),h m];exact⟨.inl,λz=>z.resolve_right e⟩
def NumK.iff{k:List (aV×V)}{p q:Nat->Prop}(h:NumK k p)(a:∀m,q m↔p m):NumK k q:=λm=>by rw[a];exact h m
def Qm(k:List (aV×V))(x:aV)(v:V):(bI k x v).length≠0:=by
 unfold bI;split
 ·rename_i h
  cases k with
  | nil=>cases h
  | cons y r=>simp
 ·simp
def bZ{a:Type}{l:List a}{x y:a}:x∈l++[y]↔x∈l∨x=y:=by simp
def WkP.step{H o:Hp}{ps:List RX}{G I u J L:List (aV×V)}(h:WkP H ps G I u J L)(s:TK H o){r:RX}{b bd:TD}(R:r.At o b)(S:∀n t p k x,r=.came n t p k x->o bd=some (.tup x.vs))  :
  WkP o (ps++[r]) (bI G (Sum.inr (bE r)) (.ref b)) (s2K I r) (s3K u bd r) (s4K J r) (s5K L r):=by
 have A:=h.tk s;have i:∀(k:List (aV×V))(x:aV)(v:V),k.length<=ps.length->(bI k x v).length<=(ps++[r]).length:=λk x v l=>by have:=cR k x v;rw[lZ];simp;omega
 have ls:∀(k:List (aV×V)),k.length<=ps.length->k.length<=(ps++[r]).length:=λk l=>by rw[lZ];omega
 refine⟨i _ _ _ h.l1,?_,?_,?_,?_,⟨⟨λz=>QZW z (Qm _ _ _),λz=>by simp at z⟩,λw e=>?_,λw q e=>?_⟩,?_,⟨λn e t p k x hm=>?_,λn v e=>?_⟩,?_,?_⟩
 ·cases r<;>first|exact i _ _ _ h.l2|exact ls _ h.l2
 ·cases r<;>first|exact i _ _ _ h.l3|exact ls _ h.l3
 ·cases r<;>first|exact i _ _ _ h.l4|exact ls _ h.l4
 ·cases r<;>first|exact i _ _ _ h.l5|exact ls _ h.l5
 ·rw[dN]at e;split at e
  ·cases e
  ·rename_i j;rw[cZ,QZX (λz=>j (Sum.inr.inj z).symm)];exact A.last.no w e
 ·rw[dN]at e;split at e
  ·rename_i T;cases e;rw[cZ,QZY (by rw[T])];exact⟨b,rfl,R⟩
  ·rename_i j;rw[cZ,QZX (λz=>j (Sum.inr.inj z).symm)];exact A.last.yes w q e
 ·cases r with
  | kept n t p k x y=>
   refine h.kept.put n _ λm=>⟨?_,λz=>?_⟩
   ·refine yE5 λa c d f g hm=>?_;rcases bZ.mp hm with hm|hm
    ·exact .inl ⟨_,_,_,_,_,hm⟩
    ·cases hm;exact .inr rfl
   ·rcases z with⟨a,c,d,f,g,hm⟩|rfl
    ·exact⟨_,_,_,_,_,bZ.mpr (.inl hm)⟩
    ·exact⟨_,_,_,_,_,bZ.mpr (.inr rfl)⟩
  | _=>
   refine h.kept.iff λm=>⟨?_,λ⟨a,c,d,f,g,hm⟩=>⟨_,_,_,_,_,bZ.mpr (.inl hm)⟩⟩;refine yE5 λa c d f g hm=>?_;rcases bZ.mp hm with hm|hm
   ·exact⟨_,_,_,_,_,hm⟩
   ·cases hm
 ·cases r with
  | came B M N O Q=>
   change bB (bI u (Sum.inl (B:Int)) (.ref bd)) _=none at e;rw[cZ]at e;split at e
   ·cases e
   ·rename_i j;rcases bZ.mp hm with hm|hm
    ·exact h.came.no n e _ _ _ _ hm
    ·cases hm;exact j rfl
  | _=>
   rcases bZ.mp hm with hm|hm
   ·exact h.came.no n e _ _ _ _ hm
   ·cases hm
 ·cases r with
  | came B M N O Q=>
   change bB (bI u (Sum.inl (B:Int)) (.ref bd)) _=some v at e;rw[cZ]at e;split at e
   ·rename_i U;have:n=B:=by have:=Sum.inl.inj U;omega
    subst this;cases e;exact⟨bd,M,N,O,Q,rfl,S _ _ _ _ _ rfl,bZ.mpr (.inr rfl)⟩
   ·obtain⟨C,a,c,d,f,D,E,F⟩:=A.came.yes n v e;exact⟨C,a,c,d,f,D,E,bZ.mpr (.inl F)⟩
  | _=>
   obtain⟨C,a,c,d,f,D,E,F⟩:=A.came.yes n v e;exact⟨C,a,c,d,f,D,E,bZ.mpr (.inl F)⟩
 ·cases r with
  | asked n=>
   refine h.asked.put n _ λm=>⟨λhm=>?_,λz=>?_⟩
   ·rcases bZ.mp hm with hm|hm
    ·exact .inl hm
    ·cases hm;exact .inr rfl
   ·rcases z with hm|rfl
    ·exact bZ.mpr (.inl hm)
    ·exact bZ.mpr (.inr rfl)
  | _=>
   refine h.asked.iff λm=>⟨λhm=>?_,λhm=>bZ.mpr (.inl hm)⟩;rcases bZ.mp hm with hm|hm
   ·exact hm
   ·cases hm
 ·cases r with
  | done n t y=>
   refine h.done.put n _ λm=>⟨?_,λz=>?_⟩
   ·rintro ⟨a,g,hm⟩;rcases bZ.mp hm with hm|hm
    ·exact .inl ⟨_,_,hm⟩
    ·cases hm;exact .inr rfl
   ·rcases z with⟨a,g,hm⟩|rfl
    ·exact⟨_,_,bZ.mpr (.inl hm)⟩
    ·exact⟨_,_,bZ.mpr (.inr rfl)⟩
  | _=>
   refine h.done.iff λm=>⟨?_,λ⟨a,g,hm⟩=>⟨_,_,bZ.mpr (.inl hm)⟩⟩;rintro ⟨a,g,hm⟩;rcases bZ.mp hm with hm|hm
   ·exact⟨_,_,hm⟩
   ·cases hm
def Ge(C:TD):Sp:=λvs H Q _=>∃(a b:TD)(c:Hp)(A:WA)(ps:List RX)(r:RX),vs=[.ref a,.ref b]/\WkAt c H C a A ps/\r.At c b/\ps.length<=200/\∀(v:V)(d:Hp),WkAt c d C a A (ps++[r])->Q v d
def uM{H:Hp}{a:TD}{k:List (aV×V)}{o:HO}(h:H a=some (.dK k)):TK H (aI H a o):=λb c e=>by rw[aD (cI e h nofun)];exact e
def Qn{H:Hp}{a C c:TD}{fs:List (Str×V)}{o:HO}(h:H a=some (.ins C c fs)):TK H (aI H a o):=λb d e=>by rw[aD (cI e h nofun)];exact e
def Qo{C:TD}(T:Txt K mg)(a2:Top w.params K mg)(B:WkT K C)(D:MethAt K C "step" "Walk.step" iO QZL):rG P w K mg base 1 C "step" QZL (Ge C):=by
 refine D.gg oU (λa6 cdv A outer s H vs a7 a9 hr h=>?_)
 ·obtain⟨a,b,I,A,ps,r,rfl,⟨d,M,x,N,O,Q,S,W,f⟩,MS,hl,q⟩:=h;have y:=dH hr;obtain⟨aR,X2,tR⟩:=a2.g_RANKS;have p:=MS.tk M.tk;obtain⟨xs,a0,x0,x1,x2⟩:=eI p;have pj:=f.l1;have E1:=f.l2;have IL:=f.l3;have ZL:=f.l4;have ZM:=f.l5;have sz:∀(k:List (aV×V)),k.length<=ps.length->k.length<sizeLine:=λk h=>oC (m:=1000) Zo Zd
  refine⟨_,(lj (mh (i:=2) oU.nd (li (lx (K:=K)) (ku 1) kz)) (lj (ut (ku 1) (u8 (ox (K:=K) (ku 0)) (ku 2) (yx y))) (lj (CJ (K:=K) (ku 0) (li (R.jo (K:=K) (P:=w.params)) (R.gR rfl X2) (ku 2))) (lj (nv (mo (qt (K:=K)) (ku 2) (mj (kx lq (kx lq (kx lq lg))))) (md (CJ (K:=K) (ku 0) (li (lx (K:=K)) (ku 1) kz))) nw) (lj (nv (mo nz (ku 2) lq) (md (ut qw (u8 (ox (K:=K) (ku 0)) (li (lx (K:=K)) (ku 1) kz) (yx y)))) nw) (lj (nv (mo nz (ku 2) lq) (md (ut (li (lx (K:=K)) (ku 1) kz) (u8 (ox (K:=K) (ku 0)) (li (lx (K:=K)) (ku 1) kz) (yx y)))) nw) (lj (nv (mo nz (ku 2) lq) (md (ut qw (u8 (ox (K:=K) (ku 0)) (li (lx (K:=K)) (ku 1) kz) (yx y)))) nw) (md (nv (mo nz (ku 2) lq) (md (ut qw (u8 (ox (K:=K) (ku 0)) (li (lx (K:=K)) (ku 1) kz) (yx y)))) nw))))))))),?_⟩;refine⟨_,QYK a0,_,x0,?_⟩;refine⟨C,A.dx,_,.ref A.d1,W.ins,B.cl,B.n1,rfl,A.d1,_,rfl,DPut.k (k:=Sum.inr (bE r)) W.g1 (sz _ pj),?_⟩;have E:=W.put1 d (bI x (Sum.inr (bE r)) (.ref b));have U:TK H (aI H A.d1 (.dK (bI x (Sum.inr (bE r)) (.ref b)))):=uM W.g1;have X:Same I (aI H A.d1 (.dK (bI x (Sum.inr (bE r)) (.ref b)))):=bX d.f1 M;generalize aI H A.d1 (.dK (bI x (Sum.inr (bE r)) (.ref b)))=Y at E U X;refine⟨RKS,_,tR,Vq r,C,A.dx,_,E.ins,B.cl,B.n2,QZV rfl,?_⟩;have F:bT "last_rank" (.int (r.rank:Int)) (wkF A (cQ ps) (cH ps))=wkF A r.rank (cH ps):=rfl;rw[F];have Z:=E.fld r.rank (cH ps);have t2:=U.trans (Qn (o:=.ins C A.dx (wkF A r.rank (cH ps))) E.ins);have s2:Same I (aI Y a (.ins C A.dx (wkF A r.rank (cH ps)))):=bX d.fa X;generalize aI Y a (.ins C A.dx (wkF A r.rank (cH ps)))=H2 at Z t2 s2;dsimp only;refine bJ (λL J=>L=[some (.ref a),some (.ref b),some (.str (bE r))]/\WkG J C a A r.rank (cH (ps++[r])) (bI x (Sum.inr (bE r)) (.ref b)) N O Q S/\TK H J/\Same I J) (λnx z=>?_) ?_
  ·refine⟨aO rfl,λtp H3 l g3=>⟨tp,_,rfl,.inr (QYK g3),rfl,rfl,?_⟩⟩;have c:=Z.same l;have g:=t2.trans l.tk;have GS:=s2.trans l;have et:qW (.str (bE r)) [.str "next",.str "came",.str "done"]=Fz r:=by cases r<;>rfl
   rw[nJ]at z;show if qW (.str (bE r)) [.str "next",.str "came",.str "done"]=true then _ else _
   rw[et];refine bA (λh=>?_) (λh=>?_)
   ·rw[QZY h]at z;have F:Vd r=.int (r.turn:Int):=by cases r<;>first|rfl|cases h
    have MO:=x2 (by rw[F];exact λa1=>nomatch a1);rw[F]at MO;refine⟨_,QYK (g _ _ a0),_,MO,C,A.dx,_,c.ins,B.cl,B.n3,QZV rfl,?_⟩;exact z _ _ ⟨rfl,c.fld r.rank r.turn,g.trans (Qn c.ins),bX d.fa GS⟩
   ·rw[QZX (by rw[h];exact U7)]at z;exact z _ _ ⟨rfl,c,g,GS⟩
  rintro L H3 ⟨rfl,c,g,l⟩;have u:=p.tk g;rw[<- jF ps r]at c;cases r with
  | next n t=>exact q _ _ ⟨d,l,_,_,_,_,_,c,f.step (bd:=a) g u (λ_ _ _ _ _ e=>nomatch e)⟩
  | has a1 m=>exact q _ _ ⟨d,l,_,_,_,_,_,c,f.step (bd:=a) g u (λ_ _ _ _ _ e=>nomatch e)⟩
  | kept n t a3 k a4 a5=>
   obtain⟨G,b2,v,_⟩:=id u;refine⟨C,A.dx,_,.ref A.d2,c.ins,B.cl,B.n4,rfl,_,QYK v,_,rfl,A.d2,_,rfl,DPut.k (k:=Sum.inl (n:Int)) c.g2 (sz _ E1),?_⟩;have j:=g.trans (uM (o:=.dK (bI N (Sum.inl (n:Int)) (.bl true))) c.g2);exact q _ _ ⟨d,bX d.f2 l,_,_,_,_,_,c.put2 d _,f.step (bd:=a) j (p.tk j) (λ_ _ _ _ _ e=>nomatch e)⟩
  | came n t a3 k a4=>
   obtain⟨G,v,ZN⟩:=id u;refine⟨_,QYK v,_,rfl,C,A.dx,_,.ref A.d3,c.ins,B.cl,B.n5,rfl,_,QYK v,_,rfl,A.d3,_,rfl,DPut.k (k:=Sum.inl (n:Int)) c.g3 (sz _ IL),?_⟩;have t5:=uM (o:=.dK (bI O (Sum.inl (n:Int)) (.ref G))) c.g3;have j:=g.trans t5;exact q _ _ ⟨d,bX d.f3 l,_,_,_,_,_,c.put3 d _,f.step (bd:=G) j (p.tk j) (λ_ _ _ _ _ e=>by cases e;exact t5 _ _ ZN)⟩
  | asked n=>
   refine⟨C,A.dx,_,.ref A.d4,c.ins,B.cl,B.n6,rfl,_,QYK u,_,rfl,A.d4,_,rfl,DPut.k (k:=Sum.inl (n:Int)) c.g4 (sz _ ZL),?_⟩;have j:=g.trans (uM (o:=.dK (bI Q (Sum.inl (n:Int)) (.bl true))) c.g4);exact q _ _ ⟨d,bX d.f4 l,_,_,_,_,_,c.put4 d _,f.step (bd:=a) j (p.tk j) (λ_ _ _ _ _ e=>nomatch e)⟩
  | done n t a5=>
   obtain⟨G,v,_⟩:=id u;refine⟨C,A.dx,_,.ref A.d5,c.ins,B.cl,B.n7,rfl,_,QYK v,_,rfl,A.d5,_,rfl,DPut.k (k:=Sum.inl (n:Int)) c.g5 (sz _ ZM),?_⟩;have j:=g.trans (uM (o:=.dK (bI S (Sum.inl (n:Int)) (.bl true))) c.g5);exact q _ _ ⟨d,bX d.f5 l,_,_,_,_,_,c.put5 d _,f.step (bd:=a) j (p.tk j) (λ_ _ _ _ _ e=>nomatch e)⟩
def Gf(C:TD):Sp:=λvs H Q _=>∃(p c:TD),vs=[.ref p]/\H p=some (.ins C c [])/\∀(a:Hp)(A:WA),H A.d1=none->H A.d2=none->H A.d3=none->H A.d4=none->H A.d5=none->[A.d1,A.d2,A.d3,A.d4,A.d5].Nodup->WkG a C p A 0 0 [] [] [] [] []->(∀b o,H b=some o->b≠p->a b=some o)->Q .non a
def Qp{C:TD}(B:WkT K C)(D:ClsAt K mg "Walk" C "Walk.__init__" cF QZG [[]]):∀d∈([[]]:List (List V)),Mkr P w K mg base 1 "Walk" C QZG d (Gf C):=by
 refine D.gg qE (λa7 cdv a8 outer s H vs a9 b0 hr a0=>?_)
 ·obtain⟨p,c,rfl,Z,a6⟩:=a0;refine⟨_,(lj (CJ (K:=K) (ku 0) PP) (lj (CJ (K:=K) (ku 0) kz) (lj (CJ (K:=K) (ku 0) kz) (lj (CJ (K:=K) (ku 0) PP) (lj (CJ (K:=K) (ku 0) PP) (lj (CJ (K:=K) (ku 0) PP) (md (CJ (K:=K) (ku 0) PP)))))))),?_⟩;have st:∀ {i:Hp}{d:TD}{o o':HO},(∀b u,H b=some u->b≠p->i b=some u)->i d=none->p≠d->(∀b u,H b=some u->b≠p->(aI (aI i d o) p o') b=some u)/\H d=none:=λ{i d o o'} k E J2=>by
   refine⟨λb u e l=>?_,?_⟩
   ·rw[aD l,aD (aF (k b u e l) E)];exact k b u e l
   ·cases e:H d with
    | none=>rfl
    | some u=>rw[k d u e J2.symm]at E;cases E
  intro a DC;have j:=aF Z DC;refine⟨C,c,_,(by rw[aD j];exact Z),B.cl,B.n1,(by show 0<1000;decide),?_⟩;obtain⟨k1,f1⟩:=st (o:=.dK []) (o':=.ins C c (bT "last_rows" (.ref a) [])) (λb u e _=>e) DC j;have i1:(aI (aI H a (.dK [])) p (.ins C c (bT "last_rows" (.ref a) []))) p=some (.ins C c [("last_rows",.ref a)]):=aA;have a1:(aI (aI H a (.dK [])) p (.ins C c (bT "last_rows" (.ref a) []))) a=some (.dK []):=by rw[aD j.symm];exact aA
  dsimp only;generalize aI (aI H a (.dK [])) p (.ins C c (bT "last_rows" (.ref a) []))=i at k1 i1 a1;refine⟨C,c,_,i1,B.cl,B.n2,QZV rfl,?_⟩;refine⟨C,c,_,aA,B.cl,B.n3,QZV rfl,?_⟩;have F:(aI (aI i p (.ins C c (bT "last_rank" (.int 0) [("last_rows",.ref a)]))) p (.ins C c (bT "last_turn" (.int 0) (bT "last_rank" (.int 0) [("last_rows",.ref a)])))) p=some (.ins C c [("last_rows",.ref a),("last_rank",.int 0),("last_turn",.int 0)]):=aA;have G:(aI (aI i p (.ins C c (bT "last_rank" (.int 0) [("last_rows",.ref a)]))) p (.ins C c (bT "last_turn" (.int 0) (bT "last_rank" (.int 0) [("last_rows",.ref a)])))) a=some (.dK []):=by rw[aD j.symm,aD j.symm];exact a1
  have k2:∀b u,H b=some u->b≠p->(aI (aI i p (.ins C c (bT "last_rank" (.int 0) [("last_rows",.ref a)]))) p (.ins C c (bT "last_turn" (.int 0) (bT "last_rank" (.int 0) [("last_rows",.ref a)])))) b=some u:=λb u e l=>by rw[aD l,aD l];exact k1 b u e l
  generalize aI (aI i p (.ins C c (bT "last_rank" (.int 0) [("last_rows",.ref a)]))) p (.ins C c (bT "last_turn" (.int 0) (bT "last_rank" (.int 0) [("last_rows",.ref a)])))=x at F G k2;intro f A;have m:=aF F A;have RM:=aF G A;refine⟨C,c,_,(by rw[aD m];exact F),B.cl,B.n4,QZV rfl,?_⟩;obtain⟨k3,f2⟩:=st (o:=.dK []) (o':=.ins C c (bT "kept_numbers" (.ref f) [("last_rows",.ref a),("last_rank",.int 0),("last_turn",.int 0)])) k2 A m;have I:(aI (aI x f (.dK [])) p (.ins C c (bT "kept_numbers" (.ref f) [("last_rows",.ref a),("last_rank",.int 0),("last_turn",.int 0)]))) p=some (.ins C c [("last_rows",.ref a),("last_rank",.int 0),("last_turn",.int 0),("kept_numbers",.ref f)]):=aA;have J:(aI (aI x f (.dK [])) p (.ins C c (bT "kept_numbers" (.ref f) [("last_rows",.ref a),("last_rank",.int 0),("last_turn",.int 0)]))) a=some (.dK []):=by rw[aD j.symm,aD RM];exact G
  have L:(aI (aI x f (.dK [])) p (.ins C c (bT "kept_numbers" (.ref f) [("last_rows",.ref a),("last_rank",.int 0),("last_turn",.int 0)]))) f=some (.dK []):=by rw[aD m.symm];exact aA
  dsimp only;generalize aI (aI x f (.dK [])) p (.ins C c (bT "kept_numbers" (.ref f) [("last_rows",.ref a),("last_rank",.int 0),("last_turn",.int 0)]))=r at k3 I J L;intro g y;have t:=aF I y;have RN:=aF J y;have RO:=aF L y;refine⟨C,c,_,(by rw[aD t];exact I),B.cl,B.n5,QZV rfl,?_⟩;obtain⟨k4,f3⟩:=st (o:=.dK []) (o':=.ins C c (bT "came_deeds" (.ref g) [("last_rows",.ref a),("last_rank",.int 0),("last_turn",.int 0),("kept_numbers",.ref f)])) k3 y t;have M:(aI (aI r g (.dK [])) p (.ins C c (bT "came_deeds" (.ref g) [("last_rows",.ref a),("last_rank",.int 0),("last_turn",.int 0),("kept_numbers",.ref f)]))) p=some (.ins C c [("last_rows",.ref a),("last_rank",.int 0),("last_turn",.int 0),("kept_numbers",.ref f),("came_deeds",.ref g)]):=aA;have N:(aI (aI r g (.dK [])) p (.ins C c (bT "came_deeds" (.ref g) [("last_rows",.ref a),("last_rank",.int 0),("last_turn",.int 0),("kept_numbers",.ref f)]))) a=some (.dK []):=by rw[aD j.symm,aD RN];exact J
  have O:(aI (aI r g (.dK [])) p (.ins C c (bT "came_deeds" (.ref g) [("last_rows",.ref a),("last_rank",.int 0),("last_turn",.int 0),("kept_numbers",.ref f)]))) f=some (.dK []):=by rw[aD m.symm,aD RO];exact L
  have Q:(aI (aI r g (.dK [])) p (.ins C c (bT "came_deeds" (.ref g) [("last_rows",.ref a),("last_rank",.int 0),("last_turn",.int 0),("kept_numbers",.ref f)]))) g=some (.dK []):=by rw[aD t.symm];exact aA
  dsimp only;generalize aI (aI r g (.dK [])) p (.ins C c (bT "came_deeds" (.ref g) [("last_rows",.ref a),("last_rank",.int 0),("last_turn",.int 0),("kept_numbers",.ref f)]))=n at k4 M N O Q;intro h v;have z:=aF M v;have RP:=aF N v;have RQ:=aF O v;have RS:=aF Q v;refine⟨C,c,_,(by rw[aD z];exact M),B.cl,B.n6,QZV rfl,?_⟩;obtain⟨k5,f4⟩:=st (o:=.dK []) (o':=.ins C c (bT "asked_numbers" (.ref h) [("last_rows",.ref a),("last_rank",.int 0),("last_turn",.int 0),("kept_numbers",.ref f),("came_deeds",.ref g)])) k4 v z;have R:(aI (aI n h (.dK [])) p (.ins C c (bT "asked_numbers" (.ref h) [("last_rows",.ref a),("last_rank",.int 0),("last_turn",.int 0),("kept_numbers",.ref f),("came_deeds",.ref g)]))) p=some (.ins C c [("last_rows",.ref a),("last_rank",.int 0),("last_turn",.int 0),("kept_numbers",.ref f),("came_deeds",.ref g),("asked_numbers",.ref h)]):=aA;have S:(aI (aI n h (.dK [])) p (.ins C c (bT "asked_numbers" (.ref h) [("last_rows",.ref a),("last_rank",.int 0),("last_turn",.int 0),("kept_numbers",.ref f),("came_deeds",.ref g)]))) a=some (.dK []):=by rw[aD j.symm,aD RP];exact N
  have T:(aI (aI n h (.dK [])) p (.ins C c (bT "asked_numbers" (.ref h) [("last_rows",.ref a),("last_rank",.int 0),("last_turn",.int 0),("kept_numbers",.ref f),("came_deeds",.ref g)]))) f=some (.dK []):=by rw[aD m.symm,aD RQ];exact O
  have U:(aI (aI n h (.dK [])) p (.ins C c (bT "asked_numbers" (.ref h) [("last_rows",.ref a),("last_rank",.int 0),("last_turn",.int 0),("kept_numbers",.ref f),("came_deeds",.ref g)]))) g=some (.dK []):=by rw[aD t.symm,aD RS];exact Q
  have W:(aI (aI n h (.dK [])) p (.ins C c (bT "asked_numbers" (.ref h) [("last_rows",.ref a),("last_rank",.int 0),("last_turn",.int 0),("kept_numbers",.ref f),("came_deeds",.ref g)]))) h=some (.dK []):=by rw[aD z.symm];exact aA
  dsimp only;generalize aI (aI n h (.dK [])) p (.ins C c (bT "asked_numbers" (.ref h) [("last_rows",.ref a),("last_rank",.int 0),("last_turn",.int 0),("kept_numbers",.ref f),("came_deeds",.ref g)]))=H5 at k5 R S T U W;intro X q;have Y:=aF R q;have RT:=aF S q;have RU:=aF T q;have RV:=aF U q;have RW:=aF W q;refine⟨C,c,_,(by rw[aD Y];exact R),B.cl,B.n7,QZV rfl,?_⟩;obtain⟨k6,f5⟩:=st (o:=.dK []) (o':=.ins C c (bT "done_numbers" (.ref X) [("last_rows",.ref a),("last_rank",.int 0),("last_turn",.int 0),("kept_numbers",.ref f),("came_deeds",.ref g),("asked_numbers",.ref h)])) k5 q Y;refine a6 _ ⟨c,a,f,g,h,X⟩ f1 f2 f3 f4 f5 ?_ ⟨aA,?_,?_,?_,?_,?_⟩ k6
  ·simp only [nodup_cons,mem_cons,QZR,or_false,not_or];exact⟨⟨RM,RN,RP,RT⟩,⟨RO,RQ,RU⟩,⟨RS,RV⟩,RW,not_false,nodup_nil⟩
  ·show(aI _ p _) a=_;rw[aD j.symm,aD RT];exact S
  ·show(aI _ p _) f=_;rw[aD m.symm,aD RU];exact T
  ·show(aI _ p _) g=_;rw[aD t.symm,aD RV];exact U
  ·show(aI _ p _) h=_;rw[aD z.symm,aD RW];exact W
  ·show(aI _ p _) X=_;rw[aD Y.symm];exact aA
def Xk:Sp:=λvs H Q _=>∃(b:TD)(a:List RX)(d:List TD),vs=[.ref b]/\RxsAt H b a d/\(∀r∈a,lX r)/\a.length<=100/\∀(o:Option Nat)(c:Hp),Az a o->Same H c->Q (aCu o) c
def yN{C:TD}(T:Txt K mg)(U:Mkr P w K mg base 1 "Walk" C QZG [] (Gf C))(W:rG P w K mg base 6 C "fits" QZL (Gd C))(X:rG P w K mg base 1 C "step" QZL (Ge C))(D:DefAt K mg "first_odd" iP QZK):aG P w K mg base 7 "first_odd" QZK Xk:=by
 refine D.gg gW (λa2 cdv A outer s H vs a3 a4 t a0=>?_)
 ·obtain⟨Y,h,Z,rfl,k,B,hl,q⟩:=a0;have le:=k.len;refine⟨_,(lj (mh (i:=1) gW.nd (R.ki U t rfl)) (lj (qr PassesOwn.never rfl (R.il (K:=K) rfl T.b_enumerate (ku 0)) (FM (K:=K) (n:=2) rfl (qp (ny (i:=2) gW.nd) (qp (ny (i:=3) gW.nd) FS))) (lj (nv (J0 (wr (xz W t (ku 1) (kx (ku 3) lg)))) (md (mi (ku 2))) nw) (md (qu (xz X t (ku 1) (kx (ku 3) lg)))))) (md (mi ue)))),?_⟩;refine λa l u E u7=>?_;refine⟨a,l,rfl,aA,λF A f1 f2 f3 f4 f5 nd W1 k1=>⟨rfl,?_⟩⟩;have fr:∀ {d:TD},(aI (aI H l (.own a)) a (.ins C l [])) d=none->H d=none:=λ{d} e=>by
   by_cases G:d=a
   ·rw[G,aA]at e;cases e
   ·by_cases I:d=l
    ·rw[I];exact E
    ·rw[aD G,aD I]at e;exact e
  have J:Same H F:=λa1 o e=>k1 a1 o (by rw[aD (aF e u),aD (aF e E)];exact e) (aF e u)
  have WF:WkF H a A:=⟨u,fr f1,fr f2,fr f3,fr f4,fr f5,nd⟩;have W0:WkAt H F C a A []:=⟨WF,J,[],[],[],[],[],W1,⟨aZ _,aZ _,aZ _,aZ _,aZ _,⟨⟨λ_=>rfl,λ_=>rfl⟩,λ_ _=>rfl,(λ_ _ e=>nomatch e)⟩,λn=>⟨nofun,λ⟨_,_,_,_,_,z⟩=>nomatch z⟩,⟨(λ_ _ _ _ _ _ z=>nomatch z),(λ_ _ e=>nomatch e)⟩,λn=>⟨nofun,nofun⟩,λn=>⟨nofun,λ⟨_,_,z⟩=>nomatch z⟩⟩⟩;dsimp only [aJ];refine bJ (λg m=>RX.Whole h/\Same H m) (λnx a8=>?_) ?_
  ·refine⟨_,QYJ (J _ _ k.lst),zY (xs:=Z.map V.ref) (λi g m=>∃x y,g=[some (.ref Y),some (.ref a),x,y]/\WkAt H m C a A (h.take i)/\RX.Whole (h.take i)) (λi g m ⟨_,_,_,W',_⟩=>QYJ (W'.2.1 _ _ k.lst)) ⟨_,_,rfl,W0,.nil⟩ ?_ ?_⟩
   ·rintro i a5 g p L hx ⟨x,y,rfl,f,c⟩ MT;obtain⟨b,r,rfl,hb,j,M⟩:=k.get hx;have MG:i<h.length:=(Zgs.mp j).1;have N:=aE (o:=.tup [.int (i:Int),.ref b]) MT;refine⟨L,_,rfl,QYK aA,rfl,_,_,rfl,_,_,rfl,rfl,?_⟩;generalize aI p L (.tup [.int (i:Int),.ref b])=H3 at N;replace f:=f.same N;have⟨_,s3,AQ,k2',k3',k4',k5',WG,_⟩:=f;refine⟨A.dx,_,WG.ins,rfl,a,b,H,A,h.take i,r,rfl,f,M.tk s3.tk,c,λq hq=>B q (mem_of_mem_take hq),B r (jI j),λfb H4 O s4=>?_⟩;have Q:=f.same s4;have⟨_,AU,_,_,_,_,_,ZO,_⟩:=Q
    cases fb with
    | false=>exact q (some i) H4 ⟨r,j,c,λz=>by have:=O.mpr z;cases this⟩ AU
    | true=>
     have MU:=O.mp rfl;refine⟨A.dx,_,ZO.ins,rfl,a,b,H,A,h.take i,r,rfl,Q,M,by rw[oA];omega,λv H5 S=>?_⟩;rw[<- aM j]at S;exact⟨_,_,rfl,S,by rw[aM j];exact c.snoc MU⟩
   ·rintro g p ⟨x,y,rfl,f,c⟩;rw[aS,<- le,iI (aZ _)]at c;exact a8 _ _ ⟨c,f.2.1⟩
  ·rintro g p ⟨c,s2⟩;exact q none p c s2
def bK(e:E6):Str×Str:=(e.2.2.1,e.2.2.2.1)
def rL(s:Str×Str):List aV:=[Sum.inr s.1,Sum.inr s.2]
def Qq{s t:Str×Str}(h:rL s=rL t):s=t:=by
 unfold rL at h;injection h with b a
 injection a with a _
 injection b with b
 injection a with a
 exact Prod.ext b a
def lC(l:List E6)(s:Str×Str):Option E6:=l.foldl (λo e=>if bK e=s then some e else o) none
def nW(l:List E6)(e:E6)(s:Str×Str):lC (l++[e]) s=if bK e=s then some e else lC l s:=by unfold lC;rw[foldl_append];rfl
def qO{l:List E6}{s:Str×Str}{e:E6}(h:lC l s=some e):e∈l/\bK e=s:=by
 have:∀(l:List E6)(o:Option E6)(e:E6),l.foldl (λo e=>if bK e=s then some e else o) o=some e->o=some e∨(e∈l/\bK e=s):=by
  intro l;induction l with
  | nil=>exact λo e h=>.inl h
  | cons x l a=>
   intro o e h;rw[foldl_cons]at h;rcases a _ e h with h|⟨b,d⟩
   ·by_cases c:bK x=s
    ·rw[QZY c]at h;cases h;exact .inr ⟨gJ,c⟩
    ·rw[QZX c]at h;exact .inl h
   ·exact .inr ⟨kY _ b,d⟩
 rcases this l none e h with h|h
 ·cases h
 ·exact h
structure LastD(A:E6->TD->Prop)(l:List E6)(kvs:List (List aV×V)):Prop where
 nd:(kvs.map (·.1)).Nodup
 at_:∀k v,(k,v)∈kvs->∃e a,k=rL (bK e)/\v=.ref a/\A e a/\lC l (bK e)=some e
 all:∀s e,lC l s=some e->rL s∈kvs.map (·.1)
 len:kvs.length<=l.length
def LastD.nil(A:E6->TD->Prop):LastD A [] []:=⟨nodup_nil,(λ_ _ h=>nomatch h),(λ_ _ h=>nomatch h),aZ _⟩
def LastD.mono{A b:E6->TD->Prop}{l:List E6}{kvs:List (List aV×V)}(h:LastD A l kvs)(m:∀e a,A e a->b e a):LastD b l kvs:=
 ⟨h.nd,λk v c=>let ⟨e,a,d,f,g,i⟩:=h.at_ k v c;⟨e,a,d,f,m _ _ g,i⟩,h.all,h.len⟩
def LastD.put{A:E6->TD->Prop}{l:List E6}{kvs:List (List aV×V)}(h:LastD A l kvs){e:E6}{a:TD}(i:A e a):LastD A (l++[e]) (bI kvs (rL (bK e)) (.ref a)):=by
 refine⟨Ul h.nd,λk v b=>?_,λs d f=>?_,?_⟩
 ·rcases Oc b with b|⟨b,j⟩
  ·cases b;exact⟨e,a,rfl,rfl,i,by rw[nW,QZY rfl]⟩
  ·obtain⟨d,m,g,n,o,p⟩:=h.at_ k v b;refine⟨d,m,g,n,o,?_⟩;rw[nW,QZX (λz=>j (by rw[g,z]))];exact p
 ·rw[Iv];rw[nW]at f;by_cases c:bK e=s
  ·exact .inl (by rw[c])
  ·rw[QZX c]at f;exact .inr (h.all s d f)
 ·have:=cR kvs (rL (bK e)) (.ref a);have:=h.len;rw[lZ,length_singleton];omega
def mU{a e:Type}{R:a->e->Prop}:∀ {xs:List a},(∀x∈xs,∃y,R x y)->∃ys,Paired R xs ys
 | [],_=>⟨[],.nil⟩
 | x::xs,h=>by
  obtain⟨y,b⟩:=h x gJ;obtain⟨ys,c⟩:=mU λx d=>h x (kY _ d)
  exact⟨y::ys,.cons b c⟩
abbrev KvE(A:E6->TD->Prop)(l:List E6)(a:List aV×V)(q:E6×TD):Prop:=a.1=rL (bK q.1)/\a.2=.ref q.2/\A q.1 q.2/\lC l (bK q.1)=some q.1
def LastD.list{A:E6->TD->Prop}{l:List E6}{kvs:List (List aV×V)}(h:LastD A l kvs):∃es:List (E6×TD),Paired (KvE A l) kvs es/\(es.map λq=>bK q.1).Nodup/\∀e,e∈es.map (·.1)↔lC l (bK e)=some e:=by
 obtain⟨es,c⟩:=mU (R:=KvE A l) (xs:=kvs) λo g=>by
  obtain⟨e,a,p,n,v,x⟩:=h.at_ o.1 o.2 g;exact⟨(e,a),p,n,v,x⟩
 have y:=c.length;have r:kvs.map (·.1)=(es.map λq=>bK q.1).map rL:=by
  refine ext_getElem (by simp[y]) λi p n=>?_;have d:i<es.length:=by simpa using n
  obtain⟨t,f⟩:=Paired.get' (j:=i) c d;simp only [getElem_map];exact f.1
 refine⟨es,c,?_,λe=>⟨λz=>?_,λu=>?_⟩⟩
 ·have:=h.nd;rw[r]at this;exact List.Pairwise.of_map rL (λa b B e=>B (by rw[e])) this
 ·obtain⟨q,k,rfl⟩:=Zmm.mp z;obtain⟨i,d,rfl⟩:=getElem_of_mem k;obtain⟨t,f⟩:=Paired.get' (j:=i) c d;exact f.2.2.2
 ·have g:=h.all _ _ u;rw[r]at g;obtain⟨s,C,D⟩:=Zmm.mp g;obtain⟨q,k,rfl⟩:=Zmm.mp C;obtain⟨i,d,rfl⟩:=getElem_of_mem k;obtain⟨t,f⟩:=Paired.get' (j:=i) c d;have E:=Qq D;have m:=f.2.2.2;rw[E,u]at m;injection m with m
  rw[m];exact Zmm.mpr ⟨_,k,rfl⟩
def Xl{H:Hp}{b:TD}{kvs:List (List aV×V)}{o:HO}(g:H b=some (.dT kvs)):TK H (aI H b o):=λa c e=>by rw[aD (cI e g nofun)];exact e
def paL{c d:Type}{R:c->d->Prop}{xs:List c}{ys:List d}(p:Paired R xs ys){x:c}(h:x∈xs):∃y∈ys,R x y:=by
 induction p with
 | nil=>cases h
 | @cons a b i bs r t f=>
  rcases mem_cons.mp h with rfl|h
  ·exact⟨_,gJ,r⟩
  ·obtain⟨y,g,e⟩:=f h;exact⟨y,kY _ g,e⟩
def paR{d c:Type}{R:d->c->Prop}{xs:List d}{ys:List c}(p:Paired R xs ys){y:c}(h:y∈ys):∃x∈xs,R x y:=by
 induction p with
 | nil=>cases h
 | @cons a b i bs r t f=>
  rcases mem_cons.mp h with rfl|h
  ·exact⟨_,gJ,r⟩
  ·obtain⟨y,g,e⟩:=f h;exact⟨y,kY _ g,e⟩
def paM{a b c:Type}{R:a->b->Prop}{f:a->c}{g:b->c}{xs:List a}{ys:List b}(p:Paired R xs ys)(h:∀x y,R x y->f x=g y):xs.map f=ys.map g:=by
 induction p with
 | nil=>rfl
 | cons r t d=>rw[map_cons,map_cons,d,h _ _ r]
def Qr{c o:Type}{f:c->o}{l:List c}(h:(l.map f).Nodup){a b:c}(d:a∈l)(m:b∈l)(e:f a=f b):a=b:=by
 induction l with
 | nil=>cases d
 | cons x l n=>
  rw[map_cons,nodup_cons]at h;rcases mem_cons.mp d with g|i<;>rcases mem_cons.mp m with j|k
  ·rw[g,j]
  ·exact QZW (Zmm.mpr ⟨b,k,by rw[<- e,g]⟩) h.1
  ·exact QZW (Zmm.mpr ⟨a,i,by rw[e,j]⟩) h.1
  ·exact n h.2 i k
def Qs{A:Hp->E6->TD->Prop}{H:Hp}{fl:List (E6×TD)}{zs c:List Tn}(i:(fl.map λq=>(q.1.1:Int)).Nodup)(j:Paired (λ(q:E6×TD) (z:Tn)=>z.1=(q.1.1:Int)/\z.2.1=q.2) fl zs)(k:c.Perm zs)(hs:c.Pairwise tln) :
  ∃out:List (E6×TD),out.Perm fl/\rJ c=out.map (λq=>V.ref q.2)/\(out.map (·.1)).Pairwise λa b=>a.1<b.1:=by
 have v:=paM j (f:=λq=>((q.1.1:Int),q.2)) (g:=λz:Tn=>(z.1,z.2.1)) λq z h=>by rw[h.1,h.2]
 obtain⟨out,l⟩:=mU (R:=λ(z:Tn) (q:E6×TD)=>(z.1,z.2.1)=((q.1.1:Int),q.2)/\q∈fl) (xs:=c) λz m=>by
  obtain⟨q,d,h⟩:=paR j (k.mem_iff.mp m);exact⟨q,by rw[h.1,h.2],d⟩
 have o:=paM l (f:=λz:Tn=>(z.1,z.2.1)) (g:=λq=>((q.1.1:Int),q.2)) λz q h=>h.1
 have r:(c.map λz:Tn=>z.1).Nodup:=by
  refine((k.map _).nodup_iff).mpr ?_;have:zs.map (λz:Tn=>z.1)=fl.map λq=>(q.1.1:Int):=by
   have:=congrArg (List.map Prod.fst) v;rw[map_map,map_map]at this;exact this.symm
  rw[this];exact i
 have s:c.map (λz:Tn=>z.1)=out.map λq=>(q.1.1:Int):=by
  have:=congrArg (List.map Prod.fst) o;rw[map_map,map_map]at this;exact this
 refine⟨out,?_,?_,?_⟩
 ·have x:fl.Nodup:=(pairwise_map.mp i).imp λ{a b} n e=>n (by rw[e])
  have y:out.Nodup:=(pairwise_map.mp (show(out.map λq=>(q.1.1:Int)).Nodup by rw[<- s];exact r)).imp λ{a b} n e=>n (by rw[e])
  refine(List.perm_ext_iff_of_nodup y x).mpr λq=>⟨λd=>?_,λd=>?_⟩
  ·obtain⟨z,_,h⟩:=paR l d;exact h.2
  ·obtain⟨z,m,h⟩:=paL j d;obtain⟨B,C,t⟩:=paL l (k.mem_iff.mpr m);have:(q.1.1:Int)=(B.1.1:Int):=by
    have:=congrArg Prod.fst t.1;exact h.1.symm.trans this
   rw[Qr i d t.2 this];exact C
 ·have:=congrArg (List.map λp:Int×Addr=>V.ref p.2) o;rw[map_map,map_map]at this;exact this
 ·have D:(c.map λz:Tn=>z.1).Pairwise (·<=·):=pairwise_map.mpr hs;have u:=(D.and r).imp λ{a b}(h:a<=b/\a≠b)=>(by omega:a<b)
  rw[s,pairwise_map]at u;exact pairwise_map.mpr (u.imp λh=>by omega)
def Vr{H:Hp}{l:List E6}{es fl:List (E6×TD)}(k:∀q∈es,At6 H q.1 q.2/\q.1∈l)(u:(es.map λq=>bK q.1).Nodup)(v:(l.map (·.1)).Nodup)(hs:fl.Sublist es) :
  ∃zs:List Tn,rJ zs=fl.map (λq=>V.ref q.2)/\NAt H zs/\(zs.map (·.1)).Nodup/\zs.length<=es.length/\∀i,i.Perm zs->i.Pairwise tln->∃out:List (E6×TD),out.Perm fl/\rJ i=out.map (λq=>V.ref q.2)/\(out.map (·.1)).Pairwise (λa b=>a.1<b.1)/\Paired (At6 H) (out.map (·.1)) (out.map (·.2)):=by
 have m:∀q∈fl,At6 H q.1 q.2:=λq d=>(k q (hs.subset d)).1
 have y:(es.map λq=>(q.1.1:Int)).Nodup:=by
  refine pairwise_map.mpr ?_;refine(pairwise_map.mp u).imp_of_mem λ{a b} B C D e=>D ?_;rw[Qr (f:=λx:E6=>x.1) v (k a B).2 (k b C).2 Zo]
 have n:(fl.map λq=>(q.1.1:Int)).Nodup:=List.Nodup.sublist (List.Sublist.map _ hs) y;obtain⟨zs,j⟩:=mU (R:=λ(q:E6×TD) (z:Tn)=>(z.1=(q.1.1:Int)/\z.2.1=q.2)/\H z.2.1=some (.tup (.int z.1::z.2.2))) (xs:=fl) λq d=>by
  obtain⟨b,c,ge,_⟩:=m q d;exact⟨(_,_,_),⟨rfl,rfl⟩,ge⟩
 have r:=paM j (f:=λq=>((q.1.1:Int),q.2)) (g:=λz:Tn=>(z.1,z.2.1)) λq z h=>by rw[h.1.1,h.1.2]
 refine⟨zs,?_,λz E=>?_,?_,?_,λi F G=>?_⟩
 ·have:=congrArg (List.map λp:Int×Addr=>V.ref p.2) r;rw[map_map,map_map]at this;exact this.symm
 ·obtain⟨M,_,h⟩:=paR j E;exact h.2
 ·have:=congrArg (List.map Prod.fst) r;rw[map_map,map_map]at this;rw[show zs.map (·.1)=fl.map (λq=>(q.1.1:Int)) from this.symm];exact n
 ·rw[<- j.length];exact hs.length_le
 ·obtain⟨out,s,I,J⟩:=Qs (A:=At6) (H:=H) n (Paired.map' (λ_ _ h=>h.1) j) F G;refine⟨out,s,I,J,?_⟩;have:∀ {o:List (E6×TD)},(∀q∈o,q∈fl)->Paired (At6 H) (o.map (·.1)) (o.map (·.2)):=λ{o} t=>by
   induction o with
   | nil=>exact .nil
   | cons x o L=>exact .cons (m x (t x gJ)) (L λq d=>t q (kY _ d))
  exact this λq d=>s.mem_iff.mp d
structure Vs(l:List E6)(lf tu:Nat)(out:List E6):Prop where
 asc:out.Pairwise λa b=>a.1<b.1
 iff:∀e,e∈out↔lC l (bK e)=some e/\tu<e.2.1+lf
def Gg:Sp:=λvs H Q _=>∃(c:TD)(d:List TD)(l:List E6)(e f:Nat),vs=[.ref c,.int (e:Int),.int (f:Int)]/\H c=some (.lst (d.map V.ref))/\Paired (At6 H) l d/\l.length<=43/\(l.map (·.1)).Nodup ∧
 ∀(p:TD)(os:List TD)(b:List E6)(a:Hp),H p=none->a p=some (.lst (os.map V.ref))->Paired (At6 a) b os->Vs l e f b->Same H a->Q (.ref p) a
def Qt(T:Txt K mg)(qf:aG P w K mg base 1 "is_alive" QZn Fs)(D:DefAt K mg "still_kept" fG QZf):aG P w K mg base 2 "still_kept" QZf Gg:=by
 refine D.gg jE (λa1 cdv a2 outer s H vs a3 a4 hr h=>?_)
 ·revert h;refine yE5 λI ks l C E=>yA6 λζ gk pk hl AR q=>?_;subst ζ;have d6:=dH hr;have lk:=pk.length;refine⟨_,(lj (mh (i:=3) jE.nd R.jd) (lj (qr PassesOwn.never rfl (ot (K:=K) (ku 0)) (ny (i:=4) jE.nd) (md (ut (ku 4) (u8 (ku 3) (pi uh (ku 4) (ow kz) (ow kz)) (yx d6))))) (md (mi (oi (R.je (K:=K)) rfl T.b_sorted pV (kx (R.kj (ou rfl (js:=[none,some 1,some 2]) (N:=["entry","life","turn"]) (CompScope.by (aB fG) QYP rfl rfl Zk) (aQ rfl) (R.jj (ku 3)) (λa5 s₂ H₂ fp=>⟨(ny (i:=0) (show(["entry","life","turn"]:List Str).Nodup by decide +kernel)),(qo (wr (mf qf hr rfl (kx (li (lx (K:=K)) (ku 0) kz) (kx (ku 1) (kx (ku 2) lg)))))),(ku 0)⟩))) lg)))))),?_⟩;intro d RZ;dsimp only [aJ];have M:=aE (o:=.dT []) RZ;have g1:(aI H d (.dT [])) d=some (.dT []):=aA;generalize aI H d (.dT [])=H1 at M g1;refine bJ (λu g=>∃(f:List (List aV×V))(v:Option V),u=[some (.ref I),some (.int (C:Int)),some (.int (E:Int)),some (.ref d),v]/\g d=some (.dT f)/\LastD (At6 g) l f/\Same H g) (λnx a8=>?_) ?_
  ·refine⟨I,rfl,⟨_,QYJ (M _ _ gk)⟩,cD (aY K I (ks.map V.ref)) (λi u g=>∃(f:List (List aV×V))(v:Option V),u=[some (.ref I),some (.int (C:Int)),some (.int (E:Int)),some (.ref d),v]/\g d=some (.dT f)/\LastD (At6 g) (l.take i) f/\Same H g) (λi u g ⟨_,_,_,_,_,s'⟩=>QYJ (s' _ _ gk)) ⟨[],_,rfl,g1,LastD.nil _,M⟩ ?_ ?_⟩
   ·rintro i a0 u r n ⟨f,v,rfl,g2,L2,x⟩;rw[fK]at n;cases O:ks[i]? with
    | none=>rw[O]at n;cases n
    | some a=>
     rw[O]at n;cases n;obtain⟨hi,ei⟩:=Zgs.mp O;obtain⟨Q5,Q⟩:=Paired.get' (j:=i) pk hi;rw[ei]at Q;have DQ:l[i]?=some l[i]:=eT Q5;generalize l[i]=e at Q DQ;have SA:=Q.tk (Same.tk x);obtain⟨b,c,ge,gb,gc⟩:=id SA;refine⟨_,ge,λtp H3 F g3=>⟨d,_,rfl,DPut.t (k:=rL (bK e)) (F _ _ g2) g3 ?_,?_⟩⟩
     ·have:=L2.len;rw[oA]at this;exact oC (m:=1000) Zo Zd
     have tk:TK H3 (aI H3 d (.dT (bI f (rL (bK e)) (.ref a)))):=Xl (F _ _ g2);refine⟨_,_,rfl,aA,?_,bX RZ (x.trans F)⟩;rw[aM DQ];exact LastD.put (L2.mono λ_ _ z=>(z.tk (Same.tk F)).tk tk) ((SA.tk (Same.tk F)).tk tk)
   ·rintro u r ⟨f,v,rfl,g2,L2,x⟩;rw[aS,<- lk,iI (aZ _)]at L2;exact a8 _ _ ⟨f,v,rfl,g2,L2,x⟩
  rintro u r ⟨f,v,rfl,g2,L2,x⟩;obtain⟨es,S,nde,GW⟩:=L2.list;have le:=S.length;have lkv:=L2.len;refine⟨_,g2,λo=>?_⟩;have JB:TK r (aI r d (.frz o (.dT f))):=Xl g2;have U:(aI r d (.frz o (.dT f))) d=some (.frz o (.dT f)):=aA;refine aX (aAN d o f) (by rw[aS];omega) (λj t g=>g=aI r d (.frz o (.dT f))/\t=((es.take j).filter λq=>decide ((E:Int)<(q.1.2.1:Int)+(C:Int))).map λq=>V.ref q.2) (λj t g ⟨y,e⟩=>⟨by rw[y];exact U,by rw[e,aS];exact gL (length_filter_le _ _) (by rw[oA];omega)⟩) ⟨rfl,rfl⟩ (?_) (?_)
  ·rintro j a0 t g n ⟨y,e⟩;subst y;rw[fK]at n;cases W:f[j]? with
   | none=>rw[W]at n;cases n
   | some kv=>
    rw[W]at n;injection n with n
    subst n;obtain⟨hj,ej⟩:=Zgs.mp W;have V3:j<es.length:=by omega
    obtain⟨QW,A⟩:=Paired.get' (j:=j) S V3;rw[ej]at A;have SD:es[j]?=some es[j]:=eT V3;generalize es[j]=B at A SD;revert A;refine yA4 λJ G h3 h4=>?_;dsimp only;rw[G];obtain⟨b,c,ge,gb,gc⟩:=h3.tk JB;refine⟨_,QYK ge,_,rfl,_,_,_,rfl,?_⟩;have j3:=aM SD;show if decide ((E:Int)<(B.1.2.1:Int)+(C:Int))=true then _ else _
    refine bA (λh=>?_) (λh=>?_)
    ·refine⟨rfl,?_⟩;rw[j3,filter_append,filter_cons,QZY h,dW,e];rfl
    ·refine⟨rfl,?_⟩;rw[j3,filter_append,filter_cons,QZX (by rw[h];exact U7),e];simp
  ·rintro t g ⟨y,e⟩;intro p A;subst y;rw[aS,le,iI (aZ _)]at e;have SE:d≠p:=aF U A;refine⟨d,_,o,⟨_,g2⟩,aL U A,?_⟩;have L:Same r (aI (aI (aI r d (.frz o (.dT f))) p (.lst t)) d (.dT f)):=λc a0 e=>by
    by_cases z:c=d
    ·subst z;rw[g2]at e;cases e;exact aA
    ·rw[aD z];exact aL (by rw[aD z];exact e) A
   have gp:(aI (aI (aI r d (.frz o (.dT f))) p (.lst t)) d (.dT f)) p=some (.lst t):=by rw[aD SE.symm];exact aA
   generalize aI (aI (aI r d (.frz o (.dT f))) p (.lst t)) d (.dT f)=H4 at L gp;generalize AK:(es.filter λq=>decide ((E:Int)<(q.1.2.1:Int)+(C:Int)))=fl at e;have SF:∀q,q∈fl↔q∈es/\E<q.1.2.1+C:=λq=>by
    rw[<- AK,mem_filter,decide_eq_true_iff];exact⟨λ⟨a,b⟩=>⟨a,Zo⟩,λ⟨a,b⟩=>⟨a,Zo⟩⟩
   obtain⟨zs,c1,c2,c3,c4,cq⟩:=Vr (H:=H4) (l:=l) (es:=es) (fl:=fl) (λq hq=>by obtain⟨kv,_,h⟩:=paR S hq;exact⟨h.2.2.1.tk (Same.tk L),(qO h.2.2.2).1⟩) nde AR (by rw[<- AK];exact List.filter_sublist);refine⟨zs,QYJ (by rw[c1,<- e];exact gp),c2,c3,Zo,λl2 T1 X GX GY=>?_⟩;obtain⟨Z,GV,pf,MW,ZS⟩:=cq T1 GX GY;refine q l2 (Z.map (·.2)) (Z.map (·.1)) _ ((x.trans L).free X) (by rw[aA,pf,map_map];rfl) (Paired.map' (λ_ _ w=>w.tk (Same.tk (aE X))) ZS) ⟨MW,λy=>⟨λhm=>?_,?_⟩⟩ ((x.trans L).trans (aE X))
   ·obtain⟨B,Y,rfl⟩:=Zmm.mp hm;obtain⟨J,G⟩:=(SF B).mp (GV.mem_iff.mp Y);exact⟨(GW _).mp (Zmm.mpr ⟨B,J,rfl⟩),G⟩
   ·rintro ⟨J,G⟩;obtain⟨B,Y,rfl⟩:=Zmm.mp ((GW y).mpr J);exact Zmm.mpr ⟨B,GV.mem_iff.mpr ((SF B).mpr ⟨Y,G⟩),rfl⟩
def jG(rs:List RX)(a n:Nat):List RX:=match fJ rs n with|some (p,k,x)=>.came n a p k x::(if jV "asked" rs (Sum.inl (n:Int))=true then [.asked n] else [])|none=>[]
def bU(rs:List RX)(a:Nat)(b:List Nat):List RX:=b.flatMap (jG rs a)
def Js(rs:List RX)(a n:Nat):(jG rs a n).length<=2:=by
 unfold jG;cases fJ rs n with
 | none=>exact zero_le _
 | some v=>
  dsimp only;split<;>simp
theorem mV(rs:List RX)(b:Nat):∀a:List Nat,(bU rs b a).length<=2*a.length
 | []=>zero_le _
 | n::a=>by
  have d:=Js rs b n;have c:=mV rs b a;unfold bU at c ⊢;rw[QZO,lZ,sA];omega
def Vt{rs:List RX}{n:Nat}(h:n∈bW rs):∃t p k x,.came n t p k x∈rs:=by
 obtain⟨r,a,e⟩:=mem_filterMap.mp h;cases r<;>cases e;exact⟨_,_,_,_,a⟩
def uN{r:RX}(h:bE r="asked"):∃n,r=.asked n:=by
 cases r with
 | asked n=>exact⟨n,rfl⟩
 | has z m=>exact QZW (show("has":Str)="asked" from h) Zk
 | next n t=>exact QZW (show("next":Str)="asked" from h) Zk
 | kept n t p k x y=>exact QZW (show("kept":Str)="asked" from h) Zk
 | came n t p k x=>exact QZW (show("came":Str)="asked" from h) Zk
 | done n t y=>exact QZW (show("done":Str)="asked" from h) Zk
def Qu{H:Hp}{k:TD}{rs:List RX}{c:List TD}(RR:RxsAt H k rs c){n:Nat}(h:jV "asked" rs (Sum.inl (n:Int))=true):∃a,bB (aN [] (bR "asked" rs c rs.length)) (Sum.inl (n:Int))=some (.ref a)/\H a=some (.tup [.str "asked",.int (n:Int)]):=by
 obtain⟨r,l,e⟩:=any_eq_true.mp h;rw[Bool.and_eq_true]at e;obtain⟨m,rfl⟩:=uN (U6 e.1);have o:m=n:=by
  have:(Sum.inl (m:Int):aV)=Sum.inl (n:Int):=U6 e.2;injection this with this
  omega
 subst o;obtain⟨j,z,d,p,q,s,t,u⟩:=uC RR.len l (wd:="asked") rfl;obtain⟨f,rfl⟩:=uN t;have x:m=f:=by
  have:(Sum.inl (m:Int):aV)=Sum.inl (f:Int):=u;injection this with this
  omega
 subst x;obtain⟨A,B,b,C,g,y⟩:=RR.get (i:=j) (v:=.ref d) (by rw[fK,s];rfl);injection b with b
 subst b;rw[q]at g;injection g with b
 subst b;exact⟨d,p,y⟩
def Gh:Sp:=λvs H Q _=>∃(d e:TD)(a:List RX)(g:List TD)(f:Nat)(b:List Nat),vs=[.ref d,.int (f:Int),.ref e]/\RxsAt H d a g/\a.length<=100/\RX.Whole a/\H e=some (.lst (nI b))/\(∀n∈b,n∈bW a)/\b.length<=100 ∧
 ∀(p:TD)(os:List TD)(c:Hp),H p=none->RxsAt c p (bU a f b) os->Same H c->Q (.ref p) c
def Qv(T:Txt K mg)(Z:aG P w K mg base 1 "by_numbers" QZt rX)(D:DefAt K mg "came_again" gU QZe):aG P w K mg base 2 "came_again" QZe Gh:=by
 refine D.gg eE (λa5 cdv a6 outer s a0 vs a7 b0 M a2=>?_)
 ·revert a2;refine yE6 λv y b E c d=>yA8 λζ z hl hw gn ub GZ a3=>?_;subst ζ;have N:=dH M;have le:=z.len;refine⟨_,(lj (mh (i:=3) eE.nd (mf Z M rfl (kx (ku 0) (kx lq lg)))) (lj (mh (i:=4) eE.nd (mf Z M rfl (kx (ku 0) (kx lq lg)))) (lj (mh (i:=5) eE.nd (oh lg)) (lj (qr PassesOwn.never rfl (ot (K:=K) (ku 2)) (ny (i:=6) eE.nd) (lj (qu (qy (K:=K) PySem.F.plainAttrs_list PySem.F.slot_list_append PySem.F.type_list_append yy (ku 5) (kx (me wn (mj (kx lq (kx (ku 6) (kx (ku 1) lg)))) (pi uh (ug N (ku 3) (ku 6)) (ow kz) tz)) lg))) (md (nv (mo (R.eh N) (ku 6) (ku 4)) (md (qu (qy (K:=K) PySem.F.plainAttrs_list PySem.F.slot_list_append PySem.F.type_list_append yy (ku 5) (kx (ug N (ku 4) (ku 6)) lg)))) nw)))) (md (mi (ku 5))))))),?_⟩;refine⟨v,"came",b,E,rfl,z,Zo,λA H1 GI gcd l=>?_⟩;refine⟨v,"asked",b,E,rfl,z.same l,Zo,λB q YV O h=>?_⟩;refine⟨eL rfl,λa Q=>?_⟩;dsimp only [aJ];have C:=aE (o:=.lst []) Q;have SG:(aI q a (.lst [])) a=some (.lst []):=aA;have ZT:a0 a=none:=(l.trans h).free Q;generalize aI q a (.lst [])=H3 at C SG;have sH:Same a0 H3:=(l.trans h).trans C;have HA:=C _ _ (h _ _ gcd);have GJ:=C _ _ O;have SH:q a=none:=Q;refine bJ (λe g=>∃(os:List TD)(p:Option V),e=[some (.ref v),some (.int (c:Int)),some (.ref y),some (.ref A),some (.ref B),some (.ref a),p]/\RxsAt g a (bU b c d) os/\Same q g) (λnx a8=>?_) ?_
  ·refine⟨y,rfl,⟨_,QYJ (sH _ _ gn)⟩,cD (aY K y (nI d)) (λi e g=>∃(os:List TD)(p:Option V),e=[some (.ref v),some (.int (c:Int)),some (.ref y),some (.ref A),some (.ref B),some (.ref a),p]/\RxsAt g a (bU b c (d.take i)) os/\Same q g) (λi e g ⟨_,_,_,_,s'⟩=>QYJ (s' _ _ ((l.trans h) _ _ gn))) ⟨[],_,rfl,RxsAt.nil SG,C⟩ ?_ ?_⟩
   ·rintro i x e F t ⟨os,p,rfl,f,j⟩;unfold nI at t;rw[fK]at t;cases G:d[i]? with
    | none=>rw[G]at t;cases t
    | some n=>
     rw[G]at t;cases t;refine yE0 (Vt (ub n (jI G))) (yE4 λt0 a1 k x C7=>?_);have RB:=(z.same (l.trans h)).same j;refine yE0 (pE hw RB C7) (yE3 λca cb ct=>yA3 λhv yi uq=>?_);have ze:=f.len;have sm:=mV b c (d.take i);have htk:(d.take i).length<=d.length:=by rw[oA];exact min_le_right _ _
     have P7:=j _ _ (h _ _ gcd);have ZU:=j _ _ O;dsimp only [aJ];have e1:bU b c (d.take (i+1))=bU b c (d.take i)++jG b c n:=by unfold bU;rw[aM G,cP]
     have e2:jG b c n=.came n c a1 k x::(if jV "asked" b (Sum.inl (n:Int))=true then [.asked n] else []):=by unfold jG;rw[qJ hw C7]
     have yj:∀S,Same F S->DGet S A (.int (n:Int)) (some (.ref ca)):=λS ss=>by rw[<- hv];exact DGet.k (k:=Sum.inl (n:Int)) (ss _ _ P7)
     refine bJ (λe g=>∃(os:List TD),e=[some (.ref v),some (.int (c:Int)),some (.ref y),some (.ref A),some (.ref B),some (.ref a),some (.int (n:Int))]/\RxsAt g a (bU b c (d.take i)++[.came n c a1 k x]) os/\Same q g) (λCZ w5=>?_) ?_
     ·refine⟨.inl ⟨rfl,_,QYJ f.lst⟩,aO rfl,λt1 Ha H ga=>⟨A,_,rfl,yj Ha H,_,H _ _ yi,λt2 Hb U gb=>⟨_,_,U _ _ ga,gb,QZV rfl,λt3 Hc sc gc=>⟨a,_,_,rfl,rfl,sc _ _ (U _ _ (H _ _ f.lst)),?_,?_⟩⟩⟩⟩
      ·rw[aS];exact oC (m:=1000) Zo Zd
      have I:=(H.trans U).trans sc;have tk:TK Hc (aI Hc a (.lst (os.map V.ref++[.ref t3]))):=fN (I _ _ f.lst);exact w5 _ _ ⟨os++[t3],rfl,f.snoc (λb1 xs a4=>tk _ _ (I _ _ a4)) ⟨cb,tk _ _ gc,tk _ _ (I _ _ uq)⟩ aA,bX SH (j.trans I)⟩
     rintro e W ⟨X,rfl,u,J⟩;have NB:=u.len;rw[lZ,length_singleton]at NB;have Y:DGet W B (.int (n:Int)) (bB (aN [] (bR "asked" b E b.length)) (Sum.inl (n:Int))):=DGet.k (k:=Sum.inl (n:Int)) (J _ _ O);refine⟨_,Y,?_⟩;show if (bB (aN [] (bR "asked" b E b.length)) (Sum.inl (n:Int))).isSome=true then _ else _
     rw[qK le];refine bA (λL=>?_) (λL=>?_)
     ·obtain⟨aa,ha,ZV⟩:=Qu (z.same ((l.trans h).trans J)) L;rw[ha]at Y;refine⟨.inl ⟨rfl,_,QYJ u.lst⟩,B,_,rfl,Y,a,_,_,rfl,rfl,u.lst,?_,?_⟩
      ·rw[aS];exact oC (m:=1000) Zo Zd
      have tk:TK W (aI W a (.lst (X.map V.ref++[.ref aa]))):=fN u.lst;refine⟨X++[aa],_,rfl,?_,bX SH J⟩;rw[e1,e2,QZY L];have:=u.snoc tk (r:=.asked n) (tk _ _ ZV) aA;rw[append_assoc]at this;exact this
     ·refine⟨X,_,rfl,?_,J⟩;rw[e1,e2,QZX (by rw[L];exact U7)];exact u
   ·rintro e F ⟨os,p,rfl,f,j⟩;rw[show(nI d).length=d.length by unfold nI;rw[aS],iI (aZ _)]at f;exact a8 _ _ ⟨os,p,rfl,f,j⟩
  rintro e F ⟨os,p,rfl,f,j⟩;exact a3 a os F ZT f ((l.trans h).trans j)
def fL(e:E6):RX:=.kept e.1 e.2.1 e.2.2.1 e.2.2.2.1 e.2.2.2.2.1 e.2.2.2.2.2
def wK{rs:List RX}(h:RX.Whole rs){n t t':Nat}{p k d e:Str}{x f:Dd}{y:An}(b:.came n t p k x∈rs)(a:.kept n t' d e f y∈rs):False:=by
 induction h with
 | nil=>cases b
 | @snoc rs r i c g=>
  rcases aH b with b|b
  ·rcases aH a with a|a
   ·exact g b a
   ·rw[<- a]at c;exact QZW (c.1 _ b) (by show ¬ (3<=2);decide)
  ·rcases aH a with a|a
   ·rw[<- b]at c;exact c.2.1 _ _ _ _ _ a
   ·rw[<- b]at a;cases a
theorem qP{a:List RX}(b:RX.Whole a):∀ {rs:List RX},(∀r∈rs,r∈a)->(rs.flatMap (Ax a)).map (·.1)=bP rs
 | [],_=>rfl
 | r::rs,h=>by
  have c:=qP b (rs:=rs) λr d=>h r (kY _ d)
  unfold bP at c ⊢;rw[QZO,QZP,dW,c];cases r with
  | done n t y=>
   obtain⟨f,p,k,x,e,_⟩:=dG b (h _ gJ);rw[uG b e];rfl
  | _=>rfl
def Qw{rs:List RX}(c:RX.Whole rs):((eJ rs).map (·.1)).Nodup:=by
 have q:((rs.flatMap jU).map (·.1)).Nodup:=by
  induction c with
  | nil=>exact nodup_nil
  | @snoc rs r c l m=>
   rw[cP,dW];cases r with
   | kept n t p k x y=>
    refine nodup_append.mpr ⟨m,by simp[jU],λa f b g=>?_⟩;have s:b=n:=by simpa [jU]using g
    subst s;rintro rfl;obtain⟨e,i,rfl⟩:=Zmm.mp f;obtain⟨r,j,d⟩:=mem_flatMap.mp i
    cases r with
    | kept u v z A B C=>
     rw[Zms.mp d]at l;exact QZW (l.2.2.1 _ _ _ _ _ _ j) (lt_irrefl _)
    | _=>cases d
   | _=>simpa [jU]using m
 unfold eJ;rw[dW,qP c λ_ h=>h];refine nodup_append.mpr ⟨q,uD c,λa f b g=>?_⟩;rintro rfl;obtain⟨e,i,rfl⟩:=Zmm.mp f;obtain⟨r,j,d⟩:=mem_flatMap.mp i;obtain⟨t,y,D⟩:=hV g;obtain⟨E,p,k,x,o,_⟩:=dG c D
 cases r with
 | kept u v z A B C=>
  rw[Zms.mp d]at o;exact wK c o j
 | _=>cases d
def Xm(rs:List RX)(n:Nat):List (Str×Str):=match fJ rs n with|some (p,k,_)=>[(p,k)]|none=>[]
def nX(rs:List RX)(a:List Nat):List (Str×Str):=a.flatMap (Xm rs)
def Qx:RX->List (Str×Str)|.came _ _ p k _=>[(p,k)]|_=>[]
theorem uO(rs:List RX)(b:Nat):∀a:List Nat,(bU rs b a).flatMap Qx=nX rs a
 | []=>rfl
 | n::a=>by
  have c:=uO rs b a;unfold bU nX at c ⊢;rw[QZO,List.flatMap_append,c,QZO];congr 1;unfold jG Xm;cases fJ rs n with
  | none=>rfl
  | some v=>
   dsimp only;split<;>rfl
structure Qy(rs:List RX)(f:Str->Nat)(lf tu:Nat)(ns:List Nat)(out:List RX):Prop where
 ex:∃(m:Nat)(hs:List Str)(es:List E6),IsMax (lW rs) (m:Int)/\Vh f hs/\es.Pairwise (λa b=>a.1<b.1)/\(∀e,e∈es↔(lC (eJ rs) (bK e)=some e/\tu<e.2.1+lf)/\bK e∉nX rs ns)/\hs.length<=(bY rs).length+2*(bP rs).length/\es.length<=(eJ rs).length ∧
  out=.next m tu::(hs.map (λz=>.has z (f z))++(es.map fL++bU rs tu ns))
def SpA(H:Hp)(s:Str×Str)(a:TD):Prop:=H a=some (.tup [.str s.1,.str s.2])
def SpA.all{H a:Hp}(s:TK H a){sp:List (Str×Str)}{b:List TD}(p:Paired (SpA H) sp b):Paired (SpA a) sp b:=Paired.map' (λ_ _ w=>s _ _ w) p
def Dq(a b p k:Str):jN [.str a,.str b] [.str p,.str k]=decide ((a,b)=(p,k)):=by
 have:jN [.str a,.str b] [.str p,.str k]=((a==p)&&((b==k)&&true)&&true):=rfl;rw[this,Bool.and_true,Bool.and_true];by_cases c:a=p
 ·by_cases d:b=k
  ·rw[c,d];simp
  ·rw[beq_eq_false_iff_ne.mpr d,Bool.and_false];exact(UF λe=>d (Prod.mk.inj e).2).symm
 ·rw[beq_eq_false_iff_ne.mpr c,Bool.false_and];exact(UF λe=>c (Prod.mk.inj e).1).symm
def Dr{H:Hp}{sp:List (Str×Str)}{g:List TD}(p:Paired (SpA H) sp g):∃zs:List (TD×List V),zs.map (·.1)=g/\(∀z∈zs,H z.1=some (.tup z.2))/\∀s,tJ [.str s.1,.str s.2] zs=decide (s∈sp)/\∀z∈zs,jO z.2 [.str s.1,.str s.2]:=by
 induction p with
 | nil=>exact⟨[],rfl,(λ_ h=>nomatch h),λs=>⟨rfl,λ_ h=>nomatch h⟩⟩
 | @cons s a sp g h t k=>
  obtain⟨zs,l,m,i⟩:=k;refine⟨(a,[.str s.1,.str s.2])::zs,by rw[map_cons,l],λz d=>?_,λb=>⟨?_,λz d=>?_⟩⟩
  ·rcases mem_cons.mp d with rfl|d
   ·exact h
   ·exact m z d
  ·have:tJ [.str b.1,.str b.2] ((a,[.str s.1,.str s.2])::zs)=(jN [.str s.1,.str s.2] [.str b.1,.str b.2]||tJ [.str b.1,.str b.2] zs):=rfl;rw[this,Dq,(i b).1];by_cases c:s=b
   ·subst c;simp
   ·rw[UF (show ¬ (s.1,s.2)=(b.1,b.2) from c),Bool.false_or];simp[mem_cons,Ne.symm c]
  ·rcases mem_cons.mp d with rfl|d
   ·intro j u v e f;match j,e,f with
    | 0,e,f=>cases e;cases f;exact⟨rfl,rfl⟩
    | 1,e,f=>cases e;cases f;exact⟨rfl,rfl⟩
    | j+2,e,_=>cases e
   ·exact(i b).2 z d
def Bb:Sp:=λvs H Q _=>∃(e g:TD)(a:List RX)(j:List TD)(F:Nat->Str->Nat)(f:Str->Nat)(h i:Nat)(b:List Nat),vs=[.ref e,.int (h:Int),.int (i:Int),.ref g]/\RxsAt H e a j/\a.length<=100/\(bY a).length+2*(bP a).length<=43/\(eJ a).length<=43/\RX.Whole a/\(∀r∈a,Dl r)/\RepF a F f ∧
 H g=some (.lst (nI b))/\(∀n∈b,n∈bW a)/\b.length<=100 ∧
 ∀(p:TD)(os:List TD)(d:List RX)(c:Hp),H p=none->RxsAt c p d os->Qy a f h i b d->Same H c->Q (.ref p) c
def Jt{rs:List RX}{m:Int}(h:IsMax (lW rs) m):∃n:Nat,m=(n:Int):=by
 have:=h.2 1 (by unfold lW;simp);exact⟨m.toNat,Zo⟩
def Ju(T:Txt K mg)(ym:aG P w K mg base 5 "risen" QZK Fy)(X3:aG P w K mg base 2 "came_again" QZe Gh)(X4:aG P w K mg base 2 "still_kept" QZf Gg)(D:DefAt K mg "folded" iC QZg):aG P w K mg base 6 "folded" QZg Bb:=by
 refine D.gg hU (λa7 cdv a9 outer s b0 vs b2 b3 X h=>?_)
 ·revert h;refine yE9 λH Y l b F Z I q x=>yA12 λζ RR J hc BW hw hok hF gn ub GZ a4=>?_;subst ζ;have U5:=X.units;have le:=RR.len;refine⟨_,(lj (mh (i:=4) hU.nd (mf ym X rfl (kx (ku 0) lg))) (lj (R.gs (i:=5) hU.nd rfl (Or.inl rfl) rfl (js:=[none]) (N:=["pair"]) (CompScope.by (aB iC) QZh rfl rfl Zk) (aQ rfl) (ot (K:=K) (li (lx (K:=K)) (ku 4) kz)) (λa2 s₂ H₂ fp=>⟨(ny (i:=0) (show(["pair"]:List Str).Nodup by decide +kernel)),wv,(me wn (mj (kx lq lg)) (ku 0))⟩) rfl) (lj (mh (i:=6) hU.nd (mf X3 X rfl (kx (ku 0) (kx (ku 2) (kx (ku 3) lg))))) (lj (mh (i:=7) hU.nd (ou rfl (js:=[none]) (N:=QZF) (CompScope.by (aB iC) QZh rfl rfl Zk) (aQ rfl) (ot (K:=K) (ku 6)) (λa2 s₂ H₂ fp=>⟨(ny (i:=0) (show(QZF:List Str).Nodup by decide +kernel)),(qo (mo nz (li (lx (K:=K)) (ku 0) kz) lq)),(pi uh (ku 0) (ow kz) (ow kz))⟩))) (lj (R.gs (i:=8) hU.nd rfl (Or.inl rfl) rfl (js:=[none,some 7]) (N:=["entry","busy"]) (CompScope.by (aB iC) QZh rfl rfl Zk) (aQ rfl) (ot (K:=K) (mf X4 X rfl (kx (li (lx (K:=K)) (ku 4) kz) (kx (ku 1) (kx (ku 2) lg))))) (λa2 s₂ H₂ fp=>⟨(ny (i:=0) (show(["entry","busy"]:List Str).Nodup by decide +kernel)),(qo (mo (R.im U5) (pi uh (ku 0) (ow kz) (ow kz)) (ku 1))),(me wn (mj (kx lq lg)) (ku 0))⟩) rfl) (md (mi (me sn (me sn (me sn (oh (kx (mj (kx lq (kx (li (lx (K:=K)) (ku 4) kz) (kx (ku 2) lg)))) lg)) (ku 5)) (ku 8)) (ku 6))))))))),?_⟩;refine⟨H,l,b,F,Z,rfl,RR,J,hc,hw,hok,hF,λtp kl ol H1 rd s1=>?_⟩;refine yE0 rd.ex (yE7 λbl m1 m2 ks oo zs C=>yA12 λNC DD pk _ _ FJ _ HB hz pR ez lh=>?_);obtain⟨a3,rfl⟩:=Jt FJ;have lz:zs.length=C.length:=by have:=congrArg length ez;simpa using this
  dsimp only [aJ];refine bJ (λv c=>∃(J:TD)(has:List TD),v=[some (.ref H),some (.int (I:Int)),some (.int (q:Int)),some (.ref Y),some (.ref tp),some (.ref J),none,none,none]/\RxsAt c J (C.map λz=>RX.has z (Z z)) has/\Same H1 c) (λnx L=>?_) ?_
  ·refine⟨_,QYK NC,_,rfl,bl,rfl,⟨_,QYJ HB⟩,?_⟩;refine aX (aY K bl (dA zs)) (by unfold dA;rw[aS];omega) (λi ys c=>∃b:List TD,ys=b.map V.ref/\Paired (λr a=>RX.At c a r) ((C.take i).map λz=>RX.has z (Z z)) b/\Same H1 c/\b.length<=i) (λi ys c ⟨b,e,_,d,p⟩=>⟨QYJ (d _ _ HB),by rw[e,aS];exact p⟩) ⟨[],rfl,.nil,(λ_ _ e=>e),aZ _⟩ (?_) (?_)
   ·rintro i a0 ys c u ⟨b,e,f,d,p⟩;obtain⟨z,hn,rfl,gz⟩:=yL hz u;have yh:(zs.map (·.2))[i]?=some z.2:=by rw[fK,hn];rfl
    rw[ez,fK]at yh;obtain⟨nm,CU,ZW⟩:=Option.map_eq_some_iff.mp yh;rw[<- ZW]at gz;refine⟨aO rfl,λm Ha g M=>⟨_,_,M,g _ _ (d _ _ gz),QZV rfl,λt2 Hb E gb=>⟨b++[t2],by rw[e,dW];rfl,?_,(d.trans g).trans E,by simp;omega⟩⟩⟩;rw[aM CU,dW];exact Paired.snoc (Paired.map' (λ_ _ w=>RX.At.tk (Same.tk (g.trans E)) w) f) gb
   ·rintro ys c ⟨b,e,f,d,p⟩;intro E1 SI;have ZX:(dA zs).length=C.length:=by unfold dA;rw[aS];exact lz
    rw[ZX,iI (aZ _)]at f;exact L _ _ ⟨E1,b,rfl,⟨by rw[aA,e],Paired.map' (λ_ _ w=>RX.At.tk (Same.tk (aE SI)) w) f⟩,d.trans (aE SI)⟩
  rintro v H2 ⟨E1,has,rfl,R2,s2⟩;refine⟨H,Y,l,b,q,x,rfl,(RR.same s1).same s2,J,hw,s2 _ _ (s1 _ _ gn),ub,GZ,λcl cs H3 fcl O s3=>?_⟩;have lal:=mV l q x;have lcs:=O.len;have lhs:=R2.len;rw[aS]at lhs;dsimp only [aJ];refine bJ (λv c=>∃(G:TD)(bs:List TD),v=[some (.ref H),some (.int (I:Int)),some (.int (q:Int)),some (.ref Y),some (.ref tp),some (.ref E1),some (.ref cl),some (.ref G),none]/\c G=some (.lst (bs.map V.ref))/\Paired (SpA c) (nX l x) bs/\Same H3 c) (λnx L=>?_) ?_
  ·refine⟨cl,rfl,⟨_,QYJ O.lst⟩,?_⟩;refine aX (aY K cl (cs.map V.ref)) (by rw[aS];omega) (λi ys c=>∃b:List TD,ys=b.map V.ref/\Paired (SpA c) (((bU l q x).take i).flatMap Qx) b/\Same H3 c/\b.length<=i) (λi ys c ⟨b,e,_,d,p⟩=>⟨QYJ (d _ _ O.lst),by rw[e,aS];exact p⟩) ⟨[],rfl,.nil,(λ_ _ e=>e),aZ _⟩ (?_) (?_)
   ·rintro i a0 ys c u ⟨b,e,f,d,p⟩;obtain⟨a,r,rfl,ha,i9,b6⟩:=(O.same d).get u;obtain⟨xs,a5,x0,x1,x2⟩:=eI b6;have j3:=aM i9;refine⟨_,QYK a5,_,x0,?_⟩;show if decide (bE r="came")=true then _ else _
    refine bA (λh=>?_) (λh=>?_)
    ·refine yE0 (mO (U6 h)) (yE5 λn t b4 k a0 ζ=>?_);subst ζ;obtain⟨b1,gx,IW⟩:=b6;refine⟨_,gx,λm Ha g M=>⟨b++[m],by rw[e,dW];rfl,?_,d.trans g,by simp;omega⟩⟩;rw[j3,cP];exact Paired.snoc (Paired.map' (λ_ _ w=>(Same.tk g) _ _ w) f) M
    ·refine⟨b,e,?_,d,Zo⟩;rw[j3,cP];have:Qx r=[]:=by cases r<;>first|rfl|exact QZW rfl (U0 h)
     rw[this,append_nil];exact f
   ·rintro ys c ⟨b,e,f,d,p⟩;intro G SJ;rw[aS,<- lcs,iI (aZ _),uO]at f;exact L _ _ ⟨G,b,rfl,by rw[aA,e],Paired.map' (λ_ _ w=>(Same.tk (aE SJ)) _ _ w) f,d.trans (aE SJ)⟩
  rintro v H4 ⟨G,bs,rfl,ZY,pb,s4⟩;have JJ:=(s2.trans s3).trans s4;refine bJ (λv c=>∃(Q:TD)(y:List E6)(S:List TD),v=[some (.ref H),some (.int (I:Int)),some (.int (q:Int)),some (.ref Y),some (.ref tp),some (.ref E1),some (.ref cl),some (.ref G),some (.ref Q)]/\RxsAt c Q (y.map fL) S/\y.length<=(eJ l).length/\y.Pairwise (λa a1=>a.1<a1.1)/\(∀e,e∈y↔(lC (eJ l) (bK e)=some e/\q<e.2.1+I)/\bK e∉nX l x)/\Same H4 c) (λnx L=>?_) ?_
  ·refine⟨_,QYK (JJ _ _ NC),_,rfl,kl,ks,eJ l,I,q,rfl,JJ _ _ DD,Paired.map' (λ_ _ z=>z.tk (Same.tk JJ)) pk,BW,Qw hw,λpl os B H5 fpl SK po wy A=>?_⟩;have lo:=po.length;have EK:B.length<=(eJ l).length:=(by
    have h1:(B.map (·.1)).Nodup:=pairwise_map.mpr (wy.asc.imp λh=>ne_of_lt h);have h2:=De h1 (ys:=(eJ l).map (·.1)) λn hn=>by
     obtain⟨e,he,rfl⟩:=Zmm.mp hn;exact Zmm.mpr ⟨e,(qO ((wy.iff e).mp he).1).1,rfl⟩
    rw[aS,aS]at h2;exact h2)
   refine⟨pl,rfl,⟨_,QYJ SK⟩,?_⟩;refine aX (aY K pl (os.map V.ref)) (by rw[aS];omega) (λi ys c=>∃b:List TD,ys=b.map V.ref/\Paired (λr a=>RX.At c a r) (((B.take i).filter λe=>!decide (bK e∈nX l x)).map fL) b/\Same H5 c/\b.length<=i) (λi ys c ⟨b,e,_,d,p⟩=>⟨QYJ (d _ _ SK),by rw[e,aS];exact p⟩) ⟨[],rfl,.nil,(λ_ _ e=>e),aZ _⟩ (?_) (?_)
   ·refine λi a0 ys c u=>yE1 λb=>yA4 λe f d p=>?_;rw[fK]at u;cases DF:os[i]? with
    | none=>rw[DF]at u;cases u
    | some a=>
     rw[DF]at u;cases u;obtain⟨hi,ei⟩:=Zgs.mp DF;obtain⟨Q5,pa⟩:=Paired.get' (j:=i) po hi;rw[ei]at pa;have DQ:B[i]?=some B[i]:=eT Q5;generalize B[i]=U at pa DQ;obtain⟨a1,a6,ge,gb,gc⟩:=pa.tk (Same.tk d);refine⟨_,ge,λm Ha g M=>?_⟩;obtain⟨zl,z1,z2,z3⟩:=Dr (SpA.all (Same.tk ((A.trans d).trans g)) pb);refine⟨_,zl,M,by rw[(A.trans (d.trans g)) _ _ ZY,<- z1,map_map];rfl,λz hz=>⟨z2 z hz,(z3 (bK U)).2 z hz⟩,?_⟩;show if (!tJ [.str (bK U).1,.str (bK U).2] zl)=true then _ else _
     rw[(z3 (bK U)).1];refine bA (λh=>?_) (λh=>?_)
     ·refine⟨aO rfl,λt2 Hb E Q8=>⟨_,_,Q8,E _ _ (g _ _ ge),QZV rfl,λt3 Hc sc ZZ=>⟨b++[t3],by rw[e,dW];rfl,?_,d.trans ((g.trans E).trans sc),by simp;omega⟩⟩⟩;rw[aM DQ,filter_append,filter_cons,QZY h,dW];have ur:=(g.trans E).trans sc;exact Paired.snoc (Paired.map' (λ_ _ w=>RX.At.tk (Same.tk ur) w) f) ⟨a1,a6,ZZ,ur _ _ gb,ur _ _ gc⟩
     ·refine⟨b,e,?_,d.trans g,Zo⟩;rw[aM DQ,filter_append,filter_cons,QZX (by rw[h];exact U7),List.filter_nil,append_nil];exact Paired.map' (λ_ _ w=>RX.At.tk (Same.tk g) w) f
   ·rintro ys c ⟨b,e,f,d,p⟩;intro Q SM;rw[aS,<- lo,iI (aZ _)]at f;refine L _ _ ⟨Q,_,b,rfl,⟨by rw[aA,e],Paired.map' (λ_ _ w=>RX.At.tk (Same.tk (aE SM)) w) f⟩,gL (length_filter_le _ _) EK,List.Pairwise.filter _ wy.asc,λU=>?_,A.trans (d.trans (aE SM))⟩;rw[mem_filter,wy.iff];simp
  refine λv H5=>yE3 λQ y S=>yA6 λζ RK le5 he1 he2 A=>?_;subst ζ;have lka:=RK.len;rw[aS]at lka;have ND:=JJ.trans A;have SN:=(R2.same (s3.trans s4)).same A;have SO:=(O.same s4).same A;refine⟨_,QYK (ND _ _ NC),_,rfl,aO rfl,λm H6 s6 g6=>⟨eL rfl,λp1 px=>?_⟩⟩;have s7:=aE (o:=.lst [.ref m]) px;have g7:(aI H6 p1 (.lst [.ref m])) p1=some (.lst [.ref m]):=aA;have SQ:=s7 _ _ g6;generalize aI H6 p1 (.lst [.ref m])=H7 at s7 g7 SQ;have W:=s6.trans s7;refine⟨_,_,g7,(SN.same W).lst,by rw[aS];exact eZ (by simp;omega),λp2 C5=>?_⟩;refine⟨_,_,aA,aL (RK.same W).lst C5,by rw[lZ,aS,aS];exact eZ (by simp;omega),λp3 Q6=>?_⟩;refine⟨_,_,aA,aL (aL (SO.same W).lst C5) Q6,by rw[lZ,lZ,aS,aS,aS];exact eZ (by simp;omega),λp4 U2=>?_⟩;have SR:Same H7 (aI (aI (aI H7 p2 (.lst ([V.ref m]++has.map V.ref))) p3 (.lst ([V.ref m]++has.map V.ref++S.map V.ref))) p4 (.lst ([V.ref m]++has.map V.ref++S.map V.ref++cs.map V.ref))):=((aE C5).trans (aE Q6)).trans (aE U2);have JK:=W.trans SR;refine a4 p4 (m::(has++(S++cs))) (.next a3 q::(C.map (λz=>.has z (Z z))++(y.map fL++bU l q x))) _ (s1.free (ND.free (W.free (((aE C5).trans (aE Q6)).free U2)))) ⟨?_,?_⟩ ⟨a3,C,y,FJ,pR,he1,he2,lh,le5,rfl⟩ (s1.trans (ND.trans JK))
  ·rw[aA];simp
  ·refine .cons (SR _ _ SQ) ?_;exact Paired.append' (Paired.map' (λ_ _ w=>RX.At.tk (Same.tk JK) w) SN.each) (Paired.append' (Paired.map' (λ_ _ w=>RX.At.tk (Same.tk JK) w) RK.each) (Paired.map' (λ_ _ w=>RX.At.tk (Same.tk JK) w) SO.each))
def lD:RX->Nat|.next n _=>n|.has _ _=>0|.kept n _ _ _ _ _=>n|.came n _ _ _ _=>n|.asked n=>n|.done n _ _=>n
def Ds{r:RX}(h:bE r≠"has"):Pj r=.int (lD r:Int)/\jB r=Sum.inl (lD r:Int):=by cases r<;>first|exact⟨rfl,rfl⟩|exact QZW rfl h
def lH(wd:Str)(rs:List RX):List Nat:=rs.filterMap λr=>if bE r=wd then some (lD r) else none
def wM(wd:Str)(rs:List RX)(r:RX):lH wd (rs++[r])=lH wd rs++lH wd [r]:=by unfold lH;rw[QZQ]
def Qz{t:St}{H:Hp}{f:TD}{rs:List RX}{j:List TD}{Q:List V->Hp->Prop}(wd:Str)(m:wd≠"has")(RR:RxsAt H f rs j)(u:rs.length<=100)(h:Q (nI (lH wd rs)) H) :
  iK [none] (aJ 0) (mT (nF mEq (nF (lF K) (vr 0) (tC (.int 0))) (tC (.str wd)))) (nF (lF K) (vr 0) (tC (.int 1))) t (Rr K f) H Q:=by
 have le:=RR.len;refine aX (aY K f (j.map V.ref)) (by rw[aS];omega) (λi c d=>d=H/\c=nI (lH wd (rs.take i))) (λi c d ⟨b,e⟩=>⟨by rw[b];exact QYJ RR.lst,by rw[e];unfold nI lH;rw[aS];exact uI _ _ _⟩) ⟨rfl,rfl⟩ (?_) (?_)
 ·rintro i x c d n ⟨b,e⟩;subst b;obtain⟨a,r,rfl,v,o,p⟩:=RR.get n;obtain⟨y,g,q,s,z⟩:=eI p;have k:=aM o;refine⟨_,QYK g,_,q,?_⟩;show if decide (bE r=wd)=true then _ else _
  refine bA (λh=>?_) (λh=>?_)
  ·have l:=U6 h;refine⟨_,QYK g,_,s,rfl,?_⟩;have:lH wd [r]=[lD r]:=by unfold lH;rw[QZP,QZY l];rfl
   rw[k,wM,e,this,(Ds (by rw[l];exact m)).1];unfold nI;rw[dW];rfl
  ·refine⟨rfl,?_⟩;have:lH wd [r]=[]:=by unfold lH;rw[QZP,QZX (U0 h)];rfl
   rw[k,wM,e,this,append_nil]
 ·rintro c d ⟨b,e⟩;subst b;rw[aS,<- le,iI (aZ _)]at e;rw[e];exact h
def Vu{wd:Str}(b:wd≠"has")(rs:List RX)(n:Nat):qW (.int (n:Int)) (nI (lH wd rs))=jV wd rs (Sum.inl (n:Int)):=by
 unfold qW nI jV lH;induction rs with
 | nil=>rfl
 | cons r rs a=>
  rw[QZP,any_cons];by_cases h:bE r=wd
  ·rw[QZY h];dsimp only;rw[map_cons,any_cons,a,UV h,(Ds (by rw[h];exact b)).2,Bool.true_and]
   congr 1
   show(((lD r:Nat):Int)==(n:Int))=_;by_cases e:lD r=n
   ·rw[e];simp
   ·rw[UF (λz=>e (by injection z with z;omega))];exact beq_eq_false_iff_ne.mpr Zo
  ·rw[QZX h];dsimp only;rw[a,UF h];rfl
def Vv(a:List Nat):(nI a).all dY=true:=by unfold nI;rw[all_eq_true];intro v b;obtain⟨n,_,rfl⟩:=Zmm.mp b;rfl
def nY(rs:List RX):RX->Option Nat|.came n _ _ _ _=>if jV "done" rs (Sum.inl (n:Int))=true then none else some n|_=>none
def jX(rs:List RX):List Nat:=rs.filterMap (nY rs)
def mW{rs:List RX}{n:Nat}:n∈jX rs↔(∃t p k x,.came n t p k x∈rs)/\jV "done" rs (Sum.inl (n:Int))=false:=by
 refine⟨λh=>?_,?_⟩
 ·obtain⟨r,b,e⟩:=mem_filterMap.mp h
  cases r with
  | came m t p k x=>
   have a:(if jV "done" rs (Sum.inl (m:Int))=true then none else some m)=some n:=e;split at a
   ·cases a
   ·rename_i c;cases a;exact⟨⟨_,_,_,_,b⟩,Bool.eq_false_iff.mpr c⟩
  | _=>cases e
 ·rintro ⟨⟨t,p,k,x,h⟩,d⟩;refine mem_filterMap.mpr ⟨_,h,?_⟩;show(if jV "done" rs (Sum.inl (n:Int))=true then none else some n)=some n;rw[QZX (by rw[d];exact U7)]
def mY(rs:List RX):(jX rs).Sublist (bW rs):=by
 have:∀a:List RX,(a.filterMap (nY rs)).Sublist (bW a):=λa=>by
  induction a with
  | nil=>exact List.Sublist.refl _
  | cons r a b=>
   unfold bW at b ⊢;rw[QZP,QZP];cases r with
   | came n t p k x=>
    have e:nY rs (.came n t p k x)=if jV "done" rs (Sum.inl (n:Int))=true then none else some n:=rfl
    rw[e];split
    ·rename_i h;split at h
     ·exact b.trans (List.sublist_cons_self _ _)
     ·cases h
    ·rename_i h;split at h
     ·cases h
     ·cases h;exact b.cons_cons _
   | _=>exact b
 exact this rs
def wN{rs:List RX}{n t:Nat}{y:An}(h:.done n t y∈rs):jV "done" rs (Sum.inl (n:Int))=true:=any_eq_true.mpr ⟨_,h,by simp[bE,jB]⟩
def nZ{rs:List RX}{n:Nat}:jV "asked" rs (Sum.inl (n:Int))=true↔.asked n∈rs:=by
 refine⟨λh=>?_,λh=>any_eq_true.mpr ⟨_,h,by simp[bE,jB]⟩⟩;obtain⟨r,a,e⟩:=any_eq_true.mp h;rw[Bool.and_eq_true]at e;obtain⟨m,rfl⟩:=uN (U6 e.1);have:(Sum.inl (m:Int):aV)=Sum.inl (n:Int):=U6 e.2;injection this with this
 rw[show n=m by omega];exact a
def Jv{rs:List RX}(h:RX.Whole rs){n:Nat}(a:.asked n∈rs):∃t p k x,.came n t p k x∈rs/\x.far=true:=by
 induction h with
 | nil=>cases a
 | snoc f d e=>
  rcases aH a with a|a
  ·obtain⟨t,p,k,x,b,c⟩:=e a;exact⟨t,p,k,x,QZU _ b,c⟩
  ·rw[<- a]at d;obtain⟨⟨t,p,k,x,b,c⟩,_⟩:=d;exact⟨t,p,k,x,QZU _ b,c⟩
def Jw{rs:List RX}(h:RX.Whole rs){n t:Nat}{p k:Str}{x:Dd}{y:An}(a:.kept n t p k x y∈rs):An.Of x y/\∃b c,.next b c∈rs/\n<b/\t<=c:=by
 induction h with
 | nil=>cases a
 | snoc j g i=>
  rcases aH a with a|a
  ·obtain⟨d,b,c,e,f⟩:=i a;exact⟨d,b,c,QZU _ e,f⟩
  ·rw[<- a]at g;obtain⟨_,⟨b,c,e,d⟩,_,f⟩:=g;exact⟨f,b,c,QZU _ e,d⟩
structure Xn(rs:List RX)(e:E6):Prop where
 an:An.Of e.2.2.2.2.1 e.2.2.2.2.2
 num:∀m:Int,IsMax (lW rs) m->(e.1:Int)<m
 tn:∀t:Int,IsMax (turnL rs) t->(e.2.1:Int)<=t
 no:∀n∈jX rs,e.1≠n
 dd:(∀r∈rs,Dl r)->(∀n t p k x y,.kept n t p k x y∈rs->x.Ok)->e.2.2.2.2.1.Ok
def aA3{rs:List RX}(f:RX.Whole rs){e:E6}(h:e∈eJ rs):Xn rs e:=by
 unfold eJ at h;rcases Zma.mp h with h|h
 ·obtain⟨r,a,c⟩:=mem_flatMap.mp h
  cases r with
  | kept n t p k x y=>
   rw[Zms.mp c];obtain⟨z,s,g,u,B,C⟩:=Jw f a;refine⟨z,λm i=>?_,λv j=>?_,λl o b=>?_,λ_ d=>d _ _ _ _ _ _ a⟩
   ·have:=i.2 (s:Int) (by unfold lW;simp only [cons_append,mem_cons,Zma,Zmm];exact .inr (.inl ⟨s,mem_filterMap.mpr ⟨_,u,rfl⟩,rfl⟩));show((n:Nat):Int)<m;omega
   ·have:=j.2 (g:Int) (by unfold turnL;exact kY _ (Zmm.mpr ⟨g,mem_filterMap.mpr ⟨_,u,rfl⟩,rfl⟩));show((t:Nat):Int)<=v;omega
   ·obtain⟨⟨D,E,F,G,d⟩,_⟩:=mW.mp o;have b:n=l:=b;subst b;exact wK f d a
  | _=>cases c
 ·obtain⟨r,a,c⟩:=mem_flatMap.mp h
  cases r with
  | done n t y=>
   obtain⟨g,p,k,x,q,A⟩:=dG f a;rw[uG f q]at c;rw[Zms.mp c];refine⟨A,λm i=>?_,λv j=>?_,λl o b=>?_,λd _=>d _ q⟩
   ·have:=i.2 ((n:Int)+1) (by unfold lW;simp only [cons_append,mem_cons,Zma,Zmm];exact .inr (.inr ⟨n,qF q,rfl⟩));show((n:Nat):Int)<m;omega
   ·exact j.2 (t:Int) (by unfold turnL;exact kY _ (Zmm.mpr ⟨t,mem_filterMap.mpr ⟨_,a,rfl⟩,rfl⟩))
   ·have b:n=l:=b;subst b;exact QZW (mW.mp o).2 (by rw[wN a];decide)
  | _=>cases c
def Rb:∀(l:List Int),0<l.length->∃m,IsMax l m
 | [a],_=>⟨a,Zms.mpr rfl,λb f=>by rw[Zms.mp f];exact Int.le_refl _⟩
 | a::b::l,_=>by
  obtain⟨m,g,e⟩:=Rb (b::l) Zs;by_cases h:a<=m
  ·exact⟨m,kY _ g,λc d=>by rcases mem_cons.mp d with rfl|d;exact h;exact e c d⟩
  ·exact⟨a,gJ,λc d=>by rcases mem_cons.mp d with rfl|d;exact Int.le_refl _;have:=e c d;omega⟩
structure FoldC(rs:List RX)(f:Str->Nat)(tu:Nat)(ns:List Nat):Prop where
 hw:RX.Whole rs
 snd:∀r∈rs,Dl r
 kd:∀n t p k x y,.kept n t p k x y∈rs->x.Ok
 le:∀z,f z<=1000000000000
 sub:ns.Sublist (jX rs)
 tn:∀t:Int,IsMax (turnL rs) t->t<=(tu:Int)
def FoldC.asc{rs:List RX}{f:Str->Nat}{b:Nat}{a:List Nat}(c:FoldC rs f b a):a.Pairwise (·<·):=List.Pairwise.sublist (c.sub.trans (mY rs)) (qL c.hw)
def FoldC.came{rs:List RX}{f:Str->Nat}{a:Nat}{d:List Nat}(c:FoldC rs f a d){n:Nat}(h:n∈d):∃p k x,fJ rs n=some (p,k,x)/\x.Ok/\jG rs a n=.came n a p k x::(if jV "asked" rs (Sum.inl (n:Int))=true then [.asked n] else [])/\(∃t,.came n t p k x∈rs):=by
 obtain⟨⟨t,p,k,x,b⟩,_⟩:=mW.mp (c.sub.subset h);have e:=qJ c.hw b;refine⟨p,k,x,e,c.snd _ b,?_,t,b⟩;unfold jG;rw[e]
structure FoldX(rs:List RX)(f:Str->Nat)(lf tu:Nat)(ns:List Nat)(m:Nat)(hs:List Str)(es:List E6):Prop where
 mx:IsMax (lW rs) (m:Int)
 pos:Vh f hs
 asc:es.Pairwise λa b=>a.1<b.1
 iff:∀e,e∈es↔(lC (eJ rs) (bK e)=some e/\tu<e.2.1+lf)/\bK e∉nX rs ns
def jY(rs:List RX)(f:Str->Nat)(a:Nat)(b:List Nat)(m:Nat)(hs:List Str)(es:List E6):List RX:=.next m a::(hs.map (λz=>.has z (f z))++(es.map fL++bU rs a b))
section
variable {rs:List RX}{f:Str->Nat}{lf tu m:Nat}{ns:List Nat}{hs:List Str}{es:List E6}
def FoldX.ent(c:FoldC rs f tu ns)(x:FoldX rs f lf tu ns m hs es){e:E6}(h:e∈es):Xn rs e:=aA3 c.hw (qO ((x.iff e).mp h).1.1).1
def mZ(c:FoldC rs f tu ns){r:RX}(d:List Nat)(j:∀n∈d,n∈ns):r∈bU rs tu d↔∃n∈d,(∃p k x,fJ rs n=some (p,k,x)/\r=.came n tu p k x)∨(r=.asked n/\.asked n∈rs):=by
 unfold bU;rw[mem_flatMap];refine⟨λ⟨n,a,h⟩=>⟨n,a,?_⟩,λ⟨n,a,h⟩=>⟨n,a,?_⟩⟩
 ·obtain⟨p,k,x,e,_,g,_⟩:=c.came (j n a);rw[g]at h;rcases mem_cons.mp h with h|h
  ·exact .inl ⟨p,k,x,e,h⟩
  ·split at h
   ·rename_i l;exact .inr ⟨Zms.mp h,nZ.mp l⟩
   ·cases h
 ·obtain⟨p,k,x,e,_,g,_⟩:=c.came (j n a);rw[g];rcases h with⟨o,q,s,b,i⟩|⟨b,i⟩
  ·rw[e]at b;cases b;rw[i];exact gJ
  ·rw[b,QZY (nZ.mpr i)];exact kY _ gJ
def rY{a:Type}{lt:a->a->Prop}{xs:List a}(h:xs.Pairwise lt){k:Nat}{x y:a}(c:xs[k]?=some x)(d:y∈xs.take k):lt y x:=by
 obtain⟨e,g⟩:=Zgs.mp c;obtain⟨j,i,b⟩:=getElem_of_mem d;rw[oA]at i;rw[List.getElem_take]at b;have:=(pairwise_iff_getElem.mp h) j k Zo e Zo;rw[b,g]at this;exact this
def yO{a:Type}{xs:List a}{k:Nat}(h:k<xs.length):∃x,xs[k]?=some x/\x∈xs/\xs.take (k+1)=xs.take k++[x]:=⟨xs[k],eT h,getElem_mem h,aM (eT h)⟩
def Jx(c:FoldC rs f tu ns)(x:FoldX rs f lf tu ns m hs es):RX.Whole (jY rs f tu ns m hs es):=by
 have U:RX.Whole [.next m tu]:=.snoc .nil rfl;have V:∀k,k<=hs.length->RX.Whole (.next m tu::(hs.take k).map λz=>RX.has z (f z)):=by
  intro k;induction k with
  | zero=>exact λ_=>U
  | succ k i=>
   intro F;obtain⟨z,W,AX,X⟩:=yO (xs:=hs) (k:=k) Zo;rw[X,dW];refine .snoc (i Zo) ⟨λq a=>?_,⟨m,tu,gJ⟩,λz' m' a=>?_⟩
   ·rcases mem_cons.mp a with rfl|a
    ·exact zero_le _
    ·obtain⟨y,_,rfl⟩:=Zmm.mp a;exact aZ _
   ·rcases mem_cons.mp a with a|a
    ·cases a
    ·obtain⟨y,j,e⟩:=Zmm.mp a;cases e;exact rY x.pos.asc W j
 have G:=V hs.length (aZ _);rw[iI (aZ _)]at G;have Y:∀k,k<=es.length->RX.Whole ((.next m tu::hs.map λz=>RX.has z (f z))++(es.take k).map fL):=by
  intro k;induction k with
  | zero=>intro _;rw[show(es.take 0).map fL=[] from rfl,append_nil];exact G
  | succ k i=>
   intro F;obtain⟨e,Z,T,ee⟩:=yO (xs:=es) (k:=k) Zo;have u:=x.ent c T;rw[ee,dW,<- append_assoc];refine .snoc (i Zo) ⟨λq a=>?_,⟨m,tu,QZU _ gJ,?_,?_⟩,λb v A B C H a=>?_,u.an⟩
   ·rcases Zma.mp a with a|a
    ·rcases mem_cons.mp a with rfl|a
     ·exact zero_le _
     ·obtain⟨y,_,rfl⟩:=Zmm.mp a;exact le_succ _
    ·obtain⟨y,_,rfl⟩:=Zmm.mp a;exact aZ _
   ·have:=u.num _ x.mx;omega
   ·obtain⟨t,I⟩:=Rb (turnL rs) (by unfold turnL;simp);have:=u.tn t I;have:=c.tn t I;omega
   ·rcases Zma.mp a with a|a
    ·rcases mem_cons.mp a with a|a
     ·cases a
     ·obtain⟨y,_,e⟩:=Zmm.mp a;cases e
    ·obtain⟨y,j,e⟩:=Zmm.mp a;have J:fL y=.kept b v A B C H:=e;unfold fL at J;injection J with L
     rw[<- L];exact rY x.asc Z j
 have M:=Y es.length (aZ _);rw[iI (aZ _)]at M;have w3:∀k,k<=ns.length->RX.Whole (((.next m tu::hs.map λz=>RX.has z (f z))++es.map fL)++bU rs tu (ns.take k)):=by
  intro k;induction k with
  | zero=>intro _;rw[show bU rs tu (ns.take 0)=[] from rfl,append_nil];exact M
  | succ k i=>
   intro F;obtain⟨n,N,O,en⟩:=yO (xs:=ns) (k:=k) Zo;obtain⟨p,Q,d,L,hd,e2,t0,C7⟩:=c.came O;have HD:∀b∈ns.take k,b∈ns:=λb a0=>mem_of_mem_take a0
   have e3:bU rs tu (ns.take (k+1))=bU rs tu (ns.take k)++jG rs tu n:=by unfold bU;rw[en,cP]
   have h:∀ {q:RX},q∈((.next m tu::hs.map λz=>RX.has z (f z))++es.map fL)++bU rs tu (ns.take k)->q=.next m tu∨(∃z,q=.has z (f z))∨(∃e∈es,q=fL e)∨∃b∈ns.take k,(∃p k x,fJ rs b=some (p,k,x)/\q=.came b tu p k x)∨(q=.asked b/\.asked b∈rs):=λ{q} a=>by
    rcases Zma.mp a with a|a
    ·rcases Zma.mp a with a|a
     ·rcases mem_cons.mp a with a|a
      ·exact .inl a
      ·obtain⟨y,_,e⟩:=Zmm.mp a;exact .inr (.inl ⟨y,e.symm⟩)
     ·obtain⟨y,j,e⟩:=Zmm.mp a;exact .inr (.inr (.inl ⟨y,j,e.symm⟩))
    ·exact .inr (.inr (.inr ((mZ c _ HD).mp a)))
   rw[e3,e2];have R:RX.Whole (((.next m tu::hs.map λz=>RX.has z (f z))++es.map fL)++bU rs tu (ns.take k)++[.came n tu p Q d]):=by
    refine .snoc (i Zo) ⟨λb v A B C a=>?_,λv A B C H a=>?_,λq a=>?_⟩
    ·rcases h a with e|⟨z,e⟩|⟨l,_,e⟩|⟨o,g,⟨_,_,_,_,e⟩|⟨e,_⟩⟩
     ·cases e
     ·cases e
     ·cases e
     ·cases e;exact rY c.asc N g
     ·cases e
    ·rcases h a with e|⟨z,e⟩|⟨l,s,e⟩|⟨o,g,⟨_,_,_,_,e⟩|⟨e,_⟩⟩
     ·cases e
     ·cases e
     ·unfold fL at e;injection e with D;exact(x.ent c s).no n (c.sub.subset O) D.symm
     ·cases e
     ·cases e
    ·rcases h a with e|⟨z,e⟩|⟨l,s,e⟩|⟨o,g,⟨_,_,_,_,e⟩|⟨e,_⟩⟩<;>rw[e]
     ·exact aZ _
     ·exact zero_le _
     ·exact zero_le _
     ·exact aZ _
     ·exact zero_le _
   by_cases E:jV "asked" rs (Sum.inl (n:Int))=true
   ·rw[QZY E];have:=RX.Whole.snoc (r:=.asked n) R ⟨⟨tu,p,Q,d,QZT _ gJ,?_⟩,λa=>?_,λt y a=>?_⟩
    ·simpa using this
    ·obtain⟨t1,p1,k1,x1,h1,h2⟩:=Jv c.hw (nZ.mp E);have:=dF c.hw C7 h1;injection this with _ _ _ _ D
     rw[D];exact h2
    ·rcases aH a with a|a
     ·rcases h a with e|⟨z,e⟩|⟨l,s,e⟩|⟨o,g,⟨_,_,_,_,e⟩|⟨e,_⟩⟩
      ·cases e
      ·cases e
      ·cases e
      ·cases e
      ·cases e;exact QZW (rY c.asc N g) (lt_irrefl _)
     ·cases a
    ·rcases aH a with a|a
     ·rcases h a with e|⟨z,e⟩|⟨l,s,e⟩|⟨o,g,⟨_,_,_,_,e⟩|⟨e,_⟩⟩<;>cases e
     ·cases a
   ·rw[QZX E,<- append_assoc];exact R
 have S:=w3 ns.length (aZ _);rw[iI (aZ _)]at S;unfold jY;simpa using S
end
section
variable {rs:List RX}{f:Str->Nat}{lf tu m:Nat}{ns:List Nat}{hs:List Str}{es:List E6}
def yP(c:FoldC rs f tu ns){q:RX}:q∈jY rs f tu ns m hs es↔q=.next m tu∨(∃z∈hs,q=.has z (f z))∨(∃e∈es,q=fL e)∨∃n∈ns,(∃p k x,fJ rs n=some (p,k,x)/\q=.came n tu p k x)∨(q=.asked n/\.asked n∈rs):=by
 unfold jY;rw[mem_cons,Zma,Zma,mZ c ns λ_ h=>h,Zmm,Zmm];constructor
 ·rintro(h|⟨z,a,b⟩|⟨e,a,b⟩|h)
  ·exact .inl h
  ·exact .inr (.inl ⟨z,a,b.symm⟩)
  ·exact .inr (.inr (.inl ⟨e,a,b.symm⟩))
  ·exact .inr (.inr (.inr h))
 ·rintro(h|⟨z,a,b⟩|⟨e,a,b⟩|h)
  ·exact .inl h
  ·exact .inr (.inl ⟨z,a,b.symm⟩)
  ·exact .inr (.inr (.inl ⟨e,a,b.symm⟩))
  ·exact .inr (.inr (.inr h))
def Bc(c:FoldC rs f tu ns){n t:Nat}{y:An}:.done n t y∉jY rs f tu ns m hs es:=λh=>by
 rcases(yP c).mp h with e|⟨z,_,e⟩|⟨a,_,e⟩|⟨b,_,⟨_,_,_,_,e⟩|⟨e,_⟩⟩<;>cases e
def Jy(c:FoldC rs f tu ns):bP (jY rs f tu ns m hs es)=[]:=by
 cases h:bP (jY rs f tu ns m hs es) with
 | nil=>rfl
 | cons n l=>
  obtain⟨t,y,a⟩:=hV (rs:=jY rs f tu ns m hs es) (n:=n) (by rw[h];exact gJ);exact QZW a (Bc c)
def Re(f:Str->Nat)(r:RX):Str->Nat:=match r with|.has z m=>eF f z m|_=>f
theorem Dt:∀(l:List RX)(g:Str->Nat),(∀r∈l,bE r≠"has")->l.foldl Re g=g
 | [],_,_=>rfl
 | r::l,g,h=>by
  rw[foldl_cons];have a:=Dt l g λr b=>h r (kY _ b)
  cases r with
  | has z m=>exact QZW rfl (h _ gJ)
  | _=>exact a
theorem Gi:∀(l:List Str)(g:Str->Nat)(z:Str),(l.map λz=>RX.has z (f z)).foldl Re g z=if z∈l then f z else g z
 | [],g,z=>by rw[QZX (λh=>nomatch h)];rfl
 | y::l,g,z=>by
  rw[map_cons,foldl_cons,Gi l];by_cases b:z∈l
  ·rw[QZY b,QZY (kY _ b)]
  ·rw[QZX b];show eF g y (f y) z=_;unfold eF;by_cases a:z=y
   ·rw[QZY a,QZY (by rw[a];exact gJ),a]
   ·rw[QZX a,QZX (λh=>by rcases mem_cons.mp h with e|e;exact a e;exact b e)]
def Jz(c:FoldC rs f tu ns)(x:FoldX rs f lf tu ns m hs es):cO (jY rs f tu ns m hs es)=f:=by
 show(jY rs f tu ns m hs es).foldl Re (λ_=>0)=f;unfold jY;rw[foldl_cons,foldl_append,Dt (es.map fL++bU rs tu ns) _ λr a=>?_]
 ·funext z
  rw[Gi];by_cases h:z∈hs
  ·rw[QZY h]
  ·rw[QZX h];have b:¬ 0<f z:=λb=>h ((x.pos.iff z).mpr b)
   show 0=f z;omega
 ·rcases Zma.mp a with a|a
  ·obtain⟨e,_,rfl⟩:=Zmm.mp a;exact show("kept":Str)≠"has" by decide +kernel
  ·rcases(mZ c ns λ_ h=>h).mp a with⟨d,_,⟨_,_,_,_,e⟩|⟨e,_⟩⟩<;>rw[e]
   ·exact show("came":Str)≠"has" by decide +kernel
   ·exact show("asked":Str)≠"has" by decide +kernel
def Vw(c:FoldC rs f tu ns)(x:FoldX rs f lf tu ns m hs es):RepF (jY rs f tu ns m hs es) (λ_=>f) f:=
 ⟨(Jz c x).symm,λi n t y e=>QZW (jI e) (Bc c),λ_ _ _ _=>rfl,rfl⟩
def Gj(c:FoldC rs f tu ns):∀r∈jY rs f tu ns m hs es,Dl r:=λr b=>by
 rcases(yP c).mp b with e|⟨z,_,e⟩|⟨j,_,e⟩|⟨l,g,⟨p,k,d,h,e⟩|⟨e,_⟩⟩<;>rw[e]
 ·trivial
 ·exact c.le z
 ·trivial
 ·obtain⟨n,o,q,a,i,_⟩:=c.came g;rw[h]at a;cases a;exact i
 ·trivial
def Rf(c:FoldC rs f tu ns)(x:FoldX rs f lf tu ns m hs es):∀r∈jY rs f tu ns m hs es,lX r:=λr a=>by
 rcases(yP c).mp a with e|⟨z,_,e⟩|⟨g,b,e⟩|⟨i,b,⟨p,k,d,j,e⟩|⟨e,_⟩⟩
 ·subst e;trivial
 ·subst e;exact c.le z
 ·have h:=x.ent c b;subst e;exact⟨h.dd c.snd c.kd,h.an⟩
 ·have:=Gj (m:=m) (hs:=hs) (es:=es) c r a;subst e;exact this
 ·subst e;trivial
end
def Du(T:Txt K mg)(D:DefAt K mg "done_changes" dJ QZM):aG P w K mg base 1 "done_changes" QZM qB:=by
 refine D.gg lB (λf L A J s H vs Q E M h=>?_)
 ·obtain⟨p,wd,u,N,O,rfl,b,⟨one,B,nm,n,C⟩,q⟩:=h;refine⟨_,(lj (nv (mo nz (li (lx (K:=K)) (ku 0) kz) lq) (md (mi (mj lg))) nw) (lj (nv (mo nz (li (lx (K:=K)) (ku 0) kz) lq) (md (mi (mj (kx (mj (kx (li (lx (K:=K)) (ku 0) kz) (kx (oj (li (lx (K:=K)) (ku 0) (oj kz))) lg))) (kx (mj (kx (li (lx (K:=K)) (ku 0) kz) (kx (li (lx (K:=K)) (ku 0) (oj kz)) lg))) lg))))) nw) (lj (nv (mo (qt (K:=K)) (li (lx (K:=K)) (ku 0) kz) (mj (kx lq (kx lq lg)))) (md (mi (mj (kx (mj (kx (li (lx (K:=K)) (ku 0) (oj kz)) (kx (oj (li (lx (K:=K)) (ku 0) (oj kz))) lg))) lg)))) nw) (md (mi (mj (kx (mj (kx (li (lx (K:=K)) (ku 0) (oj kz)) (kx (li (lx (K:=K)) (ku 0) (oj kz)) lg))) lg))))))),?_⟩;have r:∀ {y:Hp}{a:TD}{x:Str}{i:Int},y a=some (.tup [.str x,.int i])->ZAt y [(a,x,i)]:=λh z m=>by
   rw[Zms.mp m];exact h
  have two:∀(nm:Str)(i:Int),H p=some (.tup u)->nC u (-2)=some (.str nm)->nC u (-1)=some (.int i)->True:=λ_ _ _ _ _=>trivial
  cases C with
  | add=>
   refine⟨_,QYK b,_,rfl,?_⟩;refine⟨_,QYK b,_,rfl,?_⟩;refine⟨_,QYK b,_,rfl,Zs,λg o c g1=>⟨g,_,rfl,.inr (QYK g1),rfl,rfl,?_⟩⟩;refine⟨_,QYK (c _ _ b),_,rfl,_,QYK (c _ _ b),_,rfl,Zs,λj t e g2=>⟨Zs,λk l d g3=>q k [(j,nm,n)] l ((c.trans e).trans d) g3 (r (d _ _ g2)) rfl⟩⟩
  | take=>
   refine⟨_,QYK b,_,rfl,?_⟩;refine⟨_,QYK b,_,rfl,?_⟩;refine⟨_,QYK b,_,rfl,Zs,λg o c g1=>⟨g,_,rfl,.inr (QYK g1),rfl,rfl,?_⟩⟩;refine⟨_,QYK (c _ _ b),_,rfl,_,QYK (c _ _ b),_,rfl,Zs,λj t e g2=>⟨Zs,λk l d g3=>q k [(j,nm,-n)] l ((c.trans e).trans d) g3 (r (d _ _ g2)) rfl⟩⟩
  | move=>
   refine⟨_,QYK b,_,rfl,?_⟩;refine⟨_,QYK b,_,rfl,?_⟩;refine⟨_,QYK b,_,rfl,_,QYK b,_,rfl,Zs,λj t e g2=>⟨_,QYK (e _ _ b),_,rfl,_,QYK (e _ _ b),_,rfl,Zs,λk l d g3=>⟨Zs,λF G v I=>?_⟩⟩⟩;refine q F [(j,one,-n),(k,B,n)] G ((e.trans d).trans v) I (λz m=>?_) rfl;rcases mem_cons.mp m with rfl|m
   ·exact v _ _ (d _ _ g2)
   ·rw[Zms.mp m];exact v _ _ g3
  | send=>
   refine⟨_,QYK b,_,rfl,?_⟩;refine⟨_,QYK b,_,rfl,?_⟩;refine⟨_,QYK b,_,rfl,Zs,λg o c g1=>⟨g,_,rfl,.inr (QYK g1),rfl,rfl,?_⟩⟩;refine⟨_,QYK (c _ _ b),_,rfl,_,QYK (c _ _ b),_,rfl,Zs,λj t e g2=>⟨Zs,λk l d g3=>q k [(j,nm,-n)] l ((c.trans e).trans d) g3 (r (d _ _ g2)) rfl⟩⟩
  | fetch=>
   refine⟨_,QYK b,_,rfl,?_⟩;refine⟨_,QYK b,_,rfl,?_⟩;refine⟨_,QYK b,_,rfl,Zs,λg o c g1=>⟨g,_,rfl,.inr (QYK g1),rfl,rfl,?_⟩⟩;refine⟨_,QYK (c _ _ b),_,rfl,_,QYK (c _ _ b),_,rfl,Zs,λj t e g2=>⟨Zs,λk l d g3=>q k [(j,nm,n)] l ((c.trans e).trans d) g3 (r (d _ _ g2)) rfl⟩⟩
  | pass=>
   refine⟨_,QYK b,_,rfl,?_⟩;exact⟨Zd,λg o c g1=>q g [] o c g1 (λ_ h=>nomatch h) rfl⟩
def Bd{H:Hp}{zs:List Z}(h:ZAt H zs){i:Nat}{x:V}(a:(dA zs)[i]?=some x):∃z,zs[i]?=some z/\x=.ref z.1/\H z.1=some (.tup [.str z.2.1,.int z.2.2]):=by
 unfold dA at a;rw[fK]at a;cases b:zs[i]? with
 | none=>rw[b]at a;cases a
 | some z=>
  rw[b]at a;cases a;exact⟨z,rfl,rfl,h z (jI b)⟩
def uP{C:TD}(T:Txt K mg)(a0:Wz K C)(I:aG P w K mg base 1 "done_changes" QZM qB)(J:rG P w K mg base 1 C "amount" QZz (kD C))(D:DefAt K mg "done_answer" eB QZH):aG P w K mg base 2 "done_answer" QZH (qC C):=by
 refine D.gg tK (λa1 cdv a2 outer s H vs a3 a4 o h=>?_)
 ·revert h;refine yE7 λb p wd L m M l=>yA5 λζ bk O f q=>?_;subst ζ;refine⟨_,(md (mi (zn (R.km (K:=K)) rfl T.b_tuple zI (kx (me sn (oh (kx lq lg)) (ou rfl (js:=[none,none,some 0]) (N:=QYQ) (CompScope.by (aB eB) QZH rfl rfl Zk) (sU (fM rfl (fM rfl pS))) (R.fi (K:=K) (mf I o rfl (kx (ku 1) lg))) (λC s₂ H₂ fp=>⟨(FM (K:=K) (n:=2) rfl (qp (ny (i:=0) (show(QYQ:List Str).Nodup by decide +kernel)) (qp (ny (i:=1) (show(QYQ:List Str).Nodup by decide +kernel)) FS))),wv,(me oa (xz J o (ku 2) (kx (ku 0) lg)) (ku 1))⟩))) lg)))),?_⟩;refine⟨eL rfl,λQ r=>⟨p,wd,L,m,M,rfl,aE r _ _ O,f,λt g u v g1 S j=>⟨t,rfl,⟨_,QYK g1⟩,?_⟩⟩⟩;have y:Same H u:=(aE r).trans v;have A:=bk.same y;have hlen:g.length<=2:=by
   obtain⟨one,other,nm,n,f⟩:=f;have:=congrArg length j;rw[aS]at this;rw[this];cases f<;>simp
  refine aX (kB K t (dA g)) (by unfold dA;rw[aS];omega) (λi a c=>c=u/\a=((g.map (·.2)).take i).map λq=>V.int (cM l q.1+q.2)) (λi a c ⟨e,d⟩=>⟨by rw[e];exact QYK g1,by rw[d,aS,oA];exact min_le_left _ _⟩) ⟨rfl,rfl⟩ (?_) (?_)
  ·rintro i x a c U ⟨e,d⟩;subst e;obtain⟨z,W,rfl,X⟩:=Bd S U;obtain⟨Y,a5,k,B⟩:=id A.ex;refine⟨z.1,_,rfl,QYK X,rfl,_,_,rfl,_,_,rfl,rfl,Y,_,k,nP _ Zk,b,z.2.1,l,rfl,A,rfl,?_⟩;rw[aM (x:=z.2) (by rw[fK,W];rfl),dW,d];rfl
  ·rintro a c ⟨e,d⟩;subst e;intro l1 k;have E:a=m.map λq=>V.int (cM l q.1+q.2):=by
    rw[d,j];have:(dA g).length=m.length:=by rw[<- j];unfold dA;rw[aS,aS]
    rw[this,take_length]
   have F:c Q=some (.lst [.str "is"]):=v _ _ aA;refine⟨[.str "is"],a,aE k _ _ F,aA,eZ (by rw[E,aS,<- j,aS];simp;omega),λl2 B=>⟨_,QYJ aA,λZ G=>?_⟩⟩;refine q Z _ (((y.trans (aE k)).trans (aE B)).trans (aE G)) ?_;rw[aA,E];rfl
def Ka{C:TD}(T:Txt K mg)(a3:Wz K C)(d7:aG P w K mg base 1 "done_changes" QZM qB)(b9:aG P w K mg base 1 "asks_of" QZM nQ)(c8:rG P w K mg base 1 C "amount" QZz (kD C))(x8:aG P w K mg base 2 "done_answer" QZH (qC C))(D:DefAt K mg "early" rQ QZH):aG P w K mg base 3 "early" QZH (Fd C):=by
 refine D.gg oS (λa4 cdv a5 outer s a6 vs a0 a7 x h=>?_)
 ·revert h;refine yE7 λb p wd E a g c=>yA5 λζ bk O F q=>?_;subst ζ;refine⟨_,(lj (qr PassesOwn.never rfl (R.fi (K:=K) (mf d7 x rfl (kx (ku 1) lg))) (FM (K:=K) (n:=2) rfl (qp (ny (i:=2) oS.nd) (qp (ny (i:=3) oS.nd) FS))) (lj (mh (i:=4) oS.nd (xz c8 x (ku 0) (kx (ku 2) lg))) (lj (nv (qv (ww (mo IN (ku 3) kz) (AT (mo IN (me oa (ku 4) (ku 3)) kz)))) (md (mi (mj (kx lq (kx (ku 4) lg))))) nw) (md (nv (qv (ww (mo J4 (ku 3) kz) (AT (mo J4 (me oa (ku 4) (ku 3)) (R.gI rfl T.g_MOST))))) (md (mi (mj (kx lq (kx (ku 4) lg))))) nw))))) (lj (nv (mo J4 (oi (o0 (K:=K)) rfl T.b_len bN (kx (mf b9 x rfl (kx (ku 1) lg)) lg)) kz) (md (mi ue)) nw) (md (mi (mf x8 x rfl (kx (ku 0) (kx (ku 1) lg))))))),?_⟩;refine⟨p,wd,E,a,g,rfl,O,F,λt Q H1 m g1 hz S=>⟨t,rfl,⟨_,QYK g1⟩,?_⟩⟩;have U:=bk.same m;have W:=m _ _ O;refine cD (kB K t (dA Q)) (λi B d=>Same H1 d/\(∃G H I:Option V,B=[some (.ref b),some (.ref p),G,H,I])/\kE (cM c) (oO (cM c) a g) a=kE (cM c) (oO (cM c) a g) (a.drop i)) (λi B d ⟨J,_⟩=>QYK (J _ _ g1)) ⟨Same.refl _,⟨_,_,_,rfl⟩,rfl⟩ ?_ ?_
  ·rintro i a8 B L hx ⟨j,⟨G,H,I,rfl⟩,f⟩;obtain⟨z,hn,rfl,gz⟩:=Bd (λz a1=>j _ _ (hz z a1)) hx;have X:=U.same j;obtain⟨dx,a9,h1,h2⟩:=id X.ex;have CQ:a.drop i=z.2::a.drop (i+1):=by
    have:a[i]?=some z.2:=by rw[<- S,fK,hn];rfl
    obtain⟨hi,e⟩:=Zgs.mp this;rw[List.drop_eq_getElem_cons hi,e]
   rw[CQ,zQ]at f;refine⟨z.1,_,rfl,QYK gz,rfl,_,_,rfl,_,_,rfl,rfl,dx,_,h1,nP _ Zk,b,z.2.1,c,rfl,X,?_⟩;dsimp only [aJ];have N:∀u:TV,kE (cM c) (oO (cM c) a g) a=u->∀v d,Same L d->RepT d 1 u v->a0 v d:=λu e v d J a2=>q v d ((m.trans j).trans J) (by rw[e];exact a2)
   refine aB8 (t:=Rw _ _) (λv d=>v=decide (z.2.2<0/\cM c z.2.1+z.2.2<0)/\d=L) (λk o=>?_) ?_
   ·refine bA (λh=>?_) (λh=>?_)
    ·exact o _ _ ⟨by rw[Bool.decide_and,h];rfl,rfl⟩
    ·exact o _ _ ⟨by rw[Bool.decide_and,h];rfl,rfl⟩
   rintro v d ⟨rfl,rfl⟩;refine bA (λh=>?_) (λh=>?_)
   ·rw[QZY (U6 h)]at f;exact⟨Zs,λy r l g3=>N _ f _ r l ⟨y,_,rfl,g3,.cons .s (.cons .i .nil)⟩⟩
   rw[QZX (U0 h)]at f;dsimp only [yV];refine aB8 (t:=Rw _ _) (λv Y=>v=decide (0<z.2.2/\1000000000000<cM c z.2.1+z.2.2)/\Y=d) (λk o=>?_) ?_
   ·refine bA (λh=>?_) (λh=>?_)
    ·exact o _ _ ⟨by rw[Bool.decide_and,h];rfl,rfl⟩
    ·exact o _ _ ⟨by rw[Bool.decide_and,h];rfl,rfl⟩
   rintro v Y ⟨rfl,rfl⟩;refine bA (λh=>?_) (λh=>?_)
   ·rw[QZY (U6 h)]at f;exact⟨Zs,λy r l g3=>N _ f _ r l ⟨y,_,rfl,g3,.cons .s (.cons .i .nil)⟩⟩
   rw[QZX (U0 h)]at f;exact⟨j,⟨_,_,_,rfl⟩,f⟩
  ·rintro B L ⟨j,⟨G,H,I,rfl⟩,f⟩;have el:(dA Q).length=a.length:=by rw[<- S];unfold dA;rw[aS,aS]
   rw[el,drop_length]at f;have Z:kE (cM c) (oO (cM c) a g) a=oO (cM c) a g:=f;refine⟨p,wd,E,a,g,rfl,j _ _ W,F,λy A r l g3 ha=>⟨A,.inr (QYK g3),?_⟩⟩;have IG:A.length=g.length:=ha.length.symm;refine bA (λh=>?_) (λh=>?_)
   ·have M:0<A.length:=by have:=U6 h;omega
    refine q _ r ((m.trans j).trans l) ?_;rw[Z];unfold oO;rw[QZX (λe=>by rw[IG,e]at M;exact QZW M (lt_irrefl _))];exact RepT.scal rfl
   ·have M:¬ 0<A.length:=by have:=U0 h;omega
    have e0:g=[]:=List.length_eq_zero_iff.mp Zo;refine⟨b,p,wd,E,a,g,c,rfl,U.same (j.trans l),l _ _ (j _ _ W),F,λt4 H4 s4 g4=>?_⟩;refine q _ H4 (((m.trans j).trans l).trans s4) ?_;rw[Z];unfold oO;rw[QZY e0];exact⟨t4,_,rfl,g4,xW (Nl _ _)⟩
def Be(f:Str->Int)(wd:Str)(a:List (Str×Int))(b:List (Str×List V))(h:Nat):TV:=match b[h]? with
 | some q=>.tp [tS "no",tS q.1]
 | none=>if wd="pass" then .tp [tS "ok"] else .tp ((isT f a).map .sc)
def Rh(C:TD):Sp:=λvs H Q _=>∃b p wd d e f c,∃h:Nat,vs=[.ref b,.ref p,.int h]/\BookAt C H b c/\H p=some (.tup d)/\Xa wd d e f/\∀v a,Same H a->RepT a 1 (Be (cM c) wd e f h) v->Q v a
def Vx{C:TD}(T:Txt K mg)(B:Wz K C)(L:aG P w K mg base 1 "asks_of" QZM nQ)(M:aG P w K mg base 2 "done_answer" QZH (qC C))(D:DefAt K mg "late" yD QZj):aG P w K mg base 3 "late" QZj (Rh C):=by
 refine D.gg Fi (λf U A S s H vs Q E v h=>?_)
 ·revert h;refine yE8 λb p wd x y o J c=>yA5 λζ bk z r q=>?_;subst ζ;refine⟨_,(lj (mh (i:=3) Fi.nd (mf L v rfl (kx (ku 1) lg))) (lj (nv (mo IN (ku 2) (oi (o0 (K:=K)) rfl T.b_len bN (kx (ku 3) lg))) (md (mi (mj (kx lq (kx (li (lx (K:=K)) (li (lx (K:=K)) (ku 3) (ku 2)) kz) lg))))) nw) (lj (nv (mo nz (li (lx (K:=K)) (ku 1) kz) lq) (md (mi (mj (kx lq lg)))) nw) (md (mi (mf M v rfl (kx (ku 0) (kx (ku 1) lg)))))))),?_⟩;refine⟨p,wd,x,y,o,rfl,z,r,λt g V k g1 F=>?_⟩;dsimp only [aJ];have W:=F.length;refine⟨g,.inr (QYK g1),?_⟩;refine bA (λh=>?_) (λh=>?_)
  ·have u:c<g.length:=by have:=U6 h;omega
   obtain⟨N,a,d,e,O,gd⟩:=Paired.get' (j:=c) F u;have R:g[c]?=some (.ref a):=by rw[eT u,e]
   refine⟨g,QYK g1,_,eY R,_,QYK O,_,rfl,Zs,λl m n g2=>q _ m (k.trans n) ?_⟩;unfold Be;rw[eT N];exact⟨l,_,rfl,g2,.cons .s (.cons .s .nil)⟩
  ·have u:¬ c<g.length:=by have:=U0 h;omega
   have G:o[c]?=none:=List.getElem?_eq_none Zo;have I:=k _ _ z;refine⟨_,QYK I,_,Fj r,?_⟩;show if decide (wd="pass")=true then _ else _
   refine bA (λh=>?_) (λh=>?_)
   ·refine⟨Zs,λl m n g2=>q _ m (k.trans n) ?_⟩;unfold Be;rw[G];dsimp only;rw[QZY (U6 h)];exact⟨l,_,rfl,g2,.cons .s .nil⟩
   ·refine⟨b,p,wd,x,y,o,J,rfl,bk.same k,I,r,λl m n g2=>q _ m (k.trans n) ?_⟩;unfold Be;rw[G];dsimp only;rw[QZX (U0 h)];exact⟨l,_,rfl,g2,xW (Nl _ _)⟩
def dS(f:Str->Nat)(x:Dd):List An:=match aT f x with|some y=>[y]|none=>bO f x
def Ri{f:Str->Nat}{x:Dd}{y:An}(h:y∈dS f x):∃q,iE f x q y:=by
 unfold dS at h;cases e:aT f x with
 | some a=>rw[e]at h;rw[Zms.mp h];exact⟨false,.inl ⟨rfl,e⟩⟩
 | none=>rw[e]at h;exact⟨true,.inr ⟨rfl,e,h⟩⟩
def Dv(x:Dd):Xa x.wd x.vs (oZ x) (eK x):=by
 cases x with
 | add a n=>exact⟨a,a,a,_,.add⟩
 | take a n=>exact⟨a,a,a,_,.take⟩
 | move a b n=>exact⟨a,b,a,_,.move⟩
 | send g a n=>exact⟨g,a,a,_,.send⟩
 | fetch g a n=>exact⟨g,a,a,_,.fetch⟩
 | pass g c a n=>exact⟨g,c,a,_,.pass⟩
def Dw{prs:List (Str×Int)}{f:Str->Nat}(d:∀z,cM prs z=(f z:Int)){x:Dd}(i:x.Ok) :
  kE (cM prs) (oO (cM prs) (oZ x) (eK x)) (oZ x)=(match aT f x with|some y=>RX.tvs y.vs|none=>.sc .non):=by
 have c:=i.n
 cases x with
 | add a n=>
  have c:1<=n/\n<=1000000000000:=c;show(if (n:Int)<0/\cM prs a+(n:Int)<0 then _ else if 0<(n:Int)/\1000000000000<cM prs a+(n:Int) then TV.tp [tS "full",tI (cM prs a)] else TV.tp [tS "is",tI (cM prs a+(n:Int))])=(match (if 1000000000000<f a+n then some (An.full (f a)) else some (.is1 (f a+n))) with|some y=>RX.tvs y.vs|none=>.sc .non);rw[QZX Zo,d];by_cases h:1000000000000<f a+n
  ·rw[QZY h,QZY Zo];rfl
  ·rw[QZX h,QZX Zo];rfl
 | take a n=>
  have c:1<=n/\n<=1000000000000:=c;show(if -(n:Int)<0/\cM prs a+-(n:Int)<0 then TV.tp [tS "short",tI (cM prs a)] else if 0 < -(n:Int)/\1000000000000<cM prs a+-(n:Int) then _ else TV.tp [tS "is",tI (cM prs a+-(n:Int))])=(match (if f a<n then some (An.short (f a)) else some (.is1 (f a-n))) with|some y=>RX.tvs y.vs|none=>.sc .non);rw[d];by_cases h:f a<n
  ·rw[QZY h,QZY Zo];rfl
  ·rw[QZX h,QZX Zo,QZX Zo,show(f a:Int)+-(n:Int)=((f a-n:Nat):Int) by omega];rfl
 | move a b n=>
  have c:1<=n/\n<=1000000000000:=c;show(if -(n:Int)<0/\cM prs a+-(n:Int)<0 then TV.tp [tS "short",tI (cM prs a)] else if 0 < -(n:Int)/\1000000000000<cM prs a+-(n:Int) then TV.tp [tS "full",tI (cM prs a)] else if (n:Int)<0/\cM prs b+(n:Int)<0 then TV.tp [tS "short",tI (cM prs b)] else if 0<(n:Int)/\1000000000000<cM prs b+(n:Int) then TV.tp [tS "full",tI (cM prs b)] else TV.tp [tS "is",tI (cM prs a+-(n:Int)),tI (cM prs b+(n:Int))])=(match (if f a<n then some (An.short (f a)) else if 1000000000000<f b+n then some (.full (f b)) else some (.is2 (f a-n) (f b+n))) with|some y=>RX.tvs y.vs|none=>.sc .non);rw[d,d];by_cases h:f a<n
  ·rw[QZY h,QZY Zo];rfl
  ·rw[QZX h,QZX Zo,QZX Zo,QZX Zo];by_cases e:1000000000000<f b+n
   ·rw[QZY e,QZY Zo];rfl
   ·rw[QZX e,QZX Zo,show(f a:Int)+-(n:Int)=((f a-n:Nat):Int) by omega];rfl
 | send g a n=>
  have c:1<=n/\n<=1000000000000:=c;show(if -(n:Int)<0/\cM prs a+-(n:Int)<0 then TV.tp [tS "short",tI (cM prs a)] else if 0 < -(n:Int)/\1000000000000<cM prs a+-(n:Int) then _ else TV.sc .non)=(match (if f a<n then some (An.short (f a)) else none) with|some y=>RX.tvs y.vs|none=>.sc .non);rw[d];by_cases h:f a<n
  ·rw[QZY h,QZY Zo];rfl
  ·rw[QZX h,QZX Zo,QZX Zo]
 | fetch g a n=>
  have c:1<=n/\n<=1000000000000:=c;show(if (n:Int)<0/\cM prs a+(n:Int)<0 then _ else if 0<(n:Int)/\1000000000000<cM prs a+(n:Int) then TV.tp [tS "full",tI (cM prs a)] else TV.sc .non)=(match (if 1000000000000<f a+n then some (An.full (f a)) else none) with|some y=>RX.tvs y.vs|none=>.sc .non);rw[QZX Zo,d];by_cases h:1000000000000<f a+n
  ·rw[QZY h,QZY Zo];rfl
  ·rw[QZX h,QZX Zo]
 | pass g j a n=>rfl
def Kb{prs:List (Str×Int)}{f:Str->Nat}(c:∀z,cM prs z=(f z:Int)){x:Dd}(i:x.Ok)(d:aT f x=none){h:Nat}{y:An}(b:(bO f x)[h]?=some y) :
  Be (cM prs) x.wd (oZ x) (eK x) h=RX.tvs y.vs:=by
 cases x with
 | send g a n=>
  have j:n<=f a:=by
   by_cases e:f a<n
   ·rw[show aT f (.send g a n)=some (.short (f a)) from QZY e]at d;cases d
   ·omega
  match h,b with
  | 0,b=>cases b;rfl
  | 1,b=>
   cases b;show TV.tp [tS "is",tI (cM prs a+-(n:Int))]=_;rw[c,show(f a:Int)+-(n:Int)=((f a-n:Nat):Int) by omega];rfl
  | h+2,b=>cases b
 | fetch g a n=>
  match h,b with
  | 0,b=>cases b;rfl
  | 1,b=>
   cases b;show TV.tp [tS "is",tI (cM prs a+(n:Int))]=_;rw[c];rfl
  | h+2,b=>cases b
 | pass g k a n=>
  match h,b with
  | 0,b=>cases b;rfl
  | 1,b=>cases b;rfl
  | 2,b=>cases b;rfl
  | h+3,b=>cases b
 | _=>cases b
def Gk{H:Hp}{xs:List V}{v:V}(h:RepT H 1 (RX.tvs xs) v):∃a,v=.ref a/\H a=some (.tup xs):=by
 obtain⟨a,b,rfl,g,p⟩:=h;have:∀ {xs b:List V},Paired (RepT H 0) (xs.map TV.sc) b->b=xs:=by
  intro xs;induction xs with
  | nil=>intro b p;cases p;rfl
  | cons x xs c=>intro b p;cases p with|cons h t=>rw[c t,h.1]
 rw[this p]at g;exact⟨a,rfl,g⟩
def qQ{f:Str->Nat}{x:Dd}(c:aT f x=none):(bO f x).length=(eK x).length+1:=by
 cases x with
 | add a n=>simp only [aT]at c;split at c<;>cases c
 | take a n=>simp only [aT]at c;split at c<;>cases c
 | move a b n=>simp only [aT]at c;split at c<;>first|cases c|(split at c<;>cases c)
 | _=>rfl
def Bf(H:Hp)(zs:List (TD×An)):Prop:=∀z∈zs,H z.1=some (.tup z.2.vs)
def aCz(C:TD):Sp:=λvs H Q _=>∃(b p:TD)(x:Dd)(d:List (Str×Int))(f:Str->Nat),vs=[.ref b,.ref p]/\BookAt C H b d/\H p=some (.tup x.vs)/\x.Ok/\(∀z,cM d z=(f z:Int)) ∧
 ∀(l:TD)(c:List (TD×An))(a:Hp),a l=some (.lst (c.map λz=>V.ref z.1))->Bf a c->c.map (·.2)=dS f x->Same H a->Q (.ref l) a
def qR{C:TD}(T:Txt K mg)(Q:aG P w K mg base 3 "early" QZH (Fd C))(S:aG P w K mg base 3 "late" QZj (Rh C))(U:aG P w K mg base 1 "asks_of" QZM nQ)(D:DefAt K mg "right_answers" dB QZH):aG P w K mg base 4 "right_answers" QZH (aCz C):=by
 refine D.gg jP (λf cdv a2 outer s a0 vs a3 a4 y h=>?_)
 ·revert h;refine yE5 λb p x F f=>yA6 λζ bk A G H q=>?_;subst ζ;refine⟨_,(lj (mh (i:=2) jP.nd (mf Q y rfl (kx (ku 0) (kx (ku 1) lg)))) (lj (nv (mo R.fm (ku 2) ue) (md (mi (oh (kx (ku 2) lg)))) nw) (md (mi (ou rfl (js:=[none,some 0,some 1]) (N:=["heard","book","deed"]) (CompScope.by (aB dB) ["book","deed","known"] rfl rfl Zk) (aQ rfl) (Q3 rfl T.b_range (kx (me oa (oi (o0 (K:=K)) rfl T.b_len bN (kx (mf U y rfl (kx (ku 1) lg)) lg)) kz) lg)) (λC s₂ H₂ fp=>⟨(ny (i:=0) (show(["heard","book","deed"]:List Str).Nodup by decide +kernel)),wv,(mf S y rfl (kx (ku 1) (kx (ku 2) (kx (ku 0) lg))))⟩)))))),?_⟩;refine⟨b,p,x.wd,x.vs,oZ x,eK x,F,rfl,bk,A,Dv x,λv H1 B g=>?_⟩;rw[Dw H G]at g;dsimp only [aJ];cases e:aT f x with
  | some a1=>
   rw[e]at g;obtain⟨a,rfl,E⟩:=Gk g;refine⟨eL rfl,λl j=>q l [(a,a1)] _ aA (λz k=>?_) ?_ (B.trans (aE j))⟩
   ·rw[Zms.mp k];exact aL E j
   ·unfold dS;rw[e];rfl
  | none=>
   rw[e]at g;obtain⟨rfl,_⟩:=g;refine⟨p,x.wd,x.vs,oZ x,eK x,rfl,B _ _ A,Dv x,λt W H2 X g2 Y=>⟨W,.inr (QYK g2),((bO f x).length:Int),?_,Zo,?_,?_⟩⟩
   ·rw[qQ e,Y.length];rfl
   ·have:=qQ e;have:(eK x).length<=2:=by cases x<;>exact QZV rfl
    omega
   ·have zy:(bO f x).length<=3:=by
     have:=qQ e;have:(eK x).length<=2:=by cases x<;>exact QZV rfl
     omega
    have I:((bO f x).length:Int).toNat=(bO f x).length:=by omega
    refine aX (eV 0 ((bO f x).length:Int).toNat) (by rw[gA];omega) (λi u m=>∃c:List (TD×An),u=c.map (λz=>V.ref z.1)/\Bf m c/\c.map (·.2)=(bO f x).take i/\Same a0 m) (λi u m ⟨c,n,_,d,_⟩=>⟨trivial,?_⟩) ⟨[],rfl,(λ_ h=>nomatch h),rfl,B.trans X⟩ (?_) (?_)
    ·have:=congrArg length d;rw[aS,oA]at this;rw[n,aS];omega
    ·rintro i v u m Z ⟨c,n,k,d,o⟩;obtain⟨rfl,J⟩:=nS Z;rw[I]at J;have L:(bO f x)[i]?=some (bO f x)[i]:=eT J;refine⟨b,p,x.wd,x.vs,oZ x,eK x,F,i,rfl,bk.same o,o _ _ A,Dv x,λv' A1 M O=>?_⟩;rw[Kb H G e L]at O;obtain⟨a,rfl,E⟩:=Gk O;refine⟨c++[(a,(bO f x)[i])],by rw[n,dW];rfl,λz r=>?_,by rw[dW,d,aM L];rfl,o.trans M⟩;rcases aH r with r|rfl
     ·exact M _ _ (k z r)
     ·exact E
    ·rintro u m ⟨c,n,k,d,o⟩;intro l j;rw[gA,I,iI (aZ _)]at d;refine q l c _ (by rw[aA,n]) (λz r=>aL (k z r) j) ?_ (o.trans (aE j));rw[d];unfold dS;rw[e]
def fR(rs:List RX)(n:Nat):Option Dd:=rs.findSome? λr=>match r with|.came m _ _ _ x=>if m=n then some x else none|_=>none
def eW{rs:List RX}(c:RX.Whole rs){n t:Nat}{p k:Str}{x:Dd}(b:.came n t p k x∈rs):fR rs n=some x:=by
 unfold fR;cases e:rs.findSome? (λr=>match r with|.came m _ _ _ x=>if m=n then some x else none|_=>none) with
 | none=>
  have:=List.findSome?_eq_none_iff.mp e _ b;simp at this
 | some h=>
  obtain⟨r,d,a⟩:=List.exists_of_findSome?_eq_some e
  cases r with
  | came m i j l g=>
   dsimp only at a;split at a
   ·rename_i f;cases a;subst f;have:=dF c b d;cases this;rfl
   ·cases a
  | _=>cases a
def Xo(rs:List RX)(f:Str->Nat):RX->(Str->Nat)
 | .done n _ y=>(match fR rs n with|some x=>after f x y|none=>f)
 | _=>f
def dC(rs:List RX)(i:Nat):Str->Nat:=(rs.take i).foldl (Xo rs) (cO rs)
def fS{rs:List RX}{i:Nat}{r:RX}(h:rs[i]?=some r):dC rs (i+1)=Xo rs (dC rs i) r:=by
 unfold dC;rw[aM h,foldl_append];rfl
def gZ(rs:List RX)(i:Nat):RX->Prop
 | .done n _ y=>∀x,fR rs n=some x->y∈dS (dC rs i) x
 | _=>True
def hJ(rs:List RX):Option Nat->Prop
 | none=>∀i r,rs[i]?=some r->gZ rs i r
 | some i=>(∃r,rs[i]?=some r/\¬ gZ rs i r)/\∀j r,j<i->rs[j]?=some r->gZ rs j r
def kX{rs:List RX}{o o':Option Nat}(h:hJ rs o)(h':hJ rs o'):o=o':=by
 cases o with
 | none=>cases o' with
  | none=>rfl
  | some j=>obtain⟨⟨r,e,n⟩,_⟩:=h';exact QZW (h j r e) n
 | some i=>cases o' with
  | none=>obtain⟨⟨r,e,n⟩,_⟩:=h;exact QZW (h' i r e) n
  | some j=>
   obtain⟨⟨r,e,n⟩,a⟩:=h;obtain⟨⟨b,c,d⟩,f⟩:=h';rcases Nat.lt_trichotomy i j with z|z|z
   ·exact QZW (f i r z e) n
   ·rw[z]
   ·exact QZW (a j b z c) d
def Dx{rs:List RX}(h:∀r∈rs,lX r):∀z,cO rs z<=1000000000000:=by
 unfold cO;have:∀(rs:List RX)(f:Str->Nat),(∀r∈rs,lX r)->(∀z,f z<=1000000000000)->∀z,rs.foldl (λf r=>match r with|.has z m=>eF f z m|_=>f) f z<=1000000000000:=by
  intro rs;induction rs with
  | nil=>intro f _ a z;exact a z
  | cons r rs b=>
   intro f h a;refine b _ (λq c=>h q (kY _ c)) ?_;have d:=h r gJ
   cases r with
   | has z m=>exact gY a d
   | _=>exact a
 exact this rs _ h λ_=>zero_le _
def Rj{u v:V}(a:(∃z,u=.str z)∨∃n,u=.int n)(b:(∃z,v=.str z)∨∃n,v=.int n):yQ u v=true↔u=v:=by
 rcases a with⟨z,rfl⟩|⟨n,rfl⟩<;>rcases b with⟨c,rfl⟩|⟨d,rfl⟩<;>simp[yQ]
def Bg{xs ys:List V}(d:∀u∈xs,(∃z,u=.str z)∨∃n,u=.int n)(f:∀u∈ys,(∃z,u=.str z)∨∃n,u=.int n):jN xs ys=true↔xs=ys:=by
 unfold jN;rw[Bool.and_eq_true_iff];constructor
 ·rintro⟨g,h⟩;have i:xs.length=ys.length:=by simpa using h
  refine ext_getElem i λj a b=>?_;have:=all_eq_true.mp g j (by simp;omega);have k:xs.getD j .non=xs[j]:=by simp[List.getD,a]
  have l:ys.getD j .non=ys[j]:=by simp[List.getD,b]
  rw[k,l]at this;exact(Rj (d _ (getElem_mem a)) (f _ (getElem_mem b))).mp this
 ·rintro rfl;refine⟨all_eq_true.mpr λj c=>?_,Zs⟩;have c:j<xs.length:=by simpa using c
  have e:xs.getD j .non=xs[j]:=by simp[List.getD,c]
  rw[e];exact(Rj (d _ (getElem_mem c)) (d _ (getElem_mem c))).mpr rfl
def Bh(y:An):∀u∈y.vs,(∃z,u=.str z)∨∃n,u=.int n:=by
 intro u a;cases y<;>simp only [An.vs,mem_cons,QZR,or_false]at a<;>rcases a with rfl|rfl|rfl<;>first|exact .inl ⟨_,rfl⟩|exact .inr ⟨_,rfl⟩
def aA4{y a:An}(h:y.vs=a.vs):y=a:=by
 cases y<;>cases a<;>simp only [An.vs]at h<;>first
  | rfl
  | (injection h with b c;injection b with b;exact QZW b Zk)
  | (simp at h;rw[An.is1.injEq];omega)
  | (simp at h;rw[An.is2.injEq];omega)
  | (simp at h;rw[An.short.injEq];omega)
  | (simp at h;rw[An.full.injEq];omega)
  | (simp at h;rw[h])
  | (simp at h)
def aCA{y:An}{zs:List (TD×An)}:tJ y.vs (zs.map λz=>(z.1,z.2.vs))=true↔y∈zs.map (·.2):=by
 unfold tJ;rw[any_map,any_eq_true];constructor
 ·rintro⟨z,a,e⟩;have:=aA4 ((Bg (Bh _) (Bh _)).mp e);rw[<- this];exact mem_map_of_mem a
 ·intro h;obtain⟨z,a,e⟩:=Zmm.mp h;exact⟨z,a,(Bg (Bh _) (Bh _)).mpr (by rw[e])⟩
def Vy(y a:An):jO y.vs a.vs:=λj u v b c=>by
 have f:∀ {y:An}{u:V},u∈y.vs->dY u=true:=λ{y u} d=>by rcases Bh y u d with⟨z,rfl⟩|⟨n,rfl⟩<;>rfl
 exact⟨f (jI b),f (jI c)⟩
def aCB:Sp:=λvs H Q _=>∃(b:TD)(a:List RX)(d:List TD),vs=[.ref b]/\RxsAt H b a d/\(∀r∈a,lX r)/\a.length<=100/\RX.Whole a/\(∀(o:Option Nat)(c:Hp),hJ a o->Same H c->Q (aCu o) c)
def uQ{C:TD}(T:Txt K mg)(nk:aG P w K mg base 7 "first_odd" QZK Xk)(a9:aG P w K mg base 1 "by_numbers" QZt rX)(A2:aG P w K mg base 3 "first_book" QZK (yM C))(Q1:aG P w K mg base 4 "right_answers" QZH (aCz C))(A3:aG P w K mg base 2 "changes_of" QZx Pr)(w9:rG P w K mg base 2 C "change" QZm (qI C))(D:DefAt K mg "first_wrong" fW QZK):aG P w K mg base 8 "first_wrong" QZK aCB:=by
 refine D.gg cC (λa6 cdv a7 outer s a0 vs b0 b1 f h=>?_)
 ·obtain⟨O,a,H,rfl,g,hf,hl,l,a1⟩:=h;have d6:=dH f;have U5:=f.units;have le:=g.len;refine⟨_,(lj (mh (i:=1) cC.nd (mf nk f rfl (kx (ku 0) lg))) (lj (nv (mo R.fm (ku 1) ue) (md R.ij) nw) (lj (mh (i:=2) cC.nd (mf a9 f rfl (kx (ku 0) (kx lq lg)))) (lj (mh (i:=3) cC.nd (mf A2 f rfl (kx (ku 0) lg))) (lj (qr PassesOwn.never rfl (R.il (K:=K) rfl T.b_enumerate (ku 0)) (FM (K:=K) (n:=2) rfl (qp (ny (i:=4) cC.nd) (qp (ny (i:=5) cC.nd) FS))) (md (nv (mo nz (li (lx (K:=K)) (ku 5) kz) lq) (lj (mh (i:=6) cC.nd (li (lx (K:=K)) (ug d6 (ku 2) (li (lx (K:=K)) (ku 5) kz)) kz)) (lj (nv (mo (R.im U5) (li (lx (K:=K)) (ku 5) kz) (mf Q1 f rfl (kx (ku 3) (kx (ku 6) lg)))) (md (mi (ku 4))) nw) (md (qu (xz w9 f (ku 3) (kx (mf A3 f rfl (kx (ku 6) (kx (li (lx (K:=K)) (ku 5) kz) lg))) lg)))))) nw))) (md (mi ue))))))),?_⟩;refine⟨O,a,H,rfl,g,hf,Zo,λo H1 ho s1=>?_⟩;dsimp only [aJ];cases o with
  | some i=>exact QZW (Qh ho (o':=none) l) nofun
  | none=>
   have tm:=wG l;refine⟨O,"came",a,H,rfl,g.same s1,Zo,λA H2 GI gcd s2=>?_⟩;dsimp only [aJ];have Q:=s1.trans s2;refine⟨O,a,H,rfl,g.same Q,Zo,l,λp S d H3 fp fd gp gd s3=>?_⟩;have MF:p≠d:=cI gp gd nofun;have GS:=Q.trans s3;have fp0:=Q.free fp;have fd0:=Q.free fd;have HA:=s3 _ _ gcd;have ncd:A≠d:=aF gcd fd;have ncp:A≠p:=aF gcd fp;dsimp only [aJ];refine bJ (λx u=>hJ a none/\Same a0 u) (λnx a8=>?_) ?_
   ·refine⟨_,QYJ (GS _ _ g.lst),zY (xs:=H.map V.ref) (λi x u=>∃(b:List (Str × Int))(o4 o5 o6:Option V),x=[some (.ref O),some .non,some (.ref A),some (.ref p),o4,o5,o6]/\u p=some (.ins C S [("amounts",.ref d)])/\u d=some (.dK (jH b))/\u A=some (.dK (aN [] (bR "came" a H a.length)))/\(b.map (·.1)).Nodup/\(∀z,cM b z=(dC a i z:Int))/\(∀z,dC a i z<=1000000000000)/\b.length<=(bY a).length+2*(bP (a.take i)).length/\(∀j r,j<i->a[j]?=some r->gZ a j r)/\Same a0 u) (λi x u ⟨_,_,_,_,_,_,_,_,_,_,_,_,_,s'⟩=>QYJ (s' _ _ g.lst))
     ⟨eP a,_,_,_,rfl,gp,gd,HA,mQ l,λz=>uF l z,Dx hf,by rw[pB];omega,λj r hj=>QZW hj (Nat.not_lt_zero _),GS⟩ ?_ ?_⟩
    ·rintro i a2 x U te hx ⟨b,o4,o5,o6,rfl,m,B,E,I,J,W,ln4,F,c⟩ MT;refine yE0 ((g.same c).get hx) (yE2 λa3 r=>yA4 λζ ha q X=>?_);subst ζ;have MG:i<a.length:=(Zgs.mp q).1;have G:=aE (o:=.tup [.int (i:Int),.ref a3]) MT;refine⟨te,_,rfl,QYK aA,rfl,_,_,rfl,_,_,rfl,rfl,?_⟩;generalize aI U te (.tup [.int (i:Int),.ref a3])=H5 at G;replace m:=G _ _ m;replace B:=G _ _ B;replace E:=G _ _ E;replace c:=c.trans G;replace X:=X.tk G.tk;refine yE0 (eI X) (yE1 λxs=>yA4 λa5 x0 x1 x2=>?_);have j3:=aM q;refine⟨_,QYK a5,_,x0,?_⟩;show if decide (bE r="done")=true then _ else _
     refine bA (λh=>?_) (λh=>?_)
     ·refine yE0 (oY (U6 h)) (yE3 λn t y ζ=>?_);subst ζ;obtain⟨cy,gr,gy⟩:=X;refine yE0 (dG l (jI q)) (yE4 λt0 pp kk xd=>yA2 λC7 T5=>?_);have my:xd.Ok:=hf _ C7;have NF:=eW l C7;refine yE0 (pE l (g.same c) C7) (yE3 λca cb ct=>yA3 λhv yi uq=>?_);have yj:DGet H5 A (.int (n:Int)) (some (.ref ca)):=by rw[<- hv];exact DGet.k (k:=Sum.inl (n:Int)) E
      refine⟨_,QYK gr,_,rfl,A,_,rfl,yj,_,QYK yi,_,rfl,?_⟩;dsimp only [aJ];have bkA:BookAt C H5 p b:=⟨⟨S,d,m,B⟩,I⟩;refine⟨_,QYK gr,_,rfl,p,cb,xd,b,dC a i,rfl,bkA,uq,my,J,λb2 zs H6 gl hz ez v=>?_⟩;refine⟨y.vs,zs.map (λz=>(z.1,z.2.vs)),v _ _ gy,by rw[gl,map_map];rfl,λz vb=>?_,?_⟩
      ·obtain⟨z',NG,rfl⟩:=Zmm.mp vb;exact⟨hz z' NG,Vy _ _⟩
      ·have ub:=aCA (y:=y) (zs:=zs);rw[ez]at ub;show if (!tJ y.vs (zs.map λz=>(z.1,z.2.vs)))=true then _ else _
       refine bA (λY=>?_) (λY=>?_)
       ·refine a1 (some i) H6 ⟨⟨_,q,λFU=>?_⟩,F⟩ (c.trans v);have:=ub.mpr (FU xd NF);rw[this]at Y;cases Y
       ·have Z:y∈dS (dC a i) xd:=ub.mp (by simpa using Y);obtain⟨qq,hR⟩:=Ri Z;obtain⟨ea,hG⟩:=jA my hR;have NH:gZ a i (.done n t y):=λx' M1=>by rw[NF]at M1;cases M1;exact Z
        refine⟨S,_,v _ _ m,nP _ Zk,_,QYK (v _ _ gr),_,rfl,cb,cy,xd,y,rfl,v _ _ uq,v _ _ gy,T5,λtp TC H7 s7 g7 DU NI=>?_⟩;have lz:TC.length<=2:=by
         have:=congrArg length NI;rw[aS]at this;have:=kT xd y;omega
        have L:=v.trans s7;refine⟨p,S,d,tp,b,TC,rfl,L _ _ m,L _ _ B,I,g7,DU,?_,λqc hq=>?_,λH8 g8 k8=>?_⟩
        ·have:=nV a (i+1);rw[j3,eQ,lZ]at this;have:(bP (a.take i)).length+1<=(bP a).length:=this;omega
        ·rw[NI]at hq;have:=Aw W my hR qc hq;unfold Pu;rw[J];exact this
        ·rw[NI]at g8;have M:dC a (i+1)=after (dC a i) xd y:=by rw[fS q];show(match fR a n with|some a2=>after (dC a i) a2 y|none=>dC a i)=_;rw[NF]
         refine⟨nE b (nH xd y),_,_,_,rfl,k8 _ _ (L _ _ m) MF,g8,k8 _ _ (L _ _ E) ncd,pA _ _ I,λz=>?_,?_,?_,λj r' hj e=>?_,λb3 o a4=>k8 _ _ (L _ _ (c _ _ a4)) (aF a4 fd0)⟩
         ·rw[pC _ _ _ hG J,ea,M]
         ·rw[M];exact tP W hR
         ·have h1:=jT (nH xd y) b;have h2:=kT xd y;rw[j3,eQ,lZ];show _<=_+2*(_+1);omega
         ·rcases lt_or_ge j i with N|N
          ·exact F j r' N e
          ·have:j=i:=by omega
           subst this;rw[q]at e;cases e;exact NH
     ·have M:dC a (i+1)=dC a i:=by
       rw[fS q];cases r with
       | done n t y=>exact QZW rfl (U0 h)
       | _=>rfl
      refine⟨b,_,_,_,rfl,m,B,E,I,λz=>by rw[M];exact J z,by rw[M];exact W,?_,λj r' hj e=>?_,c⟩
      ·rw[j3,eQ,lZ];omega
      ·rcases lt_or_ge j i with N|N
       ·exact F j r' N e
       ·have:j=i:=by omega
        subst this;rw[q]at e;cases e
        cases r with
        | done n t y=>exact QZW rfl (U0 h)
        | _=>trivial
    ·refine λx U=>yE4 λb o4 o5 o6=>yA10 λζ m B E I J W ln4 F c=>?_;subst ζ;rw[aS,<- le]at F;exact a8 _ _ ⟨λi r e=>F i r (Zgs.mp e).1 e,c⟩
   rintro x U ⟨Z,c⟩;exact a1 none U Z c
def uR:Sp:=λvs H Q _=>∃(d b c:TD)(a:List RX)(j:List TD)(F:Nat->Str->Nat)(f:Str->Nat),vs=[.ref d,.ref c]/\Dk H d b/\RxsAt H c a j/\a.length<=43/\(bY a).length+2*(bP a).length<=43/\(eJ a).length<=43/\RX.Whole a/\(∀r∈a,Dl r)/\RepF a F f/\c≠d/\c≠b ∧
 ∀(p:TD)(os:List TD)(h:List RX)(e i:Nat)(g:Hp),H p=none->RxsAt g p h os->Qy a f e i (jX a) h->1<=e->e<=1000000000000->IsMax (turnL a) (i:Int)->Fw d b H g->Q (.ref p) g
def Bi(T:Txt K mg)(C0:aG P w K mg base 2 "_law_end" QZN bS)(vk:aG P w K mg base 6 "folded" QZg Bb)(D:DefAt K mg "_law_folded" cV QYV):aG P w K mg base 7 "_law_folded" QYV uR:=by
 refine D.gg fZ (λa0 cdv a6 outer s H vs a7 a9 J h=>?_)
 ·revert h;refine yE7 λd a1 f a L F a0=>yA12 λζ X y hl tm IY hw yo NJ nd nb a4=>?_;subst ζ;have U5:=J.units;have le:=y.len;refine⟨_,(lj (mh (i:=2) fZ.nd (ou rfl (js:=[none]) (N:=QZI) (CompScope.by (aB cV) QYW rfl rfl Zk) (aQ rfl) (ot (K:=K) (ku 1)) (λa2 U W Y=>⟨(ny (i:=0) (show(QZI:List Str).Nodup by decide +kernel)),(qo (mo nz (li (lx (K:=K)) (ku 0) kz) lq)),(li (lx (K:=K)) (ku 0) kz)⟩))) (lj (R.gs (i:=3) fZ.nd rfl (Or.inl rfl) rfl (js:=[none,some 2]) (N:=["_law_row","_law_done"]) (CompScope.by (aB cV) QYW rfl rfl Zk) (aQ rfl) (ot (K:=K) (ku 1)) (λa2 U W Y=>⟨(ny (i:=0) (show(["_law_row","_law_done"]:List Str).Nodup by decide +kernel)),(qo (qv (ww (mo nz (li (lx (K:=K)) (ku 0) kz) lq) (AT (mo (R.ko (K:=K)) (li (lx (K:=K)) (ku 0) kz) (ku 1)))))),(li (lx (K:=K)) (ku 0) kz)⟩) rfl) (lj (mh (i:=4) fZ.nd (oi (R.dw (K:=K) rfl) rfl T.b_max lK (kx (me sn (oh (kx kz lg)) (ou rfl (js:=[none]) (N:=QZI) (CompScope.by (aB cV) QYW rfl rfl Zk) (aQ rfl) (ot (K:=K) (ku 1)) (λa2 U W Y=>⟨(ny (i:=0) (show(QZI:List Str).Nodup by decide +kernel)),(qo (mo (qt (K:=K)) (li (lx (K:=K)) (ku 0) kz) (mj (kx lq (kx lq (kx lq lg)))))),(li (lx (K:=K)) (ku 0) kz)⟩))) lg))) (md (mi (mf vk J rfl (kx (ku 1) (kx (me oa kz (mf C0 J rfl (kx (ku 0) (kx (me re kz kz) lg)))) (kx (ku 4) (kx (ku 3) lg)))))))))),?_⟩;refine⟨f,rfl,⟨_,QYJ y.lst⟩,Qz "done" Zk y Zo λl TF=>?_⟩;have z:=aE (o:=.lst (nI (lH "done" a))) TF;have Z:(aI H l (.lst (nI (lH "done" a)))) l=some (.lst (nI (lH "done" a))):=aA;dsimp only;generalize aI H l (.lst (nI (lH "done" a)))=M at z Z;have A:=y.same z;refine bJ (λx b=>∃(j:TD),x=[some (.ref d),some (.ref f),some (.ref l),some (.ref j),none]/\M j=none/\b j=some (.lst (nI (jX a)))/\Same M b) (λnx O=>?_) ?_
  ·refine⟨f,rfl,⟨_,QYJ A.lst⟩,?_⟩;refine aX (aY K f (L.map V.ref)) (by rw[aS];omega) (λi q b=>b=M/\q=nI ((a.take i).filterMap (nY a))) (λi q b ⟨u,e⟩=>⟨by rw[u];exact QYJ A.lst,by rw[e];unfold nI;rw[aS];exact uI _ _ _⟩) ⟨rfl,rfl⟩ (?_) (?_)
   ·rintro i a3 q b hx ⟨u,e⟩;subst u;obtain⟨b0,r,rfl,ha,i9,b6⟩:=A.get hx;obtain⟨xs,g,x0,x1,x2⟩:=eI b6;have j3:=aM i9;have no:nY a r=none->b=b/\q=nI ((a.take (i+1)).filterMap (nY a)):=λv=>⟨rfl,by rw[j3,QZQ,e,QZP,v];simp⟩
    refine⟨_,QYK g,_,x0,?_⟩;show if decide (bE r="came")=true then _ else _
    refine bA (λh=>?_) (λh=>?_)
    ·obtain⟨n,t,p,k,a3,rfl⟩:=mO (U6 h);refine⟨_,QYK g,_,x1,l,_,rfl,.inl (QYJ Z),rfl,Vv _,?_⟩;show if (!qW (.int (n:Int)) (nI (lH "done" a)))=true then _ else _
     rw[Vu Zk];refine bA (λB=>?_) (λB=>no ?_)
     ·refine⟨_,QYK g,_,x1,rfl,?_⟩;have v:nY a (.came n t p k a3)=some n:=by
       show(if jV "done" a (Sum.inl (n:Int))=true then none else some n)=_;rw[QZX (λa5=>by rw[a5]at B;cases B)]
      rw[j3,QZQ,e,QZP,v];unfold nI;rw[dW];rfl
     ·show(if jV "done" a (Sum.inl (n:Int))=true then none else some n)=_;rw[QZY (by simpa using B)]
    ·refine no ?_;cases r<;>first|rfl|exact QZW rfl (U0 h)
   ·rintro q b ⟨u,e⟩;intro j GZ;subst u;rw[aS,<- le,iI (aZ _)]at e;exact O _ _ ⟨j,rfl,GZ,by rw[aA,e];rfl,aE GZ⟩
  rintro x C ⟨j,rfl,fnl,gnl,s2⟩;have f2:Fw d a1 H C:=(Fw.refl X).same (z.trans s2);have ZD:(jX a).length<=43:=gL (length_filterMap_le _ _) hl;have R2:=(A.same s2);refine bJ (λx b=>∃(c:Nat),x=[some (.ref d),some (.ref f),some (.ref l),some (.ref j),some (.int (c:Int))]/\IsMax (turnL a) (c:Int)/\Same C b) (λnx O=>?_) ?_
  ·refine⟨eL rfl,λQ vc=>?_⟩;have E:=aE (o:=.lst [.int 0]) vc;have g6:(aI C Q (.lst [.int 0])) Q=some (.lst [.int 0]):=aA;generalize aI C Q (.lst [.int 0])=Hd at E g6;refine⟨f,rfl,⟨_,QYJ (R2.same E).lst⟩,qN (R2.same E) Zo λHe se p7 vh=>?_⟩;have MM:(cY a).length<=a.length:=length_filterMap_le _ _;refine⟨_,_,aL (se _ _ g6) vh,aA,by unfold nI;rw[aS];exact eZ (by simp;omega),λp8 BQ=>?_⟩;refine⟨p8,turnL a,rfl,QYJ (by rw[aA];unfold turnL nI;simp[map_map]<;>rfl),by unfold turnL;simp,λm2 U3 T6=>?_⟩;obtain⟨c,rfl⟩:∃c:Nat,m2=(c:Int):=⟨m2.toNat,by have:=T6 0 (by unfold turnL;simp);omega⟩;exact O _ _ ⟨c,rfl,⟨U3,T6⟩,(E.trans se).trans ((aE (o:=.lst (nI (cY a))) vh).trans (aE (o:=.lst ([.int 0]++nI (cY a))) BQ))⟩
  rintro _ H3 ⟨c,rfl,htu,G⟩;have S:=f2.same G;refine⟨⟨Zd,Zd,Zd⟩,d,a1,_,rfl,S.dk,Zd,Zd,λlf H4 z0 z1 D4 I=>?_⟩;obtain⟨m,rfl⟩:∃m:Nat,lf=(m:Int):=⟨lf.toNat,Zo⟩;have zx:(10:Int)^(12:Int).toNat=1000000000000:=by decide
  rw[zx]at z1;have f4:=S.draw D4 I;have TH:=X.ne (z.free fnl);have R4:RxsAt H4 f a L:=(R2.same G).keep (Kp.tk S.dk I) (I _ _ (R2.same G).lst nd nb);have FC:∀n∈jX a,n∈bW a:=λn v=>(mY a).subset v
  refine⟨f,j,a,L,F,a0,1+m,c,jX a,?_,R4,Zo,tm,IY,hw,yo,NJ,I _ _ (G _ _ gnl) TH.1 TH.2,FC,Zo,λp os out H5 hp Ro hF s5=>?_⟩
  ·rw[show((1+m:Nat):Int)=1+(m:Int) by omega]
  ·exact a4 p os out (1+m) c H5 (f4.free hp) Ro hF Zo Zo htu (f4.same s5)
def isC:RX->Bool|.came _ _ _ _ _=>true|_=>false
def Vz(r:RX):decide (bE r="came")=isC r:=by cases r<;>rfl
def Gm{K:W.Frag}{n:Type}{js:List (Option Nat)}{u:TT}{v:TE}{t:St}{H:Hp}{Q:List V->Hp->Prop}{o:TD}{rs:List RX}{y:List TD}(RR:RxsAt H o rs y)(T:rs.length<=100)(f:RX->Bool)(val:n->V)(G:Hp->RX->n->Prop)(z:∀H b r w,Same H b->G H r w->G b r w)(J:∀(a:TD)(r:RX)(b:Hp)(k:Bool->Hp->Prop),r∈rs->r.At b a->(∀c,Same b c->k (f r) c)->u ((xK js t).set 0 (some (.ref a))) b k)(L:∀(a:TD)(r:RX)(b:Hp)(A:VK),r∈rs->f r=true->r.At b a->(∀w c,Same b c->G c r w->A (val w) c)->v ((xK js t).set 0 (some (.ref a))) b A)(M:∀(prs:List (RX×n))(b:Hp),Same H b->(∀p∈prs,G b p.1 p.2)->prs.map (·.1)=rs.filter f->Q (prs.map λp=>val p.2) b) :
  iK js (aJ 0) u v t (Rr K o) H Q:=by
 have le:=RR.len;refine aX (aY K o (y.map V.ref)) (by rw[aS];omega) (λi l b=>∃prs:List (RX×n),l=prs.map (λp=>val p.2)/\(∀p∈prs,G b p.1 p.2)/\prs.map (·.1)=(rs.take i).filter f/\Same H b)
  (λi l b ⟨prs,e,_,N,d⟩=>⟨QYJ (d _ _ RR.lst),?_⟩) ⟨[],rfl,(λ_ h=>nomatch h),rfl,Same.refl _⟩ (λi x l b O ⟨prs,e,q,g,d⟩=>?_) (λl b ⟨prs,e,q,g,d⟩=>?_)
 ·have:=congrArg length N;rw[aS]at this;have R:=length_filter_le f (rs.take i);rw[oA]at R;rw[e,aS];omega
 ·obtain⟨a,r,rfl,U,B,C⟩:=(RR.same d).get O;have D:=jI B;have E:rs.take (i+1)=rs.take i++[r]:=aM B;refine J a r b _ D C λc m=>?_;have F:∀p∈prs,G c p.1 p.2:=λp j=>z _ _ _ _ m (q p j)
  cases j:f r with
  | true=>
   refine L a r c _ D j (C.tk m.tk) λw X I S=>⟨prs++[(r,w)],by rw[e,dW];rfl,λp s=>?_,?_,(d.trans m).trans I⟩
   ·rcases aH s with s|rfl
    ·exact z _ _ _ _ I (F p s)
    ·exact S
   ·rw[dW,g,E,filter_append,filter_cons,QZY j];rfl
  | false=>
   refine⟨prs,e,F,?_,d.trans m⟩;rw[g,E,filter_append,filter_cons,QZX (by rw[j];exact U7)];simp
 ·rw[aS,<- le,iI (aZ _)]at g;rw[e];exact M prs b d q g
def kvH:RX->aV×V|.has z m=>(Sum.inr z,.int (m:Int))|_=>(Sum.inl 0,.non)
theorem pH:∀rs:List RX,bY rs=(rs.filter Ft).map kvH
 | []=>rfl
 | r::rs=>by
  unfold bY;rw[QZP];have a:=pH rs;unfold bY at a;cases r with
  | has z m=>dsimp only;rw[a];rfl
  | _=>dsimp only;rw[a];rfl
def aDu(H:Hp)(r:RX)(w:W):Prop:=H w.1=some (.tup [kV w.2.1,w.2.2])/\w.2=kvH r
def Kc(r:RX):decide (bE r="has")=Ft r:=by cases r<;>rfl
def Rk{K:W.Frag}{C:St}{H:Hp}{Q:List V->Hp->Prop}{f:TD}{rs:List RX}{l:List TD}(RR:RxsAt H f rs l)(n:rs.length<=100)(o:∀(zs:List W)(b:Hp),Ww b zs->zs.map (·.2)=bY rs->zs.length<=1000->Same H b->Q (zs.map λz=>V.ref z.1) b) :
  iK [none] (aJ 0) (mT (nF mEq (nF (lF K) (vr 0) (tC (.int 0))) (tC (.str "has")))) (zL (hX (nF (lF K) (vr 0) (tC (.int 1))) (hX (nF (lF K) (vr 0) (tC (.int 2))) rE))) C (Rr K f) H Q:=by
 refine Gm RR n Ft (λw:W=>V.ref w.1) aDu (λH b r w s g=>⟨s _ _ g.1,g.2⟩) (λa r b k q d t=>?_) (λa r b D q c d u=>?_) (λj b v h i=>?_)
 ·obtain⟨E,g,x,_,_⟩:=eI d;refine⟨_,QYK g,_,x,?_⟩;have:=t b (Same.refl _);rw[<- Kc]at this;exact this
 ·cases r with
  | has z m=>exact⟨_,QYK d,_,rfl,_,QYK d,_,rfl,aO rfl,λtp y A g2=>u (tp,(Sum.inr z,.int (m:Int))) y A ⟨g2,rfl⟩⟩
  | _=>cases c
 ·have e:=o (j.map (·.2)) b (λw B=>by obtain⟨p,c,rfl⟩:=Zmm.mp B;exact(h p c).1) ?_ ?_ v
  ·rw[map_map]at e;exact e
  ·rw[pH,<- i,map_map,map_map];exact map_congr_left λp c=>(h p c).2
  ·have:=congrArg length i;rw[aS]at this;have:=length_filter_le Ft rs;rw[aS];omega
def aCC(H:Hp)(r:RX)(w:W):Prop:=H w.1=some (.tup [kV w.2.1,w.2.2])/\∃(n t:Nat)(p k:Str)(x:Dd)(b:TD),r=.came n t p k x/\w.2=(Sum.inl (n:Int),.ref b)/\H b=some (.tup x.vs)
def CameD(H:Hp)(rs:List RX)(kvs:List (aV×V)):Prop:=∀(n t:Nat)(p k:Str)(x:Dd),.came n t p k x∈rs->∃b,bB kvs (Sum.inl (n:Int))=some (.ref b)/\H b=some (.tup x.vs)
def CameD.tk{H a:Hp}{rs:List RX}{kvs:List (aV×V)}(h:CameD H rs kvs)(s:TK H a):CameD a rs kvs:=λn t p k x c=>by obtain⟨b,d,e⟩:=h n t p k x c;exact⟨b,d,s _ _ e⟩
def Ke{K:W.Frag}{σ:St}{H:Hp}{Q:List V->Hp->Prop}{B:TD}{rs:List RX}{J:List TD}(RR:RxsAt H B rs J)(m:RX.Whole rs)(L:rs.length<=100)(M:∀(zs:List W)(a:Hp),Ww a zs->zs.length<=1000->CameD a rs (aN [] (zs.map (·.2)))->Same H a->Q (zs.map λz=>V.ref z.1) a) :
  iK [none] (aJ 0) (mT (nF mEq (nF (lF K) (vr 0) (tC (.int 0))) (tC (.str "came")))) (zL (hX (nF (lF K) (vr 0) (tC (.int 1))) (hX (nF (lF K) (vr 0) (tC (.int 5))) rE))) σ (Rr K B) H Q:=by
 refine Gm RR L isC (λw:W=>V.ref w.1) aCC (λH a r w s g=>⟨s _ _ g.1,by refine yE0 g.2 (yE6 λn t p k x b=>yA3 λc d N=>?_);exact⟨n,t,p,k,x,b,c,d,s _ _ N⟩⟩) (λa0 r a k f o O=>?_) (λa0 r a Q' f u o h=>?_) (λj a R c d=>?_)
 ·obtain⟨xs,g,S,_,_⟩:=eI o;refine⟨_,QYK g,_,S,?_⟩;have:=O a (Same.refl _);rw[<- Vz]at this;exact this
 ·cases r with
  | came n t p k x=>
   obtain⟨b,g,T⟩:=o;exact⟨_,QYK g,_,rfl,_,QYK g,_,rfl,aO rfl,λtp U C g2=>h (tp,(Sum.inl (n:Int),.ref b)) U C ⟨g2,n,t,p,k,x,b,rfl,rfl,C _ _ T⟩⟩
  | _=>cases u
 ·have e:=M (j.map (·.2)) a (λw m=>by obtain⟨p,u,rfl⟩:=Zmm.mp m;exact(c p u).1) ?_ ?_ R
  ·rw[map_map]at e;exact e
  ·have:=congrArg length d;rw[aS]at this;have:=length_filter_le isC rs;rw[aS];omega
  ·intro n t p k x f;rw[map_map];have X:RX.came n t p k x∈j.map (·.1):=by rw[d];exact mem_filter.mpr ⟨f,rfl⟩
   obtain⟨q,h,eq⟩:=Zmm.mp X;obtain⟨_,n1,t1,p1,k1,x1,b1,D,Y,g1⟩:=c q h;rw[eq]at D;cases D;obtain⟨v,E⟩:=uB (k:=Sum.inl (n:Int)) (l:=j.map ((·.2)∘(·.2))) (kvs:=[]) (.inl (by rw[map_map];exact Zmm.mpr ⟨q,h,by show q.2.2.1=_;rw[Y]⟩));rcases kW E with y|y
   ·obtain⟨A,F,i⟩:=Zmm.mp y;obtain⟨_,G,Z,p2,k2,x2,b2,e4,e5,g2⟩:=c A F;have i:A.2.2=(Sum.inl (n:Int),v):=i;rw[e5]at i;injection i with e6 e7
    have:G=n:=by have:=Sum.inl.inj e6;omega
    subst this;have I:RX.came G Z p2 k2 x2∈rs:=by
     have:A.1∈rs.filter isC:=by rw[<- d];exact mem_map_of_mem F
     rw[e4]at this;exact(mem_filter.mp this).1
    have:=dF m f I;cases this;exact⟨b2,by rw[E,<- e7],g2⟩
   ·cases y
def CameD.get{H:Hp}{a:TD}{rs:List RX}{kvs:List (aV×V)}(h:CameD H rs kvs)(g:H a=some (.dK kvs)){n t:Nat}{p k:Str}{x:Dd}(c:.came n t p k x∈rs):∃b,DGet H a (.int (n:Int)) (some (.ref b))/\H b=some (.tup x.vs):=by
 obtain⟨b,d,e⟩:=h n t p k x c;exact⟨b,by rw[<- d];exact DGet.k (k:=Sum.inl (n:Int)) g,e⟩
def uS:Sp:=λvs H Q _=>∃(bk t c:TD)(a:List (Str×Int))(x:Dd)(y:An),vs=[.ref bk,.ref t,.ref c]/\H bk=some (.dK (jH a))/\a.length<=900/\H t=some (.tup x.vs)/\H c=some (.tup y.vs)/\An.Of x y ∧
 ∀(b:Hp),b bk=some (.dK (jH (nE a (nH x y))))->K1 bk H b->Q .non b
def Bj(T:Txt K mg)(O:aG P w K mg base 1 "_law_changes" QZr nT)(D:DefAt K mg "_law_changed" eC QZA):aG P w K mg base 2 "_law_changed" QZA uS:=by
 refine D.gg cN (λa2 cdv a3 outer s a4 vs a5 a6 G a0=>?_)
 ·revert a0;refine yE6 λbk t c F x y=>yA7 λζ o hl gt Q R a1=>?_;subst ζ;have H:=dH G;refine⟨_,(md (qr PassesOwn.never rfl (ot (K:=K) (mf O G rfl (kx (ku 1) (kx (ku 2) lg)))) (FM (K:=K) (n:=2) rfl (qp (ny (i:=3) cN.nd) (qp (ny (i:=4) cN.nd) FS))) (md (ut (me oa (K8 H (ku 0) (ku 3) kz) (ku 4)) (u8 (ku 0) (ku 3) (yx H)))))),?_⟩;refine⟨t,c,x,y,rfl,gt,Q,R,λl ps I S g1 J q=>⟨l,rfl,⟨_,QYJ g1⟩,?_⟩⟩;have U:bk≠l:=aF o S;have h2:=kT x y;have W:(nH x y).length=ps.length:=J.length;refine cD (aY K l (ps.map V.ref)) (λi d f=>∃(r u:Option V),d=[some (.ref bk),some (.ref t),some (.ref c),r,u]/\f bk=some (.dK (jH (nE F ((nH x y).take i))))/\K1 bk I f/\f l=some (.lst (ps.map V.ref))) (λi d f ⟨_,_,_,_,_,e⟩=>QYJ e)
   ⟨_,_,rfl,q _ _ o,(λ_ _ e _=>e),g1⟩ ?_ ?_
  ·rintro i v d L b ⟨r,u,rfl,a,g,M⟩;rw[fK]at b;cases A:ps[i]? with
   | none=>rw[A]at b;cases b
   | some p=>
    rw[A]at b;cases b;obtain⟨X,Y⟩:=Zgs.mp A;obtain⟨Z,B⟩:=Paired.get' (j:=i) J X;rw[Y]at B;have N:(nH x y)[i]?=some (nH x y)[i]:=eT Z;generalize (nH x y)[i]=cc at B N;obtain⟨z,oy⟩:=cc;have C:I p=some (.tup [.str z,.int oy]):=B;have qa:=g _ _ C (λe=>by rw[e,q _ _ o]at C;cases C);refine⟨p,_,rfl,QYK qa,rfl,_,_,rfl,_,_,rfl,rfl,?_⟩;refine⟨bk,rfl,Fn a,_,DGet.k (k:=Sum.inr z) a,?_⟩;rw[mH];have lc:=jT ((nH x y).take i) F;have lt:=List.length_take_le i (nH x y);refine⟨bk,_,rfl,DPut.k (k:=Sum.inr z) a (by unfold jH;rw[aS];exact oC (m:=1000) Zo Zd),?_⟩;refine⟨_,_,rfl,?_,λc' o' E h=>?_,?_⟩
    ·rw[aA,uE,aM N,qH]
    ·rw[aD h];exact g _ _ E h
    ·rw[aD U.symm];exact M
  ·rintro d L ⟨r,u,rfl,a,g,M⟩;rw[aS,<- W,iI (aZ _)]at a;exact a1 L a (λc' o' E h=>g _ _ (q _ _ E) h)
def wO:Sp:=λvs H Q _=>∃(d:TD)(a:List RX)(e:List TD)(F:Nat->Str->Nat)(f:Str->Nat),vs=[.ref d]/\RxsAt H d a e/\a.length<=100/\(bY a).length+2*(bP a).length<=43/\RX.Whole a/\(∀r∈a,Dl r)/\RepF a F f ∧
 ∀(bk:TD)(b:List (Str×Int))(c:Hp),H bk=none->c bk=some (.dK (jH b))->(b.map (·.1)).Nodup->(∀z,cM b z=(f z:Int))->b.length<=43->Same H c->Q (.ref bk) c
def Dy(T:Txt K mg)(y9:aG P w K mg base 2 "_law_changed" QZA uS)(D:DefAt K mg "_law_book" fO ["_law_rows"]):aG P w K mg base 3 "_law_book" ["_law_rows"] wO:=by
 refine D.gg iZ (λa5 cdv a6 outer s H vs a7 a9 hr h=>?_)
 ·revert h;refine yE5 λk j as F ff=>yA8 λζ l hl tm m hok G a1=>?_;subst ζ;have d6:=dH hr;have le:=l.len;refine⟨_,(lj (mh (i:=1) iZ.nd (zn (R.gu (K:=K) rfl) rfl T.b_dict rO (kx (ou rfl (js:=[none]) (N:=QZI) (CompScope.by (aB fO) QYS rfl rfl Zk) (aQ rfl) (ot (K:=K) (ku 0)) (λa2 s₂ H₂ fp=>⟨(ny (i:=0) (show(QZI:List Str).Nodup by decide +kernel)),(qo (mo nz (li (lx (K:=K)) (ku 0) kz) lq)),(mj (kx (li (lx (K:=K)) (ku 0) kz) (kx (li (lx (K:=K)) (ku 0) kz) lg)))⟩)) lg))) (lj (mh (i:=2) iZ.nd (zn (R.gu (K:=K) rfl) rfl T.b_dict rO (kx (ou rfl (js:=[none]) (N:=QZI) (CompScope.by (aB fO) QYS rfl rfl Zk) (aQ rfl) (ot (K:=K) (ku 0)) (λa2 s₂ H₂ fp=>⟨(ny (i:=0) (show(QZI:List Str).Nodup by decide +kernel)),(qo (mo nz (li (lx (K:=K)) (ku 0) kz) lq)),(mj (kx (li (lx (K:=K)) (ku 0) kz) (kx (li (lx (K:=K)) (ku 0) kz) lg)))⟩)) lg))) (lj (qr PassesOwn.never rfl (ot (K:=K) (ku 0)) (ny (i:=3) iZ.nd) (md (nv (mo nz (li (lx (K:=K)) (ku 3) kz) lq) (md (qu (mf y9 hr rfl (kx (ku 1) (kx (ug d6 (ku 2) (li (lx (K:=K)) (ku 3) kz)) (kx (li (lx (K:=K)) (ku 3) kz) lg)))))) nw))) (md (mi (ku 1)))))),?_⟩;refine bJ (λd a=>∃(bk:TD),d=[some (.ref k),some (.ref bk),none,none]/\H bk=none/\a bk=some (.dK (jH (eP j)))/\Same H a) (λnx L=>?_) ?_
  ·refine⟨k,rfl,⟨_,QYJ l.lst⟩,Rk l hl λb a M ez O v=>?_⟩;intro p q;have x:(aI a p (.lst (b.map λz=>V.ref z.1))) p=some (.lst (b.map λz=>V.ref z.1)):=aA;have r:Same H (aI a p (.lst (b.map λz=>V.ref z.1))):=v.trans (aE q);have A:Ww (aI a p (.lst (b.map λz=>V.ref z.1))) b:=λz Q=>aL (M z Q) q
   generalize aI a p (.lst (b.map λz=>V.ref z.1))=S at x r A;refine⟨b,QYJ x,A,O,λbk GB=>?_⟩;refine L _ _ ⟨bk,rfl,r.free GB,?_,r.trans (aE GB)⟩;rw[aA,ez,mP,qA (mQ m)]
  rintro d S ⟨bk,rfl,fbk,xh,r⟩;refine bJ (λd a=>∃(f:TD)(u:List (aV×V)),d=[some (.ref k),some (.ref bk),some (.ref f),none]/\f≠bk/\a f=some (.dK u)/\CameD a j u/\Same S a) (λnx L=>?_) ?_
  ·have R1:=l.same r;refine⟨k,rfl,⟨_,QYJ R1.lst⟩,Ke R1 m hl λb a M O U v=>?_⟩;intro p q;have x:(aI a p (.lst (b.map λz=>V.ref z.1))) p=some (.lst (b.map λz=>V.ref z.1)):=aA;have g:Same S (aI a p (.lst (b.map λz=>V.ref z.1))):=v.trans (aE q);have A:Ww (aI a p (.lst (b.map λz=>V.ref z.1))) b:=λz Q=>aL (M z Q) q
   have TJ:=U.tk (Same.tk (aE (o:=.lst (b.map λz=>V.ref z.1)) q));generalize aI a p (.lst (b.map λz=>V.ref z.1))=H2 at x g A TJ;refine⟨b,QYJ x,A,O,λf W=>?_⟩;exact L _ _ ⟨f,_,rfl,(aF (g _ _ xh) W).symm,aA,TJ.tk (Same.tk (aE W)),g.trans (aE W)⟩
  rintro d H2 ⟨f,u,rfl,ncb,gcd,U,BV⟩;have BY:=r.trans BV;refine⟨k,rfl,⟨_,QYJ (BY _ _ l.lst)⟩,cD (aY K k (as.map V.ref)) (λi d a=>∃(c:List (Str × Int))(X:Option V),d=[some (.ref k),some (.ref bk),some (.ref f),X]/\a bk=some (.dK (jH c))/\(c.map (·.1)).Nodup/\(∀z,cM c z=(F i z:Int))/\c.length<=(bY j).length+2*(bP (j.take i)).length/\Same H a/\a f=some (.dK u)/\CameD a j u) (λi d a ⟨_,_,_,_,_,_,_,v,_⟩=>QYJ (v _ _ l.lst))
   ⟨eP j,_,rfl,BV _ _ xh,mQ m,λz=>by rw[G.z];exact uF m z,by rw[pB];omega,BY,gcd,U⟩ ?_ ?_⟩
  ·refine λi b0 d Y hx=>yE2 λc X=>yA8 λζ B I C J g Z NL=>?_;subst ζ;refine yE0 ((l.same g).get hx) (yE2 λb1 a0=>yA4 λζ ha E b6=>?_);subst ζ;have MG:i<j.length:=(Zgs.mp E).1;obtain⟨xs,a3,x0,x1,x2⟩:=eI b6;have j3:=aM E;refine⟨_,QYK a3,_,x0,?_⟩;show if decide (bE a0="done")=true then _ else _
   refine bA (λh=>?_) (λh=>?_)
   ·obtain⟨n,t,y,rfl⟩:=oY (U6 h);obtain⟨cy,gr,gy⟩:=b6;refine yE0 (G.done i n t y E) (yE5 λt0 pp kk xd qq=>yA3 λC7 hR vg=>?_);refine yE0 (dG m (jI E)) (yE4 λYS YT IV YU=>yA2 λBN T5=>?_);have GF:=dF m C7 BN;injection GF with _ _ _ _ e5
    subst e5;have my:xd.Ok:=hok _ C7;obtain⟨cb,yj,uq⟩:=NL.get Z C7;obtain⟨ea,hG⟩:=jA my hR;have TF:=nV j i;refine⟨_,QYK gr,_,rfl,f,_,rfl,yj,_,QYK gr,_,rfl,bk,cb,cy,c,xd,y,rfl,B,Zo,uq,gy,T5,λH4 g3 k3=>?_⟩;have tk:TK Y H4:=λa4 xs e=>k3 _ _ e (cI e B λz=>nomatch z)
    refine⟨nE c (nH xd y),_,rfl,g3,pA _ _ I,λz=>?_,?_,λa4 o e=>k3 _ _ (g _ _ e) (aF e fbk),k3 _ _ Z ncb,NL.tk tk⟩
    ·rw[pC _ _ _ hG C,ea,vg]
    ·have h1:=jT (nH xd y) c;have h2:=kT xd y;rw[j3,eQ,lZ];show _<=_+2*(_+1);omega
   ·refine⟨c,_,rfl,B,I,λz=>?_,?_,g,Z,NL⟩
    ·rw[G.rest i a0 E (U0 h)];exact C z
    ·rw[j3,eQ,lZ];omega
  ·refine λd Y=>yE2 λc X=>yA8 λζ B I C J g _ _=>?_;subst ζ;rw[aS,<- le]at C J;rw[iI (aZ _)]at J;exact a1 bk c Y fbk B I (λz=>by rw[<- G.last];exact C z) Zo g
def Kf{rs ys:List RX}(h:∀r∈ys,bE r≠"has"):cO (rs++ys)=cO rs:=by
 show(rs++ys).foldl Re (λ_=>0)=rs.foldl Re (λ_=>0);rw[foldl_append,Dt ys _ h]
def Bk{rs ys:List RX}(c:RX.Whole (rs++ys))(a:RX.Whole rs){n t:Nat}{y:An}(h:.done n t y∈rs):fR (rs++ys) n=fR rs n:=by
 obtain⟨d,p,k,x,b,_⟩:=dG a h;rw[eW a b,eW c (QZU _ b)]
theorem uT{rs ys:List RX}(c:RX.Whole (rs++ys))(d:RX.Whole rs)(f:∀r∈ys,bE r≠"has"):∀i,i<=rs.length->dC (rs++ys) i=dC rs i
 | 0,_=>Kf f
 | i+1,a=>by
  have e:rs[i]?=some rs[i]:=eT a;have g:(rs++ys)[i]?=some rs[i]:=by rw[getElem?_append_left a];exact e
  rw[fS e,fS g,uT c d f i (le_of_lt a)];have b:=jI e
  revert b
  cases rs[i]with
  | done n t y=>intro b;show(match fR (rs++ys) n with|some x=>after (dC rs i) x y|none=>dC rs i)=(match fR rs n with|some x=>after (dC rs i) x y|none=>dC rs i);rw[Bk c d b]
  | _=>intro _;rfl
def wP{rs ys:List RX}(a:RX.Whole (rs++ys))(b:RX.Whole rs)(c:∀r∈ys,bE r≠"has"){i:Nat}{r:RX}(h:rs[i]?=some r):gZ (rs++ys) i r↔gZ rs i r:=by
 have d:=(Zgs.mp h).1
 cases r with
 | done n t y=>
  show(∀x,fR (rs++ys) n=some x->y∈dS (dC (rs++ys) i) x)↔∀x,fR rs n=some x->y∈dS (dC rs i) x;rw[Bk a b (jI h),uT a b c i (le_of_lt d)]
 | _=>exact Iff.rfl
def Dz{rs:List RX}(b:RX.Whole rs)(h:hJ rs none)(k:Nat):hJ (rs.take k) none:=λi r e=>by
 cases r with
 | done n t y=>
  have c:=(Zgs.mp e).1;have g:RX.Whole (rs.take k++rs.drop k):=by rw[List.take_append_drop];exact b
  have d:rs[i]?=some (.done n t y):=by rw[<- List.take_append_drop k rs,getElem?_append_left c];exact e
  refine(wP g (uK b k) (λq l a=>?_) e).mp ?_
  ·obtain⟨j,f⟩:=List.getElem?_of_mem l;rw[List.getElem?_drop]at f;cases q with
   | has z m=>
    have:=(lY b f).2.1 (.done n t y) (jI (i:=i) (by rw[List.getElem?_take_of_lt (by rw[oA]at c;omega)];exact d));exact QZW this (by show ¬ (3<=1);decide)
   | next n t=>exact QZW (show("next":Str)="has" from a) Zk
   | kept n t p k x y=>exact QZW (show("kept":Str)="has" from a) Zk
   | came n t p k x=>exact QZW (show("came":Str)="has" from a) Zk
   | asked n=>exact QZW (show("asked":Str)="has" from a) Zk
   | done n t y=>exact QZW (show("done":Str)="has" from a) Zk
  ·rw[List.take_append_drop];exact h i _ d
 | _=>trivial
theorem uU{rs:List RX}{F:Nat->Str->Nat}{f:Str->Nat}(a:RX.Whole rs)(h:RepF rs F f):∀i,i<=rs.length->dC rs i=F i
 | 0,_=>h.z.symm
 | i+1,b=>by
  have e:rs[i]?=some rs[i]:=eT b;rw[fS e,uU a h i (le_of_lt b)];revert e
  cases rs[i]with
  | done n t y=>
   intro e;obtain⟨g,p,k,x,q,c,_,d⟩:=h.done i n t y e;show(match fR rs n with|some x=>after (F i) x y|none=>F i)=_;rw[eW a c,d]
  | next n t=>intro e;exact(h.rest i _ e (show("next":Str)≠"done" by decide +kernel)).symm
  | has z m=>intro e;exact(h.rest i _ e (show("has":Str)≠"done" by decide +kernel)).symm
  | kept n t p k x y=>intro e;exact(h.rest i _ e (show("kept":Str)≠"done" by decide +kernel)).symm
  | came n t p k x=>intro e;exact(h.rest i _ e (show("came":Str)≠"done" by decide +kernel)).symm
  | asked n=>intro e;exact(h.rest i _ e (show("asked":Str)≠"done" by decide +kernel)).symm
def Rl{f:Str->Nat}{x:Dd}{q:Bool}{y:An}(h:iE f x q y):y∈dS f x:=by
 unfold dS;rcases h with⟨_,h⟩|⟨_,a,b⟩
 ·rw[h];exact gJ
 ·rw[a];exact b
def qS{rs:List RX}{F:Nat->Str->Nat}{f:Str->Nat}(a:RX.Whole rs)(h:RepF rs F f):hJ rs none:=λi r e=>by
 cases r with
 | done n t y=>
  obtain⟨g,p,k,x,q,c,d,_⟩:=h.done i n t y e;intro j b;rw[eW a c]at b;cases b;rw[uU a h i (le_of_lt (Zgs.mp e).1)];exact Rl d
 | _=>trivial
structure Behind(rs:List RX)(N T:Nat)(x:Dd):Prop where
 num:∀r∈rs,bE r≠"has"->lD r<N
 turn:∀r∈rs,r.turn<=T
 ok:x.Ok
 near:x.far=false
def Behind.whole{rs:List RX}{N T:Nat}{x:Dd}(b:Behind rs N T x)(d:RX.Whole rs)(p k:Str){y:An}(e:An.Of x y):RX.Whole (rs++[.came N T p k x,.done N T y]):=by
 have f:RX.Whole (rs++[.came N T p k x]):=.snoc d ⟨λn t p k x h=>b.num _ h (show("came":Str)≠"has" by decide +kernel),λt p k x y h=>lt_irrefl _ (b.num _ h (show("kept":Str)≠"has" by decide +kernel)),b.turn⟩;have c:RX.Whole (rs++[.came N T p k x]++[.done N T y]):=.snoc f ⟨λq a=>?_,λt y h=>?_,T,p,k,x,QZT _ gJ,e,λh=>?_⟩
 ·rw[append_assoc]at c;exact c
 ·rcases aH a with a|rfl
  ·exact b.turn q a
  ·exact aZ _
 ·rcases aH h with h|h
  ·exact lt_irrefl _ (b.num _ h (show("done":Str)≠"has" by decide +kernel))
  ·cases h
 ·rw[b.near]at h;cases h
def Behind.wrong{rs:List RX}{N T:Nat}{x:Dd}(b:Behind rs N T x)(c:RX.Whole rs){F:Nat->Str->Nat}{f:Str->Nat}(g:RepF rs F f)(p k:Str){y d:An}(B:An.Of x y)(C:aT f x=some d) :
  (y=d->hJ (rs++[.came N T p k x,.done N T y]) none)/\(y≠d->hJ (rs++[.came N T p k x,.done N T y]) (some (rs.length+1))):=by
 have i:=b.whole c p k B;have m:fR (rs++[.came N T p k x,.done N T y]) N=some x:=eW i (t:=T) (p:=p) (k:=k) (QZT _ gJ);have n:∀r∈[RX.came N T p k x,.done N T y],bE r≠"has":=λr a=>by
  simp only [mem_cons,QZR,or_false]at a;rcases a with rfl|rfl
  ·exact show("came":Str)≠"has" by decide +kernel
  ·exact show("done":Str)≠"has" by decide +kernel
 have o:(rs++[RX.came N T p k x,.done N T y])[rs.length]?=some (.came N T p k x):=by rw[getElem?_append_right (aZ _),sub_self];rfl
 have g1:(rs++[RX.came N T p k x,.done N T y])[rs.length+1]?=some (.done N T y):=by rw[getElem?_append_right Zo,show rs.length+1-rs.length=1 by omega];rfl
 have q:dC (rs++[.came N T p k x,.done N T y]) (rs.length+1)=f:=by
  rw[fS o];show dC (rs++[.came N T p k x,.done N T y]) rs.length=f;rw[uT i c n _ (aZ _),uU c g _ (aZ _),g.last]
 have l:∀j r,j<rs.length+1->(rs++[.came N T p k x,.done N T y])[j]?=some r->gZ (rs++[.came N T p k x,.done N T y]) j r:=λj r s e=>by
  rcases lt_or_ge j rs.length with z|z
  ·rw[getElem?_append_left z]at e;exact(wP i c n e).mpr (qS c g j r e)
  ·have:j=rs.length:=by omega
   subst this;rw[o]at e;cases e;trivial
 have u:dS f x=[d]:=by unfold dS;rw[C]
 have v:gZ (rs++[.came N T p k x,.done N T y]) (rs.length+1) (.done N T y)↔y=d:=by
  refine⟨λh=>?_,λh D A=>?_⟩
  ·have:=h x m;rw[q,u]at this;exact Zms.mp this
  ·rw[m]at A;cases A;rw[q,u,h];exact gJ
 refine⟨λe=>?_,λe=>?_⟩
 ·intro j r a;rcases lt_or_ge j (rs.length+1) with z|z
  ·exact l j r z a
  ·have s:=(Zgs.mp a).1;have:j=rs.length+1:=by simp at s;omega
   subst this;rw[g1]at a;cases a;exact v.mpr e
 ·exact⟨⟨_,g1,λh=>e (v.mp h)⟩,l⟩
def Wa:An->Str|.is1 _=>"is"|.is2 _ _=>"is"|.short _=>"short"|.full _=>"full"|.no _=>"no"|.ok=>"ok"
def anM:An->Nat|.is1 m=>m|.is2 m _=>m|.short m=>m|.full m=>m|_=>0
def Wb:An->Nat->An|.is1 _,m=>.is1 m|.is2 _ l,m=>.is2 m l|.short _,m=>.short m|.full _,m=>.full m|y,_=>y
def anG:An->Bool|.no _=>false|.ok=>false|_=>true
def Wc{y:An}(h:anG y=true)(m:Nat):[V.str (Wa y),.int (m:Int)]++jZ y.vs (some 2) none=(Wb y m).vs:=by cases y<;>first|rfl|cases h
def Wd{y:An}(h:anG y=true){m:Nat}(b:m≠anM y):Wb y m≠y:=by
 cases y with
 | no _=>cases h
 | ok=>cases h
 | is2 a c=>exact λe=>b (by injection e)
 | _=>exact λe=>b (by injection e)
def uV(y:An):nC y.vs 0=some (.str (Wa y)):=by cases y<;>rfl
def aA5{y:An}(h:anG y=true):nC y.vs 1=some (.int (anM y:Int)):=by cases y<;>first|rfl|cases h
def rZ(x:Dd):nC x.vs (-1)=some (.int (x.n:Int)):=by cases x<;>rfl
def We{x:Dd}{y:An}(c:x.far=false)(h:An.Of x y):anG y=true:=by
 cases x with
 | add a n=>cases y<;>first|rfl|exact h.elim
 | take a n=>cases y<;>first|rfl|exact h.elim
 | move a b n=>cases y<;>first|rfl|exact h.elim
 | _=>cases c
def Ea(x:Dd)(y:An)(a:Int):Prop:=∃m:Nat,a=(m:Int)/\An.Of x (Wb y m)
def Rm{x:Dd}{y:An}{c:Int}(f:x.far=false)(h:An.Of x y)(d:Wa y="short")(i:0<=c)(e:c<(x.n:Int)):Ea x y c:=by
 refine⟨c.toNat,Zo,?_⟩
 cases y with
 | short m=>cases x with
  | add a n=>exact h.elim
  | take a n=>show c.toNat<n;have:c<(n:Int):=e;omega
  | move a b n=>show c.toNat<n;have:c<(n:Int):=e;omega
  | _=>cases f
 | is1 m=>exact QZW (show("is":Str)="short" from d) Zk
 | is2 l m=>exact QZW (show("is":Str)="short" from d) Zk
 | full m=>exact QZW (show("full":Str)="short" from d) Zk
 | no g=>exact QZW (show("no":Str)="short" from d) Zk
 | ok=>exact QZW (show("ok":Str)="short" from d) Zk
def Wf{x:Dd}{y:An}{c:Int}(f:x.Ok)(i:x.far=false)(h:An.Of x y)(d:Wa y="full")(e:1000000000000-(x.n:Int)<c)(j:c<=1000000000000):Ea x y c:=by
 have:=f.n;refine⟨c.toNat,Zo,?_⟩
 cases y with
 | full m=>cases x with
  | add a n=>show 1000000000000<c.toNat+n/\c.toNat<=1000000000000;have:1000000000000-(n:Int)<c:=e;omega
  | take a n=>exact h.elim
  | move a b n=>show 1000000000000<c.toNat+n/\c.toNat<=1000000000000;have:1000000000000-(n:Int)<c:=e;omega
  | _=>cases i
 | is1 m=>exact QZW (show("is":Str)="full" from d) Zk
 | is2 l m=>exact QZW (show("is":Str)="full" from d) Zk
 | short m=>exact QZW (show("short":Str)="full" from d) Zk
 | no g=>exact QZW (show("no":Str)="full" from d) Zk
 | ok=>exact QZW (show("ok":Str)="full" from d) Zk
def Xp{x:Dd}{y:An}{c:Int}(i:x.far=false)(h:An.Of x y)(d:Wa y="is")(j:x.wd="add"->(x.n:Int)<=c/\c<=1000000000000)(f:x.wd≠"add"->0<=c/\c<=1000000000000-(x.n:Int)):Ea x y c:=by
 have k:0<=c:=by
  by_cases e:x.wd="add"
  ·have:=j e;omega
  ·exact(f e).1
 refine⟨c.toNat,Zo,?_⟩
 cases y with
 | is1 m=>cases x with
  | add a n=>show n<=c.toNat/\c.toNat<=1000000000000;have:=j rfl;have:(n:Int)<=c:=this.1;omega
  | take a n=>show c.toNat+n<=1000000000000;have:=f (show("take":Str)≠"add" by decide +kernel);have:c<=1000000000000-(n:Int):=this.2;omega
  | move a b n=>exact h.elim
  | _=>cases i
 | is2 l m=>cases x with
  | move a b n=>
   have o:l+n<=1000000000000/\n<=m/\m<=1000000000000:=h;show c.toNat+n<=1000000000000/\n<=m/\m<=1000000000000;have:=f (show("move":Str)≠"add" by decide +kernel);have:c<=1000000000000-(n:Int):=this.2;omega
  | _=>first|exact h.elim|cases i
 | short m=>exact QZW (show("short":Str)="is" from d) Zk
 | full m=>exact QZW (show("full":Str)="is" from d) Zk
 | no g=>exact QZW (show("no":Str)="is" from d) Zk
 | ok=>exact QZW (show("ok":Str)="is" from d) Zk
def iH(rs:List RX):List Nat:=rs.filterMap λr=>if bE r≠"has" then some (lD r) else none
def Kg{s:St}{H:Hp}{f:TD}{rs:List RX}{j:List TD}{Q:List V->Hp->Prop}(RR:RxsAt H f rs j)(t:rs.length<=100)(h:Q (nI (iH rs)) H) :
  iK [none] (aJ 0) (mT (nF mNe (nF (lF K) (vr 0) (tC (.int 0))) (tC (.str "has")))) (nF (lF K) (vr 0) (tC (.int 1))) s (Rr K f) H Q:=by
 have le:=RR.len;refine aX (aY K f (j.map V.ref)) (by rw[aS];omega) (λi c d=>d=H/\c=nI (iH (rs.take i))) (λi c d ⟨b,e⟩=>⟨by rw[b];exact QYJ RR.lst,by rw[e];unfold nI iH;rw[aS];exact uI _ _ _⟩) ⟨rfl,rfl⟩ (?_) (?_)
 ·rintro i x c d m ⟨b,e⟩;subst b;obtain⟨a,r,rfl,u,n,o⟩:=RR.get m;obtain⟨v,g,p,q,y⟩:=eI o;have k:iH (rs.take (i+1))=iH (rs.take i)++iH [r]:=by unfold iH;rw[aM n,QZQ]
  refine⟨_,QYK g,_,p,?_⟩;show if (!decide (bE r="has"))=true then _ else _
  refine bA (λh=>?_) (λh=>?_)
  ·have l:bE r≠"has":=by simpa using h
   refine⟨_,QYK g,_,q,rfl,?_⟩;have:iH [r]=[lD r]:=by unfold iH;rw[QZP,QZY l];rfl
   rw[k,e,this,(Ds l).1];unfold nI;rw[dW];rfl
  ·refine⟨rfl,?_⟩;have:iH [r]=[]:=by unfold iH;rw[QZP,QZX (by simpa using h)];rfl
   rw[k,e,this,append_nil]
 ·rintro c d ⟨b,e⟩;subst b;rw[aS,<- le,iI (aZ _)]at e;rw[e];exact h
def AllB(rs:List RX)(f:Str->Nat)(N T:Nat)(p k:Str)(x:Dd)(ys:List An)(b:Hp)(ls:List TD):Prop:=Paired (λy a=>∃c,RxsAt b a (rs++[.came N T p k x,.done N T y]) c) ys ls
def AllB.same{rs:List RX}{f:Str->Nat}{N T:Nat}{p k:Str}{x:Dd}{ys:List An}{H b:Hp}{ls:List TD}(h:AllB rs f N T p k x ys H ls)(s:Same H b):AllB rs f N T p k x ys b ls:=by
 unfold AllB at h ⊢;exact Paired.map' (λz a ⟨c,d⟩=>⟨c,d.same s⟩) h
def Rn(d a b bk ls c:TD)(e f:Str)(l:List (Option V)):St:=[some (.ref d),some (.ref a),some (.ref b),some (.ref bk),some (.str e),some (.str f),some (.ref ls),some (.ref c)]++l
def Rp:Sp:=λvs H Q _=>∃(d b c i:TD)(M:List TD)(a:List RX)(j:List TD)(F:Nat->Str->Nat)(f:Str->Nat),vs=[.ref d,.ref c,.ref i]/\Dk H d b/\MenusAt H i M/\d∉M/\b∉M/\RxsAt H c a j/\(c≠d/\c≠b)/\a.length<=100/\(bY a).length+2*(bP a).length<=43/\RX.Whole a/\(∀r∈a,Dl r)/\RepF a F f ∧
 ∀(l:TD)(ls:List TD)(N T:Nat)(p k:Str)(x:Dd)(h:List An)(e:An)(g:Hp),Behind a N T x->aT f x=some e->An.Of x e->(∀y∈h,y≠e/\An.Of x y)->h.length<=2->g l=some (.lst (ls.map V.ref))->AllB a f N T p k x (e::h) g ls->Fw d b H g->Q (.ref l) g
def Wg(T:Txt K mg)(a6:aG P w K mg base 1 "_law_draw" QZN bS)(BZ:aG P w K mg base 3 "_law_book" ["_law_rows"] wO)(L3:aG P w K mg base 2 "_law_sized" QZq lS)(V9:aG P w K mg base 1 "_law_early" QZC tQ)(J5:aG P w K mg base 2 "_law_spot" QZJ oW)(D:DefAt K mg "_law_one_more" bV QYU):aG P w K mg base 4 "_law_one_more" QYU Rp:=by
 refine D.gg aP (λfa cdv b5 outer s b1 vs b6 b7 M h=>?_)
 ·revert h;refine yE9 λd b J O b4 C as F a9=>yA13 λζ D0 hM oD oB RR nra W tm hw yo hF a4=>?_;subst ζ;have d6:=dH M;have U5:=M.units;have le:=RR.len;refine⟨_,(lj (mh (i:=3) aP.nd (mf BZ M rfl (kx (ku 1) lg))) (lj (mh (i:=4) aP.nd (li (og (K:=K)) (li (og (K:=K)) (ku 2) kz) (mf a6 M rfl (kx (ku 0) (kx (oi (o0 (K:=K)) rfl T.b_len bN (kx (li (og (K:=K)) (ku 2) kz) lg)) lg))))) (lj (mh (i:=5) aP.nd (li (og (K:=K)) (li (og (K:=K)) (ku 2) kz) (me AC (me oa (qy (K:=K) PySem.F.plainAttrs_list PySem.F.slot_list_index PySem.F.type_list_index R.jc (li (og (K:=K)) (ku 2) kz) (kx (ku 4) lg)) kz) (oi (o0 (K:=K)) rfl T.b_len bN (kx (li (og (K:=K)) (ku 2) kz) lg))))) (lj (mh (i:=6) aP.nd (oh (kx (mj (kx lq (kx (ku 4) (kx (me oa kz (mf a6 M rfl (kx (ku 0) (kx kz lg)))) lg)))) (kx (mj (kx lq (kx (ku 4) (kx kz lg)))) (kx (mj (kx lq (kx (ku 4) (kx (ku 5) (kx (me oa kz (mf a6 M rfl (kx (ku 0) (kx kz lg)))) lg))))) lg))))) (lj (mh (i:=7) aP.nd (mf L3 M rfl (kx (ku 0) (kx (ku 3) (kx (li (og (K:=K)) (ku 6) (mf a6 M rfl (kx (ku 0) (kx kz lg)))) lg))))) (lj (mh (i:=8) aP.nd (me oa kz (oi (R.dw (K:=K) rfl) rfl T.b_max lK (kx (me sn (oh (kx kz lg)) (ou rfl (js:=[none]) (N:=QZI) (CompScope.by (aB bV) QZk rfl rfl Zk) (aQ rfl) (ot (K:=K) (ku 1)) (λb2 s₂ H₂ fp=>⟨(ny (i:=0) (show(QZI:List Str).Nodup by decide +kernel)),(qo (mo P1 (li (lx (K:=K)) (ku 0) kz) lq)),(li (lx (K:=K)) (ku 0) kz)⟩))) lg)))) (lj (mh (i:=9) aP.nd (oi (R.dw (K:=K) rfl) rfl T.b_max lK (kx (me sn (oh (kx kz lg)) (ou rfl (js:=[none]) (N:=QZI) (CompScope.by (aB bV) QZk rfl rfl Zk) (aQ rfl) (ot (K:=K) (ku 1)) (λb2 s₂ H₂ fp=>⟨(ny (i:=0) (show(QZI:List Str).Nodup by decide +kernel)),(qo (mo (qt (K:=K)) (li (lx (K:=K)) (ku 0) kz) (mj (kx lq (kx lq (kx lq lg)))))),(li (lx (K:=K)) (ku 0) kz)⟩))) lg))) (lj (mh (i:=10) aP.nd (mf V9 M rfl (kx (ku 3) (kx (ku 7) lg)))) (lj (mh (i:=11) aP.nd (oh lg)) (lj (qr PassesOwn.never rfl (R.fi (K:=K) (mj (kx kz (kx (oj kz) lg)))) (ny (i:=12) aP.nd) (lj (mh (i:=13) aP.nd (me oa (li (lx (K:=K)) (ku 10) kz) (ku 12))) (lj (mh (i:=14) aP.nd (sw (om nz (li (lx (K:=K)) (ku 10) kz) lq) (qx (R.ie wu IN kz (ku 13) (li (lx (K:=K)) (ku 7) (oj kz)))))) (lj (mh (i:=14) aP.nd (R.or (ku 14) (qx (sw (om nz (li (lx (K:=K)) (ku 10) kz) lq) (qx (R.ie IN wu (me uf (me re kz kz) (li (lx (K:=K)) (ku 7) (oj kz))) (ku 13) (me re kz kz))))))) (lj (mh (i:=14) aP.nd (R.or (ku 14) (qx (sw (om nz (li (lx (K:=K)) (ku 10) kz) lq) (sw (om nz (li (lx (K:=K)) (ku 7) kz) lq) (qx (R.ie wu wu (li (lx (K:=K)) (ku 7) (oj kz)) (ku 13) (me re kz kz)))))))) (md (nv (qv (NE (wr (ku 14)) (R.fh (qv (ww (mo nz (li (lx (K:=K)) (ku 10) kz) lq) (ww (mo P1 (li (lx (K:=K)) (ku 7) kz) lq) (AT (R.ir wu wu kz (ku 13) (me uf (me re kz kz) (li (lx (K:=K)) (ku 7) (oj kz))))))))))) (md (qu (qy (K:=K) PySem.F.plainAttrs_list PySem.F.slot_list_append PySem.F.type_list_append yy (ku 11) (kx (me wn (mj (kx (li (lx (K:=K)) (ku 10) kz) (kx (ku 13) lg))) (pi uh (ku 10) (ow kz) tz)) lg)))) nw))))))) (lj (mh (i:=15) aP.nd (me wn (me wn (mj (kx lq (kx (ku 8) (kx (ku 9) lg)))) (mf J5 M rfl (kx (ku 0) (kx (ku 2) lg)))) (mj (kx (ku 7) lg)))) (lj (R.gs (i:=16) aP.nd rfl (Or.inl rfl) rfl (js:=[none,some 8,some 9,some 15]) (N:=QYL) (CompScope.by (aB bV) QZk rfl rfl Zk) (aQ rfl) (ot (K:=K) (me sn (oh (kx (ku 10) lg)) (ku 11))) (λb2 s₂ H₂ fp=>⟨(ny (i:=0) (show(QYL:List Str).Nodup by decide +kernel)),wv,(oh (kx (ku 3) (kx (mj (kx lq (kx (ku 1) (kx (ku 2) (kx (ku 0) lg))))) lg)))⟩) rfl) (md (mi (ou rfl (js:=[none,some 1]) (N:=["_law_one","_law_rows"]) (CompScope.by (aB bV) QZk rfl rfl Zk) (aQ rfl) (ot (K:=K) (ku 16)) (λb2 s₂ H₂ fp=>⟨(ny (i:=0) (show(["_law_one","_law_rows"]:List Str).Nodup by decide +kernel)),wv,(me sn (ku 1) (ku 0))⟩)))))))))))))))),?_⟩;refine⟨J,C,as,F,a9,rfl,RR,W,tm,hw,yo,hF,λbk prs H1 fbk xh SE E lp s1=>?_⟩;dsimp only [aJ];have f1:=(Fw.refl D0).same s1;have hB:BookIs (jH prs) a9:=λz=>by rw[mH,E]
  refine yE0 (f1.menus oD oB hM).ex (yE8 λa0 a1 a2 a3 U us ps ks=>yA9 λeM h0 q Z h3 h4 mw mu _=>?_);have nd:∀b0∈b4,b0≠d/\b0≠b:=λb0 hc=>⟨(λz=>oD (z▸hc)),(λz=>oB (z▸hc))⟩
  have n0:=nd O (by rw[eM];simp);have n1:=nd a0 (by rw[eM];simp);have w2:2<=U.length/\U.length<=6:=⟨mw.two,mw.six⟩;refine⟨_,QYJ h0,.ref a0,rfl,_,QYJ h0,.ref a0,rfl,_,.inl (QYJ q),d,b,(U.length:Int),by rw[aS],f1.dk,Zo,Zo,λr1 Q x0 x1 D2 k2=>?_⟩;have f2:=f1.draw D2 k2;obtain⟨i,hi,rfl,ei⟩:=jQ x0 x1;have NM:=k2 _ _ h0 n0.1 n0.2;have J1:=k2 _ _ q n1.1 n1.2;refine⟨_,QYJ J1,_,ei,?_⟩;refine⟨_,QYJ NM,.ref a0,rfl,_,QYJ NM,.ref a0,rfl,.inl ⟨rfl,_,QYJ J1⟩,U,J1,getElem_mem hi,λj hj=>?_⟩;obtain⟨qb,V3⟩:=Zgs.mp hj;obtain⟨BL,yb⟩:=yG (n:=U.length) (r:=0) qb Zo;have ej:((j:Int)+1)%((U.map V.str).length:Int)=(((j+1+0)%U.length:Nat):Int):=by
   rw[aS,Int.natCast_emod];rfl
  refine⟨_,QYJ NM,.ref a0,rfl,_,.inl (QYJ J1),by rw[aS];omega,_,QYJ J1,V.str U[(j+1+0)%U.length],?_,?_⟩
  ·rw[ej];exact eY (by rw[fK,eT BL];rfl)
  have u7:=Ox mw.of.nd qb BL (λe=>yb e.symm);rw[V3]at u7;have uj:=mw.nm hi;have FN:=mw.nm BL;generalize U[(j+1+0)%U.length]=S at u7 FN;generalize U[i]=L at u7 uj;refine⟨d,b,9,rfl,D2,Zd,Zd,λr3 H3 y0 y1 D3 k3=>⟨aO rfl,λt1 H4 s4 g4=>⟨aO rfl,λt2 H5 s5 g5=>⟨d,b,9,rfl,(D3.same s4).same s5,Zd,Zd,λr6 H6 z0 z1 D6 k6=>⟨aO rfl,λt3 H7 s7 g7=>⟨eL rfl,λls ve=>?_⟩⟩⟩⟩⟩⟩;obtain⟨r3,rfl⟩:=gK y0;obtain⟨r6,rfl⟩:=gK z0;have f7:=(((((((Fw.refl f1.dk).draw D2 k2).draw D3 k3).same s4).same s5).draw D6 k6).same s7).new (o:=.lst [.ref t1,.ref t2,.ref t3]) ve;have JO:(aI H7 ls (.lst [.ref t1,.ref t2,.ref t3])) ls=some (.lst [.ref t1,.ref t2,.ref t3]):=aA;have U4:(aI H7 ls (.lst [.ref t1,.ref t2,.ref t3])) t1=_:=aL (s7 _ _ (Kp.tk ((D3.same s4).same s5) k6 _ _ (s5 _ _ g4))) ve;have C1:(aI H7 ls (.lst [.ref t1,.ref t2,.ref t3])) t2=_:=aL (s7 _ _ (Kp.tk ((D3.same s4).same s5) k6 _ _ g5)) ve;have uk:(aI H7 ls (.lst [.ref t1,.ref t2,.ref t3])) t3=_:=aL g7 ve;have DV:=(D6.same s7).ne ve;dsimp only [aJ];generalize aI H7 ls (.lst [.ref t1,.ref t2,.ref t3])=H8 at f7 JO U4 C1 uk ⊢;have fl:=f1.trans f7;have HJ:H8 bk=some (.dK (jH prs)):=f7.dict xh;refine bJ (λg a=>∃(H:TD)(x:Dd),g=Rn d J O bk ls H L S [none,none,none,none,none,none,none,none,none]/\x.Ok/\x.far=false/\a H=some (.tup x.vs)/\Fw d b H8 a) (λnx f=>?_) ?_
  ·refine⟨d,b,3,rfl,fl.dk,Zd,Zd,λr9 H9 u0 u1 D9 k9=>?_⟩;have f9:=(Fw.refl fl.dk).draw D9 k9;have fin:∀(t:TD)(x:Dd),x.Ok->x.far=false->H8 t=some (.tup x.vs)->lS [.ref d,.ref bk,.ref t] H9 (λv a=>nx [some (.ref d),some (.ref J),some (.ref O),some (.ref bk),some (.str L),some (.str S),some (.ref ls),some v,none,none,none,none,none,none,none,none,none] a) E0:=λt x ho hf ht=>
    ⟨d,b,bk,t,jH prs,a9,x,rfl,D9,f9.dict HJ,hB,f9.tup ht,ho,λt' x' Ha M1 JG gt' fa=>f _ _ ⟨t',x',rfl,M1,by rw[JG,hf],gt',f9.trans fa⟩⟩
   rcases(by omega:r9=0∨r9=1∨r9=2) with rfl|rfl|rfl
   ·exact⟨_,QYJ (f9.get JO DV.1 DV.2),_,rfl,fin t1 (.add L (1+r3)) ⟨uj,Zo,Zo⟩ rfl (by rw[U4];rfl)⟩
   ·exact⟨_,QYJ (f9.get JO DV.1 DV.2),_,rfl,fin t2 (.take L 1) ⟨uj,Zo,Zo⟩ rfl C1⟩
   ·exact⟨_,QYJ (f9.get JO DV.1 DV.2),_,rfl,fin t3 (.move L S (1+r6)) ⟨uj,FN,u7,Zo,Zo⟩ rfl (by rw[uk];rfl)⟩
  refine λg H9=>yE2 λH x=>yA5 λζ hx hf TL TM=>?_;subst ζ;have f9:=fl.trans TM;have R9:=RR.keep f9.tk (f9.get RR.lst nra.1 nra.2);refine bJ (λg a=>∃(N:Nat),g=Rn d J O bk ls H L S [some (.int (N:Int)),none,none,none,none,none,none,none,none]/\(∀r∈C,bE r≠"has"->lD r<N)/\Same H9 a) (λnx f=>?_) ?_
  ·refine⟨eL rfl,λp6 vc=>?_⟩;have sd:=aE (o:=.lst [.int 0]) vc;have g6:(aI H9 p6 (.lst [.int 0])) p6=some (.lst [.int 0]):=aA;generalize aI H9 p6 (.lst [.int 0])=Hd at sd g6;refine⟨J,rfl,⟨_,QYJ (R9.same sd).lst⟩,Kg (R9.same sd) W λp7 vh=>?_⟩;have MM:(iH C).length<=C.length:=length_filterMap_le _ _;refine⟨_,_,aL g6 vh,aA,by unfold nI;rw[aS];exact eZ (by simp;omega),λp8 BQ=>?_⟩;refine⟨p8,0::(iH C).map (λn:Nat=>(n:Int)),rfl,QYJ (by rw[aA];unfold nI;simp[map_map]<;>rfl),Zs,λm hm E2=>?_⟩;obtain⟨m,rfl⟩:∃tu:Nat,m=(tu:Int):=⟨m.toNat,by have:=E2 0 Zs;omega⟩;refine f _ _ ⟨1+m,by rw[show((1+m:Nat):Int)=1+(m:Int) by omega];rfl,λr M hh=>?_,sd.trans ((aE (o:=.lst (nI (iH C))) vh).trans (aE (o:=.lst ([.int 0]++nI (iH C))) BQ))⟩;have:=E2 (lD r:Int) (kY _ (Zmm.mpr ⟨lD r,mem_filterMap.mpr ⟨r,M,QZY hh⟩,rfl⟩));omega
  rintro _ Ha ⟨N,rfl,hN,sa⟩;refine bJ (λg a=>∃(T:Nat),g=Rn d J O bk ls H L S [some (.int (N:Int)),some (.int (T:Int)),none,none,none,none,none,none,none]/\(∀r∈C,r.turn<=T)/\Same H9 a) (λnx f=>?_) ?_
  ·have R2:=R9.same sa;refine⟨eL rfl,λp6 vc=>?_⟩;have sd:=aE (o:=.lst [.int 0]) vc;have g6:(aI Ha p6 (.lst [.int 0])) p6=some (.lst [.int 0]):=aA;generalize aI Ha p6 (.lst [.int 0])=Hd at sd g6;refine⟨J,rfl,⟨_,QYJ (R2.same sd).lst⟩,qN (R2.same sd) W λHe se p7 vh=>?_⟩;have MM:(cY C).length<=C.length:=length_filterMap_le _ _;refine⟨_,_,aL (se _ _ g6) vh,aA,by unfold nI;rw[aS];exact eZ (by simp;omega),λp8 BQ=>?_⟩;refine⟨p8,turnL C,rfl,QYJ (by rw[aA];unfold turnL nI;simp[map_map]<;>rfl),by unfold turnL;simp,λm2 U3 T6=>?_⟩;obtain⟨tu,rfl⟩:∃tu:Nat,m2=(tu:Int):=⟨m2.toNat,by have:=T6 0 (by unfold turnL;simp);omega⟩;refine f _ _ ⟨tu,rfl,λr M=>?_,sa.trans ((sd.trans se).trans ((aE (o:=.lst (nI (cY C))) vh).trans (aE (o:=.lst ([.int 0]++nI (cY C))) BQ)))⟩;have ub:∀t,(match r with|.next _ t=>some t|.came _ t _ _ _=>some t|.done _ t _=>some t|_=>none)=some t->t<=tu:=λt ht=>by
    have:=T6 (t:Int) (kY _ (Zmm.mpr ⟨t,mem_filterMap.mpr ⟨r,M,ht⟩,rfl⟩));omega
   cases r with
   | next n t=>exact ub t rfl
   | came n t a5 k x=>exact ub t rfl
   | done n t y=>exact ub t rfl
   | _=>exact zero_le _
  rintro _ Hb ⟨I,rfl,hT,sb⟩;have fb:=f9.same sb;refine⟨bk,H,jH prs,a9,x,rfl,sb _ _ (TM.dict HJ),hB,sb _ _ TL,λy l Hc hy sc gya=>?_,λhe=>QZW he (tX hf)⟩;have T5:An.Of x y:=(tO (λz=>by rw[<- hF.last];exact hF.leS yo _ (aZ _) z) hx (.inl ⟨rfl,hy⟩) nofun).1;have hg:=We hf T5;have bh:Behind C N I x:=⟨hN,hT,hx,hf⟩;refine⟨eL rfl,λu zf=>?_⟩;have TN:b1 u=none:=(fb.same sc).free zf;have fd:=(fb.same sc).new (o:=.lst []) zf;have TQ:(aI Hc u (.lst [])) u=some (.lst []):=aA;have CA:(aI Hc u (.lst [])) l=_:=aL gya zf;have CB:(aI Hc u (.lst [])) H=_:=aL (sc _ _ (sb _ _ TL)) zf;dsimp only [aJ];generalize aI Hc u (.lst [])=Hd at fd TQ CA CB ⊢;refine bJ (λg a=>∃(c:List (TD×An))(P2 P4 yp:Option V),g=Rn d J O bk ls H L S [some (.int (N:Int)),some (.int (I:Int)),some (.ref l),some (.ref u),P2,P4,yp,none,none]/\a u=some (.lst (c.map λz=>V.ref z.1))/\Bf a c/\(∀z∈c,z.2≠y/\An.Of x z.2)/\c.length<=2/\Fw d b b1 a/\TK Hd a) (λnx f=>?_) ?_
  ·refine⟨aO rfl,λtq Hq sq gq=>⟨tq,rfl,⟨_,QYK gq⟩,cD (kB K tq [.int 1,.int (-1)]) (λi g a=>∃(c:List (Addr × An))(P2 P4 yp:Option V),g=Rn d J O bk ls H L S [some (.int (N:Int)),some (.int (I:Int)),some (.ref l),some (.ref u),P2,P4,yp,none,none]/\a u=some (.lst (c.map λz=>V.ref z.1))/\Bf a c/\(∀z∈c,z.2≠y/\An.Of x z.2)/\c.length<=i/\Fw d b b1 a/\TK Hq a) (λi g a ⟨_,_,_,_,_,_,_,_,_,_,tk⟩=>QYK (tk _ _ gq))
    ⟨[],_,_,_,rfl,sq _ _ TQ,(λ_ h=>nomatch h),(λ_ h=>nomatch h),aZ _,fd.same sq,(λ_ _ e=>e)⟩ ?_ ?_⟩⟩
   ·refine λi v g Q p=>yE4 λc P2 P4 yp=>yA7 λζ HK DU V2 l2 JP DX=>?_;subst ζ;obtain⟨oy,rfl,hby,sy⟩:∃oy:Int,v=.int oy/\(oy=1∨oy=-1)/\i<2:=by
     match i,p with
     | 0,p=>cases p;exact⟨1,rfl,.inl rfl,Zo⟩
     | 1,p=>cases p;exact⟨-1,rfl,.inr rfl,Zo⟩
     | i+2,p=>cases p
    have CC:=DX _ _ (sq _ _ CA);have uc:=DX _ _ (sq _ _ CB);obtain⟨E,eam⟩:∃E:Int,E=(anM y:Int)+oy:=⟨_,rfl⟩;have zx:(10:Int)^(12:Int).toNat=1000000000000:=by decide
    dsimp only [aJ];refine bJ (λg a=>g=Rn d J O bk ls H L S [some (.int (N:Int)),some (.int (I:Int)),some (.ref l),some (.ref u),some (.int oy),some (.int E),yp,none,none]/\a=Q) (λnx f=>⟨_,QYK CC,_,aA5 hg,f _ _ ⟨by rw[eam];rfl,rfl⟩⟩) ?_;rintro _ G ⟨rfl,X⟩;obtain rfl:Q=G:=X.symm;refine bJ (λg a=>∃a4:Bool,g=Rn d J O bk ls H L S [some (.int (N:Int)),some (.int (I:Int)),some (.ref l),some (.ref u),some (.int oy),some (.int E),some (.bl a4),none,none]/\a=Q/\(a4=true->Ea x y E)) (λnx f=>?_) ?_
    ·refine⟨_,QYK CC,_,uV y,?_⟩;show if decide (Wa y="short")=true then _ else _
     refine bA (λh=>?_) (λ_=>f _ _ ⟨false,rfl,rfl,λz=>nomatch z⟩);show if decide (0<=E)=true then _ else _
     refine bA (λq=>?_) (λ_=>f _ _ ⟨false,rfl,rfl,λz=>nomatch z⟩);exact⟨_,QYK uc,_,rZ x,f _ _ ⟨_,rfl,rfl,λz=>Rm hf T5 (U6 h) (U6 q) (U6 z)⟩⟩
    rintro _ G ⟨q1,rfl,X,BR⟩;obtain rfl:Q=G:=X.symm;refine bJ (λg a=>∃a4:Bool,g=Rn d J O bk ls H L S [some (.int (N:Int)),some (.int (I:Int)),some (.ref l),some (.ref u),some (.int oy),some (.int E),some (.bl a4),none,none]/\a=Q/\(a4=true->Ea x y E)) (λnx f=>?_) ?_
    ·show if q1=true then _ else _
     refine bA (λh=>f _ _ ⟨true,rfl,rfl,λ_=>BR h⟩) (λ_=>?_);refine⟨_,QYK CC,_,uV y,?_⟩;show if decide (Wa y="full")=true then _ else _
     refine bA (λh=>?_) (λ_=>f _ _ ⟨false,rfl,rfl,λz=>nomatch z⟩);refine⟨⟨Zd,Zd,Zd⟩,_,QYK uc,_,rZ x,?_⟩;dsimp only;rw[zx];show if decide (1000000000000-(x.n:Int)<E)=true then _ else _
     refine bA (λq=>?_) (λ_=>f _ _ ⟨false,rfl,rfl,λz=>nomatch z⟩);refine⟨⟨Zd,Zd,Zd⟩,?_⟩;dsimp only;rw[zx];exact f _ _ ⟨_,rfl,rfl,λz=>Wf hx hf T5 (U6 h) (U6 q) (U6 z)⟩
    rintro _ G ⟨q2,rfl,X,JN⟩;obtain rfl:Q=G:=X.symm;refine bJ (λg a=>∃a4:Bool,g=Rn d J O bk ls H L S [some (.int (N:Int)),some (.int (I:Int)),some (.ref l),some (.ref u),some (.int oy),some (.int E),some (.bl a4),none,none]/\a=Q/\(a4=true->Ea x y E)) (λnx f=>?_) ?_
    ·show if q2=true then _ else _
     refine bA (λh=>f _ _ ⟨true,rfl,rfl,λ_=>JN h⟩) (λ_=>?_);refine⟨_,QYK CC,_,uV y,?_⟩;show if decide (Wa y="is")=true then _ else _
     refine bA (λh=>?_) (λ_=>f _ _ ⟨false,rfl,rfl,λz=>nomatch z⟩);refine⟨_,QYK uc,_,qZ x,?_⟩;show if decide (x.wd="add")=true then _ else _
     refine bA (λZ=>?_) (λ_=>f _ _ ⟨false,rfl,rfl,λz=>nomatch z⟩);refine⟨_,QYK uc,_,rZ x,?_⟩;show if decide ((x.n:Int)<=E)=true then _ else _
     refine bA (λq=>?_) (λ_=>f _ _ ⟨false,rfl,rfl,λz=>nomatch z⟩);refine⟨⟨Zd,Zd,Zd⟩,?_⟩;dsimp only;rw[zx];exact f _ _ ⟨_,rfl,rfl,λz=>Xp hf T5 (U6 h) (λ_=>⟨U6 q,U6 z⟩) (λhn=>QZW (U6 Z) hn)⟩
    rintro _ G ⟨q3,rfl,X,hq3⟩;obtain rfl:Q=G:=X.symm;refine Ad (λv a=>a=Q/\(v=true->Ea x y E)) (λkk qd=>?_) ?_ ?_
    ·show if q3=true then _ else _
     refine bA (λh=>qd _ _ ⟨rfl,λ_=>hq3 h⟩) (λ_=>?_);refine⟨_,QYK CC,_,uV y,?_⟩;show if decide (Wa y="is")=true then _ else _
     refine bA (λh=>?_) (λ_=>qd _ _ ⟨rfl,λz=>nomatch z⟩);refine⟨_,QYK uc,_,qZ x,?_⟩;show if (!decide (x.wd="add"))=true then _ else _
     refine bA (λZ=>?_) (λ_=>qd _ _ ⟨rfl,λz=>nomatch z⟩);show if decide (0<=E)=true then _ else _
     refine bA (λq=>?_) (λ_=>qd _ _ ⟨rfl,λz=>nomatch z⟩);refine⟨⟨Zd,Zd,Zd⟩,_,QYK uc,_,rZ x,?_⟩;dsimp only;rw[zx];exact qd _ _ ⟨rfl,λz=>Xp hf T5 (U6 h) (λhn=>QZW hn (by simpa using Z)) (λ_=>⟨U6 q,U6 z⟩)⟩
    ·rintro G ⟨X,hq⟩;obtain rfl:Q=G:=X.symm;obtain⟨m,rfl,hm⟩:=hq rfl;refine⟨.inl ⟨rfl,_,QYJ HK⟩,_,QYK CC,_,uV y,aO rfl,λq5 H3 s3 g3=>⟨_,s3 _ _ CC,λq6 H4 s4 g4=>⟨_,_,s4 _ _ g3,g4,?_,λq7 H5 s5 g5=>?_⟩⟩⟩
     ·cases y<;>exact QZV rfl
     rw[Wc hg]at g5;have JQ:=(s3.trans s4).trans s5;have TR:=JQ _ _ HK;refine⟨u,_,_,rfl,rfl,TR,by rw[aS];exact oC (m:=1000) Zo Zd,?_⟩;have NN:=fN (ys:=c.map (λz=>V.ref z.1)++[.ref q7]) TR;refine⟨c++[(q7,Wb y m)],_,_,_,rfl,?_,λz A=>?_,λz A=>?_,by simp;omega,(JP.same JQ).put TN,λb0 xs e=>NN _ _ (JQ _ _ (DX _ _ e))⟩
     ·rw[aA,dW];rfl
     ·rcases aH A with A|rfl
      ·exact NN _ _ (JQ _ _ (DU z A))
      ·exact NN _ _ g5
     ·rcases aH A with A|rfl
      ·exact V2 z A
      ·exact⟨Wd hg (λe=>by rcases hby with e'|e'<;>omega),hm⟩
    ·rintro G ⟨X,hq⟩;obtain rfl:Q=G:=X.symm;exact⟨c,_,_,_,rfl,HK,DU,V2,Zo,JP,DX⟩
   ·refine λg Q=>yE4 λc P2 P4 yp=>yA7 λζ HK DU V2 l2 JP DX=>?_;subst ζ;exact f _ _ ⟨c,_,_,_,rfl,HK,DU,V2,l2,JP,λb0 xs e=>DX _ _ (sq _ _ e)⟩
  refine λg He=>yE4 λc P2 P4 yp=>yA7 λζ gwe hze NO le2 fe TU=>?_;subst ζ;have TX:=D0.ne TN;have NP:=TU _ _ CB;refine bJ (λg a=>∃(Y:TD)(pp kk:Str),g=Rn d J O bk ls H L S [some (.int (N:Int)),some (.int (I:Int)),some (.ref l),some (.ref u),P2,P4,yp,some (.ref Y),none]/\RX.At a Y (.came N I pp kk x)/\Fw d b He a) (λnx f=>?_) ?_
  ·refine⟨aO rfl,λq1 Hf sf gf=>⟨d,b,O,b4,rfl,fe.dk.same sf,(fe.same sf).menus oD oB hM,oD,oB,λq2 pp kk Hg _ _ gg fg=>⟨_,_,fg.tup gf,gg,QZV rfl,λq3 Hh sh gh=>⟨aO rfl,λq4 Hi si gi=>⟨_,_,si _ _ gh,gi,QZV rfl,λq5 Hj sj gj=>?_⟩⟩⟩⟩⟩;have fj:=(((((Fw.refl fe.dk).same sf).trans fg).same sh).same si).same sj;exact f _ _ ⟨q5,pp,kk,rfl,⟨H,gj,fj.tup NP⟩,fj⟩
  rintro _ Hf ⟨Y,pp,kk,rfl,hcq,ff⟩;have gwf:=ff.get gwe TX.1 TX.2;have fhf:=fe.trans ff;have hzf:Bf Hf ((l,y)::c):=λz A=>by
   rcases mem_cons.mp A with rfl|A
   ·exact ff.tup (TU _ _ CA)
   ·exact ff.tup (hze z A)
  refine bJ (λg a=>∃(bl:TD)(bs:List TD),g=Rn d J O bk ls H L S [some (.int (N:Int)),some (.int (I:Int)),some (.ref l),some (.ref u),P2,P4,yp,some (.ref Y),some (.ref bl)]/\a bl=some (.lst (bs.map V.ref))/\Paired (λ(z:TD×An) a7=>∃e,a a7=some (.lst [.ref Y,.ref e])/\a e=some (.tup [.str "done",.int (N:Int),.int (I:Int),.ref z.1])) ((l,y)::c) bs/\Same Hf a) (λnx f=>?_) ?_
  ·refine⟨eL rfl,λa5 hp=>⟨_,_,aA,aL gwf hp,eZ (by simp;omega),λp2 C5=>⟨p2,rfl,⟨_,QYJ aA⟩,?_⟩⟩⟩;have s2:=(aE (o:=.lst [.ref l]) hp).trans (aE (o:=.lst ([.ref l]++c.map λz=>V.ref z.1)) C5);have g2:(aI (aI Hf a5 (.lst [.ref l])) p2 (.lst ([.ref l]++c.map λz=>V.ref z.1))) p2=some (.lst (((l,y)::c).map λz=>V.ref z.1)):=aA;generalize aI (aI Hf a5 (.lst [.ref l])) p2 (.lst ([.ref l]++c.map λz=>V.ref z.1))=Hg at s2 g2 ⊢;refine aX (aY K p2 (((l,y)::c).map λz=>V.ref z.1)) (by rw[aS];simp;omega) (λi ys a=>∃bs:List TD,ys=bs.map V.ref/\Paired (λ(z:TD×An) a7=>∃e,a a7=some (.lst [.ref Y,.ref e])/\a e=some (.tup [.str "done",.int (N:Int),.int (I:Int),.ref z.1])) (((l,y)::c).take i) bs/\Same Hg a) (λi ys a ⟨bs,e,pb,B⟩=>⟨QYJ (B _ _ g2),?_⟩) ⟨[],rfl,.nil,λ_ _ e=>e⟩ (?_) (?_)
   ·have:=pb.length;rw[e,aS,<- this];exact List.length_take_le _ _
   ·rintro i v ys a p ⟨bs,e,pb,B⟩;rw[fK]at p;cases A:((l,y)::c)[i]? with
    | none=>rw[A]at p;cases p
    | some z=>
     rw[A]at p;cases p;refine⟨aO rfl,λe1 H1 s1 g1=>⟨eL rfl,λb3 W=>⟨bs++[b3],by rw[e,dW];rfl,?_,(B.trans s1).trans (aE W)⟩⟩⟩;rw[aM A];refine Paired.snoc (Paired.map' (λz a7 ⟨e2,q,Z⟩=>⟨e2,aL (s1 _ _ q) W,aL (s1 _ _ Z) W⟩) pb) ⟨e1,aA,aL g1 W⟩
   ·rintro ys a ⟨bs,e,pb,B⟩;intro bl AZ;rw[aS,iI (aZ _)]at pb;exact f _ _ ⟨bl,bs,rfl,by rw[aA,e],Paired.map' (λz a7 ⟨e2,q,Z⟩=>⟨e2,aL q AZ,aL Z AZ⟩) pb,(s2.trans B).trans (aE AZ)⟩
  rintro _ Hg ⟨bl,bs,rfl,HB,pb,sg⟩;have fg:=fhf.same sg;have Rg:=RR.keep fg.tk (fg.get RR.lst nra.1 nra.2);have lb:=pb.length;refine⟨bl,rfl,⟨_,QYJ HB⟩,?_⟩;refine aX (aY K bl (bs.map V.ref)) (by rw[aS,<- lb];simp;omega) (λi ys a=>∃ls:List TD,ys=ls.map V.ref/\AllB C a9 N I pp kk x ((y::c.map (·.2)).take i) a ls/\Same Hg a) (λi ys a ⟨ls,e,pl,B⟩=>⟨QYJ (B _ _ HB),?_⟩) ⟨[],rfl,.nil,λ_ _ e=>e⟩ (?_) (?_)
  ·have:=pl.length;rw[e,aS,<- this];exact List.length_take_le _ _
  ·rintro i v ys a p ⟨ls,e,pl,B⟩;rw[fK]at p;cases hb:bs[i]? with
   | none=>rw[hb]at p;cases p
   | some a7=>
    rw[hb]at p;cases p;obtain⟨yf,ea⟩:=Zgs.mp hb;obtain⟨sy,e1,q,Z⟩:=Paired.get' (j:=i) pb yf;rw[ea]at q;refine⟨_,_,B _ _ Rg.lst,B _ _ q,eZ (by simp;omega),λa5 hp=>⟨ls++[a5],by rw[e,dW];rfl,?_,B.trans (aE hp)⟩⟩;have ez:(y::c.map (·.2))[i]?=some ((l,y)::c)[i].2:=by
     rw[show y::c.map (·.2)=((l,y)::c).map (·.2) from rfl,fK,eT sy];rfl
    rw[aM ez];refine Paired.snoc (pl.same (aE hp)) ⟨as++[Y,e1],by rw[aA,dW];rfl,?_⟩;have uv:RX.At (aI a a5 (.lst (as.map V.ref++[.ref Y,.ref e1]))) Y (.came N I pp kk x):=hcq.tk ((sg.trans (B.trans (aE hp))).tk);have qz:RX.At (aI a a5 (.lst (as.map V.ref++[.ref Y,.ref e1]))) e1 (.done N I ((l,y)::c)[i].2):=⟨_,aL (B _ _ Z) hp,aL (B _ _ (sg _ _ (hzf _ (getElem_mem sy)))) hp⟩;have pr:Paired (λr a7=>RX.At (aI a a5 (.lst (as.map V.ref++[.ref Y,.ref e1]))) a7 r) C as:=Paired.map' (λ_ _ h=>h.tk (B.trans (aE hp)).tk) Rg.each;have:=Paired.snoc (Paired.snoc pr uv) qz
    rwa [append_assoc,append_assoc]at this
  ·rintro ys a ⟨ls,e,pl,B⟩;intro b3 W;rw[aS,<- lb,iI Zs]at pl;refine a4 b3 ls N I pp kk x (c.map (·.2)) y _ bh hy T5 (λy' zq=>?_) (by rw[aS];exact le2) (by rw[aA,e]) (pl.same (aE W)) ((fg.same B).new W);obtain⟨z,A,rfl⟩:=Zmm.mp zq;exact NO z A
def sgL(a d b c:TD)(i:Nat)(l:List (Option V)):St:=[some (.ref a),some (.ref d),some (.ref b),some (.int (i:Int)),some (.ref c)]++l
def Gn(K:W.Frag):Sp:=λvs H Q _=>∃(a:TD)(b:List Int),vs=[.ref a]/\SqL K H a (b.map V.int)/\b.length<=63/\∀c,Q (.bl true) c
def MenusAt.new{H:Hp}{c p:TD}{M:List TD}(h:MenusAt H c M)(a:H p=none):p∉M:=by
 refine yE0 h.ex (yE8 λj k l m n o ps q=>yA7 λζ d e f g i _=>?_);subst ζ;intro b;simp only [mem_cons,QZR,or_false]at b;rcases b with rfl|rfl|rfl|rfl|rfl
 ·rw[d]at a;cases a
 ·rw[e]at a;cases a
 ·rw[f]at a;cases a
 ·rw[g]at a;cases a
 ·rw[i]at a;cases a
def uW(rs:List RX):(bY rs).length+(rs.flatMap jU).length+(bW rs).length+(bP rs).length<=rs.length:=by
 induction rs with
 | nil=>exact aZ _
 | cons r rs a=>
  unfold bY bP bW at a ⊢;rw[QZO,lZ];cases r<;>simp only [QZP,sA,jU,length_nil]<;>omega
def wQ{rs:List RX}(b:RX.Whole rs):(eJ rs).length=(rs.flatMap jU).length+(bP rs).length:=by
 have a:=congrArg length (qP b (rs:=rs) λ_ h=>h);rw[aS]at a;unfold eJ;rw[lZ,a]
def Eb{rs:List RX}(d:RX.Whole rs){c:List Nat}(h:c.Sublist (jX rs)):c.length+(bP rs).length<=(bW rs).length:=by
 have asc:c.Pairwise (·<·):=List.Pairwise.sublist (h.trans (mY rs)) (qL d);have:=De (xs:=c++bP rs) (ys:=bW rs) (nodup_append.mpr ⟨asc.imp λh=>ne_of_lt h,uD d,λa g b i e=>?_⟩) λn hn=>?_
 ·rwa [lZ]at this
 ·subst e;obtain⟨t,y,f⟩:=hV i;exact QZW (mW.mp (h.subset g)).2 (by rw[wN f];decide)
 ·rcases Zma.mp hn with hn|hn
  ·exact(mY rs).subset (h.subset hn)
  ·obtain⟨t,y,f⟩:=hV hn;obtain⟨l,p,k,x,j,_⟩:=dG d f;exact qF j
def Rq{rs:List RX}{f:Str->Nat}{a m:Nat}{b:List Nat}{hs:List Str}{es:List E6}(c:FoldC rs f a b)(d:rs.length<=43)(e:hs.length<=(bY rs).length+2*(bP rs).length)(g:es.length<=(eJ rs).length):(jY rs f a b m hs es).length<=98:=by
 have h:=uW rs;have i:=wQ c.hw;have j:=Eb c.hw c.sub;have k:=mV rs a b;unfold jY;rw[sA,lZ,lZ,aS,aS];omega
def Kh{rs:List RX}{f:Str->Nat}{d m:Nat}{b:List Nat}{hs:List Str}{es:List E6}(c:FoldC rs f d b):(bY (jY rs f d b m hs es)).length=hs.length:=by
 have g:∀l:List RX,(∀r∈l,bE r≠"has")->eP l=[]:=λl h=>by
  unfold eP;rw[List.filterMap_eq_nil_iff];intro r a;cases r with
  | has z m=>exact QZW rfl (h _ a)
  | _=>rfl
 rw[<- pB];have e:eP (jY rs f d b m hs es)=eP (hs.map λz=>RX.has z (f z))++eP (es.map fL++bU rs d b):=by
  unfold jY eP;rw[QZP,QZQ]
 rw[e,g (es.map fL++bU rs d b) λr a=>?_,append_nil]
 ·unfold eP;rw[List.filterMap_map];clear e g c;induction hs with
  | nil=>rfl
  | cons z hs i=>rw[QZP];show(_::_).length=_;rw[sA,i,sA]
 ·rcases Zma.mp a with a|a
  ·obtain⟨e,_,rfl⟩:=Zmm.mp a;exact show("kept":Str)≠"has" by decide +kernel
  ·rcases(mZ c b λ_ h=>h).mp a with⟨j,_,⟨_,_,_,_,e⟩|⟨e,_⟩⟩<;>rw[e]
   ·exact show("came":Str)≠"has" by decide +kernel
   ·exact show("asked":Str)≠"has" by decide +kernel
def Paired.take{a b:Type}{R:a->b->Prop}:∀ {xs:List a}{ys:List b} (k:Nat),Paired R xs ys->Paired R (xs.take k) (ys.take k)
 | _,_,0,_=>by rw[List.take_zero,List.take_zero];exact .nil
 | _,_,k+1,.nil=>.nil
 | _,_,k+1,.cons h t=>.cons h (Paired.take k t)
structure Good71(H:Hp)(d b a:TD)(rs:List RX)(as:List TD)(F:Nat->Str->Nat)(f:Str->Nat):Prop where
 at_:RxsAt H a rs as
 nd:a≠d/\a≠b
 len:rs.length<=98
 ct:(bY rs).length+2*(bP rs).length<=43
 hw:RX.Whole rs
 snd:∀r∈rs,Dl r
 fine:∀r∈rs,lX r
 rep:RepF rs F f
def Good71.fw{H c:Hp}{d b a:TD}{rs:List RX}{e:List TD}{F:Nat->Str->Nat}{f:Str->Nat}(g:Good71 H d b a rs e F f)(w:Fw d b H c):Good71 c d b a rs e F f:=
 ⟨g.at_.keep w.tk (w.get g.at_.lst g.nd.1 g.nd.2),g.nd,g.len,g.ct,g.hw,g.snd,g.fine,g.rep⟩
def wR{rs:List RX}{N T:Nat}{p k:Str}{x:Dd}{y:An}(h:∀r∈rs,lX r)(b:x.Ok)(c:An.Of x y):∀r∈rs++[RX.came N T p k x,.done N T y],lX r:=λr a=>by
 rcases Zma.mp a with a|a
 ·exact h r a
 ·simp only [mem_cons,QZR,or_false]at a;rcases a with rfl|rfl
  ·exact b
  ·exact⟨x,b,c⟩
def aA6(T:Txt K mg)(CD:aG P w K mg base 1 "_law_deck" QZD (Mr K))(yq:aG P w K mg base 3 "_law_menus" QYZ Ao)(a6:aG P w K mg base 1 "_law_draw" QZN bS)(nq:aG P w K mg base 6 "_law_some_head" QZJ rV)(yr:aG P w K mg base 4 "_law_lived" QYX As)(vm:aG P w K mg base 7 "_law_folded" QYV uR)(l8:aG P w K mg base 8 "first_wrong" QZK aCB)(qg:aG P w K mg base 4 "_law_one_more" QYU Rp){f:TD}{fd:FuncData}(F:Fun K "law" "law" oQ f fd):lE P w K mg base sO 9 f fd QZD (Gn K):=by
 refine F.gg iD (λcdv b0 outer s b1 vs b2 b3 l a4=>?_)
 ·obtain⟨a,ns,rfl,hS,hlen,a5⟩:=a4;have U5:=l.units;refine⟨_,(lj (mh (i:=1) iD.nd (mf CD l rfl (kx (ku 0) lg))) (lj (mh (i:=2) iD.nd (mf yq l rfl (kx (ku 1) lg))) (lj (qr PassesOwn.never rfl (Q3 rfl T.b_range (kx kz lg)) (ny (i:=3) iD.nd) (lj (mh (i:=4) iD.nd (mf nq l rfl (kx (ku 1) (kx (ku 2) lg)))) (lj (mh (i:=4) iD.nd (mf yr l rfl (kx (ku 1) (kx (ku 4) (kx (ku 2) (kx (li (og (K:=K)) (oh (kx (mf a6 l rfl (kx (ku 1) (kx kz lg))) (kx (mf a6 l rfl (kx (ku 1) (kx kz lg))) lg))) (mf a6 l rfl (kx (ku 1) (kx kz lg)))) lg)))))) (lj (qr PassesOwn.never rfl (Q3 rfl T.b_range (kx (me oa (oi (o0 (K:=K)) rfl T.b_len bN (kx (ku 4) lg)) kz) lg)) (ny (i:=5) iD.nd) (md (nv (mo R.fm (mf l8 l rfl (kx (pi (R.ia (K:=K)) (ku 4) tz (ow (ku 5))) lg)) ue) (md (mi qw)) nw))) (lj (mh (i:=6) iD.nd (mf vm l rfl (kx (ku 1) (kx (ku 4) lg)))) (md (qr PassesOwn.never rfl (R.fi (K:=K) (mj (kx (ku 4) (kx (ku 6) lg)))) (ny (i:=7) iD.nd) (lj (nv (mo R.fm (mf l8 l rfl (kx (ku 7) lg)) ue) (md (mi qw)) nw) (lj (mh (i:=8) iD.nd (mf qg l rfl (kx (ku 1) (kx (ku 7) (kx (ku 2) lg))))) (lj (nv (mo R.fm (mf l8 l rfl (kx (li (og (K:=K)) (ku 8) kz) lg)) ue) (md (mi qw)) nw) (md (qr PassesOwn.never rfl (ot (K:=K) (pi (R.ia (K:=K)) (ku 8) (ow kz) tz)) (ny (i:=9) iD.nd) (md (nv (mo P1 (mf l8 l rfl (kx (ku 9) lg)) (me uf (oi (o0 (K:=K)) rfl T.b_len bN (kx (ku 9) lg)) kz)) (md (mi qw)) nw)))))))))))))) (md (mi qw))))),?_⟩;refine⟨a,ns,rfl,hS,λd b H1 nd nb D1 s1=>?_⟩;refine⟨d,b,rfl,D1,λy a0 H2 hM L M f2=>?_⟩;dsimp only [aJ];refine bJ (λh g=>True) (λnx a8=>?_) ?_
  ·refine⟨2,rfl,Zd,Zd,cD (eV 0 (2:Int).toNat) (λi h g=>∃(o3 o4 A o6 H I B:Option V),h=[some (.ref a),some (.ref d),some (.ref y),o3,o4,A,o6,H,I,B]/\Dk g d b/\MenusAt g y a0) (λ_ _ _ _=>trivial) ⟨_,_,_,_,_,_,_,rfl,f2.dk,hM⟩ ?_ ?_⟩
   ·refine λi a3 h H3 hx=>yE7 λo3 o4 A o6 H I B=>yA3 λζ D3 NQ=>?_;subst ζ;obtain⟨rfl,hi⟩:=nS hx;refine⟨d,b,y,a0,rfl,D3,NQ,L,M,λC rs as H9 zw R9 hk9 f9=>?_⟩;have oR:=NQ.new zw;have J:=D3.ne zw;dsimp only [aJ];refine bJ (λh g=>∃(c:List RX)(u:List TD)(x:Str->Nat),h=sgL a d y C i [A,o6,H,I,B]/\RxsAt g C c u/\RX.Whole c/\(∀r∈c,r.Ok)/\lT c x/\c.length<=43/\Dk g d b/\MenusAt g y a0) (λCZ w5=>?_) ?_
    ·refine⟨d,b,9,rfl,f9.dk,Zd,Zd,λm1 Ha z0 z1 Da ea=>⟨d,b,25,rfl,Da,Zd,Zd,λm2 Hb v0 v1 Db eb=>⟨eL rfl,λp N=>⟨d,b,2,rfl,Db.new N,Zd,Zd,λm3 Hc w0 w1 Dc ec=>?_⟩⟩⟩⟩;have J2:=Db.ne N;have gp:=ec p _ aA J2.1 J2.2;obtain⟨m1,rfl⟩:=gK z0;obtain⟨m2,rfl⟩:=gK v0;have D:=(((((Fw.refl f9.dk).draw Da ea).draw Db eb).new (o:=.lst [.int (m1:Int),.int (m2:Int)]) N).draw Dc ec);have Rc:=R9.keep D.tk (D.get R9.lst J.1 J.2);have TY:=(f9.trans D).menus L M NQ;obtain⟨many,hm,hmv⟩:∃many:Nat,many<=30/\nC [V.int (m1:Int),.int (m2:Int)] m3=some (.int (many:Int)):=by
      rcases(by omega:m3=0∨m3=1) with rfl|rfl
      ·exact⟨m1,Zo,rfl⟩
      ·exact⟨m2,Zo,rfl⟩
     refine⟨_,QYJ gp,_,hmv,d,b,C,y,a0,rs,as,many,rfl,D.dk,Rc,hk9,TY,L,M,oR,J.1,J.2,hm,λc u x Hd Rd wd okd lvd ld Dd' frd=>?_⟩;exact w5 _ _ ⟨c,u,x,rfl,Rd,wd,okd,lvd,ld,Dd',TY.keep λa7 hc o e=>frd a7 o e (λz=>L (z▸hc)) (λz=>M (z▸hc)) (λz=>oR (z▸hc))⟩
    refine λh Ha=>yE3 λc u x=>yA8 λζ Ra E NR lva la Da IQ=>?_;subst ζ;obtain⟨FF,HL⟩:=Jk lva;have tm:(bY c).length+2*(bP c).length<=43:=gL (wG E) la;have BW:(eJ c).length<=43:=by
     have a1:=uW c;have O:=wQ E;omega
    have JR:∀r∈c,Dl r:=λr l=>aAW (NR r l)
    have TZ:=Do E NR;have ler:=Ra.len;have ela:(u.map V.ref).length=c.length:=by rw[aS];omega
    refine bJ (λh g=>∃A,h=sgL a d y C i [A,o6,H,I,B]/\Same Ha g) (λCZ w5=>?_) ?_
    ·refine⟨_,.inl (QYJ Ra.lst),((c.length+1:Nat):Int),by rw[ela];rfl,Zo,Zo,?_⟩;refine cD (eV 0 ((c.length+1:Nat):Int).toNat) (λi' h g=>∃A,h=sgL a d y C i [A,o6,H,I,B]/\Same Ha g) (λ_ _ _ _=>trivial) ⟨_,rfl,λ_ _ e=>e⟩ ?_ ?_
     ·rintro k a3 h H4 hx ⟨A,rfl,s4⟩;obtain⟨rfl,hk⟩:=nS hx;have R4:=Ra.same s4;dsimp only [aJ];refine Ad (λv g=>v=false/\Same H4 g) (λY Q=>?_) ?_ ?_
      ·refine⟨_,QYJ R4.lst,λp N=>?_⟩;rw[xQ,<- map_take];have S:=aE (o:=.lst ((u.take k).map V.ref)) N;refine⟨p,c.take k,u.take k,rfl,⟨aA,KL.Paired.take k (R4.same S).each⟩,λr l=>TZ r (mem_of_mem_take l),by rw[oA];omega,uK E k,λo H6 U s6=>?_⟩;have e:=kX U (Dz E (qS E HL) k);subst e;exact Q _ _ ⟨rfl,S.trans s6⟩
      ·rintro _ ⟨z,_⟩;cases z
      ·rintro H5 ⟨_,S⟩;exact⟨_,rfl,s4.trans S⟩
     ·rintro h H4 ⟨A,rfl,s4⟩;exact w5 _ _ ⟨A,rfl,s4⟩
    rintro h Hb ⟨UA,rfl,sb⟩;have NS:=(Fw.refl Da).same sb;refine⟨d,b,C,c,u,FF,x,rfl,NS.dk,Ra.same sb,la,tm,BW,E,JR,HL,J.1,J.2,λpo os out lf tu Hc fpo Ro hfo pj E1 zp D=>?_⟩;dsimp only [aJ];have W:FoldC c x tu (jX c):=⟨E,JR,λn t p k a3 b4 hm=>(NR _ hm).2.2.2.2.2.1,λz=>by rw[<- HL.last];exact HL.leS JR _ (aZ _) z,List.Sublist.refl _,λt ht=>by have:=ht.uniq zp;omega⟩;refine yE0 hfo.ex (yE3 λm hs es=>yA7 λx1 x2 x3 x4 l1 l2 eo=>?_);have eo':out=jY c x tu (jX c) m hs es:=eo;subst eo';have xx:FoldX c x lf tu (jX c) m hs es:=⟨x1,x2,x3,x4⟩;have ll:=Rq (m:=m) W la l1 l2;have npo:=NS.dk.ne fpo;have NT:hs.length<=43:=gL l1 tm;have ga:Good71 Hc d b C c u FF x:=(Good71.mk (Ra.same sb) J Zo tm E JR TZ HL).fw D;have gb:Good71 Hc d b po _ os (λ_=>x) x:=⟨Ro,npo,ll,by rw[Kh W,Jy W];simpa using NT,Jx W xx,Gj W,Rf W xx,Vw W xx⟩;have UB:=NS.trans D;refine⟨aO rfl,λtq Hq sq gq=>⟨tq,rfl,⟨_,QYK gq⟩,cD (kB K tq [.ref C,.ref po]) (λi' h g=>∃H I B,h=sgL a d y C i [UA,some (.ref po),H,I,B]/\Fw d b Hq g) (λ_ _ _ ⟨_,_,_,_,w⟩=>QYK (w.tup gq)) ⟨_,_,_,rfl,.refl (D.dk.same sq)⟩ ?_ ?_⟩⟩
    ·rintro j v h H4 X ⟨H,I,B,rfl,f4⟩;have fq:=(Fw.refl D.dk).same sq;obtain⟨O,Z,JS,F2,rfl,g2⟩:∃O Z JS F2,v=.ref O/\Good71 H4 d b O Z JS F2 x:=by
      match j,X with
      | 0,X=>cases X;exact⟨_,_,_,_,rfl,(ga.fw fq).fw f4⟩
      | 1,X=>cases X;exact⟨_,_,_,_,rfl,(gb.fw fq).fw f4⟩
      | j+2,X=>cases X
     have l98:=g2.len;dsimp only [aJ];refine Oi (λv g=>v=false/\Same H4 g) (λY Q=>?_) ?_ ?_
     ·refine⟨O,Z,JS,rfl,g2.at_,g2.fine,Zo,g2.hw,λo H6 U s6=>?_⟩;have e:=kX U (qS g2.hw g2.rep);subst e;exact Q _ _ ⟨rfl,s6⟩
     ·rintro _ ⟨z,_⟩;cases z
     rintro H5 ⟨_,S⟩;dsimp only [yV];have f5:=f4.same S;have q:=g2.fw ((Fw.refl f4.dk).same S);have hM5:=((UB.trans fq).trans f5).menus L M IQ;refine⟨d,b,O,y,a0,Z,JS,F2,x,rfl,f5.dk,hM5,L,M,q.at_,q.nd,Zo,q.ct,q.hw,q.snd,q.rep,λa9 ls b5 T0 pp Y a3 ys y0 H6 bh he T5 MV ly gl hal f6=>?_⟩;dsimp only [aJ];cases hal with
     | @cons _ l0 _ lt h0 ht=>
     obtain⟨BE,R0⟩:=h0;refine Oi (λv g=>v=false/\Same H6 g) (λIV Q=>?_) ?_ ?_
     ·refine⟨_,QYJ gl,.ref l0,eY (j:=0) rfl,?_⟩;refine⟨l0,_,BE,rfl,R0,wR q.fine bh.ok T5,by simp;omega,bh.whole q.hw pp Y T5,λo Hx U G=>?_⟩;have e:=kX U ((bh.wrong q.hw q.rep pp Y T5 he).1 rfl);subst e;exact Q _ _ ⟨rfl,G⟩
     ·rintro _ ⟨z,_⟩;cases z
     rintro H7 ⟨_,s7⟩;refine⟨_,QYJ (s7 _ _ gl),λp N=>?_⟩;have s8:=aE (o:=.lst (lt.map V.ref)) N;have g8:(aI H7 p (.lst (lt.map V.ref))) p=some (.lst (lt.map V.ref)):=aA;have ec:jZ ((l0::lt).map V.ref) (some 1) none=lt.map V.ref:=zJ _ 1;rw[ec];generalize aI H7 p (.lst (lt.map V.ref))=H8 at s8 g8 ⊢;have s68:=s7.trans s8;refine⟨p,rfl,⟨_,QYJ g8⟩,cD (aY K p (lt.map V.ref)) (λi' h g=>∃B,h=sgL a d y C i [UA,some (.ref po),some (.ref O),some (.ref a9),B]/\Same H6 g/\g p=some (.lst (lt.map V.ref))) (λ_ _ _ ⟨_,_,_,e⟩=>QYJ e) ⟨_,rfl,s68,g8⟩ ?_ ?_⟩
     ·rintro j2 v2 h H9' HM ⟨UC,rfl,s9,g9⟩;rw[fK]at HM;cases hb:lt[j2]? with
      | none=>rw[hb]at HM;cases HM
      | some a'=>
       rw[hb]at HM;cases HM;obtain⟨yf,ea⟩:=Zgs.mp hb;obtain⟨sy,u,h1⟩:=Paired.get' (j:=j2) ht yf;rw[ea]at h1;have JT:=MV _ (getElem_mem sy);dsimp only [aJ];refine Ad (λv g=>v=false/\Same H9' g) (λIV Q=>?_) ?_ ?_
       ·refine⟨a',_,u,rfl,h1.same s9,wR q.fine bh.ok JT.2,by simp;omega,bh.whole q.hw pp Y JT.2,λo Hx U G=>?_⟩;have e:=kX U ((bh.wrong q.hw q.rep pp Y JT.2 he).2 JT.1);subst e;refine⟨_,.inl (QYJ ((h1.same s9).same G).lst),?_⟩;have el:(u.map V.ref).length=Z.length+2:=by
         have:=h1.len;rw[aS,<- this];simp
        show IV (!decide (((Z.length+1:Nat):Int)=((u.map V.ref).length:Int)-1)) Hx;rw[el,UV Zo];exact Q _ _ ⟨rfl,G⟩
       ·rintro _ ⟨z,_⟩;cases z
       ·rintro Hx ⟨_,G⟩;exact⟨_,rfl,s9.trans G,G _ _ g9⟩
     ·rintro h Hx ⟨UC,rfl,G,_⟩;exact⟨_,_,_,rfl,(f5.trans f6).same G⟩
    ·rintro h Hx ⟨o7',o8',UC,rfl,fx⟩;have ft:=(UB.same sq).trans fx;exact⟨_,_,_,_,_,_,_,rfl,ft.dk,ft.menus L M IQ⟩
   ·rintro h H3 _;exact a8 _ _ trivial
  ·rintro h H3 _;exact a5 H3
end
structure FA(K:W.Frag)(x:Str)(st:Stmt):Prop where
 ex:∃(f:TD)(od an:Option TD)(sl:Array (Option Q4))(oc kV dc pm cd ct:Q4),W.nsIn K mainGlobals x=some (some (.ref f))/\K.lookup f=some ⟨oc,od,.func (W.fnOf x x (cG st) (bF st) (aB st) .none kV dc pm an cd ct),sl⟩/\W.codeIn K cd x=true/\W.keepIn K (.ref f)=true
def FA.of{K:W.Frag}{x:Str}{st:Stmt}{f:TD}{d e:Option TD}{sl:Array (Option Q4)}{g kV h i b j:Q4}(a:W.nsIn K mainGlobals x=some (some (.ref f)))(l:K.lookup f=some ⟨g,d,.func (W.fnOf x x (cG st) (bF st) (aB st) .none kV h i e b j),sl⟩)(c:W.codeIn K b x=true)(k:W.keepIn K (.ref f)=true):FA K x st:=⟨f,d,e,sl,g,kV,h,i,b,j,a,l,c,k⟩
def QAL:Nat->(List Q4->Prop)->Prop
 |0,P=>P []
 |n+1,P=>∀a,QAL n λr=>P (a::r)
def qAL{P:List Q4->Prop}:∀us{n},us.length=n->QAL n P->P us
 |[],_,rfl,h=>h
 |a::r,_,rfl,h=>qAL (P:=λr=>P (a::r)) r rfl (h a)
def qAl{P:List Q4->Prop}{n}(h:QAL n P):∀us,us.length=n->P us:=λus a=>qAL us a h
def FA.at{K:W.Frag}{x:Str}{st:Stmt}{ps:List Str}{h:Heap}{mg:V0}(F:FA K x st)(X:K.In h)(G:h.Ns mainGlobals mg)(j:∀(kV g b:Q4)(d:Option TD)(i e:Q4)(us:List Q4),us.length=ps.length->bindArgs (W.fnOf x x (cG st) (bF st) (aB st) .none kV g b d i e) ⟨us,[]⟩=pure (ps.zip us):=by intro _ _ _ _ _ _;refine qAl ?_;(iterate 9 try intro _);rfl):DefAt K mg x st ps:=by
 refine yE0 F.ex (yE10 λf m d sl n kV o b p e=>yA4 λa l c k=>?_);exact aAp X G a l c k j
structure MA(K:W.Frag)(C:TD)(m qual:Str)(st:Stmt):Prop where
 ex:∃(f:TD)(od an:Option TD)(sl:Array (Option Q4))(oc kV dc pm cd ct:Q4),W.findIn K (.ref C) m=some (some (.ref f))/\W.isFn K (.ref f)=true/\K.lookup f=some ⟨oc,od,.func (W.fnOf m qual (cG st) (bF st) (aB st) .none kV dc pm an cd ct),sl⟩/\W.codeIn K cd qual=true/\W.keepIn K (.ref f)=true
def MA.of{K:W.Frag}{C:TD}{m b:Str}{st:Stmt}{f:TD}{e g:Option TD}{sl:Array (Option Q4)}{h kV j n d o:Q4}(a:W.findIn K (.ref C) m=some (some (.ref f)))(i:W.isFn K (.ref f)=true)(l:K.lookup f=some ⟨h,e,.func (W.fnOf m b (cG st) (bF st) (aB st) .none kV j n g d o),sl⟩)(c:W.codeIn K d b=true)(k:W.keepIn K (.ref f)=true):MA K C m b st:=⟨f,e,g,sl,h,kV,j,n,d,o,a,i,l,c,k⟩
def MA.at{K:W.Frag}{C:TD}{m b:Str}{st:Stmt}{ps:List Str}(F:MA K C m b st)(n:Cls K C)(o:∀(kV h d:Q4)(e:Option TD)(j g:Q4)(us:List Q4),us.length=ps.length->bindArgs (W.fnOf m b (cG st) (bF st) (aB st) .none kV h d e j g) ⟨us,[]⟩=pure (ps.zip us):=by intro _ _ _ _ _ _;refine qAl ?_;(iterate 9 try intro _);rfl):MethAt K C m b st ps:=by
 refine yE0 F.ex (yE10 λf p e sl q kV r d s g=>yA5 λa i l c k=>?_);exact⟨n,_,_,sP l c k,⟨a,i,k⟩,(sP (st:=st) l c k).binds o⟩
def aA7{l:W.OpenLaw}{w:World}{K:W.Frag}{a0:Heap}{mg:V0}{fa p:TD}(X:K.In a0)(G:a0.Ns mainGlobals mg)(JI:mg "law"=some (.ref fa)){CF y:Option TD}{CG:Array (Option Q4)}{CH z A B q C:Q4}(M6:FA K "is_name" mJ)(J8:FA K "is_whole" kI)(A4:FA K "is_made_of" fB)(M7:FA K "asks_of" mK)(D:FA K "done_changes" dJ)(X5:FA K "early" rQ)(qi:FA K "late" yD)(x9:FA K "done_answer" eB)(A5:FA K "changes_of" gN)(E3:FA K "is_answer" gD)(M8:FA K "word_of" mL)(X6:FA K "is_no" rR)(E4:FA K "bounds_of" iM)(A6:FA K "are_within" fE)(J9:FA K "is_alive" kJ)(E5:FA K "first_odd" iP)(X7:FA K "risen" gP)(A7:FA K "by_numbers" gQ)(A8:FA K "first_book" fF)(A9:FA K "risen_book" gT)(B0:FA K "risen_kept" dP)(y3:FA K "first_wrong" fW)(m5:FA K "right_answers" dB)(T7:FA K "folded" iC)(B1:FA K "still_kept" fG)(B3:FA K "came_again" gU)(K0:FA K "_law_deck" kK)(K2:FA K "_law_draw" kL)(B4:FA K "_law_unlike" cU)(M9:FA K "_law_end" mM)(K3:FA K "_law_deed" kM)(E7:FA K "_law_words" gG)(B5:FA K "_law_answer" gV)(E8:FA K "_law_menus" iQ)(K4:FA K "_law_spot" kN)(K5:FA K "_law_kept" kO)(K6:FA K "_law_head" kP)(E9:FA K "_law_early" iR)(F0:FA K "_law_lates" iU)(y4:FA K "_law_changes" fX)(E:FA K "_law_changed" eC)(G0:FA K "_law_sized" iV)(G4:FA K "_law_right" iW)(G5:FA K "_law_lived" bM)(m6:FA K "_law_some_head" eO)(K7:FA K "_law_book" fO)(B6:FA K "_law_folded" cV)(v7:FA K "_law_one_more" bV)(vw:W.nsIn K mainGlobals "law"=some (some (.ref p)))(vx:K.lookup p=some ⟨CH,CF,.func (W.fnOf "law" "law" (cG oQ) (bF oQ) (aB oQ) .none z A B y q C),CG⟩)(vy:W.codeIn K q "law"=true)(vz:W.keepIn K (.ref p)=true){a:TD}(X8:W.nsIn K mainGlobals "Walk"=some (some (.ref a)))(X9:W.plainGet K a Str.empty=true)(Y0:W.hasDictIn K a=true)(Y1:W.plainOver K a=true)(Y2:W.findIn K (.ref a) "__setattr__"=some (some (.builtin "object.__setattr__")))(Y3:W.makesIn K a=true)(Y4:W.keepIn K (.ref a)=true)(j6:W.findIn K (.ref a) "last_rows"=some none)(j7:W.findIn K (.ref a) "last_rank"=some none)(j8:W.findIn K (.ref a) "last_turn"=some none)(d9:W.findIn K (.ref a) "kept_numbers"=some none)(j0:W.findIn K (.ref a) "came_deeds"=some none)(d8:W.findIn K (.ref a) "asked_numbers"=some none)(e9:W.findIn K (.ref a) "done_numbers"=some none){i:TD}{N1 N2:Option TD}{N3:Array (Option Q4)}{N4 N5 N6 N7 F N8:Q4}(m7:W.findIn K (.ref a) "__init__"=some (some (.ref i)))(m8:W.isFn K (.ref i)=true)(m9:K.lookup i=some ⟨N4,N1,.func (W.fnOf "__init__" "Walk.__init__" (cG cF) (bF cF) (aB cF) .none N5 N6 N7 N2 F N8),N3⟩)(n8:W.codeIn K F "Walk.__init__"=true)(C2:W.keepIn K (.ref i)=true)(G6:MA K a "fits" "Walk.fits" iN)(B7:MA K a "rises" "Walk.rises" gO)(j9:MA K a "fits_kept" "Walk.fits_kept" dO)(i7:MA K a "fits_answer" "Walk.fits_answer" cT)(G7:MA K a "step" "Walk.step" iO){b:TD}(Y5:W.nsIn K mainGlobals "Book"=some (some (.ref b)))(Y6:W.plainGet K b Str.empty=true)(Y7:W.hasDictIn K b=true)(Y8:W.plainOver K b=true)(Y9:W.findIn K (.ref b) "__setattr__"=some (some (.builtin "object.__setattr__")))(Z0:W.makesIn K b=true)(Z1:W.keepIn K (.ref b)=true)(v8:W.findIn K (.ref b) "amounts"=some none){j:TD}{N9 O0:Option TD}{O1:Array (Option Q4)}{O2 O3 O5 O6 H O7:Q4}{k:TD}(n9:W.findIn K (.ref b) "__init__"=some (some (.ref j)))(p9:W.isFn K (.ref j)=true)(q9:K.lookup j=some ⟨O2,N9,.func (W.fnOf "__init__" "Book.__init__" (cG cE) (bF cE) (aB cE) (.ref k) O3 O5 O6 O0 H O7),O1⟩)(t7:W.codeIn K H "Book.__init__"=true)(C3:W.keepIn K (.ref j)=true)(y7:MA K b "amount" "Book.amount" fU)(G8:MA K b "rows" "Book.rows" gE)(y8:MA K b "change" "Book.change" fV){yt:Option TD}{I:List Q4}{yu:Nat}{wb:Array (Option Q4)}(J:K.lookup k=some ⟨.type "tuple",yt,.seq (toArray I) yu,wb⟩)(Z3:I=[.none])(B8:W.nsIn K mainGlobals "isinstance"=some none)(we:W.nsIn K mainGlobals "int"=some none)(qj:W.nsIn K mainGlobals "bool"=some none)(wg:W.nsIn K mainGlobals "str"=some none)(wj:W.nsIn K mainGlobals "len"=some none)(wk:W.nsIn K mainGlobals "all"=some none)(Z4:W.nsIn K mainGlobals "tuple"=some none)(wm:W.nsIn K mainGlobals "zip"=some none)(G9:W.nsIn K mainGlobals "enumerate"=some none)(wo:W.nsIn K mainGlobals "sum"=some none)(qk:W.nsIn K mainGlobals "list"=some none)(Z5:W.nsIn K mainGlobals "range"=some none)(T8:W.nsIn K mainGlobals "sorted"=some none)(wq:W.nsIn K mainGlobals "max"=some none)(ql:W.nsIn K mainGlobals "dict"=some none)(wt:W.nsIn K mainGlobals "min"=some none){ud:Tok}(O8:W.nsIn K mainGlobals "LETTERS"=some (some (.str ("abcdefghijklmnopqrstuvwxyz") ud))){T9:Tok}(v9:W.nsIn K mainGlobals "LONGEST_NAME"=some (some (.int (8) T9))){CI:Tok}(qm:W.nsIn K mainGlobals "MOST"=some (some (.int (1000000000000) CI))){r:TD}{L:List DictEntry}{yw:Nat}(Z7:W.nsIn K mainGlobals "RANKS"=some (some (.ref r)))(Z8:K.lookup r=some ⟨.type "dict",none,.dict (toArray L) yw,#[]⟩)(Z9:Tab w.params L (RKS))(kq:(r==sysModules)=false){M:TD}{N:List Q4}{O9:Option TD}{Q2:Nat}{P0:Array (Option Q4)}(t9:W.nsIn K mainGlobals "UNASKED_WORDS"=some (some (.ref M)))(u3:K.lookup M=some ⟨.type "tuple",O9,.seq (toArray N) Q2,P0⟩)(O:Vals (UAW) N)
  : ∃Q:FuncData,(∀(s:QZZ)(v:Q4),BindsTo s Q ⟨[v],[]⟩ [("_law_script",v)])/\∀base:Heap,K.In base->base.Ns mainGlobals mg->lE l.prog w K mg base sO 9 fa Q QZD (Gn K):=by
 have a1:=JI.symm.trans (W.mg_of X G vw);cases a1;have T:Txt K mg:=⟨W.mg_none_of X G B8,W.mg_none_of X G we,W.mg_none_of X G qj,W.mg_none_of X G wg,W.mg_none_of X G wj,W.mg_none_of X G wk,W.mg_none_of X G Z4,W.mg_none_of X G wm,W.mg_none_of X G G9,W.mg_none_of X G wo,W.mg_none_of X G qk,W.mg_none_of X G Z5,W.mg_none_of X G T8,W.mg_none_of X G wq,W.mg_none_of X G ql,W.mg_none_of X G wt,⟨_,W.mg_of X G O8⟩,⟨_,W.mg_of X G v9⟩,⟨_,W.mg_of X G qm⟩⟩;have U:Top w.params K mg:=⟨⟨_,W.mg_of X G Z7,⟨_,_,Z8,Z9,kq⟩⟩,⟨_,W.mg_of X G t9,λ_=>.inr ⟨_,_,_,u3,rfl,rfl,by rw[gM,<- O.length];decide,O⟩⟩⟩;have f:Cls K a:=⟨X9,Y0,Y1,Y2⟩;have CK:ClsAt K mg "Walk" a "Walk.__init__" cF QZG [[]]:=⟨i,_,_,W.mg_of X G X8,⟨_,_,_,_,_,_,_,_,_,rfl,m9,n8⟩,⟨Y3,m7,m8,Y4⟩,by
  intro a2 hd;obtain rfl:=Zms.mp hd;exact⟨[],λs d m e=>by replace e:d.length=1:=(by simpa using e);revert d;refine qAl ?_;intro _;exact BindsTo.of_eq rfl,.nil⟩⟩
 have n:Cls K b:=⟨Y6,Y7,Y8,Y9⟩;subst Z3;have CL:ClsAt K mg "Book" b "Book.__init__" cE QZv [[],[.non]]:=⟨j,_,_,W.mg_of X G Y5,⟨_,_,_,_,_,_,_,_,_,rfl,q9,t7⟩,⟨Z0,n9,p9,Z1⟩,by
  intro a2 hd;rcases mem_cons.mp hd with rfl|hd
  ·exact⟨[],λs d m e=>by replace e:d.length=2:=(by simpa using e);revert d;refine qAl ?_;intro _ _;exact BindsTo.of_defaults (T:=k) rfl (m _ _ J) rfl rfl rfl,.nil⟩
  obtain rfl:=Zms.mp hd
  ·exact⟨[.none],λs d m e=>by replace e:d.length=1:=(by simpa using e);revert d;refine qAl ?_;intro _;exact BindsTo.of_defaults (T:=k) rfl (m _ _ J) rfl rfl rfl,(.cons rfl .nil)⟩⟩
 refine⟨W.fnOf "law" "law" (cG oQ) (bF oQ) (aB oQ) .none z A B y q C,λs v=>.of_eq rfl,λbase _ _=>?_⟩;have HN:=sP (st:=oQ) vx vy vz;have BT:Wz K b:=⟨n,v8⟩;have cd:=Uu (P:=l.prog) (w:=w) (base:=base) T (K0.at X G);have c:=Ou (P:=l.prog) (w:=w) (base:=base) (K2.at X G);have o:=aAO T c (M9.at X G);have cu:=Jf T c (B4.at X G);have R:=Uy T c o (K3.at X G);have cw:=Oz (P:=l.prog) (w:=w) (base:=base) T (E7.at X G);have ca:=Jg T c o (B5.at X G);have t:=Uz T c (K4.at X G);have ck:=Va T c R cw ca t (K5.at X G);have ch:=Vb T c o ck (K6.at X G);have cm:=Pb T c cu (E8.at X G);have S:=Pd (P:=l.prog) (w:=w) (base:=base) T (E9.at X G);have cla:=Pe (P:=l.prog) (w:=w) (base:=base) T (F0.at X G);have V:=Aq (P:=l.prog) (w:=w) (base:=base) T (y4.at X G);have cc:=Cv T V (E.at X G);have Y:=Ph T c (G0.at X G);have cri:=Pi T c S cla (G4.at X G);have cli:=Pn T c R t Y cri cc (G5.at X G);have csh:=yJ T c ch (m6.at X G);have u:=vJ (P:=l.prog) (w:=w) (base:=base) (A7.at X G);have ci:=Ps (P:=l.prog) (w:=w) (base:=base) T BT CL;have x:=yK (P:=l.prog) (w:=w) (mg:=mg) (base:=base) BT (y7.at n);have Z:=Dh T BT x (y8.at n);have cdc:=rK (P:=l.prog) (w:=w) (base:=base) T (D.at X G);have UJ:=vK T cdc (A5.at X G);have UK:=vL T (ci _ Zs) (A8.at X G);have g:WkT K a:=⟨f,j6,j7,j8,d9,j0,d8,e9⟩;have c3:=Ur (P:=l.prog) (w:=w) (base:=base) T (A4.at X G);have c4:=Cs T c3 (M6.at X G);have c5:=Os (P:=l.prog) (w:=w) (base:=base) T (J8.at X G);have h:=Us (P:=l.prog) (w:=w) (base:=base) T (M7.at X G);have cwo:=Ct (P:=l.prog) (w:=w) (base:=base) T (M8.at X G);have cno:=Ot T c4 (X6.at X G);have cb:=Jc (P:=l.prog) (w:=w) (base:=base) T (E4.at X G);have cwi:=Jd T c5 (A6.at X G);have cia:=yF T cwo cno h cb cwi (E3.at X G);have UL:=Jr (P:=l.prog) (w:=w) (mg:=mg) (base:=base) g (B7.at f);have cwk:=Qi g UL (j9.at f);have cwa:=Vp T U g cia h (i7.at f);have cwf:=Ql T U g UL cwk cwa h (G6.at f);have cws:=Qo (P:=l.prog) (base:=base) T U g (G7.at f);have cwn:=Qp (P:=l.prog) (w:=w) (base:=base) g CK;have NX:=yN T (cwn _ Zs) cwf cws (E5.at X G);have UM:=Du (P:=l.prog) (w:=w) (base:=base) T (D.at X G);have UN:=uP T BT UM x (x9.at X G);have ceb:=Ka T BT UM h x UN (X5.at X G);have clt:=Vx T BT h UN (qi.at X G);have cra:=qR T ceb clt h (m5.at X G);have cfw:=uQ T NX u UK cra UJ Z (y3.at X G);have crw:=Dg (P:=l.prog) (w:=w) (base:=base) T BT (G8.at n);have crb:=vM T UK UJ Z (A9.at X G);have crk:=vN (P:=l.prog) (w:=w) (base:=base) T (B0.at X G);have NY:=Qe T u crb crw crk (X7.at X G);have cal:=Po (P:=l.prog) (w:=w) (base:=base) (J9.at X G);have cst:=Qt T cal (B1.at X G);have cag:=Qv T u (B3.at X G);have cfo:=Ju T NY cag cst (T7.at X G);have ccp:=Bj T V (E.at X G);have clb:=Dy T ccp (K7.at X G);have cfl:=Bi T o cfo (B6.at X G);have cmo:=Wg T c clb Y S t (v7.at X G);exact aA6 T cd cm c csh cli cfl cfw cmo HN
def aDw{l:W.OpenLaw}{q:Program}{e:List Str}{g:(Str->Option Q4)->Heap->Prop}{b:World->Heap->Prop}{d:DefRec}{K:Params->W.Frag}(i:l.most=some 63)(j:d.params.defaults=[])(m:∀(w:World)(h:Heap),b w h->(K w.params).In h)(F:∀(w:World)(mg:V0)(fa:TD)(h:Heap),(K w.params).In h->h.Ns mainGlobals mg->mg d.name=some (.ref fa) →
   ∃c:FuncData,(∀(s:QZZ)(u:Q4),BindsTo s c ⟨[u],[]⟩ [("_law_script",u)])/\∀base:Heap,(K w.params).In base->base.Ns mainGlobals mg->lE l.prog w (K w.params) mg base sO 9 fa c QZD (Gn (K w.params))) :
  W.WalkO q e g b l.row.toRowW d [] (λf vs=>PySem.call f vs):=
 L2.Eo (n:=63) (k:=9) (x:="_law_script") (CX:=λ_=>sO) (sp:=λw=>Gn (K w.params)) i Zd j ⟨rfl,Zd,Zd⟩ m F (λ_ _ a o p _ r=>⟨a,o,rfl,r,p,λ_=>rfl⟩) λ_ _ _ _ _ z=>z
end KL
namespace PySem.W.Fast
def tw1727504286884636249:=0
def tw5254290860998747032:=0
def tw14279579777778159153:=0
def tw7127118051988005534:=0
def tw12407334940091230901:=0
def tw15301896019225548096:=0
def tw11200409951654762095:=0
def tw15047222661051219769:=0
def tw17005762428512021088:=0
def tw13478879717860934877:=0
def tw4682468467402895025:=0
def tw16692108779655639676:=0
def tw7207289466742915400:=0
def tw10411259435012228466:=0
def tw5713237078219797977:=0
def tw13227072013928229361:=0
def tw17866944081560668958:=0
def tw16136144730725204859:=0
def tw4648262227579983189:=0
def tw8366864272238257334:=0
def tw3462481439948694066:=0
def tw14377441477905139545:=0
def tw14267812061573677809:=0
def tw11359504057958179351:=0
def tw7833320261452643312:=0
def tw4864227672018919148:=0
def tw13441047557330019030:=0
def tw6663512696456644856:=0
def tw3062506177725936615:=0
def tw11312438393507673769:=0
def tw17493538405923341415:=0
def tw2801291371112094087:=0
def tw16621560636291250921:=0
def tw7116596874122618520:=0
def tw6920857934455141900:=0
def tw17629312892884948409:=0
def tw3658586418291317836:=0
def tw5914783972492107336:=0
def tw12234013339756057869:=0
def tw17875565436632767606:=0
def tw14693287190811537738:=0
def tw1207251814007229744:=0
def tw10862645118518012910:=0
def tw13916810600409955421:=0
def tw3807098283551244896:=0
def tw13870865607040644353:=0
def tw8781119932487205338:=0
def tw8417023222754004589:=0
def tw2928717796999858813:=0
def tw4509903755407973800:=0
def tw18426707613587649914:=0
def tw2501165409721447052:=0
def tw177127832075085930:=0
def tw4465875432561365013:=0
def tw7019882420745293927:=0
def tw16304599040053394425:=0
def tw6561577353314578890:=0
def tw10875911217301035120:=0
def tw13453680791927256841:=0
def tw8610968947976846967:=0
def tw14729682333423540483:=0
def tw5764106063330647652:=0
def tw3376621968455615327:=0
def tw14248288114400615561:=0
def tw12509139408697972726:=0
def tw9741349652900343374:=0
def tw5495022252997370640:=0
def tw5302958868101012191:=0
def tw8597463177483113716:=0
def tw15745487427314791922:=0
def tw15971209690278461877:=0
def tw15780599267388421981:=0
def tw12104701087580372808:=0
def tw16001501682943655725:=0
def tw14955052063416218112:=0
def tw17520623759126320123:=0
def tw2150149812116424411:=0
def tw9463929463496233515:=0
def tw15679445317177810576:=0
def tw13172747327273248146:=0
def tw14750375255416330290:=0
def tw15239580661181526328:=0
def tw6146699200122540782:=0
def tw13799605590354747056:=0
def tw17034907368378286626:=0
def tw17631306166685256857:=0
def tw1455669879408969720:=0
def tw15756329928812109136:=0
def tw7981408243769656204:=0
def tw3647283249039718408:=0
def tw15409424886800174694:=0
def tw13348998204865543537:=0
def tw9825063581722988617:=0
def tw4513180270756470736:=0
def tw2796784981529240049:=0
def tw4063499921136510328:=0
def tw12158697309817965595:=0
def tw15388625665365258381:=0
def tw13916734901554835478:=0
def tw12978323288252164806:=0
def tw12988247269887377292:=0
def tw12154535129520857631:=0
def tw6044842972006521572:=0
def tw14085981951932194995:=0
def tw9884786831912696129:=0
def tw9416231649956856457:=0
def tw5177385057266948456:=0
def tw7674014494465879697:=0
def tw2015508522092036268:=0
def tw6659872544524729173:=0
def tw13074294982513541634:=0
def tw12931881401569494765:=0
def tw15547610023637241949:=0
def tw9636228927416914105:=0
def tw13291085746585843847:=0
def tw11345691330957091161:=0
def tw6204342739585721083:=0
def tw3115961018324377174:=0
def tw9674683558500600202:=0
def tw1238859222505269383:=0
def tw15683323303309111728:=0
def tw17197711462029643534:=0
def tw15700669282265511151:=0
def tw9761293463549182058:=0
def tw9422432019490997641:=0
def tw2585191973737332838:=0
def tw15151672151650033487:=0
def tw5641045556523463791:=0
def tw1600406311661186911:=0
def tw12410794912868517873:=0
def tw16427307110553027025:=0
def tw237365562066200435:=0
def tw9298340839464103940:=0
def tw12141197899909283729:=0
def tw7082927403106374855:=0
def tw1823298132006203341:=0
def tw4077940310786199674:=0
def tw8525745087115109199:=0
def tw7194909558636736125:=0
def tw17440060253167602143:=0
def tw15844356155573104053:=0
def tw12494047954488982706:=0
def tw14650164766436914373:=0
def tw15745087132881811483:=0
def tw13024088703026580384:=0
def tw11676907284867685919:=0
def tw2930757518488922614:=0
def tw10907109422083005584:=0
def tw2533688782623001638:=0
def tw3909595739823984706:=0
def tw878910959142334954:=0
def tw6429447220757685662:=0
def tw877389421940826485:=0
def tw7527359620832534637:=0
def tw6292722863750826710:=0
def tw1290466258297579892:=0
def tw9382967506536129645:=0
def tw13685926222903195899:=0
def tw14265413426844118654:=0
def tw6669228623128747633:=0
def tw4642068374838915538:=0
def tw17542527999964507683:=0
def tw194186156890158508:=0
def tw12227656789355292801:=0
def tw18269635341867007066:=0
def tw8244928179216916120:=0
def tw8294537135030567023:=0
def tw4326982397013992725:=0
def tw13581910990000176771:=0
def tw5230376000912633963:=0
def tw13560255856231435265:=0
def tw4310985693792299280:=0
def tw1720670738442127243:=0
def tw14631948843868310852:=0
def tw6295789523241440020:=0
def tw7583138540902714952:=0
def tw9152182086798247678:=0
def tw2476732444462114389:=0
def tw1287676720296121067:=0
def tw7866011810689961471:=0
def tw2566945819497924765:=0
def tw6068670949881562008:=0
def tw389781701304156941:=0
def tw3696980932103921060:=0
def tw12904177359027092352:=0
def tw3968100877771661389:=0
def tw17079878705519029583:=0
def tw1396833902303773598:=0
def tw7977547770801012745:=0
def tw98746429247572157:=0
def tw14302043510786225313:=0
def tw2564567140085899866:=0
def tw4331698789930160479:=0
def tw6168467667218905877:=0
def tw4166155273024942222:=0
def tw5461829495854911222:=0
def tw6109127888000809189:=0
def tw12865680522718817379:=0
def tw13831684940527159684:=0
def tw8928894773837884126:=0
def tw1301365751421596172:=0
def tw16312231385052521609:=0
def tw4002600339953336601:=0
def tw7144904088086827612:=0
def tw9779642315162248886:=0
def tw3385662087192076007:=0
def tw8833224335400400843:=0
def tw5239084146006939203:=0
def tw16426429664042298897:=0
def tw8643191342948558597:=0
def tw13102252310415593833:=0
def tw2514309422250266361:=0
def tw5233442625942962883:=0
def tw1976881307581254114:=0
def tw15528276172493618777:=0
def tw3950962808487745153:=0
def tw1629861022540670711:=0
def tw10854433162391936163:=0
def tw16660400364357924712:=0
def tw12185824371198776506:=0
def tw6897000190641852364:=0
def tw10585731771494672896:=0
def tw12512512488475220403:=0
def tw2437071930753579585:=0
def tw3654903784702332241:=0
def tw16856600599136034430:=0
def tw4711411849854594681:=0
def tw223761364839571977:=0
def tw14827922767357934442:=0
def tw6327308890661254657:=0
def tw625172146636689169:=0
def tw7606165394006608809:=0
def tw12709386760553503572:=0
def tw87958854359323985:=0
def tw8168286440853490904:=0
def tw3908446269206139784:=0
def tw1503623204565291624:=0
def tw13930827380833226835:=0
def tw10171009593167071841:=0
def tw8677990131521565481:=0
def tw5343663994892300933:=0
def tw4513978271483922681:=0
def tw7945026887129251818:=0
def tw12154826398376929214:=0
def tw7911467010712233462:=0
def tw11059341849311245642:=0
def tw14044231632549162192:=0
def tw11423668858070358924:=0
def tw10833113516211992952:=0
def tw12436871346010913702:=0
def tw15854349648042920422:=0
def tw12927668422732542355:=0
def tw5177613751910768231:=0
def tw17755369888090080435:=0
def tw15316069350974956353:=0
def tw17469836862187481638:=0
def tw2269931462681649934:=0
def tw6550865730443985613:=0
def tw11746324066207273613:=0
def tw6666004246795691097:=0
def tw2870368650382945806:=0
def tw15750230646393352885:=0
def tw493023691219257472:=0
def tw9429808873523210593:=0
def tw9150849076146243065:=0
def tw4423937675729598571:=0
def tw13810508373907152341:=0
def tw16748572322894558837:=0
def tw7260407506712265004:=0
def tw14039927768861181153:=0
def tw112388133407348186:=0
def tw10192173412051636269:=0
def tw543825039105320547:=0
def tw6483238339634957209:=0
def tw5992764488361370700:=0
def tw12023660220362652326:=0
def tw4358369536302572787:=0
def tw11258914782068323103:=0
def tw4946424905664639952:=0
def tw16696388082545935104:=0
def tw2558527439490031720:=0
def tw5407819410116307059:=0
def tw15894171551435220489:=0
def tw1397187492743319442:=0
end PySem.W.Fast
open PySem PySem.W PyProof.Rows
set_option maxRecDepth 100000 in
set_option maxHeartbeats 0 in
theorem PySem.Challenge.cw_oncedoor_k71_right_answers_holds : PySem.Challenge.rw_oncedoor_k71_right_answers.Holds := by
 w_on;o_law;k_head;(case hw=>w_witness2)
 k_fill
 refine KL.aDw (l:=PySem.Challenge.rw_oncedoor_k71_right_answers) rfl rfl (λw h Y=>W.kIn_of Y) ?F
 case F=>
  intro w mg fa h KX G zg;refine' KL.aA7 KX G zg ?M6 ?J8 ?A4 ?M7 ?u9 ?X5 ?qi ?x9 ?A5 ?E3 ?M8 ?X6 ?E4 ?A6 ?J9 ?E5 ?X7 ?A7 ?A8 ?A9 ?B0 ?y3 ?m5 ?T7 ?B1 ?B3 ?K0 ?K2 ?B4 ?M9 ?K3 ?E7 ?B5 ?E8 ?K4 ?K5 ?K6 ?E9 ?F0 ?y4 ?y6 ?G0 ?G4 ?G5 ?m6 ?K7 ?B6 ?v7 ?vw ?vx ?vy ?vz ?X8 ?X9 ?Y0 ?Y1 ?Y2 ?Y3 ?Y4 ?j6 ?j7 ?j8 ?d9 ?j0 ?d8 ?e9 ?m7 ?m8 ?m9 ?n8 ?C2 ?G6 ?B7 ?j9 ?i7 ?G7 ?Y5 ?Y6 ?Y7 ?Y8 ?Y9 ?Z0 ?Z1 ?v8 ?n9 ?p9 ?q9 ?t7 ?C3 ?y7 ?G8 ?y8 ?Q9 ?Z3 ?B8 ?we ?qj ?wg ?wj ?wk ?Z4 ?wm ?G9 ?wo ?qk ?Z5 ?T8 ?wq ?ql ?wt ?O8 ?v9 ?qm ?Z7 ?Z8 ?Z9 ?kq ?t9 ?u3 ?h9
  case M6|J8|A4|M7|u9|X5|qi|x9|A5|E3|M8|X6|E4|A6|J9|E5|X7|A7|A8|A9|B0|y3|m5|T7|B1|B3|K0|K2|B4|M9|K3|E7|B5|E8|K4|K5|K6|E9|F0|y4|y6|G0|G4|G5|m6|K7|B6|v7=>refine' KL.FA.of ?a ?l ?c ?k;(case a=>k_is);(case l=>k_is);(case c=>k_is);case k=>k_is
  case vw|vx|vy|vz|X8|X9|Y0|Y1|Y2|Y3|Y4|j6|j7|j8|d9|j0|d8|e9|m7|m8|m9|n8|C2=>k_is
  case G6|B7|j9|i7|G7=>refine' KL.MA.of ?a ?i ?l ?c ?k;(case a=>k_is);(case i=>k_is);(case l=>k_is);(case c=>k_is);case k=>k_is
  case Y5|Y6|Y7|Y8|Y9|Z0|Z1|v8|n9|p9|q9|t7|C3=>k_is
  case y7|G8|y8=>refine' KL.MA.of ?a ?i ?l ?c ?k;(case a=>k_is);(case i=>k_is);(case l=>k_is);(case c=>k_is);case k=>k_is
  case Q9=>k_is
  case Z3=>exact rfl
  case B8|we|qj|wg|wj|wk|Z4|wm|G9|wo|qk|Z5|T8|wq|ql|wt|O8|v9|qm|Z7|Z8=>k_is
  case Z9=>repeat (first | exact True.intro | refine And.intro ⟨_,rfl⟩ (And.intro rfl (And.intro ⟨_,rfl⟩ ?_)))
  case kq=>decide
  case t9|u3=>k_is
  case h9=>repeat (first | exact .nil | refine .cons ⟨_,rfl⟩ ?_)
