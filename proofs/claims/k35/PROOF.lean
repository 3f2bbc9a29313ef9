import PyProof.Rows.All
import Wide.All
import OpenK.AllK
import Wide.FinOn
import Lean
import PyProof.EqAt
import PyProof.EqKinds
import PyProof.TupleCall
import KE.KSortTup
import KE.KDictSum
import KE.KDictOf
import PyProof.AttrMissHeap
import OpenK.KRaise
import KE.KIsAll
import KE.KEqDict
import KE.KTryMore
import KE.RegKIsAll
import KE.RegKTryMore
import PyProof.NsDelKeeps
import PyProof.ExcArgs
import PyProof.FitsReplace
import PyProof.Rows.StrJoin2
import PySem.Challenge.RW_oncedoor_k35_journals_made_of_texts
set_option Elab.async false
set_option linter.all false
set_option maxRecDepth 100000
set_option maxHeartbeats 4000000
set_option compiler.extract_closed false
theorem ln1{α}{l:List α}(h:l.length=1):∃a,l=[a]:=by match l,h with|[a],_=>exact⟨a,rfl⟩
theorem ln2{α}{l:List α}(h:l.length=2):∃a b,l=[a,b]:=by match l,h with|[a,b],_=>exact⟨a,b,rfl⟩
theorem ln3{α}{l:List α}(h:l.length=3):∃a b c,l=[a,b,c]:=by match l,h with|[a,b,c],_=>exact⟨a,b,c,rfl⟩
theorem ln5{α}{l:List α}(h:l.length=5):∃a b c d e,l=[a,b,c,d,e]:=by match l,h with|[a,b,c,d,e],_=>exact⟨a,b,c,d,e,rfl⟩
theorem ln6{α}{l:List α}(h:l.length=6):∃a b c d e f,l=[a,b,c,d,e,f]:=by match l,h with|[a,b,c,d,e,f],_=>exact⟨a,b,c,d,e,f,rfl⟩
theorem lc2{α}{l:List α}(h:2<=l.length):∃a b u,l=a::b::u:=by match l,h with|a::b::u,_=>exact⟨a,b,u,rfl⟩
theorem lc4{α}{l:List α}(h:4<=l.length):∃a b c d u,l=a::b::c::d::u:=by match l,h with|a::b::c::d::u,_=>exact⟨a,b,c,d,u,rfl⟩
section
variable{a b c d e f g h i G:Prop}
theorem yE0(h:a)(k:a->G):G:=k h
theorem yA2(t:a->b->G):a/\b->G:=λh=>t h.1 h.2
theorem yA3(t:a->b->c->G):a/\b/\c->G:=yA2 λx=>yA2 (t x)
theorem yA4(t:a->b->c->d->G):a/\b/\c/\d->G:=yA2 λx=>yA3 (t x)
theorem yA5(t:a->b->c->d->e->G):a/\b/\c/\d/\e->G:=yA2 λx=>yA4 (t x)
theorem yA6(t:a->b->c->d->e->f->G):a/\b/\c/\d/\e/\f->G:=yA2 λx=>yA5 (t x)
theorem yA7(t:a->b->c->d->e->f->g->G):a/\b/\c/\d/\e/\f/\g->G:=yA2 λx=>yA6 (t x)
theorem yA8(t:a->b->c->d->e->f->g->h->G):a/\b/\c/\d/\e/\f/\g/\h->G:=yA2 λx=>yA7 (t x)
theorem yA9(t:a->b->c->d->e->f->g->h->i->G):a/\b/\c/\d/\e/\f/\g/\h/\i->G:=yA2 λx=>yA8 (t x)
variable{α β γ δ ε ζ η θ ι:Sort _}
theorem yE1{P:α->Prop}(t:∀x,P x->G):(∃x,P x)->G:=λh=>h.elim t
theorem yE2{P:α->β->Prop}(t:∀a b,P a b->G):(∃a b,P a b)->G:=yE1 λx=>yE1 (t x)
theorem yE3{P:α->β->γ->Prop}(t:∀a b c,P a b c->G):(∃a b c,P a b c)->G:=yE1 λx=>yE2 (t x)
theorem yE4{P:α->β->γ->δ->Prop}(t:∀a b c d,P a b c d->G):(∃a b c d,P a b c d)->G:=yE1 λx=>yE3 (t x)
theorem yE5{P:α->β->γ->δ->ε->Prop}(t:∀a b c d e,P a b c d e->G):(∃a b c d e,P a b c d e)->G:=yE1 λx=>yE4 (t x)
theorem yE6{P:α->β->γ->δ->ε->ζ->Prop}(t:∀a b c d e f,P a b c d e f->G):(∃a b c d e f,P a b c d e f)->G:=yE1 λx=>yE5 (t x)
theorem yE7{P:α->β->γ->δ->ε->ζ->η->Prop}(t:∀a b c d e f g,P a b c d e f g->G):(∃a b c d e f g,P a b c d e f g)->G:=yE1 λx=>yE6 (t x)
theorem yE8{P:α->β->γ->δ->ε->ζ->η->θ->Prop}(t:∀a b c d e f g h,P a b c d e f g h->G):(∃a b c d e f g h,P a b c d e f g h)->G:=yE1 λx=>yE7 (t x)
theorem yE9{P:α->β->γ->δ->ε->ζ->η->θ->ι->Prop}(t:∀a b c d e f g h i,P a b c d e f g h i->G):(∃a b c d e f g h i,P a b c d e f g h i)->G:=yE1 λx=>yE8 (t x)
end
abbrev ZB:=List (PySem.Addr×PySem.Obj)
abbrev Y5:=PySem.Value->PySem.Shared->Prop
abbrev Y4:=PySem.Str->Option PySem.Value
def Y3:=@PySem.wpAny_bind
def Y2:=@PySem.wpAny_pure
def Y1:=@Bool.false_ne_true
def X4:=@of_decide_eq_true
def X3:=@of_decide_eq_false
def X2:=@decide_eq_true
def XV:=@decide_eq_false
def W1:=@PySem.Heap.get?_push_size
abbrev WP:=PySem.Addr
abbrev WF:=PySem.Value
abbrev UV:=PySem.Shared
def UF:=@if_pos
def T8:=@if_neg
def T7:=@absurd
def T0:=@List.mem_append_left
def TW:=@List.mem_append_right
def TD:=@Nat.lt_of_lt_of_le
def QZZ:=@List.not_mem_nil
def QZY:=@List.filterMap_cons
abbrev QZX:List PySem.Str:=["thing"]
abbrev QZW:List PySem.Str:=["text"]
abbrev QZV:List PySem.Str:=["_law_thing"]
abbrev QZU:List PySem.Str:=["self"]
abbrev QZT:List PySem.Str:=["_law_pen_here","_law_most"]
abbrev QZS:List PySem.Str:=["_law_pen_here","_law_many"]
abbrev QZR:List PySem.Str:=["words"]
abbrev QZQ:List PySem.Str:=["row"]
abbrev QZP:List PySem.Str:=["_law_found","_law_due"]
abbrev QZO:List PySem.Str:=["parts"]
abbrev QZN:List PySem.Str:=["thing","signs","longest"]
abbrev QZM:List PySem.Str:=["deed"]
abbrev QZL:List PySem.Str:=["_law_thing","_law_least","_law_most"]
abbrev QZK:List PySem.Str:=["_law_text"]
abbrev QZJ:List PySem.Str:=["_law_pen_here","_law_line_here"]
abbrev QZI:List PySem.Str:=["thing","least","most"]
abbrev QZH:List PySem.Str:=["deed","thing"]
abbrev QZG:List PySem.Str:=["_law_row_here"]
abbrev QZF:List PySem.Str:=["_law_thing","_law_signs","_law_most"]
abbrev QZE:List PySem.Str:=["word","names"]
abbrev QZD:List PySem.Str:=["answer"]
abbrev QZC:List PySem.Str:=["things","bounds"]
abbrev QZB:List PySem.Str:=["self","text"]
abbrev QZA:List PySem.Str:=["_law_pen_here","_law_least","_law_most"]
abbrev QZz:List PySem.Str:=["_law_word"]
abbrev QZy:List PySem.Str:=["kind","part"]
abbrev QZx:List PySem.Str:=["kind","thing"]
abbrev QZw:List PySem.Str:=["self","row"]
abbrev QZv:List PySem.Str:=["_law_cell","_law_k"]
abbrev QZu:List PySem.Str:=["_law_script","_law_k"]
abbrev QZt:List PySem.Str:=["self","line"]
abbrev QZs:List PySem.Str:=["_law_pen_here","_law_many","_law_signs","_law_size","_law_at","_law_step","_law_base","_law_rows","_law_way","_law_k","_law_row_here"]
abbrev QZr:List PySem.Str:=["_law_pen_here","_law_names_here"]
abbrev QZq:List PySem.Str:=["_law_pen_here","_law_deed_here"]
abbrev QZp:List PySem.Str:=["_law_pen_here","_law_names_here","_law_keys_here"]
abbrev QZo:List PySem.Str:=["_law_row_here","_law_words_here","_law_k","_law_part"]
abbrev QZn:List PySem.Str:=["_law_deed_here","_law_thing"]
abbrev QZm:List PySem.Str:=["_law_words_here"]
abbrev QZl:List PySem.Str:=["_law_error"]
abbrev QZk:List PySem.Str:=["_law_journal","_law_rows","_law_firm","_law_turns"]
abbrev QZj:List PySem.Str:=["_law_script"]
abbrev QZi:List PySem.Str:=["_law_sign","_law_signs"]
abbrev QZh:List PySem.Str:=["_law_j","_law_pen_here"]
abbrev QZg:List PySem.Str:=["_law_line_here"]
abbrev QZf:List PySem.Str:=["_law_pen_here","_law_many","_law_letters","_law_size","_law_at","_law_step","_law_base","_law_names_here","_law_k","_law_long","_law_signs"]
abbrev QZe:List PySem.Str:=["_law_script","_law_pen_here","_law_names_here","_law_keys_here","_law_spare","_law_torn_here","_law_lines","_law_k","_law_cell","_law_line_here","_law_rows","_law_found"]
abbrev QZd:List PySem.Str:=["_law_one","_law_other"]
abbrev QZc:List PySem.Str:=["thing","least_most"]
abbrev QZb:List PySem.Str:=["_law_row_here","_law_signs"]
abbrev QZa:List PySem.Str:=["text","parts","kinds","read","row"]
abbrev QYZ:List PySem.Str:=["_law_journal","_law_rows","_law_firm","_law_turns","_law_text","_law_turn","_law_found"]
open List (filterMap_cons mem_cons mem_append_left getElem?_set_self getElem?_set_ne mem_filterMap mem_append_right any_eq_false map_cons append_nil nodup_cons of_mem_zip replicate length getElem?_append_left length_replicate length_drop length_set all_cons any_cons replicate_succ flatten_cons append_assoc length_singleton nil_append find?_cons cons_append length_nil map_nil forIn_cons lookup_cons drop_zero all_eq_true getElem?_range drop_of_length_le take_nil getElem_mem map_map sum_cons not_mem_nil any_map any_eq_true all_map toArray mem_of_mem_drop mem_of_mem_take map_id map_congr_left getElem_toArray drop_left' take_succ length_zip getD_cons_zero zip_cons_cons count_pos_iff drop_eq_nil_of_le map_take map_drop forall_mem_append map_set)
open Nat (lt_of_lt_of_le lt_irrefl ne_of_lt le_of_lt ne_of_gt le_of_eq lt_succ_self zero_le lt_trans le_succ min_le_left min_eq_left min_eq_right toDigits mod_lt add_lt_add_left le_add_right sub_self)
def Zk{p:Prop}(h:p:=by decide +kernel):p:=h
def Zo{p:Prop}(h:p:=by omega):p:=h
def Zs{p:Prop}(h:p:=by simp):p:=h
def Zd{p:Prop}(h:p:=by decide):p:=h
def Zfm:=@List.forall_mem_cons
def aX:=@List.length_map
def hV:=@PySem.Heap.get?_push_of_some
def Zgs:=@List.getElem?_eq_some_iff
def kO:=@List.getElem?_eq_getElem
def fN:=@List.mem_cons_of_mem
def Zmm:=@List.mem_map
def hX:=@List.map_append
def gQ:=@List.length_append
def jF:=@List.getElem?_map
def qX:=@Int.eq_ofNat_of_zero_le
def iB:=@Nat.le_trans
def iV:=@List.mem_cons_self
def iA:=@List.size_toArray
def fM:=@List.length_take
def qU:=@List.take_of_length_le
def Zma:=@List.mem_append
def Zms:=@List.mem_singleton
def eJ:=@List.length_cons
def Ly:=@Nat.lt_of_le_of_lt
def cE:=@Nat.le_refl
def Dc:=@List.take_add_one
def sW:=@List.mem_of_getElem?
namespace L2
open PySem PySem.Spec PyProof.Rows
abbrev eN:=Sum Int Str
def lT:eN->WF->Bool
 | .inl k,v=>Value.isInt k v
 | .inr x,v=>Value.isStrOf x v
def aBE(w:World):eN->Int
 | .inl k=>hashInt k
 | .inr x=>hashStr w x
def bV:∀ {k:eN}{v:WF},lT k v=true->(∃i t,k=Sum.inl i/\v=Value.int i t)∨(∃x t,k=Sum.inr x/\v=Value.str x t)
 | .inl i,v,h=>by
  obtain⟨t,e⟩:=Value.isInt_shape (k:=i) (v:=v) h;exact .inl ⟨i,t,rfl,e⟩
 | .inr x,v,h=>by
  obtain⟨t,e⟩:=Value.isStrOf_shape (x:=x) (v:=v) h;exact .inr ⟨x,t,rfl,e⟩
def Ix(i:Int)(t:Tok):lT (.inl i) (.int i t)=true:=by simp[lT,Value.isInt]
def Iy(x:Str)(t:Tok):lT (.inr x) (.str x t)=true:=by simp[lT,Value.isStrOf]
def Yc(a b:Int):decide ((Sum.inl a:eN)=Sum.inl b)=(a==b):=by
 by_cases e:a=b
 ·subst e;simp
 ·have h:¬ (Sum.inl a:eN)=Sum.inl b:=λq=>e (Sum.inl.inj q)
  rw[XV h];exact(beq_eq_false_iff_ne.mpr e).symm
def Yd(a b:Str):decide ((Sum.inr a:eN)=Sum.inr b)=decide (a=b):=by
 by_cases e:a=b
 ·subst e;simp
 ·have h:¬ (Sum.inr a:eN)=Sum.inr b:=λq=>e (Sum.inr.inj q)
  rw[XV h,XV e]
def Ye(a:Int)(b:Str):decide ((Sum.inl a:eN)=Sum.inr b)=false:=XV (λq=>nomatch q)
def Yf(a:Str)(b:Int):decide ((Sum.inr a:eN)=Sum.inl b)=false:=XV (λq=>nomatch q)
def bQ(prog:Program)(w:World):PySem.KeyKind prog w eN where
 is:=lT
 hash:=aBE w
 inj:=λv a b g f=>by
  rcases bV g with⟨i,t,rfl,rfl⟩|⟨x,t,rfl,rfl⟩
  ·rcases bV f with⟨j,u,rfl,e⟩|⟨y,u,rfl,e⟩
   ·injection e with c _;rw[c]
   ·exact nomatch e
  ·rcases bV f with⟨j,u,rfl,e⟩|⟨y,u,rfl,e⟩
   ·exact nomatch e
   ·injection e with c _;rw[c]
 byValue:=λk v h=>by
  rcases bV h with⟨i,t,rfl,rfl⟩|⟨x,t,rfl,rfl⟩<;>rfl
 pyHash:=λd h=>by
  rcases bV d with⟨i,t,rfl,rfl⟩|⟨x,t,rfl,rfl⟩
  ·exact wpAny_pyHash_int h
  ·exact wpAny_pyHash_str h
 eqBool:=λl d h=>by
  rcases bV l with⟨i,t,rfl,rfl⟩|⟨x,t,rfl,rfl⟩
  ·rcases bV d with⟨j,u,rfl,rfl⟩|⟨y,u,rfl,rfl⟩
   ·rw[Yc]at h;exact wpAny_eqBool_int h
   ·rw[Ye]at h;exact SeqAt.EqAt.int_str i t y u _ _ _ _ h
  ·rcases bV d with⟨j,u,rfl,rfl⟩|⟨y,u,rfl,rfl⟩
   ·rw[Yf]at h;exact SeqAt.EqAt.str_int x t j u _ _ _ _ h
   ·rw[Yd]at h;exact wpAny_eqBool_str h
 «strs»:=λk x t v h=>by
  rcases bV h with⟨i,u,rfl,e⟩|⟨y,u,rfl,e⟩
  ·exact nomatch e
  ·injection e with c _
   subst c;cases v<;>rfl
def Af(prog:Program)(w:World)(i:Int)(t:Tok):(bQ prog w).is (.inl i) (.int i t)=true:=Ix i t
def Ah(prog:Program)(w:World)(x:Str)(t:Tok):(bQ prog w).is (.inr x) (.str x t)=true:=Iy x t
inductive V where
 | non|bl (b:Bool)|int (i:Int)|str (x:Str)|byt (b:Array UInt8)|flt (b:UInt64)|ref (a:WP)|ty (n:String)
 deriving DecidableEq
def RelV:V->WF->Prop
 | .non,u=>u=Value.none
 | .bl b,u=>u=Value.bool b
 | .int i,u=>∃t,u=Value.int i t
 | .str x,u=>∃t,u=Value.str x t
 | .byt b,u=>∃t,u=Value.bytes b t
 | .flt b,u=>∃t,u=Value.float b t
 | .ref a,u=>u=Value.ref a
 | .ty n,u=>u=Value.type n
abbrev Vals:List V->List WF->Prop:=Paired RelV
def Vals.length(r:Vals xs us):xs.length=us.length:=Paired.length r
theorem Vals.get:∀ {xs:List V}{us:List WF}{i:Nat}{x:V},Vals xs us->xs[i]?=some x->∃u,us[i]?=some u/\RelV x u
 | _,_,_,_,.nil,e=>by simp at e
 | _,_,0,_,.cons r _,e=>by simp at e;subst e;exact⟨_,rfl,r⟩
 | _,_,i+1,x,.cons _ t,e=>by
  obtain⟨u,a,b⟩:=Vals.get (i:=i) (x:=x) t (by simpa using e);exact⟨u,by simpa using a,b⟩
def Vals.set{x:V}{u:WF}(r:RelV x u):∀ {xs:List V}{us:List WF} (i:Nat),Vals xs us->Vals (xs.set i x) (us.set i u)
 | _,_,_,.nil=>.nil
 | _,_,0,.cons _ t=>.cons r t
 | _,_,i+1,.cons q t=>.cons q (Vals.set r i t)
def Vals.append:∀ {xs a:List V}{us ws:List WF},Vals xs us->Vals a ws->Vals (xs++a) (us++ws)
 | _,_,_,_,.nil,s=>s
 | _,_,_,_,.cons r t,s=>.cons r (Vals.append t s)
def Vals.take:∀ {xs:List V}{us:List WF} (n:Nat),Vals xs us->Vals (xs.take n) (us.take n)
 | _,_,0,_=>.nil
 | _,_,_+1,.nil=>.nil
 | _,_,n+1,.cons r t=>.cons r (Vals.take n t)
def Vals.drop:∀ {xs:List V}{us:List WF} (n:Nat),Vals xs us->Vals (xs.drop n) (us.drop n)
 | _,_,0,r=>r
 | _,_,_+1,.nil=>.nil
 | _,_,n+1,.cons _ t=>Vals.drop n t
def RelO:Option V->Option WF->Prop
 | some v,some u=>RelV v u
 | none,none=>True
 | _,_=>False
def KV{a:Type}:List (a×V)->List (a×WF)->Prop:=Paired λ(p:a×V) (q:a×WF)=>p.1=q.1/\RelV p.2 q.2
def kV:eN->V
 | .inl i=>.int i
 | .inr x=>.str x
inductive HO where
 /-- a list -/
 | lst (xs:List V)
 /-- a tuple (never changes) -/
 | tup (xs:List V)
 /-- a dict whose keys are ints and texts;one whose keys are tuples of ints and texts (the empty one is both) -/
 | dK (kvs:List (eN×V))|dT (kvs:List (List eN×V))
 /-- a set of ints: its members,its size -/
 | set (S:Int->Bool) (n:Nat)
 /-- an instance of the class at C,its dict at dx,its attributes -/
 | ins (C dx:WP) (fs:List (Str×V))
 /-- the dict of the instance at x -/
 | own (x:WP)
 /-- the dict of an exception -/
 | xd (fs:List (Str×V))
 /-- a bound method,f of x -/
 | met (f x:WP)
 /-- a range object lo,lo+1,.. below hi -/
 | rng (lo hi:Int)
 /-- a thing that is known to the object (the script;a dict while a loop walks it): read,never written while it is so -/
 | frz (o:Obj) (u:HO)
 /-- a code object's table -/
 | tbl (ps:Array Value)
 /-- any other thing,by what is true of its one object (a def of one's own: SetO a S n:=HO.ext λh=>..) -/
 | ext (φ:Heap->Prop)
abbrev Hp:=Addr->Option HO
def aH(H:Hp)(a:WP)(o:HO):Hp:=λb=>if b=a then some o else H b
def aD:aH H a o a=some o:=by unfold aH;rw[UF rfl]
def aJ(h:b≠a):aH H a o b=H b:=by unfold aH;rw[T8 h]
def aBF{H:Hp}(h:H a=some o)(h':H b=some u)(d:o≠u):a≠b:=by
 intro e;subst e;rw[h]at h';exact d (Option.some.inj h')
def aF{H:Hp}(h:H a=some o)(h':H b=none):a≠b:=by
 intro e;subst e;rw[h]at h';cases h'
section
variable (P:Program) (w:World)
def ObjOk(H:Hp)(h:Heap)(a:WP):HO->Prop
 | .lst b=>b.length<=sizeLine/\∃(d:List WF)(n:Nat),Vals b d/\h.get? a=some {cls:=.type "list",data:=.seq d.toArray n }
 | .tup b=>b.length<=sizeLine/\∃d:List WF,Vals b d/\IsTup h a d.toArray
 | .dK e=>e.length<=sizeLine/\(a==sysModules)=false/\∃j,KV e j/\h.DictOf (bQ P w) a j
 | .dT e=>e.length<=sizeLine/\(a==sysModules)=false/\∃b:List (List eN×WP×WF),
   Paired (λ(p:List eN×V) (q:List eN×WP×WF)=>p.1=q.1/\H q.2.1=some (.tup (p.1.map kV))/\RelV p.2 q.2.2) e b ∧
   ∃o k r,h.get? a=some o/\o.ExactDict/\o.data=.dict k r/\k.toList=b.map (entryOfKey (tupleKind (bQ P w)))/\(b.map (·.1)).Nodup
 | .set S n=>h.SetOf (intKind P w) a S n
 | .ins C g fs=>H g=some (.own a)/\fs.length<=1000/\g≠a/\h.get? a=some (W.instObj C g) ∧
   ∃c,h.Ns1 g c/\(∀f,RelO (fs.lookup f) (c f))/\PySem.Within c (fs.map (·.1))
 | .own _=>∃o,h.get? a=some o
 | .xd fs=>∃c,h.Ns1 a c/\∀f,RelO (fs.lookup f) (c f)
 | .rng lo s=>∃t u v,h.get? a=some {cls:=.type "range",data:=.fields #[.int lo t,.int s u,.int 1 v] }
 | .frz o u=>h.get? a=some o/\ObjOk H h a u
 | .tbl ps=>h.get? a=some {cls:=.none,data:=.fields ps }
 | .met f x=>h.get? a=some (W.methodObj (.ref f) (.ref x))
 | .ext i=>i h/\(∃o,h.get? a=some o)/\∀l m:Heap,i l->(∀o,l.get? a=some o->m.get? a=some o)->i m
def HOk(H:Hp)(h:Heap):Prop:=∀a o,H a=some o->ObjOk P w H h a o
end
section
variable {P:Program}{w:World}{H H':Hp}{h h':Heap}{a:WP}{o:HO}
def ObjOk.lt(x:ObjOk P w H h a o):a<h.objs.size:=by
 cases o with
 | lst c=>obtain⟨_,_,_,_,e⟩:=x;exact Heap.lt_size e
 | tup c=>obtain⟨_,_,_,p⟩:=x;exact p.lt
 | dK b=>obtain⟨_,_,_,_,o,_,_,e,_⟩:=x;exact Heap.lt_size e
 | dT b=>revert x;refine yA3 λ_ _=>yE1 λ_=>yA2 λ_=>yE3 λo _ _=>yA2 λe _=>?_;exact Heap.lt_size e
 | set S n=>revert x;refine yE4 λo _ _ _=>yA2 λe _=>?_;exact Heap.lt_size e
 | ins C d fs=>revert x;refine yA5 λ_ _ _ e _=>?_;exact Heap.lt_size e
 | own y=>obtain⟨_,e⟩:=x;exact Heap.lt_size e
 | xd fs=>obtain⟨_,⟨_,_,_,e,_⟩,_⟩:=x;exact Heap.lt_size e
 | rng lo g=>obtain⟨_,_,_,e⟩:=x;exact Heap.lt_size e
 | frz i u=>obtain⟨e,_⟩:=x;exact Heap.lt_size e
 | tbl ps=>exact Heap.lt_size (show h.get? a=some _ from x)
 | met f y=>exact Heap.lt_size (show h.get? a=some _ from x)
 | ext j=>obtain⟨_,⟨_,e⟩,_⟩:=x;exact Heap.lt_size e
def Paired.mapP{e g:Type}{F G:e->g->Prop}:∀ {c:List e}{d:List g},Paired F c d->(∀a b,F a b->G a b)->Paired G c d
 | _,_,.nil,_=>.nil
 | _,_,.cons r t,f=>.cons (f _ _ r) (Paired.mapP t f)
def ObjOk.stay(x:ObjOk P w H h a o)(k:∀b u,(b=a∨H b=some (.own a))->h.get? b=some u->h'.get? b=some u)(B:∀b,H b=some (.own a)->H' b=some (.own a))(D:∀b xs,H b=some (.tup xs)->H' b=some (.tup xs)):ObjOk P w H' h' a o:=by
 induction o with
 | lst xs=>obtain⟨z,l,n,r,e⟩:=x;exact⟨z,l,n,r,k _ _ (.inl rfl) e⟩
 | tup xs=>obtain⟨z,l,r,g,e,c⟩:=x;exact⟨z,l,r,g,k _ _ (.inl rfl) e,c⟩
 | dK A=>obtain⟨z,y,E,r,g,i,j,e,c⟩:=x;exact⟨z,y,E,r,g,i,j,k _ _ (.inl rfl) e,c⟩
 | dT A=>
  revert x;refine yA3 λz y=>yE1 λxs=>yA2 λr=>yE3 λg i j=>yA2 λe c=>?_;exact⟨z,y,xs,Paired.mapP r λp q z=>⟨z.1,D _ _ z.2.1,z.2.2⟩,g,i,j,k _ _ (.inl rfl) e,c⟩
 | set S n=>revert x;refine yE4 λg i j t=>yA2 λe c=>?_;exact⟨g,i,j,t,k _ _ (.inl rfl) e,c⟩
 | ins C I fs=>
  obtain⟨d,z,ne,e,m,⟨s,i,j,F,c⟩,r⟩:=x;exact⟨B _ d,z,ne,k _ _ (.inl rfl) e,m,⟨s,i,j,k _ _ (.inr d) F,c⟩,r⟩
 | own y=>obtain⟨g,e⟩:=x;exact⟨g,k _ _ (.inl rfl) e⟩
 | xd fs=>obtain⟨m,⟨s,i,j,e,c⟩,r⟩:=x;exact⟨m,⟨s,i,j,k _ _ (.inl rfl) e,c⟩,r⟩
 | rng lo J=>obtain⟨t,u,v,e⟩:=x;exact⟨t,u,v,k _ _ (.inl rfl) e⟩
 | frz g u G=>obtain⟨e,q⟩:=x;exact⟨k _ _ (.inl rfl) e,G q⟩
 | tbl ps=>
  have e:h.get? a=some {cls:=.none,data:=.fields ps }:=x;show h'.get? a=some {cls:=.none,data:=.fields ps };exact k a _ (.inl rfl) e
 | met f y=>
  have e:h.get? a=some (W.methodObj (.ref f) (.ref y)):=x;show h'.get? a=some (W.methodObj (.ref f) (.ref y));exact k a _ (.inl rfl) e
 | ext K=>obtain⟨p,⟨o,e⟩,st⟩:=x;exact⟨st _ _ p λo q=>k _ _ (.inl rfl) q,⟨o,k _ _ (.inl rfl) e⟩,st⟩
def HOk.lt(x:HOk P w H h)(e:H a=some o):a<h.objs.size:=(x a o e).lt
def HOk.fresh(x:HOk P w H h)(e:h.objs.size<=a):H a=none:=by
 cases q:H a with
 | none=>rfl
 | some u=>exact T7 (TD (x.lt q) e) (lt_irrefl _)
def HOk.kept(x:HOk P w H h)(k:∀b u,h.get? b=some u->h'.get? b=some u):HOk P w H h':=λa o e=>
 (x a o e).stay (λb u _ q=>k b u q) (λ_ q=>q) λ_ _ q=>q
def HOk.laid(x:HOk P w H h)(k:∀b u,h.get? b=some u->h'.get? b=some u)(i:h.objs.size<=a)(g:ObjOk P w (aH H a o) h' a o):HOk P w (aH H a o) h':=λb u e=>by
 have d:=x.fresh i;by_cases f:b=a
 ·subst f;rw[aD]at e;cases e;exact g
 ·rw[aJ f]at e;exact(x b u e).stay (λc v _ q=>k c v q) (λc q=>by rw[aJ (aF q d)];exact q) λc j q=>by rw[aJ (aF q d)];exact q
end
def Rd(H:Hp)(a:WP)(u:HO):Prop:=H a=some u∨∃o,H a=some (.frz o u)
def Rd.ok(r:Rd H a u)(x:HOk P w H h):ObjOk P w H h a u:=by
 rcases r with r|⟨o,r⟩
 ·exact x a u r
 ·obtain⟨_,q⟩:=x a _ r;exact q
def Mut:Option HO->Prop
 | some (.lst _)=>True
 | some (.dK _)=>True
 | some (.dT _)=>True
 | some (.set _ _)=>True
 | some (.ins _ _ _)=>True
 | some (.ext _)=>True
 | _=>False
section
variable {P:Program}{w:World}{H:Hp}{h h':Heap}{x e:WP}{o':HO}
def HOk.write(ok:HOk P w H h)(a:Mut (H x))(j:e=x∨H e=some (.own x))(k:∀b u,b≠e->h.get? b=some u->h'.get? b=some u)(o:∃u,h'.get? e=some u)(n:ObjOk P w (aH H x o') h' x o'):HOk P w (aH H x o') h':=λb u q=>by
 have l:∀c y,H c=some (.own y)->c≠x:=λc y r z=>by subst z;rw[r]at a;exact a
 have p:∀c d,H c=some (.tup d)->c≠x:=λc d r z=>by subst z;rw[r]at a;exact a
 by_cases f:b=x
 ·subst f;rw[aD]at q;cases q;exact n
 ·rw[aJ f]at q;by_cases g:b=e
  ·have m:H b=some (.own x):=by
    rcases j with z|z
    ·exact T7 (g.trans z) f
    ·rw[g];exact z
   rw[q]at m;cases m;obtain⟨v,s⟩:=o;exact⟨v,by rw[g];exact s⟩
  ·refine(ok b u q).stay (λc v i r=>k c v ?_ r) (λc r=>by rw[aJ (l c b r)];exact r) λc d r=>by rw[aJ (p c d r)];exact r
   rcases i with rfl|i
   ·exact g
   ·rintro rfl;rcases j with z|z
    ·exact l c b i z
    ·rw[i]at z;cases z;exact f rfl
end
structure Un(fs ex:List WP)(H H':Hp)(h h':Heap):Prop where
 keep:∀b o,h.get? b=some o->H b=none->b∉fs->b∉ex->h'.get? b=some o
 slot:∀b o,h.get? b=some o->H b=none->b∈fs->b∉ex->∃sl,h'.get? b=some {o with slots:=sl }
 free:∀b o,h.get? b=some o->H b=none->b∉ex->H' b=none
 there:∀b o,h.get? b=some o->b∉ex->∃o',h'.get? b=some o'
 tups:∀b xs,H b=some (.tup xs)->H' b=some (.tup xs)
 frzs:∀b o u,H b=some (.frz o u)->H' b=some (.frz o u)
 tbls:∀b ps,H b=some (.tbl ps)->∃more,H' b=some (.tbl (ps++more))
section
variable {fs UX ex ex':List WP}{H H1 H2:Hp}{h h1 h2 h':Heap}{a x e:WP}{o:HO}
def Un.any(u:Un fs ex H H1 h h1)(q:h.get? b=some c)(n:H b=none)(d:b∉ex):∃sl,h1.get? b=some {c with slots:=sl }:=by
 by_cases f:b∈fs
 ·exact u.slot b c q n f d
 ·exact⟨c.slots,u.keep b c q n f d⟩
def Un.kept(k:∀b u,h.get? b=some u->h'.get? b=some u):Un fs ex H H h h':=
 ⟨λb c q _ _ _=>k b c q,λb c q _ _ _=>⟨c.slots,k b c q⟩,λ_ _ _ n _=>n,λb c q _=>⟨c,k b c q⟩,λ_ _ q=>q,λ_ _ _ q=>q,λ_ ps q=>⟨#[],by rw[q];simp⟩⟩
def Un.refl:Un fs ex H H h h:=Un.kept λ_ _ q=>q
def Un.laid(k:∀b u,h.get? b=some u->h'.get? b=some u)(d:h.objs.size<=a)(c:H a=none):Un fs ex H (aH H a o) h h' where
 keep:=λb u q _ _ _=>k b u q
 slot:=λb u q _ _ _=>⟨u.slots,k b u q⟩
 free:=λb u q n _=>by rw[aJ (ne_of_lt (TD (Heap.lt_size q) d))];exact n
 there:=λb u q _=>⟨u,k b u q⟩
 tups:=λb f q=>by rw[aJ (aF q c)];exact q
 frzs:=λb u f q=>by rw[aJ (aF q c)];exact q
 tbls:=λb ps q=>⟨#[],by rw[aJ (aF q c),q];simp⟩
def Un.write(c:Mut (H x))(j:e=x∨H e=some (.own x))(k:∀b u,b≠e->h.get? b=some u->h'.get? b=some u)(l:∃u,h'.get? e=some u):Un fs ex H (aH H x o) h h':=by
 have f:∀b,H b=none->b≠x:=λb n z=>by subst z;rw[n]at c;exact c
 have g:∀b,H b=none->b≠e:=λb n z=>by
  subst z;rcases j with r|r
  ·exact f b n r
  ·rw[n]at r;cases r
 have d:∀b u,H b=some u->¬ Mut (some u)->b≠x:=λb u q nm z=>by subst z;rw[q]at c;exact nm c
 refine⟨λb u q n _ _=>k b u (g b n) q,λb u q n _ _=>⟨u.slots,k b u (g b n) q⟩,λb u q n _=>by rw[aJ (f b n)];exact n,λb u q _=>?_,
  λb m q=>by rw[aJ (d b _ q λz=>z)];exact q,λb u m q=>by rw[aJ (d b _ q λz=>z)];exact q,λb ps q=>⟨#[],by rw[aJ (d b _ q λz=>z),q];simp⟩⟩
 by_cases i:b=e
 ·subst i;exact l
 ·exact⟨u,k b u i q⟩
end
def trk(h:Heap)(H:Hp):List Addr:=(List.range h.objs.size).filter λa=>(H a).isSome
def xI(h:Heap)(H:Hp):Heap:=W.hideAll h (trk h H)
def Iz(h:Heap)(H:Hp):(xI h H).objs.size=h.objs.size:=W.hideAll_size _ _
def Me(e:h.get? b=some o)(n:H b=none):(xI h H).get? b=some o:=
 W.hideAll_get _ e λa=>by
  have q:(H b).isSome=true:=(List.mem_filter.mp a).2;rw[n]at q;simp at q
def Ss(e:(xI h H).get? b=some o):h.get? b=some o/\H b=none:=by
 have a:h.get? b=some o:=W.of_hideAll (trk h H) e;refine⟨a,?_⟩
 cases q:H b with
 | none=>rfl
 | some x=>
  have c:b∈trk h H:=List.mem_filter.mpr ⟨List.mem_range.mpr (Heap.lt_size a),by simp[q]⟩;have z:(xI h H).get? b=none:=W.hideAll_none (trk h H) c;rw[z]at e;cases e
structure Mod(K:W.Frag)(mg:Y4)(base:Heap):Prop where
 kin:K.In base
 glob:base.Ns mainGlobals mg
 blt:∃mb,base.Ns builtinsNs mb/\∀x:Str,x≠"__name__"->mb x=bootBuiltins x
 nolimit:base.NoLimit
structure Cx where
 prog:Program
 w:World
 K:W.Frag
 mg:Str->Option Value
 base:Heap
 A:Around
 N:List Str
 s₀:Shared
 H₀:Hp
 env:Env
 outer:List Env
 stack:List Env
 ex:List Addr
 fn:Str->Bool
 calm:Bool
 pn:List (WP×Obj)
 xe:WF->UV->Prop
def lM(l:List Env):List Addr:=l.filterMap (·.frame)
abbrev Cx.fs(X:Cx):List Addr:=lM X.outer
def Yg(sc:Scope)(x:Str):Prop:=sc.names.lookup x=some .local∨sc.names.lookup x=some .cell∨sc.names.lookup x=some .free
def Lz(sc:Scope)(x:Str):Prop:=sc.names.lookup x=some .local∨sc.names.lookup x=some .cell
def aDi(env:Env)(h:Heap)(m:Y4)(x:Str)(u:WF):Prop:=
 (env.kindOf x=some .local/\m x=some u)∨((env.kindOf x=some .cell∨env.kindOf x=some .free)/\∃c,env.cells.lookup x=some c/\h.IsCell c (some u))
structure Cx.Ok(X:Cx):Prop where
 mod:Mod X.K X.mg X.base
 kind:X.env.scope.kind=.function
 glob:X.env.globals=mainGlobals
 blt:X.env.builtins=builtinsNs
 above:X.s₀.heap.objs.size<=X.env.locals
 inj:∀x y c,X.env.cells.lookup x=some c->X.env.cells.lookup y=some c->x=y
 has:∀x,(X.env.kindOf x=some .cell∨X.env.kindOf x=some .free)->∃c,X.env.cells.lookup x=some c
 cab:∀x c,X.fn x=true->X.env.cells.lookup x=some c->X.s₀.heap.objs.size<=c
 hd:X.calm=true->X.A.handled=none
 frames:X.A.frames=some X.stack
 stk:X.stack=X.outer∨(X.stack=X.env::X.outer/\X.env.frame=some X.env.locals)
 exf:∀b∈X.ex,b≠X.env.locals/\∀x c,X.env.cells.lookup x=some c->c≠b
 bs:∀b o,X.base.get? b=some o->X.s₀.heap.get? b=some o/\X.H₀ b=none
 bsz:X.base.objs.size<=X.s₀.heap.objs.size
 noex:∀b o,X.base.get? b=some o->b∉X.ex
 exfs:∀b∈X.ex,b∉X.fs
 funs:X.s₀.heap.FunFrames X.base X.outer
 frf:∀b∈X.fs,X.H₀ b=none
structure Inv(X:Cx)(pins:ZB)(σ:List (Option V))(H:Hp)(s:UV):Prop where
 ok:X.Ok
 os:s.os=X.s₀.os
 bare:AllBare s.gens
 base:Un X.fs X.ex X.H₀ H X.s₀.heap s.heap
 loc:∃m,s.heap.Ns X.env.locals m/\∀(i:Nat)(x:Str)(v:V),X.N[i]?=some x->σ[i]?=some (some v)->Yg X.env.scope x->∃u,RelV v u/\aDi X.env s.heap m x u
 cell:∀x c,X.env.cells.lookup x=some c->∃v,s.heap.IsCell c v
 free:H X.env.locals=none
 freeC:∀x c,X.env.cells.lookup x=some c->H c=none
 pin:∀p∈X.pn++pins,s.heap.get? p.1=some p.2/\H p.1=none/\p.1≠X.env.locals/\p.1∉X.fs/\∀v,p.2.data≠.cell v
 hok:HOk X.prog X.w H s.heap
 len:σ.length=X.N.length
section
variable {X:Cx}{pins:ZB}{σ:List (Option V)}{H H':Hp}{s:UV}{h':Heap}
def Cx.Ok.nofr(ok:X.Ok)(e:X.base.get? b=some o):b∉X.fs:=λa=>by
 have:=(ok.funs.mem a).1;rw[e]at this;cases this
def Inv.bs(I:Inv X pins σ H s):∀b o,X.base.get? b=some o->s.heap.get? b=some o/\H b=none:=λb o e=>
 ⟨I.base.keep b o (I.ok.bs b o e).1 (I.ok.bs b o e).2 (I.ok.nofr e) (I.ok.noex b o e),I.base.free b o (I.ok.bs b o e).1 (I.ok.bs b o e).2 (I.ok.noex b o e)⟩
def Inv.bk(I:Inv X pins σ H s):∀b o,X.base.get? b=some o->s.heap.get? b=some o:=λb o e=>(I.bs b o e).1
def Inv.mod(I:Inv X pins σ H s):Mod X.K X.mg X.base:=I.ok.mod
def Inv.kIn(I:Inv X pins σ H s):X.K.In s.heap:=I.ok.mod.kin.keeps I.bk
def Inv.fr(I:Inv X pins σ H s):∃m,Fr X.base X.env.locals s.heap m:=
 let ⟨m,a,_⟩:=I.loc
 ⟨m,a,I.bk,iB I.ok.bsz I.ok.above⟩
def Inv.lt(I:Inv X pins σ H s):X.env.locals<s.heap.objs.size:=let ⟨_,a,_⟩:=I.loc;a.lt
def Inv.sz(I:Inv X pins σ H s):X.s₀.heap.objs.size<=s.heap.objs.size:=iB I.ok.above (le_of_lt I.lt)
def Inv.nofs(I:Inv X pins σ H s)(h:s.heap.objs.size<=a):a∉X.fs:=λb=>by
 obtain⟨_,o,c,_⟩:=I.ok.funs.mem b;exact T7 (TD (Heap.lt_size c) (iB I.sz h)) (lt_irrefl _)
def Inv.cne(I:Inv X pins σ H s):∀x c,X.env.cells.lookup x=some c->c≠X.env.locals:=λx c e z=>by
 obtain⟨v,o,a,b⟩:=I.cell x c e;obtain⟨m,⟨g,h,i,d,f,_⟩,_⟩:=I.loc;rw[z,d]at a;cases a;rw[f]at b;cases b
def Inv.funs(I:Inv X pins σ H s):s.heap.FunFrames X.base X.outer:=by
 have all:∀(l:List Env),(∀b∈lM l,b∈X.fs)->X.s₀.heap.FunFrames X.base l->s.heap.FunFrames X.base l:=by
  intro l;induction l with
  | nil=>intro _ _;trivial
  | cons p r g=>
   intro f h;obtain⟨i,⟨L,o,a,j,k,m⟩,n⟩:=h;have c:L∈X.fs:=f L (by unfold lM;rw[QZY,a];exact iV);obtain⟨sl,e⟩:=I.base.slot L o k (I.ok.frf L c) c λz=>I.ok.exfs L z c
   exact⟨i,⟨L,_,a,j,e,m⟩,g (λb d=>f b (by unfold lM;rw[QZY,a];exact fN _ d)) n⟩
 exact all X.outer (λ_ d=>d) I.ok.funs
def Inv.stack(I:Inv X pins σ H s):s.heap.FunFrames X.base X.stack:=by
 rcases I.ok.stk with e|⟨e,a⟩
 ·rw[e];exact I.funs
 ·rw[e];obtain⟨m,b,_⟩:=I.loc;refine .cons (by rw[I.ok.kind];decide) a b ?_ I.funs;exact Heap.get?_none_of_le (iB I.ok.bsz I.ok.above)
def Inv.stkSub(I:Inv X pins σ H s):∀b∈lM X.stack,b∈X.env.locals::X.fs:=λb a=>by
 rcases I.ok.stk with e|⟨e,c⟩
 ·rw[e]at a;exact fN _ a
 ·rw[e]at a;unfold lM at a;rw[QZY,c]at a;exact a
def Inv.stkFree(I:Inv X pins σ H s):∀b∈lM X.stack,H b=none:=λb a=>by
 rcases mem_cons.mp (I.stkSub b a) with e|a
 ·rw[e];exact I.free
 ·obtain⟨_,o,c,_⟩:=I.ok.funs.mem a;exact I.base.free b o c (I.ok.frf b a) λz=>I.ok.exfs b z a
def Inv.step{ch:List WP}(I:Inv X pins σ H s)(j:∀b∈ch,(b∈X.ex∨X.s₀.heap.objs.size<=b)/\b≠X.env.locals/\(∀x c,X.env.cells.lookup x=some c->c≠b)/\∀p∈X.pn++pins,p.1≠b)(B:∀b o,b≠X.env.locals->b∉X.fs->b∉ch->s.heap.get? b=some o->H b=none->h'.get? b=some o)(slot:∀b o,b≠X.env.locals->b∈X.fs->b∉ch->s.heap.get? b=some o->H b=none->∃sl,h'.get? b=some {o with slots:=sl })(free:∀b o,b∉ch->s.heap.get? b=some o->H b=none->H' b=none)(K:∀b o,b∉ch->s.heap.get? b=some o->∃t,h'.get? b=some t)(tups:∀b xs,H b=some (.tup xs)->H' b=some (.tup xs))(L:∀b o u,H b=some (.frz o u)->H' b=some (.frz o u))(M:∀b ps,H b=some (.tbl ps)->∃more,H' b=some (.tbl (ps++more)))(ns:∀m,s.heap.Ns X.env.locals m->h'.Ns X.env.locals m)(N:HOk X.prog X.w H' h')(O:AllBare g') :
  Inv X pins σ H' {s with heap:=h',gens:=g',drawn:=d',toks:=t' }:=by
 have E:∀b o,X.s₀.heap.get? b=some o->b≠X.env.locals:=λb o e=>ne_of_lt (TD (Heap.lt_size e) I.ok.above)
 have A:∀b o,X.s₀.heap.get? b=some o->b∉X.ex->b∉ch:=λb o e a g=>by
  rcases(j b g).1 with z|z
  ·exact a z
  ·exact T7 (TD (Heap.lt_size e) z) (lt_irrefl _)
 have D:∀x c,X.env.cells.lookup x=some c->∀v,s.heap.IsCell c v->h'.IsCell c v:=λx c e v ⟨o,h,C⟩=>by
  have w:c∉ch:=λz=>(j c z).2.2.1 x c e rfl
  by_cases F:c∈X.fs
  ·obtain⟨sl,q⟩:=slot c o (I.cne x c e) F w h (I.freeC x c e);exact⟨_,q,C⟩
  ·exact⟨o,B c o (I.cne x c e) F w h (I.freeC x c e),C⟩
 refine⟨I.ok,I.os,O,⟨λb o e n g a=>?_,λb o e n g a=>?_,λb o e n a=>?_,λb o e a=>?_,λb xs e=>tups b xs (I.base.tups b xs e),λb o xs e=>L b o xs (I.base.frzs b o xs e),λb ps e=>?_⟩,?_,λx c e=>?_,?_,λx c e=>?_,λp G=>?_,N,I.len⟩
 ·exact B b o (E b o e) g (A b o e a) (I.base.keep b o e n g a) (I.base.free b o e n a)
 ·obtain⟨sl,f⟩:=I.base.slot b o e n g a;obtain⟨P,y⟩:=slot b _ (E b o e) g (A b o e a) f (I.base.free b o e n a);exact⟨P,y⟩
 ·obtain⟨t,f⟩:=I.base.there b o e a;exact free b t (A b o e a) f (I.base.free b o e n a)
 ·obtain⟨t,f⟩:=I.base.there b o e a;exact K b t (A b o e a) f
 ·obtain⟨Q,f⟩:=I.base.tbls b ps e;obtain⟨m2,y⟩:=M b _ f;exact⟨Q++m2,by rw[y,Array.append_assoc]⟩
 ·obtain⟨m,R,S⟩:=I.loc;refine⟨m,ns m R,λi x v f y T=>?_⟩;obtain⟨u,r,l⟩:=S i x v f y T;refine⟨u,r,?_⟩;rcases l with l|⟨k,c,e,z⟩
  ·exact .inl l
  ·exact .inr ⟨k,c,e,D x c e _ z⟩
 ·obtain⟨v,z⟩:=I.cell x c e;exact⟨v,D x c e v z⟩
 ·obtain⟨m,⟨o,_,_,h,_⟩,_⟩:=I.loc;exact free _ o (λz=>(j _ z).2.1 rfl) h I.free
 ·obtain⟨v,o,h,C⟩:=I.cell x c e;exact free c o (λz=>(j c z).2.2.1 x c e rfl) h (I.freeC x c e)
 ·refine yE0 (I.pin p G) (yA5 λe n ne J d=>?_);have w:p.1∉ch:=λz=>(j p.1 z).2.2.2 p G rfl
  exact⟨B p.1 p.2 ne J w e n,free p.1 p.2 w e n,ne,J,d⟩
def Inv.un(I:Inv X pins σ H s)(u:Un X.fs [] H H' s.heap h')(f:HOk X.prog X.w H' h'):Inv X pins σ H' {s with heap:=h',toks:=t' }:=by
 obtain⟨m,⟨o,l,p,c,r⟩,_⟩:=id I.loc;obtain⟨sl,g⟩:=u.any c I.free Zs;exact I.step (g':=s.gens) (d':=s.drawn) (ch:=[]) (λ_ z=>nomatch z) (λb o _ a _ e n=>u.keep b o e n a Zs) (λb o _ a _ e n=>u.slot b o e n a Zs) (λb o _ e n=>u.free b o e n Zs) (λb o _ e=>u.there b o e Zs) u.tups u.frzs u.tbls (λq h=>by
  obtain⟨t,i,j,d,k⟩:=h;rw[c]at d;cases d;exact⟨_,i,j,g,k⟩) f I.bare
def Inv.call(I:Inv X pins σ H s)(u:Un (lM X.stack) ch H H' s.heap h')(i:HOk X.prog X.w H' h')(j:AllBare g')(f:∀b∈ch,(b∈X.ex∨X.s₀.heap.objs.size<=b)/\b≠X.env.locals/\(∀x c,X.env.cells.lookup x=some c->c≠b)/\∀p∈X.pn++pins,p.1≠b) :
  Inv X pins σ H' {s with heap:=h',gens:=g',drawn:=d',toks:=t' }:=by
 obtain⟨m,⟨o,w,y,g,r⟩,_⟩:=id I.loc;obtain⟨sl,d⟩:=u.any g I.free λz=>(f _ z).2.1 rfl
 exact I.step (ch:=ch) f (λb o d k a e n=>u.keep b o e n (λz=>(mem_cons.mp (I.stkSub b z)).elim d k) a) (λb o _ _ a e n=>u.any e n a) (λb o a e n=>u.free b o e n a) (λb o a e=>u.there b o e a) u.tups u.frzs u.tbls (λA l=>by
  obtain⟨B,q,t,h,v⟩:=l;rw[g]at h;cases h;exact⟨_,q,t,d,v⟩) i j
def Inv.turned{it:WP}(I:Inv X pins σ H s)(k:∀b o,b≠it->s.heap.get? b=some o->h'.get? b=some o)(g:H it=none)(d:it≠X.env.locals)(h:it∈X.ex∨X.s₀.heap.objs.size<=it)(i:∀x c,X.env.cells.lookup x=some c->c≠it)(j:∀p∈X.pn++pins,p.1≠it):Inv X pins σ H {s with heap:=h',toks:=t' }:=by
 have f:∀b u,H b=some u->b≠it:=λb u e z=>by rw[z,g]at e;cases e
 refine I.step (g':=s.gens) (d':=s.drawn) (ch:=[it]) (λb l=>?_) (λb o _ _ a e _=>k b o (λz=>a (by simp[z])) e) (λb o _ _ a e _=>⟨o.slots,k b o (λz=>a (by simp[z])) e⟩) (λ_ _ _ _ n=>n)
  (λb o a e=>⟨o,k b o (λz=>a (by simp[z])) e⟩) (λ_ _ e=>e) (λ_ _ _ e=>e) (λb ps e=>⟨#[],by rw[e];simp⟩) (λm t=>?_) (λb u e=>?_) I.bare
 ·have e:b=it:=by simpa using l
  subst e;exact⟨h,d,i,j⟩
 ·obtain⟨o,w,y,A,r⟩:=t;exact⟨o,w,y,k _ o (Ne.symm d) A,r⟩
 ·refine(I.hok b u e).stay (λc v a q=>k c v ?_ q) (λ_ q=>q) λ_ _ q=>q;rcases a with z|z
  ·rw[z];exact f b u e
  ·exact f c _ z
def Inv.tok(I:Inv X pins σ H s)(t:Nat):Inv X pins σ H {s with toks:=t }:=I.un (h':=s.heap) (t':=t) Un.refl I.hok
def Inv.kept(I:Inv X pins σ H s)(k:∀b u,s.heap.get? b=some u->h'.get? b=some u):Inv X pins σ H {s with heap:=h',toks:=t' }:=I.un (Un.kept k) (I.hok.kept k)
def Inv.laid(I:Inv X pins σ H s)(k:∀b u,s.heap.get? b=some u->h'.get? b=some u)(c:s.heap.objs.size<=a)(d:ObjOk X.prog X.w (aH H a o) h' a o) :
  Inv X pins σ (aH H a o) {s with heap:=h',toks:=t' }:=I.un (Un.laid k c (I.hok.fresh c)) (I.hok.laid k c d)
def Inv.write(I:Inv X pins σ H s)(a:Mut (H x))(c:e=x∨H e=some (.own x))(k:∀b u,b≠e->s.heap.get? b=some u->h'.get? b=some u)(d:∃u,h'.get? e=some u)(f:ObjOk X.prog X.w (aH H x o) h' x o):Inv X pins σ (aH H x o) {s with heap:=h',toks:=t' }:=I.un (Un.write a c k d) (I.hok.write a c k d f)
def Inv.weak(I:Inv X pins σ H s)(b:a.length=σ.length)(w:∀(i:Nat) v,a[i]?=some (some v)->σ[i]?=some (some v)):Inv X pins a H s:=
 ⟨I.ok,I.os,I.bare,I.base,let ⟨m,c,d⟩:=I.loc;⟨m,c,λi x v e f g=>d i x v e (w i v f) g⟩,I.cell,I.free,I.freeC,I.pin,I.hok,b.trans I.len⟩
def Inv.pins_of(I:Inv X pins σ H s)(h:∀p∈a,s.heap.get? p.1=some p.2/\H p.1=none/\p.1≠X.env.locals/\p.1∉X.fs/\∀v,p.2.data≠.cell v):Inv X a σ H s:=
 ⟨I.ok,I.os,I.bare,I.base,I.loc,I.cell,I.free,I.freeC,λp b=>(Zma.mp b).elim (λz=>I.pin p (T0 _ z)) (h p),I.hok,I.len⟩
def pN{N:List Str}(c:N.Nodup){i j:Nat}(a:N[i]?=some x)(b:N[j]?=some x):i=j:=by
 obtain⟨f,d⟩:=Zgs.mp a;obtain⟨g,e⟩:=Zgs.mp b;exact(List.getElem_inj c).mp (d.trans e.symm)
def vN{v:V}(I:Inv X pins σ H s)(Y:X.N.Nodup)(D:X.N[i]?=some x)(m:Lz X.env.scope x)(r:RelV v u)(h:∀J,Inv X pins (σ.set i (some v)) H J->(∃a,Heap.SameBut a s.heap J.heap/\(a=X.env.locals∨X.env.cells.lookup x=some a))->Q () J)(hf:X.fn x=true∨X.env.scope.names.lookup x=some .local:=by first|exact .inl rfl|exact .inr rfl|assumption):wpAny M A (storeName X.env x u) Q E s:=by
 obtain⟨a0,K,Z⟩:=id I.loc;have xo:(X.env.scope.kind == .class||(X.env.scope.kind == .module&&X.env.locals != X.env.globals))=false:=by rw[I.ok.kind];rfl
 have GG:i<σ.length:=by rw[I.len];exact(Zgs.mp D).1
 have cne:=I.cne;have W:∀ {a:WP}{h':Heap},(∃o,s.heap.get? a=some o/\H a=none)->Heap.SameBut a s.heap h'->HOk X.prog X.w H h':=λ{a h'} ha f b ob e=>by
  obtain⟨_,_,nj⟩:=ha;refine(I.hok b ob e).stay (λc F l q=>(f.2 c ?_).trans q) (λ_ q=>q) λ_ _ q=>q;rintro rfl;rcases l with rfl|l
  ·rw[nj]at e;cases e
  ·rw[nj]at l;cases l
 rcases m with w|w
 ·refine wpAny_storeName_local w K (λh' T9 f=>?_) xo;obtain⟨oL,_,_,PY,_⟩:=id K;refine h _ ⟨I.ok,I.os,I.bare,⟨λb o e n B m=>?_,λb o e n B m=>?_,I.base.free,λb o e m=>?_,I.base.tups,I.base.frzs,I.base.tbls⟩,⟨_,T9,λj y L g t N=>?_⟩,λy c e=>?_,I.free,I.freeC,λp O=>?_,W ⟨oL,PY,I.free⟩ f,by simpa using I.len⟩ ⟨_,f,.inl rfl⟩
  ·exact(f.2 b (ne_of_lt (TD (Heap.lt_size e) I.ok.above))).trans (I.base.keep b o e n B m)
  ·obtain⟨sl,g⟩:=I.base.slot b o e n B m;exact⟨sl,(f.2 b (ne_of_lt (TD (Heap.lt_size e) I.ok.above))).trans g⟩
  ·obtain⟨P,g⟩:=I.base.there b o e m;exact⟨P,(f.2 b (ne_of_lt (TD (Heap.lt_size e) I.ok.above))).trans g⟩
  ·by_cases C:j=i
   ·subst C;rw[D]at g;cases g;rw[getElem?_set_self GG]at t;cases t;exact⟨u,r,.inl ⟨w,Zs⟩⟩
   ·rw[getElem?_set_ne (Ne.symm C)]at t;obtain⟨R,S,q⟩:=Z j y L g t N;refine⟨R,S,?_⟩;rcases q with⟨k,e⟩|⟨k,c,e,z⟩
    ·refine .inl ⟨k,?_⟩;have:y≠x:=λe=>C (pN Y g (e▸D))
     simp[this,e]
    ·exact .inr ⟨k,c,e,z.sameBut f (cne y c e)⟩
  ·obtain⟨F,z⟩:=I.cell y c e;exact⟨F,z.sameBut f (cne y c e)⟩
  ·refine yE0 (I.pin p O) (yA5 λe n ne T d=>?_);exact⟨(f.2 p.1 ne).trans e,n,ne,T,d⟩
 ·have U:X.fn x=true:=by
   rcases hf with z|z
   ·exact z
   ·rw[z]at w;cases w
  obtain⟨c,l⟩:=I.ok.has x (.inl w);obtain⟨F,z⟩:=I.cell x c l;refine wpAny_storeName_cell I.ok.kind w l z (λh' U0 f=>?_);obtain⟨oc,JU,LY⟩:=id z;refine h {s with heap:=h' } ⟨I.ok,I.os,I.bare,⟨λb o e n B m=>?_,λb o e n B m=>?_,I.base.free,λb o e m=>?_,I.base.tups,I.base.frzs,I.base.tbls⟩,⟨a0,K.sameBut f (Ne.symm (cne x c l)),λj y L g t N=>?_⟩,λy G e=>?_,I.free,I.freeC,λp O=>?_,W ⟨oc,JU,I.freeC x c l⟩ f,by simpa using I.len⟩ ⟨c,f,.inr l⟩
  ·exact(f.2 b (ne_of_lt (TD (Heap.lt_size e) (I.ok.cab x c U l)))).trans (I.base.keep b o e n B m)
  ·obtain⟨sl,g⟩:=I.base.slot b o e n B m;exact⟨sl,(f.2 b (ne_of_lt (TD (Heap.lt_size e) (I.ok.cab x c U l)))).trans g⟩
  ·obtain⟨P,g⟩:=I.base.there b o e m;exact⟨P,(f.2 b (ne_of_lt (TD (Heap.lt_size e) (I.ok.cab x c U l)))).trans g⟩
  ·by_cases C:j=i
   ·subst C;rw[D]at g;cases g;rw[getElem?_set_self GG]at t;cases t;exact⟨u,r,.inr ⟨.inl w,c,l,U0⟩⟩
   ·rw[getElem?_set_ne (Ne.symm C)]at t;obtain⟨R,S,q⟩:=Z j y L g t N;refine⟨R,S,?_⟩;rcases q with q|⟨k,G,e,z'⟩
    ·exact .inl q
    ·refine .inr ⟨k,G,e,z'.sameBut f ?_⟩;rintro rfl;exact C (pN Y g (I.ok.inj _ _ _ e l▸D))
  ·by_cases PZ:G=c
   ·subst PZ;exact⟨_,U0⟩
   ·obtain⟨w2,z2⟩:=I.cell y G e;exact⟨w2,z2.sameBut f PZ⟩
  ·refine yE0 (I.pin p O) (yA5 λe n ne T d=>?_);refine⟨(f.2 p.1 ?_).trans e,n,ne,T,d⟩;intro q;rw[q,JU]at e;have q':oc=p.2:=Option.some.inj e;exact d F (by rw[<- q'];exact LY)
def pO{v:V}(I:Inv X pins σ H s)(b:X.N.Nodup)(c:X.N[i]?=some x)(d:Lz X.env.scope x)(r:RelV v u)(h:∀a,Inv X pins (σ.set i (some v)) H a->Q () a)(e:X.fn x=true∨X.env.scope.names.lookup x=some .local:=by first|exact .inl rfl|exact .inr rfl|assumption):wpAny M A (storeName X.env x u) Q E s:=
 vN I b c d r (λa f _=>h a f) e
def Inv.call'(I:Inv X pins σ H s)(f:a.os=s.os)(u:Un (lM X.stack) ch H H' s.heap a.heap)(d:HOk X.prog X.w H' a.heap)(g:AllBare a.gens)(h:∀b∈ch,(b∈X.ex∨X.s₀.heap.objs.size<=b)/\b≠X.env.locals/\(∀x c,X.env.cells.lookup x=some c->c≠b)/\∀p∈X.pn++pins,p.1≠b):Inv X pins σ H' a:=by
 obtain⟨h',g',d',t',i⟩:=a;have e:i=s.os:=f;subst e;exact I.call (g':=g') (t':=t') (d':=d') u d g h
end
abbrev XK:=Value->Option WP->Hp->Prop
abbrev St:=List (Option V)
abbrev VK:=V->Hp->Prop
abbrev TE:=St->Hp->VK->Prop
abbrev TT:=St->Hp->(Bool->Hp->Prop)->Prop
abbrev TA:=St->Hp->(List V->Hp->Prop)->Prop
structure sN where
 nx:St->Hp->Prop
 rt:VK
 bk:St->Hp->Prop:=λ_ _=>False
 ct:St->Hp->Prop:=λ_ _=>False
abbrev TS:=sN->St->Hp->Prop
def EP(X:Cx)(b:ZB)(d:St)(Q:VK)(u:WF)(c:UV):Prop:=∃v a,Inv X b d a c/\RelV v u/\Q v a
def TP(X:Cx)(c:ZB)(e:St)(Q:Bool->Hp->Prop)(b:Bool)(d:UV):Prop:=∃a,Inv X c e a d/\Q b a
def AP(X:Cx)(c:ZB)(e:St)(Q:List V->Hp->Prop)(us:List WF)(d:UV):Prop:=∃a b,Inv X c e b d/\Vals a us/\Q a b
def SP(X:Cx)(c:ZB)(D:sN)(f:Flow)(d:UV):Prop:=
 match f with
 | .next=>∃ b a,Inv X c b a d/\D.nx b a
 | .brk=>∃ b a,Inv X c b a d/\D.bk b a
 | .cont=>∃ b a,Inv X c b a d/\D.ct b a
 | .ret u=>∃v b a,Inv X c b a d/\RelV v u/\D.rt v a
def PE(X:Cx)(e:Expr)(t:TE):Prop:=
 ∀(b:ZB)(s:UV)(a:St)(H:Hp)(Q:VK),Inv X b a H s->t a H Q->wpAny (model X.prog X.w) X.A (eval e X.env) (EP X b a Q) X.xe s
def PT(X:Cx)(e:Expr)(t:TT):Prop:=
 ∀(b:ZB)(s:UV)(a:St)(H:Hp)(Q:Bool->Hp->Prop),Inv X b a H s->t a H Q->wpAny (model X.prog X.w) X.A (isTrue e X.env (eval e X.env)) (TP X b a Q) X.xe s
def PW(X:Cx)(e:Expr)(t:TT):Prop:=
 ∀(whole:Sem Value)(b:ZB)(s:UV)(a:St)(H:Hp)(Q:Bool->Hp->Prop),Inv X b a H s->t a H Q->wpAny (model X.prog X.w) X.A (isTrue e X.env whole) (TP X b a Q) X.xe s
def PW.pt(h:PW X e t):PT X e t:=h _
def PA(X:Cx)(d:List Expr)(t:TA):Prop:=
 ∀(c:Pos)(b:ZB)(s:UV)(a:St)(H:Hp)(Q:List V->Hp->Prop),Inv X b a H s->t a H Q->wpAny (model X.prog X.w) X.A (spliced (backTo c (starEach d X.env))) (AP X b a Q) X.xe s
def PS(X:Cx)(st:Stmt)(t:TS):Prop:=
 ∀(a:ZB)(s:UV)(b:St)(H:Hp)(D:sN),Inv X a b H s->t D b H->wpAny (model X.prog X.w) X.A (exec st X.env) (SP X a D) X.xe s
def PSs(X:Cx)(st:List Stmt)(t:TS):Prop:=
 ∀(a:ZB)(s:UV)(b:St)(H:Hp)(D:sN),Inv X a b H s->t D b H->wpAny (model X.prog X.w) X.A (execs st X.env) (SP X a D) X.xe s
def bY(h:wpAny M A t Q E s)(d:∀a s,Q a s->b a s):wpAny M A t b E s:=wpAny_mono h d λ_ _ x=>x
section
variable {X:Cx}
def bin{j k:TE}(o:PE X a j)(p:PE X b k){R:V->V->Hp->Prop}(I:Inv X e d H s)(h:j d H λx i=>k d i λy c=>R x y c){Q:l->UV->Prop}{f:WF->WF->Sem l}(q:∀v u g x y c,Inv X e d c g->RelV x v->RelV y u->R x y c->wpAny (model X.prog X.w) X.A (f v u) Q X.xe g) :
  wpAny (model X.prog X.w) X.A (eval a X.env) (λv m=>wpAny (model X.prog X.w) X.A (eval b X.env) (λu n=>wpAny (model X.prog X.w) X.A (f v u) Q X.xe n) X.xe m) X.xe s:=by
 refine bY (o e s d H _ I h) ?_;rintro v r ⟨x,i,t,w,z⟩;refine bY (p e r d i _ t z) ?_;rintro u g ⟨y,c,A,B,C⟩;exact q v u g x y c A w B C
def Yh(i:Nat):TE:=λa H Q=>∃v,a[i]?=some (some v)/\Q v H
def tC(v:V):TE:=λ_ H Q=>Q v H
def Yi(k:X.N[i]?=some x)(n:Yg X.env.scope x)(d:(x==("__debug__":Str))=false:=by decide)(o:(x==("__classdict__":Str))=false:=by decide):PE X (.Name x pos) (Yh i):=by
 intro j s w H Q I h;obtain⟨v,e,h⟩:=h;obtain⟨m,p,q⟩:=I.loc;obtain⟨u,r,l⟩:=q i x v k e n;have b:EP X j w Q u s:=⟨v,H,I,r,h⟩;rcases l with⟨a,t⟩|⟨a,c,f,g⟩
 ·exact wpAny_Name (wpAny_loadName_local I.ok.kind a p t b) d
 ·rcases a with a|a
  ·exact wpAny_Name (wpAny_loadName_cell I.ok.kind a f g b) d
  ·exact wpAny_Name (wpAny_loadName_free I.ok.kind a f g b o) d
def Yj{i j pos}:PE X (.Constant (.int i) j pos) (tC (.int i)):=λ_ _ _ H _ I h=>wpAny_Constant_int ⟨.int i,H,I.tok _,⟨_,rfl⟩,h⟩
def aBH{b j pos}:PE X (.Constant (.bool b) j pos) (tC (.bl b)):=λ_ _ _ H _ I h=>Constant_bool ⟨.bl b,H,I,rfl,h⟩
def Yk{j pos}:PE X (.Constant .none j pos) (tC .non):=λ_ _ _ H _ I h=>Constant_none ⟨.non,H,I,rfl,h⟩
def Yl{x j pos}:PE X (.Constant (.str x) j pos) (tC (.str x)):=λ_ _ _ H _ I h=>Calls.Constant_str ⟨.str x,H,I.tok _,⟨_,rfl⟩,h⟩
def Gl(X:Cx)(x:Str):Prop:=X.env.kindOf x=some .globalImplicit
def gB(I:Inv X a e H s)(b:Gl X x)(c:X.mg x=some u)(h:Q u s)(d:(x==("__debug__":Str))=false:=by decide):wpAny (model X.prog X.w) X.A (eval (.Name x pos) X.env) Q E s:=
 Calls.Name_function_global I.ok.kind b (Calls.loadGlobal_global (by rw[I.ok.glob];exact I.mod.glob.keeps I.bk) c h) d
def qY(I:Inv X a j H s)(b:Gl X x)(c:X.mg x=none)(d:bootBuiltins x=some u)(h:Q u s)(e:x≠"__name__":=by decide)(f:(x==("__debug__":Str))=false:=by decide):wpAny (model X.prog X.w) X.A (eval (.Name x pos) X.env) Q E s:=by
 obtain⟨k,g,i⟩:=I.mod.blt;exact Calls.Name_function_global I.ok.kind b (Calls.loadGlobal_builtin (by rw[I.ok.glob];exact I.mod.glob.keeps I.bk) c (by rw[I.ok.blt];exact g.keeps I.bk) ((i x e).trans d) h) f
def xJ{v:V}(a:Gl X x)(b:X.mg x=some u)(r:RelV v u)(c:(x==("__debug__":Str))=false:=by decide):PE X (.Name x pos) (tC v):=
 λ_ _ _ H _ I h=>gB I a b ⟨v,H,I,r,h⟩ c
def Fu{v:V}(a:Gl X x)(b:X.mg x=none)(c:bootBuiltins x=some u)(r:RelV v u)(d:x≠"__name__":=by decide)(e:(x==("__debug__":Str))=false:=by decide):PE X (.Name x pos) (tC v):=
 λ_ _ _ H _ I h=>qY I a b c ⟨v,H,I,r,h⟩ d e
variable {a b:Expr}{ta tb:TE}{pos:Pos}
def PC(X:Cx)(op:CmpOp)(a b:Expr)(t:TE):Prop:=
 ∀(d:ZB)(s:UV)(c:St)(H:Hp)(Q:VK),Inv X d c H s->t c H Q →
  wpAny (model X.prog X.w) X.A (eval a X.env) (λv e=>wpAny (model X.prog X.w) X.A (eval b X.env) (λu f=>wpAny (model X.prog X.w) X.A (compareOp op v u) (EP X d c Q) X.xe f) X.xe e) X.xe s
def tB(t:TE):TT:=λe H Q=>t e H λx d=>∃c,x=.bl c/\Q c d
def aDj{op:CmpOp}(h:PC X op a b t)(e:behindInMarks op b=false:=by first|exact o _ Zd Zd|rfl):PT X (.Compare a [op] [b] pos) (tB t):=by
 intro f s n H Q I g;refine wpAny_isTrue_Compare1 (bY (h f s n H _ I g) λv p e=>bY e λu r i=>bY i ?_) e;rintro c w ⟨x,j,k,l,m⟩;obtain⟨d,rfl,q⟩:=m;cases l;exact wpAny_truthy_bool ⟨j,k,q⟩
def Ym(h:PE X e t)(f:∀whole,isTrue e X.env whole=(do let v←whole;standAt e.pos;holding [v] (truthy v)):=by intro _;rfl):PT X e (tB t):=by
 intro c s m H Q I g;refine isTrue_plain (bY (h c s m H _ I g) ?_) (f _);rintro v n ⟨x,i,j,k,l⟩;obtain⟨d,rfl,q⟩:=l;cases k;exact wpAny_truthy_bool ⟨i,j,q⟩
variable {tA AU:TT}{rest:List Expr}
def lQ(t u:TT):TT:=λe H Q=>t e H λc d=>if c=true then u e d Q else Q false d
def tOr(t u:TT):TT:=λe H Q=>t e H λc d=>if c=true then Q true d else u e d Q
def Yn(t:TT):TT:=λe H Q=>t e H λc d=>Q (!c) d
def Su(f:PT X a tA):PW X (.BoolOp .And [a] pos) tA:=by
 intro i d s g H Q I h;refine isTrue_and (bY (f d s g H Q I h) λc j e=>?_)
 cases c with
 | true=>exact isTrue_and_nil e
 | false=>exact e
def Yo(f:PT X a tA):PW X (.BoolOp .Or [a] pos) tA:=by
 intro i d s g H Q I h;refine isTrue_or (bY (f d s g H Q I h) λc j e=>?_)
 cases c with
 | false=>exact isTrue_or_nil e
 | true=>exact e
def Yp(j:PT X a tA)(k:PW X (.BoolOp .And (b::rest) pos) AU):PW X (.BoolOp .And (a::b::rest) pos) (lQ tA AU):=by
 intro l d s i H Q I h;refine isTrue_and (bY (j d s i H _ I h) ?_);rintro c m ⟨e,f,g⟩
 cases c with
 | true=>exact k l d m i e Q f g
 | false=>exact⟨e,f,g⟩
def aBI(j:PT X a tA)(k:PW X (.BoolOp .Or (b::rest) pos) AU):PW X (.BoolOp .Or (a::b::rest) pos) (tOr tA AU):=by
 intro l d s i H Q I h;refine isTrue_or (bY (j d s i H _ I h) ?_);rintro c m ⟨e,f,g⟩
 cases c with
 | true=>exact⟨e,f,g⟩
 | false=>exact k l d m i e Q f g
def Yq(e:PT X a tA):PT X (.UnaryOp .Not a pos) (Yn tA):=by
 intro d s g H Q I h;exact isTrue_not (e d s g H (λc f=>Q (!c) f) I h)
def Mf(ta tb:TE):TE:=λe H Q=>ta e H λx d=>∃c,x=.bl c/\if c=true then tb e d Q else Q (.bl false) d
def Yr(ta tb:TE):TE:=λe H Q=>ta e H λx d=>∃c,x=.bl c/\if c=true then Q (.bl true) d else tb e d Q
def Mg(ta:TE):TE:=λe H Q=>ta e H λx d=>∃c,x=.bl c/\Q (.bl (!c)) d
def Ys{op}(h:PE X a t):PE X (.BoolOp op [a] pos) t:=λc s e H Q I d=>BoolOp_one (h c s e H Q I d)
def Yt(j:PE X a ta)(k:PE X (.BoolOp .And (b::rest) pos) tb):PE X (.BoolOp .And (a::b::rest) pos) (Mf ta tb):=by
 intro e s i H Q I h;refine BoolOp_and (bY (j e s i H _ I h) ?_);refine λv l=>yE2 λx f=>yA3 λg m d=>?_;obtain⟨c,rfl,d⟩:=d;cases m;refine wpAny_truthy_bool ?_
 cases c with
 | true=>exact k e l i f Q g d
 | false=>exact⟨.bl false,f,g,rfl,d⟩
def aBJ(j:PE X a ta)(k:PE X (.BoolOp .Or (b::rest) pos) tb):PE X (.BoolOp .Or (a::b::rest) pos) (Yr ta tb):=by
 intro e s i H Q I h;refine BoolOp_or (bY (j e s i H _ I h) ?_);refine λv l=>yE2 λx f=>yA3 λg m d=>?_;obtain⟨c,rfl,d⟩:=d;cases m;refine wpAny_truthy_bool ?_
 cases c with
 | false=>exact k e l i f Q g d
 | true=>exact⟨.bl true,f,g,rfl,d⟩
def Yu(f:PE X a ta):PE X (.UnaryOp .Not a pos) (Mg ta):=by
 intro e s k H Q I h;refine UnaryOp_ (bY (f e s k H _ I h) ?_);rintro v l ⟨x,g,i,j,d⟩;obtain⟨c,rfl,d⟩:=d;cases j;exact not_of (wpAny_truthy_bool ⟨.bl (!c),g,i,rfl,d⟩)
def tIf(t:TT)(ta tb:TE):TE:=λd H Q=>t d H λc e=>if c=true then ta d e Q else tb d e Q
def Mh(l:PT X c tA)(m:PE X a ta)(n:PE X b tb):PE X (.IfExp c a b pos) (tIf tA ta tb):=by
 intro e s f H Q I h;refine wpAny_IfExp (bY (l e s f H _ I h) ?_);rintro d g ⟨i,j,k⟩
 cases d with
 | true=>exact m e g f i Q j k
 | false=>exact n e g f i Q j k
end
def SqL(K:W.Frag)(H:Hp)(a:WP)(xs:List V):Prop:=
 Rd H a (.lst xs)∨
  ∃(o:Obj)(b:Array Value)(n:Nat),K.lookup a=some o/\o.cls=.type "list"/\o.dict=none/\o.data=.seq b n/\b.size<=sizeLine/\Vals xs b.toList
def SqT(K:W.Frag)(H:Hp)(a:WP)(xs:List V):Prop:=
 Rd H a (.tup xs)∨
  ∃(o:Obj)(b:Array Value)(n:Nat),K.lookup a=some o/\o.cls=.type "tuple"/\o.data=.seq b n/\b.size<=sizeLine/\Vals xs b.toList
def aDk:WF->Option V
 | .none=>some .non
 | .bool b=>some (.bl b)
 | .int i _=>some (.int i)
 | .str x _=>some (.str x)
 | .bytes b _=>some (.byt b)
 | .float b _=>some (.flt b)
 | .ref a=>some (.ref a)
 | .type n=>some (.ty n)
 | _=>none
def RelV.abs(r:RelV x u):aDk u=some x:=by
 cases x with
 | non=>cases r;rfl
 | bl _=>cases r;rfl
 | int _=>obtain⟨t,rfl⟩:=r;rfl
 | str _=>obtain⟨t,rfl⟩:=r;rfl
 | byt _=>obtain⟨t,rfl⟩:=r;rfl
 | flt _=>obtain⟨t,rfl⟩:=r;rfl
 | ref _=>cases r;rfl
 | ty _=>cases r;rfl
def RelV.inj(r:RelV x u)(q:RelV y u):x=y:=Option.some.inj (r.abs.symm.trans q.abs)
theorem Vals.inj:∀ {xs a:List V}{us:List WF},Vals xs us->Vals a us->xs=a
 | _,_,_,.nil,.nil=>rfl
 | _,_,_,.cons r t,.cons b c=>by rw[r.inj b,Vals.inj t c]
section
variable {X:Cx}{pins:ZB}{σ:St}{H:Hp}{s:UV}{a:WP}{xs ys:List V}
def SqL.of{K:W.Frag}(h:H a=some (.lst xs)):SqL K H a xs:=.inl (.inl h)
def QYX:=@SqL.of
def SqT.of{K:W.Frag}(h:H a=some (.tup xs)):SqT K H a xs:=.inl (.inl h)
def QYY:=@SqT.of
def Inv.list(I:Inv X pins σ H s)(h:SqL X.K H a xs):∃b:List WF,Vals xs b/\PlainL s.heap a b.toArray/\xs.length<=sizeLine:=by
 rcases h with h|⟨o,b,n,c,d,f,g,i,r⟩
 ·obtain⟨z,b,n,r,e⟩:=h.ok I.hok;exact⟨b,r,⟨_,n,e,rfl,rfl,rfl⟩,z⟩
 ·refine⟨b.toList,r,⟨o,n,I.kIn a o c,d,f,by simpa using g⟩,?_⟩;have e:=r.length;simp only [Array.length_toList]at e;omega
def Inv.tuple(I:Inv X pins σ H s)(h:SqT X.K H a xs):∃b:List WF,Vals xs b/\IsTup s.heap a b.toArray/\xs.length<=sizeLine:=by
 rcases h with h|⟨o,b,n,c,d,f,g,r⟩
 ·obtain⟨z,b,r,p⟩:=h.ok I.hok;exact⟨b,r,p,z⟩
 ·refine⟨b.toList,r,⟨o,I.kIn a o c,d,n,by simpa using f⟩,?_⟩;have e:=r.length;simp only [Array.length_toList]at e;omega
def Inv.list_inj(I:Inv X pins σ H s)(h:SqL X.K H a xs)(h':SqL X.K H a ys):xs=ys:=by
 obtain⟨g,r,⟨o,n,e,_,_,d⟩,_⟩:=I.list h;obtain⟨f,i,⟨k,l,b,_,_,c⟩,_⟩:=I.list h';rw[e]at b;cases b;rw[d]at c;injection c with j _
 have:g=f:=by simpa using congrArg Array.toList j
 subst this;exact r.inj i
def Inv.tuple_inj(I:Inv X pins σ H s)(h:SqT X.K H a xs)(h':SqT X.K H a ys):xs=ys:=by
 obtain⟨g,r,⟨o,e,_,n,d⟩,_⟩:=I.tuple h;obtain⟨f,i,⟨k,b,_,l,c⟩,_⟩:=I.tuple h';rw[e]at b;cases b;rw[d]at c;injection c with j _
 have:g=f:=by simpa using congrArg Array.toList j
 subst this;exact r.inj i
end
abbrev Cx.wish(X:Cx)(E:Y5):Cx:={X with xe:=E }
abbrev Cx.nox(X:Cx):Cx:=X.wish λ_ _=>False
def Cx.Ok.wish{X:Cx}(ok:X.Ok)(E:Y5):(X.wish E).Ok:=
 ⟨ok.mod,ok.kind,ok.glob,ok.blt,ok.above,ok.inj,ok.has,ok.cab,ok.hd,ok.frames,ok.stk,ok.exf,ok.bs,ok.bsz,ok.noex,ok.exfs,ok.funs,ok.frf⟩
def Cx.Ok.unwish{X:Cx}(ok:(X.wish E).Ok):X.Ok:=
 ⟨ok.mod,ok.kind,ok.glob,ok.blt,ok.above,ok.inj,ok.has,ok.cab,ok.hd,ok.frames,ok.stk,ok.exf,ok.bs,ok.bsz,ok.noex,ok.exfs,ok.funs,ok.frf⟩
section
variable {X:Cx}{pins:ZB}{σ:St}{H:Hp}{s:UV}{E:Y5}
def Inv.wish(I:Inv X pins σ H s)(E:Y5):Inv (X.wish E) pins σ H s:=⟨I.ok.wish E,I.os,I.bare,I.base,I.loc,I.cell,I.free,I.freeC,I.pin,I.hok,I.len⟩
def Inv.unwish(I:Inv (X.wish E) pins σ H s):Inv X pins σ H s:=⟨I.ok.unwish,I.os,I.bare,I.base,I.loc,I.cell,I.free,I.freeC,I.pin,I.hok,I.len⟩
def SP.unwish(h:SP (X.wish E) pins D f c):SP X pins D f c:=by
 cases f with
 | next=>obtain⟨a,b,I,q⟩:=h;exact⟨a,b,I.unwish,q⟩
 | brk=>obtain⟨a,b,I,q⟩:=h;exact⟨a,b,I.unwish,q⟩
 | cont=>obtain⟨a,b,I,q⟩:=h;exact⟨a,b,I.unwish,q⟩
 | ret u=>obtain⟨v,a,b,I,r,q⟩:=h;exact⟨v,a,b,I.unwish,r,q⟩
def PSs.nox{st:List Stmt}(h:PSs X.nox st t):PSs X st t:=λpins s σ H D I a=>
 wpAny_mono (h pins s σ H D (I.wish _) a) (λ_ _ q=>q.unwish) λ_ _ z=>False.elim z
end
section
variable {X:Cx}{st:Stmt}{rest:List Stmt}{t u:TS}{e:Expr}{te:TE}{pos:Pos}
def aT:TS:=λD a H=>D.nx a H
def Mi(t u:TS):TS:=λD a H=>t {D with nx:=u D } a H
def Sv:PSs X [] aT:=λ_ _ a H _ I h=>wpAny_execs_nil ⟨a,H,I,h⟩
def Mj(c:PS X st t)(d:PSs X rest u):PSs X (st::rest) (Mi t u):=by
 intro a s k H D I h;refine wpAny_execs_cons (bY (c a s k H {D with nx:=u D } I h) λf g q=>?_)
 cases f with
 | next=>
  obtain⟨b,i,j,q⟩:=q;exact d a g b i D j q
 | ret v=>exact q
 | brk=>exact q
 | cont=>exact q
def Sw(b:PS X st t):PSs X [st] t:=by
 intro a s c H D I h;refine wpAny_execs_cons (bY (b a s c H D I h) λf d q=>?_)
 cases f with
 | next=>exact wpAny_execs_nil q
 | ret v=>exact q
 | brk=>exact q
 | cont=>exact q
def Inv.quiet(I:Inv X a b H s):interactive X.env=false:=by simp[interactive,I.ok.kind]
def Ww(te:TE):TS:=λD a H=>te a H λ_ b=>D.nx a b
def Sx(c:PE X e te)(hs:swapsWith e none pos.line X.env=pure false:=by rfl):PS X (.Expr e pos) (Ww te):=by
 intro b s a H D I h;exact wpAny_Expr_any (bY (c b s a H _ I h) λv i ⟨x,d,f,j,g⟩=>⟨a,d,f,g⟩) I.quiet hs
def Ai(te:TE):TS:=λD a H=>te a H D.rt
def Yv(c:PE X e te):PS X (.Return (some e) pos) (Ai te):=by
 intro b s a H D I h;exact wpAny_Return_some (bY (c b s a H _ I h) λv j ⟨x,d,f,g,i⟩=>⟨x,a,d,f,g,i⟩)
def Sy(c:TT)(t u:TS):TS:=λD a H=>c a H λb d=>if b=true then t D a d else u D a d
def aBK(n:PT X c i)(o:PSs X a t)(p:PSs X b u):PS X (.If c a b pos) (Sy i t u):=by
 intro f s g H D I h;refine wpAny_If (bY (n f s g H _ I h) ?_);rintro d j ⟨k,l,m⟩
 cases d with
 | true=>exact o f j g k D l m
 | false=>exact p f j g k D l m
end
abbrev TG:=V->St->Hp->(St->Hp->Prop)->Prop
abbrev Fv:=List V->St->Hp->(St->Hp->Prop)->Prop
def PG(X:Cx)(e:Expr)(t:TG):Prop:=
 ∀(a:ZB)(s:UV)(d:St)(H:Hp)(v:V)(u:WF)(Q:St->Hp->Prop),Inv X a d H s->RelV v u->t v d H Q →
  wpAny (model X.prog X.w) X.A (assign e X.env u) (λ_ f=>∃ b c,Inv X a b c f/\Q b c) X.xe s
def PGs(X:Cx)(g:List Expr)(t:Fv):Prop:=
 ∀(a:ZB)(s:UV)(f:St)(H:Hp)(c:List V)(d:List WF)(Q:St->Hp->Prop),Inv X a f H s->Vals c d->t c f H Q →
  wpAny (model X.prog X.w) X.A (assignInOrder ((assignEach g X.env).map (·.2)) d) (λ_ h=>∃ b e,Inv X a b e h/\Q b e) X.xe s
abbrev Ml:=V->V->V->Hp->(Hp->Prop)->Prop
def Yw(X:Cx)(t:Ml):Prop:=
 ∀(a:ZB)(s:UV)(e:St)(H:Hp)(o i v:V)(b c u:WF)(Q:Hp->Prop),Inv X a e H s->RelV o b->RelV i c->RelV v u->t o i v H Q →
  wpAny (model X.prog X.w) X.A (setItem b c u) (λ_ f=>∃d,Inv X a e d f/\Q d) X.xe s
section
variable {X:Cx}{pos:Pos}
def aK(i:Nat):TG:=λv a H Q=>Q (a.set i (some v)) H
def Sz(a:X.N.Nodup)(b:X.N[i]?=some x)(c:Lz X.env.scope x)(d:X.fn x=true∨X.env.scope.names.lookup x=some .local:=by first|exact .inl rfl|exact .inr rfl|assumption):PG X (.Name x pos) (aK i):=by
 intro f s j H v u Q I r h;exact wpAny_assign_Name (pO I a b c r (λg e=>⟨_,H,e,h⟩) d)
def Yx:Fv:=λa b H Q=>a=[]/\Q b H
def Mm(t:TG)(u:Fv):Fv:=λb d H Q=>∃v r,b=v::r/\t v d H λa c=>u r a c Q
def Ta:PGs X [] Yx:=by
 intro b s a H c d Q I r h;obtain⟨e,h⟩:=h;subst e;cases r;exact assignInOrder_nil ⟨a,H,I,h⟩
def Mn(d:PG X e t)(f:PGs X a u)(hs:(assignEach (e::a) X.env).map (·.2)=assign e X.env::(assignEach a X.env).map (·.2):=by rfl):PGs X (e::a) (Mm t u):=by
 intro b s n H o p Q I r h;obtain⟨v,vr,g,h⟩:=h;subst g;cases r with
 | cons r i=>
  rw[hs];refine assignInOrder_cons (bY (d b s n H _ _ _ I r h) ?_);rintro _ j ⟨c,k,l,m⟩;exact f b j c k _ _ Q l i m
def Tb(K:W.Frag)(n:Nat)(t:Fv):TG:=λv c H Q=>∃a b,v=.ref a/\SqT K H a b/\b.length=n/\t b c H Q
def Yy{k:Nat}(j:X.calm=true)(h:PGs X c t)(l:(assignEach c X.env).length=n:=by rfl)(m:(assignEach c X.env).findIdx? (·.1)=none:=by rfl):PG X (.Tuple c k pos) (Tb X.K n t):=by
 intro f s i H v u Q I r d;revert d;refine yE2 λa p=>yA4 λq w x d=>?_;subst q;cases r;obtain⟨C,g,y,D⟩:=I.tuple w;refine assign_Tuple_tuple (I.ok.hd j) y (by simp[l,<- x,g.length]) m λz A=>?_;have B:Inv X f i H {s with heap:=z }:=I.kept (t':=s.toks) λb o e=>A b o (ne_of_lt (Heap.lt_size e)) e
 exact h f _ i H p _ Q B (by simpa using g) d
def aBM(b c:TE)(t:Ml):TG:=λv a H Q=>b a H λo d=>c a d λi e=>t o i v e λf=>Q a f
def Yz(g:PE X o e)(j:PE X i f)(hs:Yw X t)(k:∀v,assign (.Subscript o i pos) X.env v=(do
   let a←holding [v] (eval o X.env)
   let b←holding [v,a] (eval i X.env)
   standAt pos
   holding [v,a,b] (setItem a b v)
   release [v,a,b] []):=by intro _;rfl):PG X (.Subscript o i pos) (aBM e f t):=by
 intro d s c H v u Q I r h;rw[k];refine Y3 (wpAny_holding (bY (g d s c H _ I h) ?_));refine λa l=>yE2 λx m=>yA3 λn p q=>?_;refine Y3 (wpAny_holding (bY (j d l c m _ n q) ?_));refine λb w=>yE2 λy z=>yA3 λA B C=>?_;refine Y3 (wpAny_standAt (Y3 (wpAny_holding (bY (hs d w c z x y v a b u _ A p B r C) ?_))));rintro _ G ⟨D,E,F⟩;exact wpAny_release ⟨c,D,E,F⟩
def Mo(b:TE)(g:TG):TS:=λD a H=>b a H λx c=>g x a c D.nx
def Za{tg e:Expr}(d:PE X e b)(f:PG X tg g)(hs:swapsWithSole [tg] e pos.line X.env=pure false:=by rfl)(i:swappedStores [tg] e X.env=pure none:=by rfl)(j:(assignEach [tg] X.env).map (·.2)=[assign tg X.env]:=by rfl):PS X (.Assign [tg] e pos) (Mo b g):=by
 intro a s c H D I h;refine wpAny_Assign_stores (bY (d a s c H _ I h) ?_) hs i;refine λv k=>yE2 λx l=>yA3 λm n o=>?_;rw[j];exact bY (f a k c l x v _ m n o) λ_ p q=>q
def Zb(d:X.N.Nodup)(f:X.N[i]?=some x)(g:Lz X.env.scope x)(j:PE X e b)(hs:swapsWith e (some (.Name x a)) pos.line X.env=pure false:=by rfl)(k:X.fn x=true∨X.env.scope.names.lookup x=some .local:=by first|exact .inl rfl|exact .inr rfl|assumption) :
  PS X (.Assign [.Name x a] e pos) (Mo b (aK i)):=by
 intro c s q H D I h;refine wpAny_Assign_Name (bY (j c s q H _ I h) ?_) hs;rintro v r ⟨y,l,m,n,o⟩;exact pO m d f g n (λt p=>⟨_,l,p,o⟩) k
end
structure It where
 go:Nat->Hp->Prop
 yld:Nat->Hp->V->Hp->Prop
 stop:Nat->Hp->Prop
def qZ(X:Cx)(a:ZB)(H:Hp)(b:WP):Prop:=
 H b=none/\b≠X.env.locals/\b∉X.fs/\(b∈X.ex∨X.s₀.heap.objs.size<=b)/\(∀x c,X.env.cells.lookup x=some c->c≠b)/\∀p∈X.pn++a,p.1≠b
def Inv.fpOk(I:Inv X d i H s)(a:s.heap.objs.size<=b)(g:f b=none):qZ X d f b:=by
 refine⟨g,ne_of_gt (TD I.lt a),I.nofs a,.inr (iB I.sz a),λx c e z=>?_,λp h z=>?_⟩
 ·obtain⟨v,q⟩:=I.cell x c e;exact T7 (TD q.lt (by rw[z];exact a)) (lt_irrefl _)
 ·exact T7 (TD (Heap.lt_size (I.pin p h).1) (by rw[z];exact a)) (lt_irrefl _)
structure xK(P:Program)(w:World)(K:W.Frag)(tg:Expr)(J:It)(fp:List WP)(it:WP)(tn:Nat->Heap->Prop):Prop where
 mem:it∈fp
 obj:∀i h,tn i h->∀b∈fp,∃o,h.get? b=some o/\∀v,o.data≠.cell v
 keep:∀i h h',tn i h->(∀b∈fp,∀o,h.get? b=some o->h'.get? b=some o)->tn i h'
 item:∀(X:Cx),X.prog=P->X.w=w->X.K=K->X.calm=true->∀(i:Nat)(pins:ZB)(s:UV)(σ:St)(H:Hp)(E:Y5),Inv X pins σ H s->(∀b∈fp,qZ X pins H b)->tn i s.heap->J.go i H →
  wpAny (model P w) X.A (pyNext (.ref it)) (λr s1=>∃u,r=some u ∧
   wpAny (model P w) X.A (letOwnedTupleGo tg (.ref it) u) (λ_ s2=>∃x H',Inv X pins σ H' s2/\RelV x u/\J.yld i H x H'/\tn (i+1) s2.heap/\∀b∈fp,H' b=none) E s1) E s
 done:∀(X:Cx),X.prog=P->X.w=w->X.K=K->X.calm=true->∀(i:Nat)(pins:ZB)(s:UV)(σ:St)(H:Hp)(E:Y5),Inv X pins σ H s->(∀b∈fp,qZ X pins H b)->tn i s.heap->J.stop i H →
  wpAny (model P w) X.A (pyNext (.ref it)) (λr s1=>r=none/\Inv X pins σ H s1) E s
 self:∀(A:Around)(i:Nat)(s:UV)(Q:Y5)(E:Y5),tn i s.heap->Q (.ref it) s->wpAny (model P w) A (pyIter (.ref it)) Q E s
abbrev TI:=St->Hp->(It->Hp->Prop)->Prop
def PIE(X:Cx)(c:ZB)(h:St)(tg:Expr)(R:It->Hp->Prop)(g:WF)(d:UV):Prop:=
 ∃(it:WP)(e:List WP)(f:Nat->Heap->Prop)(J:It)(a:Hp),g=.ref it/\Inv X c h a d/\xK X.prog X.w X.K tg J e it f/\f 0 d.heap/\(∀b∈e,qZ X c a b)/\R J a
def PI(X:Cx)(tg iter:Expr)(c:TI):Prop:=
 ∀(b:ZB)(s:UV)(a:St)(H:Hp)(R:It->Hp->Prop),Inv X b a H s->c a H R →
  wpAny (model X.prog X.w) X.A (eval iter X.env) (λv d=>wpAny (model X.prog X.w) X.A (pyIter v) (PIE X b a tg R) X.xe d) X.xe s
def Aj{tg:Expr}{it:WP}(b:s.heap.get? it=some o)(c:o.cls=.type n)(d:o.data=.fields vs)(e:["enumerate","zip","dict_itemiterator","dict_reverseitemiterator","odict_iterator","itertools.zip_longest","itertools.pairwise"].contains n=false)(a:Q () s):wpAny M A (letOwnedTupleGo tg (.ref it) u) Q E s:=by
  unfold letOwnedTupleGo;cases tg<;>first
    | exact Y2 a
    | (cases u <;> first
        | exact Y2 a
        | (refine Y3 (wpAny_load b ?_)
           rw[c,d];show wpAny M A (if (["enumerate","zip","dict_itemiterator","dict_reverseitemiterator","odict_iterator","itertools.zip_longest","itertools.pairwise"].contains n&&vs[0]? == some (rawInt _))=true then _ else _) Q E s;rw[T8 (by intro h;rw[e,Bool.false_and]at h;cases h)];exact Y2 a))
def Itl(K:W.Frag)(a:WP):It:=
 ⟨λi H=>∃b x,SqL K H a b/\b[i]?=some x,λi H x c=>c=H/\∀b,SqL K H a b->b[i]?=some x,λi H=>∃b,SqL K H a b/\b.length<=i⟩
def Itt(K:W.Frag)(a:WP):It:=
 ⟨λi H=>∃b x,SqT K H a b/\b[i]?=some x,λi H x c=>c=H/\∀b,SqT K H a b->b[i]?=some x,λi H=>∃b,SqT K H a b/\b.length<=i⟩
def Itr(lo:Int)(n:Nat):It:=⟨λi _=>i<n,λi H x a=>a=H/\x=.int (lo+i),λi _=>n<=i⟩
def vO{P:Program}{w:World}{K:W.Frag}{tg:Expr}(a it:WP):xK P w K tg (Itl K a) [it] it (λi h=>h.IsListIter it a i) where
 mem:=by simp
 obj:=λi h st b f=>by
  have e:b=it:=by simpa using f
  subst e;obtain⟨o,e,c,d⟩:=st;exact⟨o,e,λv z=>by rw[d]at z;cases z⟩
 keep:=λi h g st k=>st.at λo e=>k it Zs o e
 item:=by
  intro X m n q G i F s L H E I j st r;subst m n q;obtain⟨N,x,l,t⟩:=r;obtain⟨M,y,p,O⟩:=I.list l;obtain⟨u,Q,R⟩:=y.get t;refine yE0 (j it Zs) (yA6 λA f1 f2 B C D=>?_);refine wpAny_pyNext_list_item st p.isList (x:=u) (by simpa using Q) λg J S=>?_;have T:Inv X F L H {s with heap:=g }:=I.turned (t':=s.toks) (λb o f e=>(S.2 b f).trans e) A f1 B C D;obtain⟨o,e,c,d⟩:=id J;exact⟨u,rfl,Aj (s:={s with heap:=g }) e c d Zd ⟨x,H,T,R,⟨rfl,λY U=>by rw[I.list_inj U l];exact t⟩,J,λb f=>(j b f).1⟩⟩
 done:=by
  intro X m n q G i F s L H E I j st r;subst m n q;obtain⟨N,l,t⟩:=r;obtain⟨M,y,p,O⟩:=I.list l;refine yE0 (j it Zs) (yA6 λA f1 f2 B C D=>?_);have Z:=y.length;exact wpAny_pyNext_list_end (I.ok.hd G) st p.isList (by simp;omega) λg V=>⟨rfl,I.turned (t':=s.toks) (λb o f e=>V b o f e) A f1 B C D⟩
 self:=λ_ _ _ _ _ st h=>wpAny_pyIter_listiter st h
def tS{P:Program}{w:World}{K:W.Frag}{tg:Expr}(a it:WP):xK P w K tg (Itt K a) [it] it (λi h=>h.IsTupleIter it a i) where
 mem:=by simp
 obj:=λi h st b f=>by
  have e:b=it:=by simpa using f
  subst e;obtain⟨o,e,c,d⟩:=st;exact⟨o,e,λv z=>by rw[d]at z;cases z⟩
 keep:=λi h g st k=>st.at λo e=>k it Zs o e
 item:=by
  intro X n q r J i G s M H E I j st t;subst n q r;obtain⟨N,x,l,y⟩:=t;obtain⟨m,A,p,O⟩:=I.tuple l;obtain⟨u,Q,R⟩:=A.get y;refine yE0 (j it Zs) (yA6 λB f1 f2 C D F=>?_);refine wpAny_pyNext_tuple_item st (show s.heap.IsTuple a m.toArray from p) (x:=u) (by simpa using Q) λg L S=>?_;have T:Inv X G M H {s with heap:=g }:=I.turned (t':=s.toks) (λb o f e=>(S.2 b f).trans e) B f1 C D F;obtain⟨o,e,c,d⟩:=id L;exact⟨u,rfl,Aj (s:={s with heap:=g }) e c d Zd ⟨x,H,T,R,⟨rfl,λY U=>by rw[I.tuple_inj U l];exact y⟩,L,λb f=>(j b f).1⟩⟩
 done:=by
  intro X n q r J i G s M H E I j st t;subst n q r;obtain⟨N,l,y⟩:=t;obtain⟨m,A,p,O⟩:=I.tuple l;refine yE0 (j it Zs) (yA6 λB f1 f2 C D F=>?_);have Z:=A.length;exact wpAny_pyNext_tuple_end (I.ok.hd J) st (show s.heap.IsTuple a m.toArray from p) (by simp;omega) λg V=>⟨rfl,I.turned (t':=s.toks) (λb o f e=>V b o f e) B f1 C D F⟩
 self:=λ_ _ _ _ _ st h=>wpAny_pyIter_tupleiter st h
def Dd{P:Program}{w:World}{K:W.Frag}{tg:Expr}(it:WP)(lo:Int)(n:Nat):xK P w K tg (Itr lo n) [it] it (λi h=>IsRangeIter h it (lo+(i:Nat)*1) ((n:Int)-(i:Nat)) 1) where
 mem:=by simp
 obj:=λi h st b a=>by
  have e:b=it:=by simpa using a
  subst e;exact⟨_,st,λv z=>by
   have B:Data.fields _=Data.cell v:=z;cases B⟩
 keep:=λi h c st k=>k it Zs _ st
 item:=by
  intro X f g j l i x s A H E I d st m;subst f g j;refine yE0 (d it Zs) (yA6 λp f1 f2 q r u=>?_);have W:=Walks.range (prog:=X.prog) (w:=X.w) (I.ok.hd l) it lo 1 n;refine W.item i s _ _ m st λv c tk C y D=>?_;obtain⟨t,rfl⟩:=C;have F:Inv X x A H {s with heap:=c,toks:=tk }:=I.turned (λb o a e=>D b o (by simpa using a) e) p f1 q r u;refine⟨_,rfl,Aj (s:={s with heap:=c,toks:=tk }) (n:="range_iterator") y rfl rfl Zd ⟨.int (lo+i),H,F,⟨t,?_⟩,⟨rfl,rfl⟩,y,λb a=>(d b a).1⟩⟩;rw[Int.mul_one]
 done:=by
  intro X f g j l i x s A H E I d st m;subst f g j;refine yE0 (d it Zs) (yA6 λp f1 f2 q r u=>?_);exact wpAny_pyNext_range_end (I.ok.hd l) st (by have:n<=i:=m;omega) λc G=>⟨rfl,I.turned (t':=s.toks) (λb o a e=>G b o a e) p f1 q r u⟩
 self:=λ_ _ _ _ _ st h=>wpAny_pyIter_rangeiter st h
section
variable {X:Cx}{tg:Expr}
def Fw(K:W.Frag)(c:TE):TI:=λe H R=>c e H λx b=>∃a,x=.ref a/\(∃d,SqL K b a d)/\R (Itl K a) b
def Zc(K:W.Frag)(c:TE):TI:=λe H R=>c e H λx b=>∃a,x=.ref a/\(∃d,SqT K b a d)/\R (Itt K a) b
def Tc(i:PE X l f):PI X tg l (Fw X.K f):=by
 intro g s t H R I h;refine bY (i g s t H _ I h) ?_;rintro v c ⟨x,j,d,k,m⟩
 obtain⟨a,e,⟨w,n⟩,q⟩:=m;subst e;cases k;obtain⟨u,y,p,z⟩:=d.list n;refine wpAny_pyIter_list p.isList ?_;refine⟨c.heap.objs.size,[c.heap.objs.size],_,_,j,rfl,d.kept (t':=c.toks) λb o e=>hV _ e,vO a _,⟨_,W1 _ rfl,rfl,rfl⟩,λb r=>?_,q⟩;have e:b=c.heap.objs.size:=by simpa using r
 subst e;exact d.fpOk (cE _) (d.hok.fresh (cE _))
def Ze(j:PE X l f):PI X tg l (Zc X.K f):=by
 intro g s u H R I h;refine bY (j g s u H _ I h) ?_;rintro v c ⟨x,k,d,m,n⟩
 obtain⟨a,e,⟨w,r⟩,q⟩:=n;subst e;cases m;obtain⟨i,y,p,z⟩:=d.tuple r;refine wpAny_pyIter_tuple (show c.heap.IsTuple a i.toArray from p) ?_;refine⟨c.heap.objs.size,[c.heap.objs.size],_,_,k,rfl,d.kept (t':=c.toks) λb o e=>hV _ e,tS a _,⟨_,W1 _ rfl,rfl,rfl⟩,λb t=>?_,q⟩;have e:b=c.heap.objs.size:=by simpa using t
 subst e;exact d.fpOk (cE _) (d.hok.fresh (cE _))
def Mp{lo a:Int}{t u v:Tok}{tk:Nat}(I:Inv X c f H s)(g:-(2^62)<=lo)(h:lo<2^62)(i:-(2^62)<=a)(j:a<2^62)(q:R (Itr lo (a-lo).toNat) H):wpAny (model X.prog X.w) X.A (pyIter (.ref s.heap.objs.size)) (PIE X c f tg R) E {s with heap:=s.heap.push {cls:=.type "range",data:=.fields #[.int lo t,.int a u,.int 1 v] },toks:=tk }:=by
 refine wpAny_pyIter_range (IsRange.new ..) (small_one g h i j) ?_;have d:Inv X c f H {s with heap:=s.heap.push {cls:=.type "range",data:=.fields #[.int lo t,.int a u,.int 1 v] },toks:=tk }:=I.kept λb o e=>hV _ e
 refine⟨(s.heap.push {cls:=.type "range",data:=.fields #[.int lo t,.int a u,.int 1 v] }).objs.size,[(s.heap.push {cls:=.type "range",data:=.fields #[.int lo t,.int a u,.int 1 v] }).objs.size],_,_,H,rfl,
  d.kept (t':=tk) λb o e=>hV _ e,Dd _ lo (a - lo).toNat,?_,λb k=>?_,q⟩
 ·have l:lo+((0:Nat):Int)*1=lo:=by simp
  have m:(((a-lo).toNat:Nat):Int)-((0:Nat):Int)=Builtin.Range.rangeSize lo a 1:=by rw[rangeSize_one];split<;>omega
  show IsRangeIter _ _ (lo+((0:Nat):Int)*1) ((((a-lo).toNat:Nat):Int)-((0:Nat):Int)) 1;rw[l,m];exact W1 _ rfl
 ·have e:b=(s.heap.push {cls:=.type "range",data:=.fields #[.int lo t,.int a u,.int 1 v] }).objs.size:=by simpa using k
  subst e;exact d.fpOk (cE _) (d.hok.fresh (cE _))
def Wx(a:TA):TI:=λd H R=>a d H λb c=>∃j:Int,b=[.int j]/\-(2^62)<=j/\j<2^62/\R (Itr 0 j.toNat) c
def Ja(f:Gl X "range")(g:X.mg "range"=none)(i:PA X [a] c)(hs:starEach [a] X.env=[(false,eval a X.env)]:=by rfl):PI X tg (.Call (.Name "range" p) [a] [] pos) (Wx c):=by
 intro d s o H R I h;refine Call_ (qY I f g boot_range (PyProof.Rows.callWith_type1 (bY (i pos d s o H _ I h) ?_) hs rfl));refine λu v=>yE2 λw x=>yA3 λk l b=>?_;obtain⟨j,e,b,m,q⟩:=b;subst e;cases l with
 | cons r n=>
  cases n;obtain⟨t,rfl⟩:=r;exact call_range_1 (Mp k Zo Zo b m (by simpa using q))
def aBN(f:TI)(g:TG)(h:TS):TS:=λD a H=>f a H λJ j=>∃W:Nat->Nat->St->Hp->Prop,(∃m,W 0 m a j)/\∀i m a H,W i m a H →
 (J.stop i H/\D.nx a H)∨(J.go i H/\∃N:St->Hp->Prop,(∀ c b,N c b->∃d,d<m/\W (i+1) d c b)/\∀x b,J.yld i H x b->g x a b λe k=>h {D with nx:=N,ct:=N,bk:=D.nx } e k)
def tT(fp:List WP)(h:Heap):List (WP×Obj):=fp.filterMap λb=>(h.get? b).map λo=>(b,o)
def kP(a:b∈fp)(e:h.get? b=some o):(b,o)∈tT fp h:=mem_filterMap.mpr ⟨b,a,by rw[e];rfl⟩
def Jb(a:p∈tT fp h):p.1∈fp/\h.get? p.1=some p.2:=by
 obtain⟨b,c,e⟩:=mem_filterMap.mp a
 cases q:h.get? b with
 | none=>rw[q]at e;cases e
 | some o=>
  rw[q]at e;have d:(b,o)=p:=Option.some.inj e;subst d;exact⟨c,q⟩
def Inv.pinned(I:Inv X a g H s)(h:∀b∈fp,qZ X a H b)(i:∀b∈fp,∃o,s.heap.get? b=some o/\∀v,o.data≠.cell v):Inv X (a++tT fp s.heap) g H s:=
 I.pins_of λp j=>(Zma.mp j).elim (λz=>I.pin p (TW _ z)) λz=>by
  obtain⟨c,e⟩:=Jb z;refine yE0 (h p.1 c) (yA4 λk f1 f2 _=>?_);obtain⟨o,f,d⟩:=i p.1 c;rw[e]at f;cases f;exact⟨e,k,f1,f2,d⟩
def Inv.unpinned(I:Inv X (a++pl) b H s):Inv X a b H s:=I.pins_of λp c=>I.pin p (TW _ (T0 _ c))
def Zf(q:PassesOwn (model X.prog X.w) X.A X.env X.xe)(D:X.calm=true)(P:PI X tg iter B)(Q:PG X tg g)(c:PSs X A C)(hs:∀x,foldedSetIterable iter X.env x=pure x:=by intro _;rfl):PS X (.For tg iter A [] pos) (aBN B g C):=by
 intro k a0 M a1 a8 a2 a3;refine wpAny_For (bY (P k a0 M a1 _ a2 a3) λv s1 R=>bY R λJV s2 S=>?_) hs;revert S;refine yE5 λit r E a9 U=>yA6 λe V T Y f2=>yE1 λW=>yA2 λζ N=>?_;obtain⟨Z,w0⟩:=ζ;subst e;have u:∀ {h:Hp},(∀b∈r,h b=none)->∀b∈r,qZ X k h b:=λhn b c=>⟨hn b c,(f2 b c).2⟩
 refine codeAny_forLoop_any (λn F=>∃i l h,Inv X k l h F/\E i F.heap/\(∀b∈r,h b=none)/\W i n l h) ?_ Z ⟨0,M,U,V,Y,λb c=>(f2 b c).1,w0⟩;refine λn G=>yE3 λi p t=>yA4 λH I J w3=>?_;rcases N i n p t w3 with⟨stop,qn⟩|⟨go,a4,hN,step⟩
 ·refine wpAny_passesOwn q (bY (T.done X rfl rfl rfl D i k G p t X.xe H (u J) I stop) ?_);rintro a5 s4 ⟨w,I4⟩;subst w;exact wpAny_execs_nil ⟨p,t,I4,qn⟩
 ·refine wpAny_passesOwn q (bY (T.item X rfl rfl rfl D i k G p t X.xe H (u J) I go) ?_);rintro a5 s4 ⟨a6,w,h4⟩;subst w;refine wpAny_passesOwn q (bY h4 ?_);refine λ_ K=>yE2 λx L=>yA5 λI5 r5 y5 y LZ=>?_;have MB:=I5.pinned (u LZ) (T.obj _ _ y);refine wpAny_passesOwn q (bY (Q _ K p L x a6 _ MB r5 (step x L y5)) ?_);refine λ_ s6=>yE2 λO H6=>yA2 λI6 q6=>?_;refine wpAny_passesOwn q (bY (c _ s6 O H6 _ I6 q6) λa7 z j=>?_);have again:∀ {a:St}{d:Hp},Inv X (k++tT r K.heap) a d z->a4 a d->∃m,m<n/\∃i l h,Inv X k l h z/\E i z.heap/\(∀b∈r,h b=none)/\W i m l h:=λ{a d} f s=>by
   obtain⟨m',hm,w7⟩:=hN a d s;refine⟨m',hm,i+1,a,d,f.unpinned,T.keep _ _ _ y λb c o e=>(f.pin (b,o) (TW _ (TW _ (kP c e)))).1,λb c=>?_,w7⟩;obtain⟨o,e,b0⟩:=T.obj _ _ y b c;exact(f.pin (b,o) (TW _ (TW _ (kP c e)))).2.1
  cases a7 with
  | next=>obtain⟨a,d,f,s⟩:=j;exact again f s
  | cont=>obtain⟨a,d,f,s⟩:=j;exact again f s
  | brk=>obtain⟨a,d,f,j⟩:=j;exact⟨a,d,f.unpinned,j⟩
  | ret v=>revert j;refine yE3 λx7 a d=>yA3 λf r7 j=>?_;exact⟨x7,a,d,f.unpinned,r7,j⟩
end
abbrev R2:=V->V->Hp->VK->Prop
def OpR(X:Cx)(f:WF->WF->Sem Value)(r:R2):Prop:=
 ∀(a:ZB)(s:UV)(b:St)(H:Hp)(x y:V)(v u:WF)(Q:VK),Inv X a b H s->RelV x v->RelV y u->r x y H Q →
  wpAny (model X.prog X.w) X.A (f v u) (EP X a b Q) X.xe s
def UnR(X:Cx)(f:WF->Sem Value)(r:V->Hp->VK->Prop):Prop:=
 ∀(a:ZB)(s:UV)(b:St)(H:Hp)(x:V)(v:WF)(Q:VK),Inv X a b H s->RelV x v->r x H Q →
  wpAny (model X.prog X.w) X.A (f v) (EP X a b Q) X.xe s
def CallR(X:Cx)(f:WF)(r:List V->Hp->VK->Prop):Prop:=
 ∀(a:ZB)(s:UV)(d:St)(H:Hp)(b:List V)(c:List WF)(Q:VK),Inv X a d H s->Vals b c->r b H Q →
  wpAny (model X.prog X.w) X.A (call f c) (EP X a d Q) X.xe s
def vP(r:R2)(b c:TE):TE:=λa H Q=>b a H λx d=>c a d λy e=>r x y e Q
def tUn(r:V->Hp->VK->Prop)(a:TE):TE:=λc H Q=>a c H λx b=>r x b Q
def rI(C:Int->Int->Prop)(g:Int->Int->V):R2:=λx y H Q=>∃i j,x=.int i/\y=.int j/\C i j/\Q (g i j) H
def Wy(g:Int->Int->V):R2:=λx y H Q=>∃i j,x=.int i/\y=.int j/\Q (g i j) H
def rU(g:Int->V):V->Hp->VK->Prop:=λx H Q=>∃i,x=.int i/\Q (g i) H
section
variable {X:Cx}{a b c:Expr}{ta tb tc:TE}{pos:Pos}
def Zh(m:PE X a ta)(n:PE X b tb){R:V->V->Hp->Prop}(I:Inv X g e H s)(h:ta e H λx j=>tb e j λy d=>R x y d){f:WF->WF->Sem Value}(o:∀v u i x y d,Inv X g e d i->RelV x v->RelV y u->R x y d->wpAny (model X.prog X.w) X.A (f v u) Q X.xe i) :
  wpAny (model X.prog X.w) X.A (eval a X.env) (λv k=>wpAny (model X.prog X.w) X.A (eval b X.env) (λu l=>wpAny (model X.prog X.w) X.A (f v u) Q X.xe l) X.xe k) X.xe s:=by
 refine bY (m g s e H _ I h) ?_;rintro v p ⟨x,j,q,r,t⟩;refine bY (n g p e j _ q t) ?_;rintro u i ⟨y,d,w,z,A⟩;exact o v u i x y d w r z A
def aBO{op:Operator}(e:OpR X (binaryOp op) r)(f:PE X a ta)(g:PE X b tb):PE X (.BinOp a op b pos) (vP r ta tb):=by
 intro d s n H Q I h;exact wpAny_BinOp (Zh f g I h λv u i x y j k l m q=>e d i n j x y v u Q k l m q)
def aBP{op:UnaryOp}(f:UnR X (unaryOp op) r)(g:PE X a ta):PE X (.UnaryOp op a pos) (tUn r ta):=by
 intro d s e H Q I h;exact UnaryOp_ (bY (g d s e H _ I h) λv i ⟨x,j,k,l,m⟩=>f d i e j x v Q k l m)
def opI{g:Int->Int->Int}(rule:∀(i j:Int)(t u:Tok)(s:UV)(Q:Y5)(E:Y5),C i j->Q (.int (g i j) s.toks) {s with toks:=s.toks+1 }->wpAny (model X.prog X.w) X.A (f (.int i t) (.int j u)) Q E s) :
  OpR X f (rI C λi j=>.int (g i j)):=by
 intro m s n H x y v u Q I d e h;obtain⟨i,j,rfl,rfl,k,q⟩:=h;obtain⟨t,rfl⟩:=d;obtain⟨l,rfl⟩:=e;exact rule i j t l s _ _ k ⟨.int (g i j),H,I.tok _,⟨_,rfl⟩,q⟩
def aBQ{g:Int->Int->Int}(rule:∀(i j:Int)(t u:Tok)(s:UV)(Q:Y5)(E:Y5),Q (.int (g i j) s.toks) {s with toks:=s.toks+1 }->wpAny (model X.prog X.w) X.A (f (.int i t) (.int j u)) Q E s) :
  OpR X f (Wy λi j=>.int (g i j)):=by
 intro l s m H x y v u Q I d e h;obtain⟨i,j,rfl,rfl,q⟩:=h;obtain⟨t,rfl⟩:=d;obtain⟨k,rfl⟩:=e;exact rule i j t k s _ _ ⟨.int (g i j),H,I.tok _,⟨_,rfl⟩,q⟩
def Zi{g:Int->Int->Bool}(rule:∀(i j:Int)(t u:Tok)(s:UV)(Q:Y5)(E:Y5),Q (.bool (g i j)) s->wpAny (model X.prog X.w) X.A (f (.int i t) (.int j u)) Q E s) :
  OpR X f (Wy λi j=>.bl (g i j)):=by
 intro l s m H x y v u Q I d e h;obtain⟨i,j,rfl,rfl,q⟩:=h;obtain⟨t,rfl⟩:=d;obtain⟨k,rfl⟩:=e;exact rule i j t k s _ _ ⟨.bl (g i j),H,I,rfl,q⟩
def Td(i j:Int):Prop:=0<=j/\j<=1000000/\i.natAbs<2^64
def CMul(i j:Int):Prop:=(-(2^64)<i/\i<2^64)∨(-(2^64)<j/\j<2^64)
def CMul.ok(h:CMul i j):IntMulOk i j:=by
 rcases h with⟨d,e⟩|⟨d,e⟩
 ·exact .of_left (intBits_le_64 d e)
 ·exact .of_right (intBits_le_64 d e)
def Zj:OpR X (binaryOp .Add) (Wy λi j=>.int (i+j)):=aBQ λ_ _ _ _ _ _ _ q=>add_int q
def Zl:OpR X (binaryOp .Sub) (Wy λi j=>.int (i-j)):=aBQ λ_ _ _ _ _ _ _ q=>sub_int q
def Zm:OpR X (binaryOp .Mult) (rI CMul λi j=>.int (i*j)):=opI λ_ _ _ _ _ _ _ d q=>mul_int q d.ok
def Zp:OpR X (binaryOp .Mod) (rI (λ_ j=>0<j) λi j=>.int (i%j)):=opI λi j _ _ _ _ _ d q=>by
 have e:(0:Int)<j:=d;exact mod_int' Zo (by rw[Int.fmod_eq_emod_of_nonneg i Zo];exact q)
def Zq:OpR X (binaryOp .Pow) (rI Td λi j=>.int (i^j.toNat)):=opI λ_ _ _ _ _ _ _ d q=>pow_int_small d.1 d.2.1 d.2.2 q
def unI{g:Int->Int}(rule:∀(i:Int)(t:Tok)(s:UV)(Q:Y5)(E:Y5),Q (.int (g i) s.toks) {s with toks:=s.toks+1 }->wpAny (model X.prog X.w) X.A (f (.int i t)) Q E s) :
  UnR X f (rU λi=>.int (g i)):=by
 intro e s j H x v Q I d h;obtain⟨i,rfl,q⟩:=h;obtain⟨t,rfl⟩:=d;exact rule i t s _ _ ⟨.int (g i),H,I.tok _,⟨_,rfl⟩,q⟩
def Zr:UnR X (unaryOp .USub) (rU λi=>.int (-i)):=unI λ_ _ _ _ _ q=>neg_int q
end
def scal:V->V->Bool
 | .non,.non=>true|.non,.int _=>true|.int _,.non=>true|.non,.bl _=>true|.bl _,.non=>true|.non,.str _=>true|.str _,.non=>true
 | .int _,.int _=>true|.bl _,.bl _=>true|.str _,.str _=>true|.byt _,.byt _=>true
 | .int _,.str _=>true|.str _,.int _=>true|.bl _,.str _=>true|.str _,.bl _=>true
 | _,_=>false
def rEq:R2:=λx y H Q=>scal x y=true/\Q (.bl (decide (x=y))) H
def rNe:R2:=λx y H Q=>scal x y=true/\Q (.bl (!decide (x=y))) H
def Fx:decide (V.int i=V.int j)=(i==j):=by
 rw[Bool.eq_iff_iff];simp
def Mq:decide (V.bl i=V.bl j)=(i==j):=by
 rw[Bool.eq_iff_iff];simp
def Fy:decide (V.str i=V.str j)=(i==j):=by
 rw[Bool.eq_iff_iff];simp
def Fz:decide (V.byt i=V.byt j)=(i.toList==j.toList):=by
 rw[Bool.eq_iff_iff];cases i;cases j;simp
section
variable {X:Cx}{a b c:Expr}{ta tb tc:TE}{pos:Pos}
def bL{k f:Bool}(I:Inv X d g H s)(q:Q (.bl k) H)(e:k=f):EP X d g Q (.bool f) s:=by
 subst e;exact⟨.bl k,H,I,rfl,q⟩
def aBR:OpR X (compareOp .Eq) rEq:=by
 intro k s l H x y v u Q I g d h;obtain⟨f,q⟩:=h
 cases x with
 | non=>
  cases g
  cases y with
  | non=>cases d;exact PySem.EqNone.eq_none_none (bL I q Zs)
  | bl j=>cases d;exact PySem.EqNone.eq_none_bool (bL I q Zs)
  | int j=>obtain⟨e,rfl⟩:=d;exact PySem.EqNone.eq_none_int (bL I q Zs)
  | str j=>obtain⟨e,rfl⟩:=d;exact PySem.EqNone.eq_none_str (bL I q Zs)
  | _=>exact T7 (show false=true from f) Y1
 | bl i=>
  cases g
  cases y with
  | non=>cases d;exact PySem.EqNone.eq_bool_none (bL I q Zs)
  | bl j=>cases d;exact eq_bool (bL I q Mq)
  | str j=>obtain⟨e,rfl⟩:=d;exact PySem.EqMixed.eq_bool_str (bL I q Zs)
  | _=>exact T7 (show false=true from f) Y1
 | int i=>
  obtain⟨t,rfl⟩:=g
  cases y with
  | non=>cases d;exact PySem.EqNone.eq_int_none (bL I q Zs)
  | int j=>obtain⟨e,rfl⟩:=d;exact eq_int (bL I q Fx)
  | str j=>obtain⟨e,rfl⟩:=d;exact PySem.EqMixed.eq_int_str (bL I q Zs)
  | _=>exact T7 (show false=true from f) Y1
 | str i=>
  obtain⟨t,rfl⟩:=g
  cases y with
  | non=>cases d;exact PySem.EqNone.eq_str_none (bL I q Zs)
  | bl j=>cases d;exact PySem.EqMixed.eq_str_bool (bL I q Zs)
  | int j=>obtain⟨e,rfl⟩:=d;exact PySem.EqMixed.eq_str_int (bL I q Zs)
  | str j=>obtain⟨e,rfl⟩:=d;exact eq_str (bL I q Fy)
  | _=>exact T7 (show false=true from f) Y1
 | byt i=>
  obtain⟨t,rfl⟩:=g
  cases y with
  | byt j=>obtain⟨e,rfl⟩:=d;exact W.eq_bytes (bL I q Fz)
  | _=>exact T7 (show false=true from f) Y1
 | _=>cases y<;>exact T7 (show false=true from f) Y1
def aBS:OpR X (compareOp .NotEq) rNe:=by
 intro k s l H x y v u Q I g d h;obtain⟨f,q⟩:=h
 cases x with
 | non=>
  cases g
  cases y with
  | non=>cases d;exact PySem.EqNone.ne_none_none (bL I q Zs)
  | bl j=>cases d;exact PySem.EqNone.ne_none_bool (bL I q Zs)
  | int j=>obtain⟨e,rfl⟩:=d;exact PySem.EqNone.ne_none_int (bL I q Zs)
  | str j=>obtain⟨e,rfl⟩:=d;exact PySem.EqNone.ne_none_str (bL I q Zs)
  | _=>exact T7 (show false=true from f) Y1
 | bl i=>
  cases g
  cases y with
  | non=>cases d;exact PySem.EqNone.ne_bool_none (bL I q Zs)
  | bl j=>cases d;exact ne_bool (bL I q (congrArg not Mq))
  | str j=>obtain⟨e,rfl⟩:=d;exact PySem.EqMixed.ne_bool_str (bL I q Zs)
  | _=>exact T7 (show false=true from f) Y1
 | int i=>
  obtain⟨t,rfl⟩:=g
  cases y with
  | non=>cases d;exact PySem.EqNone.ne_int_none (bL I q Zs)
  | int j=>obtain⟨e,rfl⟩:=d;exact ne_int (bL I q (congrArg not Fx))
  | str j=>obtain⟨e,rfl⟩:=d;exact PySem.EqMixed.ne_int_str (bL I q Zs)
  | _=>exact T7 (show false=true from f) Y1
 | str i=>
  obtain⟨t,rfl⟩:=g
  cases y with
  | non=>cases d;exact PySem.EqNone.ne_str_none (bL I q Zs)
  | bl j=>cases d;exact PySem.EqMixed.ne_str_bool (bL I q Zs)
  | int j=>obtain⟨e,rfl⟩:=d;exact PySem.EqMixed.ne_str_int (bL I q Zs)
  | str j=>obtain⟨e,rfl⟩:=d;exact ne_str (bL I q (congrArg not Fy))
  | _=>exact T7 (show false=true from f) Y1
 | byt i=>
  obtain⟨t,rfl⟩:=g
  cases y with
  | byt j=>obtain⟨e,rfl⟩:=d;exact W.ne_bytes (bL I q (congrArg not Fz))
  | _=>exact T7 (show false=true from f) Y1
 | _=>cases y<;>exact T7 (show false=true from f) Y1
def aBT:OpR X (compareOp .Lt) (Wy λi j=>.bl (decide (i<j))):=Zi λ_ _ _ _ _ _ _ q=>lt_int q
def aBU:OpR X (compareOp .LtE) (Wy λi j=>.bl (decide (i<=j))):=Zi λ_ _ _ _ _ _ _ q=>le_int q
def aBV:OpR X (compareOp .Gt) (Wy λi j=>.bl (decide (j<i))):=Zi λ_ _ _ _ _ _ _ q=>gt_int q
def Jc:OpR X (compareOp .In) (λx y H Q=>∃i j,x=.str i/\y=.str j/\Q (.bl (!(Builtin.Str.occurrences j i 0 j.length 1).isEmpty)) H):=by
 intro f s k H x y v u Q I d e h;obtain⟨i,j,rfl,rfl,q⟩:=h;obtain⟨t,rfl⟩:=d;obtain⟨g,rfl⟩:=e;exact in_str (bL I q rfl)
def Zt:OpR X (compareOp .Is) (λx y H Q=>y=.non/\Q (.bl (decide (x=.non))) H):=by
 intro f s g H x y v u Q I d e h;obtain⟨rfl,q⟩:=h;cases e;refine is_none_gen (bL I q ?_);cases x<;>first
  | (cases d;rfl)
  | (obtain⟨t,rfl⟩:=d;rfl)
def xL(b:Expr){op:CmpOp}(h:op≠.In:=by decide)(d:op≠.NotIn:=by decide):behindInMarks op b=false:=by
 have e:(op==CmpOp.In)=false:=by cases op<;>first|rfl|exact T7 rfl h
 have f:(op==CmpOp.NotIn)=false:=by cases op<;>first|rfl|exact T7 rfl d
 cases b<;>simp[behindInMarks,e,f]
def Te{op:CmpOp}(e:OpR X (compareOp op) r)(f:PE X a ta)(g:PE X b tb)(i:behindInMarks op b=false):PE X (.Compare a [op] [b] pos) (vP r ta tb):=by
 intro d s o H Q I h;exact wpAny_Compare1 (Zh f g I h λv u j x y k l m n q=>e d j o k x y v u Q l m n q) i
def Ga(t:TE):TT:=λe H Q=>t e H λx d=>∃k,x=.bl k/\Q k d
def Tf{op:CmpOp}(g:OpR X (compareOp op) r)(i:PE X a ta)(j:PE X b tb)(l:behindInMarks op b=false):PT X (.Compare a [op] [b] pos) (Ga (vP r ta tb)):=by
 intro d s f H Q I h;refine wpAny_isTrue_Compare1 (bY (i d s f H _ I h) λv m ⟨x,n,o,p,q⟩=>bY (j d m f n _ o q) λu t ⟨y,w,A,B,C⟩=>
  bY (g d t f w x y v u _ A p B C) λc J ⟨z,D,E,F,k,e,G⟩=>?_) l
 subst e;cases F;exact wpAny_truthy_bool ⟨D,E,G⟩
def xM(r f:R2)(ta tb tc:TE):TE:=λd H Q=>ta d H λx g=>tb d g λy h=>r x y h λz e=>∃k,z=.bl k ∧
 (if k=true then tc d e λi j=>f y i j Q else Q (.bl false) e)
def Mr{op i:CmpOp}(p:OpR X (compareOp op) r)(q:OpR X (compareOp i) j)(t:PE X a ta)(w:PE X b tb)(A:PE X c tc)(B:lastMarks [op,i] [b,c]=false:=by with_unfolding_all rfl):PE X (.Compare a [op,i] [b,c] pos) (xM r j ta tb tc):=by
 intro f s g H Q I h;refine Compare_chain (bY (t f s g H _ I h) λv C ⟨x,D,E,F,G⟩=>chain_link (bY (w f C g D _ E G) λu J ⟨y,K,L,l,M⟩=>
  bY (p f J g K x y v u _ L F l M) λd N ⟨z,m,n,O,k,e,o⟩=>?_)) B
 subst e;cases O;refine wpAny_truthy_bool ?_
 cases k with
 | false=>exact ite_ff ⟨.bl false,m,n,rfl,o⟩
 | true=>exact ite_tt (chain_last (bY (A f N g m _ n o) λP R ⟨S,T,U,V,W⟩=>q f R g T y S u P Q U l V W))
def Ms{op f:CmpOp}(n:OpR X (compareOp op) r)(o:OpR X (compareOp f) g)(p:PE X a ta)(q:PE X b tb)(t:PE X c tc)(w:lastMarks [op,f] [b,c]=false:=by with_unfolding_all rfl):PT X (.Compare a [op,f] [b,c] pos) (Ga (xM r g ta tb tc)):=by
 intro d s e H a2 I h;refine isTrue_chain (bY (p d s e H _ I h) λv x ⟨a0,z,A,B,C⟩=>test_link (bY (q d x e z _ A C) λu D ⟨y,E,F,i,G⟩=>
  bY (n d D e E a0 y v u _ F B i G) λa3 J ⟨a4,j,l,K,k,a1,m⟩=>?_)) w
 subst a1;cases K;refine wpAny_truthy_bool ?_
 cases k with
 | false=>
  obtain⟨k',L,M⟩:=m;cases L;exact ite_ff ⟨j,l,M⟩
 | true=>
  refine ite_tt (test_last (bY (t d J e j _ l m) λN O ⟨P,Q,R,S,T⟩=>bY (o d O e Q y P u N _ R i S T) ?_));rintro d' s5 ⟨z2,U,V,W,k2,Y,Z⟩;subst Y;cases W;exact wpAny_truthy_bool ⟨U,V,Z⟩
def rA:(sizeLine:Nat)<2^63:=by rw[sizeLine_eq];decide
def De:OpR X (binaryOp .Add) (λx y H Q=>∃i j,x=.str i/\y=.str j/\i.length+j.length<=sizeLine/\Q (.str (i++j)) H):=by
 intro k s l H x y v u Q I d e h;obtain⟨i,j,rfl,rfl,f,q⟩:=h;obtain⟨t,rfl⟩:=d;obtain⟨g,rfl⟩:=e;exact add_str (λg tk=>⟨.str (i++j),H,I.tok _,⟨_,rfl⟩,q⟩) f
def lU(r:Vals [x] us):∃u,us=[u]/\RelV x u:=by
 cases r with
 | cons d e=>cases e;exact⟨_,rfl,d⟩
def Wz(r:Vals [x,y] us):∃u d,us=[u,d]/\RelV x u/\RelV y d:=by
 cases r with
 | cons e f=>
  cases f with
  | cons g h=>cases h;exact⟨_,_,rfl,e,g⟩
def Jd(e:X.calm=true):CallR X (.builtin "max") (λxs H Q=>∃i j,xs=[.int i,.int j]/\Q (.int (if j>i then j else i)) H):=by
 intro f s o H xs g Q I r h;obtain⟨i,j,rfl,q⟩:=h;obtain⟨u,l,rfl,⟨t,rfl⟩,⟨m,rfl⟩⟩:=Wz r;refine max_two_ints (I.ok.hd e) λn tk k=>⟨_,H,I.kept k,?_,q⟩;by_cases d:j>i
 ·rw[UF d,UF d];exact⟨_,rfl⟩
 ·rw[T8 d,T8 d];exact⟨_,rfl⟩
def Je(e:X.calm=true):CallR X (.builtin "min") (λxs H Q=>∃i j,xs=[.int i,.int j]/\Q (.int (if j<i then j else i)) H):=by
 intro f s o H xs g Q I r h;obtain⟨i,j,rfl,q⟩:=h;obtain⟨u,l,rfl,⟨t,rfl⟩,⟨m,rfl⟩⟩:=Wz r;refine min_two_ints (I.ok.hd e) λn tk k=>⟨_,H,I.kept k,?_,q⟩;by_cases d:j<i
 ·rw[UF d,UF d];exact⟨_,rfl⟩
 ·rw[T8 d,T8 d];exact⟨_,rfl⟩
def Jf:CallR X (.type "int") (λxs H Q=>(∃i,xs=[.int i]/\Q (.int i) H)∨∃k,xs=[.bl k]/\Q (.int (if k then 1 else 0)) H):=by
 intro e s g H xs f Q I r h;rcases h with⟨i,rfl,q⟩|⟨k,rfl,q⟩
 ·obtain⟨u,rfl,t,rfl⟩:=lU r;exact call_int_int ⟨.int i,H,I,⟨_,rfl⟩,q⟩
 ·obtain⟨u,rfl,d⟩:=lU r;cases d;exact call_int_bool ⟨.int (if k then 1 else 0),H,I.tok _,⟨_,rfl⟩,q⟩
def xN:CallR X (.type "str") (λxs H Q=>∃i,xs=[.int i]/\i.natAbs.log2<1920/\Q (.str (toString i)) H):=by
 intro e s g H xs f Q I r h;obtain⟨i,rfl,d,q⟩:=h;obtain⟨u,rfl,t,rfl⟩:=lU r;exact PySem.P.str_of_int d ⟨.str _,H,I.tok _,⟨_,rfl⟩,q⟩
end
structure ObjM(h:Heap)(x dx C:WP)(mA:Y4):Prop where
 obj:h.get? x=some (W.instObj C dx)
 ns:h.Ns1 dx mA
 ne:dx≠x
def vQ{h:Heap}(n:h.Ns1 b c):∃od,h.get? b=some od/\∀name,W.lookIn name od=some (c name):=by
 revert n;refine yE3 λo d p=>yA5 λf g i _ j=>?_;refine⟨o,f,λname=>?_⟩;have e:=j name;unfold nsFind findBy at e;rw[<- Array.find?_toList]at e;unfold W.lookIn;rw[g];dsimp only;split
 ·rename_i y q;rw[q]at e;exact congrArg some e
 ·rename_i q;rw[q]at e;have a:d.toList.any (·.refKey)=false:=by
   rw[any_eq_false];intro y k;obtain⟨z,t,l⟩:=i y (Array.mem_toList_iff.mp k);simp[DictEntry.refKey,l]
  have m:¬ d.toList.any (·.refKey)=true:=by rw[a];exact Y1
  rw[T8 m];exact congrArg some e
def ObjM.look(I:ObjM h x a C b):∃od,W.InstAt h x (W.instObj C a) C (some od)/\∀name,W.lookIn name od=some (b name):=
 let ⟨od,c,d⟩:=vQ I.ns
 ⟨od,⟨I.obj,rfl,rfl,c⟩,d⟩
section
variable {prog:Program}{w:World}{A:Around}{E:Y5}{s:UV}{K:W.Frag}{x dx C f:WP}{mA:Y4}{name:Str}{v:WF}
def Ti(X:K.In s.heap)(I:ObjM s.heap x dx C mA)(b:W.plainGet K C name=true)(c:W.hasDictIn K C=true)(d:W.findIn K (.ref C) name=some none)(e:mA name=some v)(g:W.handedIn v=true)(h:Q v {s with toks:=s.toks+1 }) :
  wpAny (model prog w) A (getAttr (.ref x) name a) Q E s:=by
 obtain⟨j,J,i⟩:=I.look;exact W.get_value X J (W.plainGet_of b).1 (W.findObj_own c d rfl (by rw[i,e])) g h
def Mt(X:K.In s.heap)(I:ObjM s.heap x dx C mA)(a:W.plainGet K C name=true)(b:W.findIn K (.ref C) name=some (some (.ref f)))(c:W.isFn K (.ref f)=true)(d:mA name=none)(h:Q (.ref f,[.ref x]) s) :
  wpAny (model prog w) A (getMethod (.ref x) name pl) Q E s:=by
 obtain⟨e,J,g⟩:=I.look;exact W.method_fn X J (W.plainGet_of a).1 (W.plainGet_of a).2 b (beq_iff_eq.mp c) (by show(W.lookIn name e).map (·.isSome)=some false;rw[g,d];rfl) h
def Tj(X:K.In s.heap)(I:ObjM s.heap x dx C mA)(hs:W.findIn K (.ref C) "__setattr__"=some (some (.builtin "object.__setattr__")))(e:W.plainOver K C=true)(g:W.takerIn K C name=some none)(i:W.hasDictIn K C=true)(j:PySem.Within mA ns)(u:ns.length<=sizeLine)(h:∀h',ObjM h' x dx C (λy=>if y=name then some v else mA y)->Heap.SameBut dx s.heap h'->Q () {s with heap:=h',toks:=s.toks+2 }) :
  wpAny (model prog w) A (setAttr (.ref x) name v) Q E s:=by
 obtain⟨z,J,B⟩:=I.look;refine W.set_plain X J hs (W.osa_open (s:={s with toks:=s.toks+1 }) (r:=none) X J e g λb=>?_);obtain⟨D,k,l⟩:=W.any_some i;have m:s.heap.get? x=some ⟨.ref C,some dx,.plain,#[]⟩:=I.obj;refine Y3 (Y2 (Y3 (Y3 (wpAny_loadPart m (Y3 (W.Looks.here (s:={s with toks:=s.toks+1 }) (W.looks_clsIn X k) ?_))))));rw[l];refine Y2 (a:=some dx) (Y3 (Y2 (Y3 ?_)));refine wpAny_nsSet1 (s:={s with toks:=s.toks+1 }) I.ns λh' c d=>?_;refine yE0 (c.count (PySem.Within.cons name v j)) (yE3 λF q t=>yA3 λn o p=>?_);refine Y3 (wpAny_lookBehind n (by rw[o];exact pastItsLine_dict (iB p (by rw[eJ];omega))) ?_);exact Y2 (h _ ⟨(d.2 _ (Ne.symm I.ne)).trans I.obj,c,I.ne⟩ d)
def Mu(X:K.In s.heap)(c:W.makesIn K C=true)(e:W.findIn K (.ref C) "__init__"=some (some (.ref f)))(i:W.typeIn K (.ref f)=some (.type "function"))(h:codeAny (model prog w) (A.under (.builtin "type.__call__" ⟨.ref C::vs,a⟩)) (.call (.ref f) ⟨.ref (s.heap.objs.size+1)::vs,a⟩) (W.InitBack (s.heap.objs.size+1) R)
   {s with heap:=(s.heap.push W.emptyDict).push (W.instObj C s.heap.objs.size) }) :
  codeAny (model prog w) A (.call (.ref C) ⟨vs,a⟩) R s:=by
 obtain⟨j,g,d,t,os⟩:=s;exact W.make_core (W.makes_of X c) (W.looks_findIn X e) (λb=>W.bind_fn X b i) (.inl rfl) h
end
def kQ(f:Str)(v:V):List (Str×V)->List (Str×V)
 | []=>[(f,v)]
 | (g,x)::r=>if g=f then (g,v)::r else (g,x)::kQ f v r
theorem rQ(f g:Str)(v:V):∀fs:List (Str×V),(kQ f v fs).lookup g=if g=f then some v else fs.lookup g
 | []=>by
  show List.lookup g [(f,v)]=_;by_cases h:g=f
  ·have a:(g==f)=true:=beq_iff_eq.mpr h;simp only [List.lookup,a,UF h]
  ·have a:(g==f)=false:=beq_eq_false_iff_ne.mpr h;simp only [List.lookup,a,T8 h]
 | (k,x)::r=>by
  have c:=rQ f g v r;rw[show kQ f v ((k,x)::r)=(if k=f then (k,v)::r else (k,x)::kQ f v r) from rfl];by_cases b:k=f
  ·rw[UF b];by_cases h:g=k
   ·have a:(g==k)=true:=beq_iff_eq.mpr h;simp only [List.lookup,a,UF (h.trans b)]
   ·have a:(g==k)=false:=beq_eq_false_iff_ne.mpr h;simp only [List.lookup,a,T8 (λe:g=f=>h (e.trans b.symm))]
  ·rw[T8 b];by_cases h:g=k
   ·have a:(g==k)=true:=beq_iff_eq.mpr h;simp only [List.lookup,a,T8 (λe:g=f=>b (h.symm.trans e))]
   ·have a:(g==k)=false:=beq_eq_false_iff_ne.mpr h;simp only [List.lookup,a];exact c
def rB(f:Str)(v:V):∀fs:List (Str×V),f∈(kQ f v fs).map (·.1)/\∀g,g∈fs.map (·.1)->g∈(kQ f v fs).map (·.1)
 | []=>⟨by simp[kQ],λg h=>by simp at h⟩
 | (k,x)::r=>by
  obtain⟨b,c⟩:=rB f v r;rw[show kQ f v ((k,x)::r)=(if k=f then (k,v)::r else (k,x)::kQ f v r) from rfl];by_cases a:k=f
  ·rw[UF a];subst a;exact⟨Zs,λg h=>by simpa using h⟩
  ·rw[T8 a];refine⟨?_,λg h=>?_⟩
   ·rw[map_cons];exact fN _ b
   ·rw[map_cons]at h ⊢;rcases mem_cons.mp h with e|e
    ·exact mem_cons.mpr (.inl e)
    ·exact fN _ (c g e)
theorem rR(f:Str)(v:V):∀fs:List (Str×V),(kQ f v fs).length<=fs.length+1
 | []=>by simp[kQ]
 | (k,x)::r=>by
  have b:=rR f v r;rw[show kQ f v ((k,x)::r)=(if k=f then (k,v)::r else (k,x)::kQ f v r) from rfl];by_cases a:k=f
  ·rw[UF a,eJ,eJ];omega
  ·rw[T8 a,eJ,eJ];omega
def RelO.some_of{v:V}(r:RelO (some v) o):∃u,o=some u/\RelV v u:=by
 cases o with
 | none=>exact(show False from r).elim
 | some u=>exact⟨u,rfl,r⟩
def RelO.none_of(r:RelO none o):o=none:=by
 cases o with
 | none=>rfl
 | some u=>exact(show False from r).elim
def vR{v:V}(r:RelV v u):W.handedIn u=true:=by
 cases v with
 | non=>cases(show u=Value.none from r);rfl
 | bl b=>cases(show u=Value.bool b from r);rfl
 | int i=>obtain⟨t,e⟩:=(show ∃t,u=Value.int i t from r);cases e;rfl
 | str x=>obtain⟨t,e⟩:=(show ∃t,u=Value.str x t from r);cases e;rfl
 | byt b=>obtain⟨t,e⟩:=(show ∃t,u=Value.bytes b t from r);cases e;rfl
 | flt b=>obtain⟨t,e⟩:=(show ∃t,u=Value.float b t from r);cases e;rfl
 | ref a=>cases(show u=Value.ref a from r);rfl
 | ty n=>cases(show u=Value.type n from r);rfl
section
variable {P:Program}{w:World}{H H':Hp}{h h':Heap}{a C dx:WP}{fs UX:List (Str×V)}
def sX(c:HOk P w H h)(e:H a=some (.ins C dx fs)):∃b,ObjM h a dx C b/\(∀f,RelO (fs.lookup f) (b f))/\PySem.Within b (fs.map (·.1))/\fs.length<=1000/\H dx=some (.own a):=by
 refine yE0 (show ObjOk P w H h a (.ins C dx fs) from c a _ e) (yA5 λd z ne g=>yE1 λb=>yA3 λn r q=>?_);exact⟨b,⟨g,n,ne⟩,r,q,z,d⟩
end
structure Cls(K:W.Frag)(C:WP):Prop where
 pg:W.plainGet K C Str.empty=true
 hd:W.hasDictIn K C=true
 po:W.plainOver K C=true
 sa:W.findIn K (.ref C) "__setattr__"=some (some (.builtin "object.__setattr__"))
def Cls.get{K:W.Frag}(c:Cls K C)(f:Str):W.plainGet K C f=true:=c.pg
def NoAttr(K:W.Frag)(C:WP)(f:Str):Prop:=W.findIn K (.ref C) f=some none
def NoAttr.taker{K:W.Frag}(n:NoAttr K C f):W.takerIn K C f=some none:=by
 unfold W.takerIn;rw[show W.findIn K (.ref C) f=some none from n];rfl
structure Zu(K:W.Frag)(C:WP)(m:Str)(f:WP):Prop where
 at_:W.findIn K (.ref C) m=some (some (.ref f))
 fn:W.isFn K (.ref f)=true
 kp:W.keepIn K (.ref f)=true
section
variable {X:Cx}{pins:ZB}{σ:St}{H:Hp}{s:UV}{a C dx:WP}{fs:List (Str×V)}{f:Str}{v:V}{A:Around}{E:Y5}
def Df(I:Inv X pins σ H s)(e:H a=some (.ins C dx fs))(c:Cls X.K C)(n:NoAttr X.K C f)(l:fs.lookup f=some v)(h:∀u d,Inv X pins σ H d->RelV v u->Q u d):wpAny (model X.prog X.w) A (getAttr (.ref a) f b) Q E s:=by
 obtain⟨i,O,r,_,_,_⟩:=sX I.hok e;obtain⟨u,j,g⟩:=RelO.some_of (v:=v) (o:=i f) (by rw[<- l];exact r f);exact Ti I.kIn O (c.get f) c.hd n j (vR g) (h u _ (I.tok _) g)
def tV(I:Inv X pins σ H s)(e:H a=some (.ins C dx fs))(c:Cls X.K C)(k:Zu X.K C m g)(l:fs.lookup m=none)(h:Q (.ref g,[.ref a]) s):wpAny (model X.prog X.w) A (getMethod (.ref a) m pl) Q E s:=by
 refine yE0 (sX I.hok e) (yE1 λb=>yA5 λO r _ _ _=>?_);have d:b m=none:=RelO.none_of (by rw[<- l];exact r m);exact Mt I.kIn O (c.get m) k.at_ k.fn d h
def Dg(I:Inv X pins σ H s)(e:H a=some (.ins C dx fs))(c:Cls X.K C)(n:NoAttr X.K C f)(J:fs.length<1000)(m:RelV y u)(h:∀i,Inv X pins σ (aH H a (.ins C dx (kQ f y fs))) i->Q () i):wpAny (model X.prog X.w) A (setAttr (.ref a) f u) Q E s:=by
 obtain⟨j,O,r,k,_,l⟩:=sX I.hok e;have p:(fs.map (·.1)).length<=sizeLine:=by rw[aX,sizeLine_eq];omega
 refine Tj I.kIn O c.sa c.po n.taker c.hd k p λt d w=>h _ ?_;have B:∃o,t.get? dx=some o:=let ⟨o,_,_,D,_⟩:=d.ns;⟨o,D⟩;refine I.write (x:=a) (e:=dx) (by rw[e];exact True.intro) (.inr l) (λb q F z=>(w.2 b F).trans z) B ?_;refine⟨by rw[aJ O.ne];exact l,?_,O.ne,d.obj,_,d.ns,λg=>?_,λg G=>?_⟩
 ·have:=rR f y fs;omega
 ·show RelO ((kQ f y fs).lookup g) (if g=f then some u else j g);rw[rQ];by_cases q:g=f
  ·rw[UF q,UF q];exact m
  ·rw[T8 q,T8 q];exact r g
 ·by_cases q:g=f
  ·rw[q];exact(rB f y fs).1
  ·refine(rB f y fs).2 g (k g λz=>G ?_);show(if g=f then some u else j g)=none;rw[T8 q];exact z
def Inv.made(I:Inv X pins σ H s):Inv X pins σ (aH (aH H s.heap.objs.size (.own (s.heap.objs.size+1))) (s.heap.objs.size+1) (.ins C s.heap.objs.size []))
  {s with heap:=(s.heap.push W.emptyDict).push (W.instObj C s.heap.objs.size) }:=by
 have c:(s.heap.push W.emptyDict).get? s.heap.objs.size=some W.emptyDict:=W1 s.heap rfl;have d:((s.heap.push W.emptyDict).push (W.instObj C s.heap.objs.size)).get? (s.heap.objs.size+1)=some (W.instObj C s.heap.objs.size):=by
  have:=W1 (s.heap.push W.emptyDict) (o:=W.instObj C s.heap.objs.size) rfl
  rwa [Heap.size_push]at this
 have g:(s.heap.push W.emptyDict).Ns s.heap.objs.size (λ_=>none):=⟨W.emptyDict,#[],_,c,rfl,(λe h=>T7 h Zs),λ_=>rfl⟩;have i:=I.laid (a:=s.heap.objs.size) (o:=.own (s.heap.objs.size+1)) (h':=s.heap.push W.emptyDict) (t':=s.toks) (λb u q=>hV _ q) (cE _) ⟨_,c⟩;refine i.laid (a:=s.heap.objs.size+1) (o:=.ins C s.heap.objs.size []) (t':=s.toks) (λb u q=>hV _ q) (le_of_eq (Heap.size_push _ _)) ?_;have ne:s.heap.objs.size≠s.heap.objs.size+1:=ne_of_lt (lt_succ_self _);refine⟨by rw[aJ ne,aD],zero_le _,ne,d,λ_=>none,(Heap.Ns1.of_empty g).at λo q=>hV _ q,λ_=>True.intro,λy j=>T7 rfl j⟩
def Gb(c:attributeBase e f env (eval e env)=eval e env)(h:wpAny (model prog w) A (eval e env) (λo b=>wpAny (model prog w) A (getAttr o f true) Q E b) E s):wpAny (model prog w) A (eval (.Attribute e f pos) env) Q E s:=
 Attribute_any_ h (by rw[arm_eval_Attribute,c])
end
section
variable {X:Cx}{pins:ZB}{σ:St}{H:Hp}{s:UV}{A:Around}{E:Y5}{Q:Y5}{c:WF}{b:Bool}
inductive pP(K:W.Frag)(H:Hp):V->WF->Prop where
 | non:pP K H .non (.type "NoneType")
 | bl (x:Bool):pP K H (.bl x) (.type "bool")
 | int (i:Int):pP K H (.int i) (.type "int")
 | str (x:Str):pP K H (.str x) (.type "str")
 | flt (x:UInt64):pP K H (.flt x) (.type "float")
 | lst {a:WP}{xs:List V} (e:H a=some (.lst xs)):pP K H (.ref a) (.type "list")
 | frz {a:WP}{o:Obj}{xs:List V} (e:H a=some (.frz o (.lst xs))):pP K H (.ref a) (.type "list")
 | tup {a:WP}{xs:List V} (e:H a=some (.tup xs)):pP K H (.ref a) (.type "tuple")
 | dK {a:WP}{kvs:List (eN×V)} (e:H a=some (.dK kvs)):pP K H (.ref a) (.type "dict")
 | dT {a:WP}{kvs:List (List eN×V)} (e:H a=some (.dT kvs)):pP K H (.ref a) (.type "dict")
 | ins {a C dx:WP}{fs:List (Str×V)} (e:H a=some (.ins C dx fs)) (cl:Cls K C) (ha:W.findIn K (.ref C) "__class__"=some (some (.builtin "object.__class__")))
   (hn:W.specialIn K (.builtin "object.__class__") "__get__"=some (some (.builtin "getset_descriptor.__get__"))) (htk:W.takesIn K (.builtin "object.__class__")=some true)
   (hm:W.mroIn K C (.type "object")=some true):pP K H (.ref a) (.ref C)
def Jg(I:Inv X pins σ H s)(d:RelV x u)(ty:pP X.K H x t)(e:W.kitOne X.K t c=some b)(h:∀tk,Q (.bool b) {s with toks:=tk }) :
  wpAny (model X.prog X.w) A (call (.builtin "isinstance") [u,c]) Q E s:=by
 cases ty with
 | non=>cases(show u=Value.none from d);exact W.kia_one W.kitx_none I.kIn True.intro e nofun h
 | bl y=>cases(show u=Value.bool y from d);exact W.kia_one W.kitx_bool I.kIn True.intro e nofun h
 | int i=>obtain⟨t,q⟩:=(show ∃t,u=Value.int i t from d);cases q;exact W.kia_one W.kitx_int I.kIn True.intro e nofun h
 | str y=>obtain⟨t,q⟩:=(show ∃t,u=Value.str y t from d);cases q;exact W.kia_one W.kitx_str I.kIn True.intro e nofun h
 | flt y=>obtain⟨t,q⟩:=(show ∃t,u=Value.float y t from d);cases q;exact W.kia_one W.kitx_float I.kIn True.intro e nofun h
 | @lst a j f=>
  cases(show u=Value.ref a from d);obtain⟨_,_,n,_,g⟩:=(show ObjOk X.prog X.w H s.heap a (.lst j) from I.hok a _ f);exact W.kia_one W.kitx_list I.kIn ⟨_,g,rfl⟩ e nofun h
 | @frz a v j f=>
  cases(show u=Value.ref a from d);obtain⟨_,_,_,n,_,g⟩:=(show ObjOk X.prog X.w H s.heap a (.frz v (.lst j)) from I.hok a _ f);exact W.kia_one W.kitx_list I.kIn ⟨_,g,rfl⟩ e nofun h
 | @tup a j f=>
  cases(show u=Value.ref a from d);obtain⟨_,_,_,p⟩:=(show ObjOk X.prog X.w H s.heap a (.tup j) from I.hok a _ f);obtain⟨o,g,k,_⟩:=p;exact W.kia_one W.kitx_tuple I.kIn ⟨o,g,k⟩ e nofun h
 | @dK a l f=>
  cases(show u=Value.ref a from d);obtain⟨_,_,G,_,p⟩:=(show ObjOk X.prog X.w H s.heap a (.dK l) from I.hok a _ f);revert p;refine yE3 λo w z=>yA3 λg k _=>?_;exact W.kia_one W.kitx_dict I.kIn ⟨o,g,k.1⟩ e nofun h
 | @dT a l f=>
  cases(show u=Value.ref a from d);refine yE0 (show ObjOk X.prog X.w H s.heap a (.dT l) from I.hok a _ f) (yA3 λ_ _=>yE1 λj=>yA2 λ_=>yE3 λo w z=>yA3 λg k _=>?_);exact W.kia_one W.kitx_dict I.kIn ⟨o,g,k.1⟩ e nofun h
 | @ins a C K fs f m B D r F=>
  cases(show u=Value.ref a from d);obtain⟨L,O,_⟩:=sX I.hok f;obtain⟨M,J,_⟩:=O.look;exact W.kia_one (W.kitx_own (m.get _) m.hd B D r F) I.kIn J e nofun h
end
structure Room(k:Nat)(A:Around):Prop where
 hd:A.handled=none
 dp:A.depth+3*k+5<recursionLimit
 un:A.units+16*k+200<cLine
def Room.mono{j k:Nat}(r:Room k A)(h:j<=k):Room j A:=⟨r.hd,by have:=r.dp;omega,by have:=r.un;omega⟩
def Room.deeper{k:Nat}(r:Room (k+1) A)(env:Env):Room k (A.deeper env):=
 ⟨r.hd,by have:=r.dp;show A.depth+1+3*k+5<_;omega,by have:=r.un;show A.units+3+16*k+200<_;omega⟩
def Dh{A:Around}:(A.under (.builtin "type.__call__" ⟨.ref C::us,a⟩)).depth=A.depth+1:=by
 first|rfl|simp[Around.under,Code.weight,Code.isCreation,Code.isGuard,Code.isCaller,Code.frames,Code.isFrame,guardIds]
def Di{A:Around}:(A.under (.builtin "type.__call__" ⟨.ref C::us,a⟩)).units=A.units+1:=by
 first|rfl|simp[Around.under,Code.cUnits,Code.frames,Code.isFrame]
def Room.make{k:Nat}(r:Room (k+1) A)(C:WP)(us:List WF)(a:List (Str×WF)):Room k (A.under (.builtin "type.__call__" ⟨.ref C::us,a⟩)):=
 ⟨r.hd,by have:=r.dp;rw[Dh];omega,by have:=r.un;rw[Di];omega⟩
def Room.depth{k:Nat}(r:Room k A):A.depth<recursionLimit:=by have:=r.dp;omega
def Room.units{k:Nat}(r:Room k A):A.units+64<cLine:=by have:=r.un;omega
def Room.units0{k:Nat}(r:Room k A):A.units<cLine:=by have:=r.un;omega
def vD:TA:=λ_ H Q=>Q [] H
def lN(b:TE)(c:TA):TA:=λa H Q=>b a H λx d=>c a d λe f=>Q (x::e) f
section
variable {X:Cx}{e:Expr}{es:List Expr}{te:TE}{t:TA}{pos:Pos}
def xO:PA X [] vD:=λ_ _ _ _ H Q I h=>Calls.spliced_nil ⟨[],H,I,.nil,h⟩
def xP(c:PE X e te)(d:PA X es t)(hs:starEach (e::es) X.env=(false,eval e X.env)::starEach es X.env:=by rfl):PA X (e::es) (lN te t):=by
 intro pos a s b H Q I h;rw[hs];show wpAny _ _ (spliced ((false,eval e X.env)::backTo pos (starEach es X.env))) _ _ s;refine Calls.spliced_cons (bY (c a s b H _ I h) ?_);rintro u f ⟨x,g,i,j,k⟩;exact bY (d pos a f b g _ i k) λq r ⟨l,m,n,o,p⟩=>⟨x::l,m,n,.cons j o,p⟩
def aBW(t:TA):TE:=λc H Q=>t c H λa b=>a.length<=sizeLine/\∀p,b p=none->Q (.ref p) (aH b p (.lst a))
def Zv(h:PA X es t):PE X (.List es pos) (aBW t):=by
 intro f s l H Q I g;refine wpAny_List_spliced (bY (h pos f s l H _ I g) λi a ⟨j,c,d,r,z,q⟩=>⟨by rw[<- r.length];exact z,?_⟩);have k:c a.heap.objs.size=none:=d.hok.fresh (cE _);refine⟨.ref a.heap.objs.size,aH c a.heap.objs.size (.lst j),d.laid (t':=a.toks) (λb u e=>hV _ e) (cE _) ?_,rfl,q _ k⟩;exact⟨z,i,0,r,W1 _ rfl⟩
end
abbrev Sp:=List V->Hp->VK->XK->Prop
abbrev Mv:=List Env->Hp->UV->XK->WF->UV->Prop
structure Env0(P:Program)(w:World)(K:W.Frag)(mg:Y4)(base:Heap)(A:Around)(outer:List Env)(s:UV)(H:Hp):Prop where
 frames:A.frames=some outer
 mod:Mod K mg base
 bs:∀b o,base.get? b=some o->s.heap.get? b=some o/\H b=none
 bsz:base.objs.size<=s.heap.objs.size
 funs:s.heap.FunFrames base outer
 frf:∀b∈lM outer,H b=none
 hok:HOk P w H s.heap
 bare:AllBare s.gens
def CE(outer:List Env)(P:Program)(w:World)(H:Hp)(s:UV)(Q:VK)(u:WF)(a:UV):Prop:=
 ∃v b,a.os=s.os/\AllBare a.gens/\Un (lM outer) [] H b s.heap a.heap/\HOk P w b a.heap/\RelV v u/\Q v b
def CR(CX:Mv)(outer:List Env)(P:Program)(w:World)(H:Hp)(s:UV)(Q:VK)(E:XK)(r:Result)(a:UV):Prop:=
 match r with
 | .ok (.ret u)=>CE outer P w H s Q u a
 | .ok _=>False
 | .error e=>CX outer H s E e a
structure oS(P:Program)(w:World)(K:W.Frag)(mg:Y4)(base:Heap)(CX:Mv)(k:Nat)(f:WP)(fd:FuncData)(ps:List Str)(sp:Sp):Prop where
 len:∀vs H Q E,sp vs H Q E->vs.length=ps.length
 run:∀(A:Around)(outer:List Env)(s:UV)(H:Hp)(args:Args)(us:List WF)(vs:List V)(Q:VK)(E:XK),Room k A->Env0 P w K mg base A outer s H->BindsTo s fd args (ps.zip us)->Vals vs us->sp vs H Q E →
  codeAny (model P w) A (.call (.ref f) args) (CR CX outer P w H s Q E) s
def Env0.make{K:W.Frag}(e:Env0 P w K mg base A outer s H)(C:WP)(us:List WF)(a:List (Str×WF)) :
  Env0 P w K mg base (A.under (.builtin "type.__call__" ⟨.ref C::us,a⟩)) outer s H:=⟨by first|exact e.frames|(simpa [Around.under,Code.envs,Code.isFrame,pushEnvs]using e.frames),e.mod,e.bs,e.bsz,e.funs,e.frf,e.hok,e.bare⟩
section
variable {X:Cx}{pins:ZB}{σ:St}{H:Hp}{s s':UV}
def Inv.env0(I:Inv X pins σ H s):Env0 X.prog X.w X.K X.mg X.base X.A X.stack s H:=
 ⟨I.ok.frames,I.ok.mod,I.bs,iB I.ok.bsz I.sz,I.stack,I.stkFree,I.hok,I.bare⟩
def Inv.after(I:Inv X pins σ H s)(h:CE X.stack X.prog X.w H s Q u s'):EP X pins σ Q u s':=by
 revert h;refine yE2 λv e=>yA6 λos a un c r q=>?_;obtain⟨f,g,d,t,i⟩:=s';obtain rfl:i=s.os:=os;exact⟨v,e,I.call (h':=f) (g':=g) (d':=d) (t':=t) (ch:=[]) un c a (λb z=>T7 z Zs),r,q⟩
end
def aBX(sp:Sp)(dvs:List V)(E:XK)(t:TA):TE:=λc H Q=>t c H λa b=>sp (a++dvs) b Q E
def Binds(K:W.Frag)(b:FuncData)(ps:List Str)(ds:List WF):Prop:=
 ∀(s:UV)(a:List WF),K.In s.heap->(a++ds).length=ps.length->BindsTo s b ⟨a,[]⟩ (ps.zip (a++ds))
def Binds.all{K:W.Frag}{ps:List Str}(h:∀us:List WF,us.length=ps.length->bindArgs a ⟨us,[]⟩=pure (ps.zip us)):Binds K a ps []:=λs us _ b=>by
 rw[append_nil]at b ⊢;exact .of_eq (h us b)
def Dj(CX:Mv)(X:Cx)(E:XK):Prop:=∀(b:ZB)(c:St)(H:Hp)(s:UV)(e:WF)(a:UV),Inv X b c H s->CX X.stack H s E e a->X.xe e a
section
variable {X:Cx}{CX:Mv}{k:Nat}{f C:WP}{fd:FuncData}{ps:List Str}{sp:Sp}{dvs:List V}{ds:List WF}{E:XK}{x m:Str}{p pos apos:Pos}{e o:Expr}{es:List Expr}{ta:TE}{t:TA}
def Dk(F:oS X.prog X.w X.K X.mg X.base CX k f fd ps sp)(g:Room k X.A)(i:Binds X.K fd ps ds)(j:Vals dvs ds)(l:Dj CX X E)(I:Inv X b c H s)(r:Vals vs us)(h:sp (vs++dvs) H Q E):wpAny (model X.prog X.w) X.A (call (.ref f) us) (EP X b c Q) X.xe s:=by
 have d:Vals (vs++dvs) (us++ds):=r.append j;have n:(us++ds).length=ps.length:=by rw[<- d.length];exact F.len _ _ _ _ h
 refine wpAny_call (codeAny_mono (F.run X.A X.stack s H ⟨us,[]⟩ (us++ds) (vs++dvs) Q E g I.env0 (i s us I.kIn n) d h) λr q a=>?_)
 cases r with
 | error e=>exact l b c H s e q I a
 | ok v=>
  cases v with
  | ret u=>exact I.after a
  | next=>exact False.elim a
  | brk=>exact False.elim a
  | cont=>exact False.elim a
def Tk(F:oS X.prog X.w X.K X.mg X.base CX k f fd ps sp)(c:Room k X.A)(d:Gl X x)(g:X.mg x=some (.ref f))(hk:W.keepIn X.K (.ref f)=true)(i:Binds X.K fd ps ds)(j:Vals dvs ds)(l:Dj CX X E)(n:PA X (e::es) t)(u:(x==("__debug__":Str))=false:=by decide)(v:starEach (e::es) X.env=(false,eval e X.env)::starEach es X.env:=by rfl)(w:(backTo pos (starEach es X.env)).any (·.1)=false:=by rfl) :
  PE X (.Call (.Name x p) (e::es) [] pos) (aBX sp dvs E t):=by
 intro b s y H Q I h;refine wpAny_Call_Name_kw (gB I d g ?_ u);refine W.callWith_K (h₀:=X.base) I.ok.mod.kin hk (bY (n pos b s y H _ I h) λz A ⟨B,D,a,r,q⟩=>⟨a.kIn,?_⟩) v w;exact Dk F c i j l a r q
structure Mk(K:W.Frag)(C f:WP):Prop where
 makes:W.makesIn K C=true
 init:W.findIn K (.ref C) "__init__"=some (some (.ref f))
 fn:W.isFn K (.ref f)=true
 kp:W.keepIn K (.ref C)=true
end
structure aI(N P:List Str)(sc:Scope):Prop where
 kind:sc.kind=.function
 co:sc.isCoroutine=false
 gen:sc.isGenerator=false
 nd:N.Nodup
 pre:N.take P.length=P
 par:∀x∈P,sc.names.lookup x=some .local∨sc.names.lookup x=some .cell
 nofree:∀y∈sc.names,y.2≠.free
theorem vS{kindOf:Str->Option NameKind}{x:Str}:∀ {binds:List (Str×WF)}{m:Y4},(∀v,(x,v)∉binds)->bindL kindOf binds m x=m x
 | [],_,_=>rfl
 | (n,v)::r,m,h=>by
  unfold bindL;rw[vS λw a=>h w (fN _ a)];split
  ·have:x≠n:=by rintro rfl;exact h v iV
   simp[this]
  ·rfl
theorem vT{kindOf:Str->Option NameKind}{x:Str}:∀ {binds:List (Str×WF)}{m:Y4},(∀v,(x,v)∉binds)->bindC kindOf binds m x=m x
 | [],_,_=>rfl
 | (n,v)::r,m,h=>by
  unfold bindC;rw[vT λw a=>h w (fN _ a)];split
  ·rfl
  ·have:x≠n:=by rintro rfl;exact h v iV
   simp[this]
theorem vU{kindOf:Str->Option NameKind}{x:Str}{v:WF}:∀ {P:List Str}{vs:List WF}{i:Nat}{m:Y4},P.Nodup->P[i]?=some x->vs[i]?=some v->kindOf x=some .local →
  bindL kindOf (P.zip vs) m x=some v
 | [],_,_,_,_,h,_,_=>by simp at h
 | _::_,[],_,_,_,_,h,_=>by simp at h
 | p::P,w::vs,0,m,c,a,b,d=>by
  simp at a b;subst a;subst b;show bindL kindOf ((p,w)::P.zip vs) m p=_;unfold bindL;rw[vS λv e=>(nodup_cons.mp c).1 (of_mem_zip e).1,UF d];simp
 | p::P,w::vs,i+1,m,c,a,b,d=>by
  show bindL kindOf ((p,w)::P.zip vs) m x=_;unfold bindL;exact vU (i:=i) (nodup_cons.mp c).2 (by simpa using a) (by simpa using b) d
theorem vV{kindOf:Str->Option NameKind}{x:Str}{v:WF}:∀ {P:List Str}{vs:List WF}{i:Nat}{m:Y4},P.Nodup->P[i]?=some x->vs[i]?=some v->kindOf x≠some .local →
  bindC kindOf (P.zip vs) m x=some v
 | [],_,_,_,_,h,_,_=>by simp at h
 | _::_,[],_,_,_,_,h,_=>by simp at h
 | p::P,w::vs,0,m,c,a,b,d=>by
  simp at a b;subst a;subst b;show bindC kindOf ((p,w)::P.zip vs) m p=_;unfold bindC;rw[vT λv e=>(nodup_cons.mp c).1 (of_mem_zip e).1,T8 d];simp
 | p::P,w::vs,i+1,m,c,a,b,d=>by
  show bindC kindOf ((p,w)::P.zip vs) m x=_;unfold bindC;exact vV (i:=i) (nodup_cons.mp c).2 (by simpa using a) (by simpa using b) d
def start(N:List Str)(vs:List V):St:=vs.map some++replicate (N.length-vs.length) none
def cV(CX:Mv)(P:Program)(w:World)(K:W.Frag)(mg:Y4)(base:Heap)(N:List Str)(b:Str)(a:Scope)(f:WP)(c:WF)(A:Around)(outer:List Env)(s:UV)(H:Hp)(E:XK):Cx where
 prog:=P
 w:=w
 K:=K
 mg:=mg
 base:=base
 A:=A.deeper (envOfC b a s.heap.objs.size f c)
 N:=N
 s₀:=s
 H₀:=H
 env:=envOfC b a s.heap.objs.size f c
 outer:=outer
 stack:=envOfC b a s.heap.objs.size f c::outer
 ex:=[]
 calm:=true
 fn:=λ_=>true
 pn:=[]
 xe:=λe g=>wpAny (model P w) (A.deeper (envOfC b a s.heap.objs.size f c)) (leaving (envOfC b a s.heap.objs.size f c) e) (λ_ d=>CX outer H s E e d) (λh d=>CX outer H s E h d) g
def Ak{sc:Scope}(h:sc.names.lookup x=some .cell):∃c,(cellsFrom n sc.names []).lookup x=some c:=by
 have q:=W.cellsFrom_some sc.names n [] (.inl h);exact Option.isSome_iff_exists.mp q
def vW{K:W.Frag}{N ps:List Str}(S:aI N ps j)(L:A.handled=none)(g:Env0 P w K mg base A outer s H)(Q:vs.length=ps.length)(r:Vals vs us)(x:InCallC s s.heap.objs.size (bindL (envOfC o j s.heap.objs.size f t).kindOf (ps.zip us) λ_=>none) (cellsFrom (s.heap.objs.size+1) j.names []) (bindC (envOfC o j s.heap.objs.size f t).kindOf (ps.zip us) λ_=>none) F) :
  Inv (cV CX P w K mg base N o j f t A outer s H E) [] (start N vs) H F:=by
 have R:ps.length<=N.length:=by have:=congrArg length S.pre;rw[fM]at this;omega
 obtain⟨B,tk,rfl,G⟩:=x.done;have D:∀b:WP,b∉(cV CX P w K mg base N o j f t A outer s H E).ex:=λb z=>T7 (show b∈([]:List WP) from z) Zs
 refine⟨⟨g.mod,S.kind,rfl,rfl,cE _,λy z c B d=>?_,λy l=>?_,λy c _ h=>?_,λ_=>L,Around.frames_deeper g.frames,.inr ⟨rfl,rfl⟩,λb z=>T7 z (D b),g.bs,g.bsz,λb _ _=>D b,λb z=>T7 z (D b),g.funs,g.frf⟩,
  rfl,g.bare,Un.kept G,⟨_,x.toInCall.ns,λi y v B d T=>?_⟩,λy c h=>⟨_,x.cell y c h⟩,g.hok.fresh (cE _),λy c h=>?_,λp m=>T7 (show p∈([]:List (Addr × Obj)) from m) Zs,g.hok.kept G,?_⟩
 ·exact name_of_addr x.apart (PySem.mem_of_lookup B) (PySem.mem_of_lookup d)
 ·have l:j.names.lookup y=some .cell∨j.names.lookup y=some .free:=l;rcases l with l|l
  ·exact Ak l
  ·exact T7 rfl (S.nofree _ (PySem.mem_of_lookup l))
 ·exact le_of_lt (x.above y c (PySem.mem_of_lookup h))
 ·have C:i<vs.length:=by
   unfold start at d;by_cases C:i<vs.length
   ·exact C
   ·rw[List.getElem?_append_right (by simpa using C)]at d;rw[List.getElem?_replicate]at d;split at d<;>cases d
  have M:vs[i]?=some v:=by
   unfold start at d;rw[getElem?_append_left (by simpa using C),jF]at d
   cases e:vs[i]? with
   | none=>rw[e]at d;cases d
   | some a=>rw[e]at d;cases d;rfl
  obtain⟨u,I,O⟩:=r.get M;have m:ps[i]?=some y:=by
   rw[<- S.pre,List.getElem?_take_of_lt Zo];exact B
  have J:ps.Nodup:=by rw[<- S.pre];exact S.nd.sublist (List.take_sublist _ _)
  refine⟨u,O,?_⟩;rcases S.par y (sW m) with k|k
  ·exact .inl ⟨k,vU J m I k⟩
  ·obtain⟨c,e⟩:=Ak (n:=s.heap.objs.size+1) k;refine .inr ⟨.inl k,c,e,?_⟩;have q:=x.cell y c e;rw[vV J m I (by show j.names.lookup y≠_;rw[k];decide)]at q;exact q
 ·exact g.hok.fresh (le_of_lt (x.above y c (PySem.mem_of_lookup h)))
 ·unfold start;show _=N.length;rw[gQ,aX,length_replicate];omega
def Mw{K:W.Frag}{k:Nat}{name d:Str}{C kV z D g F T:WF}{N ps:List Str}(lk:K.lookup f=some ⟨T,od,.func (W.fnOf name d r l a C kV z D G g F),O⟩)(U:W.codeIn K g d=true)(S:aI N ps a)(len:∀vs H Q E,sp vs H Q E->vs.length=ps.length)(X:∀(A:Around)(outer:List Env)(s:UV)(H:Hp)(vs:List V)(Q:VK)(E:XK),Room k (A.deeper (envOfC d a s.heap.objs.size f g))->sp vs H Q E →
   ∃t,PSs (cV CX P w K mg base N d a f g A outer s H E) l t/\t {nx:=λ_ c=>Q .non c,rt:=Q } (start N vs) H) :
  oS P w K mg base CX (k+1) f (W.fnOf name d r l a C kV z D G g F) ps sp:=by
 refine⟨len,λA outer s H args Y vs Q E m i Z a0 I=>?_⟩;have hl:=len _ _ _ _ I;have L:K.In s.heap:=i.mod.kin.keeps λb o e=>(i.bs b o e).1
 have R:s.heap.NoLimit:=i.mod.nolimit.keeps λb o e=>(i.bs b o e).1
 have xp:∀y∈ps.zip Y,a.names.lookup y.1=some .local∨(a.names.lookup y.1=some .cell/\((cellsFrom (s.heap.objs.size+1) a.names []).lookup y.1).isSome=true):=λ⟨a1,v⟩ hy=>by
  rcases S.par a1 (of_mem_zip hy).1 with q|q
  ·exact .inl q
  ·exact .inr ⟨q,W.cellsFrom_some _ _ _ (.inl q)⟩
 refine codeAny_call_function m.depth (L _ _ lk) rfl S.co S.gen rfl (W.codeRec_of L U) (Z _ _ _ _ ?_);refine wpAny_newFunctionEnv_cells S.kind xp λenv he M x=>?_;subst he;refine⟨R.keeps x.toInCall.keep,codeAny_func ?_⟩;obtain⟨t,ht,hq⟩:=X A outer s H vs Q E (m.deeper _) I;have a2:Inv (cV CX P w K mg base N d a f g A outer s H E) [] (start N vs) H M:=vW S m.hd i hl a0 x;refine wpAny_mono (ht [] M (start N vs) H _ a2 hq) (λfl n h=>?_) λe n h=>h;have B:∀ {j:St}{c:Hp}{v:V}{u:WF},Inv (cV CX P w K mg base N d a f g A outer s H E) [] j c n->RelV v u->Q v c->CE outer P w H s Q u n:=
  λ{j c v u} J p q=>⟨v,c,J.os,J.bare,J.base,J.hok,p,q⟩
 cases fl with
 | ret u=>
  revert h;refine yE3 λv j c=>yA3 λJ p q=>?_;exact B J p q
 | next=>
  obtain⟨j,c,J,q⟩:=h;exact B (v:=V.non) (u:=Value.none) J rfl q
 | brk=>
  obtain⟨_,_,_,q⟩:=h;exact False.elim q
 | cont=>
  obtain⟨_,_,_,q⟩:=h;exact False.elim q
section
variable {X:Cx}{x:Str}{p pos:Pos}{e:Expr}{es:List Expr}{t:TA}{id T:String}{r:List V->Hp->VK->Prop}
def Zw(r:List V->Hp->VK->Prop)(t:TA):TE:=λc H Q=>t c H λa b=>r a b Q
def Al(c:CallR X (.builtin id) r)(d:Gl X x)(f:X.mg x=none)(g:bootBuiltins x=some (.builtin id))(i:PA X (e::es) t)(j:x≠"__name__":=by decide)(k:(x==("__debug__":Str))=false:=by decide)(l:starEach (e::es) X.env=(false,eval e X.env)::starEach es X.env:=by rfl)(m:(backTo pos (starEach es X.env)).any (·.1)=false:=by rfl):PE X (.Call (.Name x p) (e::es) [] pos) (Zw r t):=by
 intro a s b H Q I h;refine wpAny_Call_Name_kw (qY I d f g ?_ j k);exact PyProof.Rows.callWith_builtin1 (bY (i pos a s b H _ I h) λn o ⟨q,u,v,w,y⟩=>c a o b u q n Q v w y) l m
def Jh(c:CallR X (.type T) r)(d:Gl X x)(f:X.mg x=none)(g:bootBuiltins x=some (.type T))(i:PA X (e::es) t)(j:x≠"__name__":=by decide)(k:(x==("__debug__":Str))=false:=by decide)(l:starEach (e::es) X.env=(false,eval e X.env)::starEach es X.env:=by rfl)(m:(backTo pos (starEach es X.env)).any (·.1)=false:=by rfl):PE X (.Call (.Name x p) (e::es) [] pos) (Zw r t):=by
 intro a s b H Q I h;refine wpAny_Call_Name_kw (qY I d f g ?_ j k);exact PyProof.Rows.callWith_type1 (bY (i pos a s b H _ I h) λn o ⟨q,u,v,w,y⟩=>c a o b u q n Q v w y) l m
end
end L2
namespace HT
open PySem PyProof.Rows
section
variable {prog:Program}{w:World}{A:Around}{E:Y5}{s:UV}
def cat_tup(p:IsTup s.heap t vs.toArray)(q:IsTup s.heap b ws.toArray)(g:vs≠[])(r:ws=[]->Q (.ref t) s)(u:ws≠[]->Q (.ref s.heap.objs.size) {s with heap:=s.heap.push {cls:=.type "tuple",data:=.seq (vs++ws).toArray } })(v:vs.length+ws.length<=sizeLine):wpAny (model prog w) A (binaryOp .Add (.ref t) (.ref b)) Q E s:=by
 obtain⟨⟨cls,h,data,sl⟩,a,i,n,j⟩:=id p;obtain⟨⟨x,k,data2,l⟩,c,m,o,f⟩:=id q;simp only at i j m f;subst i j m f;have e:vs.toArray++ws.toArray=(vs++ws).toArray:=by simp
 by_cases d:ws=[]
 ·exact concat_meets ⟨_,a,rfl⟩ ⟨_,c,rfl⟩ noFill_tuple_add seq_tuple_add PySem.F.slot_tuple_add PySem.F.entry_tuple_add (PySem.F.args_tuple_add_2 _ _)
   (tuple_addW1 t b vs.toArray ws.toArray n o h k sl l (by simpa using g) (by simp[d])) ⟨a,c,r d⟩
 ·refine concat_meets ⟨_,a,rfl⟩ ⟨_,c,rfl⟩ noFill_tuple_add seq_tuple_add PySem.F.slot_tuple_add PySem.F.entry_tuple_add (PySem.F.args_tuple_add_2 _ _)
   (tuple_addW2 t b vs.toArray ws.toArray n o h k sl l (by simpa using g) (by simpa using d) (by rw[iA,iA];exact v)) ⟨a,c,?_⟩
  rw[e];exact u d
def sIx(n d:Nat):Option Int->Nat
 | none=>d
 | some v=>if v<0 then (v+(n:Int)).toNat else min v.toNat n
def sIx_none(n d:Nat):sIx n d none=d:=rfl
def sIx_nat(n d k:Nat):sIx n d (some (k:Int))=min k n:=by
 show(if (k:Int)<0 then ((k:Int)+(n:Int)).toNat else min (k:Int).toNat n)=min k n;rw[T8 Zo,Int.toNat_natCast]
def Zx(n d:Nat)(b:d<=n)(o:Option Int):sIx n d o<=n:=by
 cases o with
 | none=>exact b
 | some v=>
  show(if v<0 then (v+(n:Int)).toNat else min v.toNat n)<=n;by_cases a:v<0
  ·rw[UF a];omega
  ·rw[T8 a];exact Nat.min_le_right _ _
def Gc(v:Int)(n d:Nat):(if v<0 then max (v+(n:Int)) 0 else min v (n:Int))=((sIx n d (some v):Nat):Int):=by
 show(if v<0 then max (v+(n:Int)) 0 else min v (n:Int))=(((if v<0 then (v+(n:Int)).toNat else min v.toNat n):Nat):Int);by_cases a:v<0
 ·simp only [UF a];omega
 ·simp only [T8 a];omega
def Dl(lo a:Option Int)(n:Nat):Builtin.Slice.sliceAdjust lo a 1 (n:Int)=(((sIx n 0 lo:Nat):Int),((sIx n n a:Nat):Int)):=by
 have b:¬ ((1:Int)<0):=by omega
 unfold Builtin.Slice.sliceAdjust;simp only [b,if_false];refine Prod.ext ?_ ?_
 ·cases lo with
  | none=>rfl
  | some v=>exact Gc v n 0
 ·cases a with
  | none=>rfl
  | some v=>exact Gc v n n
def Dm(i j:Nat):Builtin.Slice.slicePlaces (i:Int) (j:Int) 1=j-i:=by
 unfold Builtin.Slice.slicePlaces;have a:(1:Int)>0:=by omega
 simp only [a,if_true,Int.ediv_one];split<;>omega
def tW{v:WF}(p:IsPart v o)(h:Q o s):wpAny (model prog w) A (Builtin.Slice.slicePartIndex v) Q E s:=by
 cases p with
 | none=>exact slicePart_none h
 | int i t=>exact slicePart_int h
def sliceApplied_gen{sl:WP}{lo a:Option Int}{n:Nat}{Q:Int×Int×Nat->UV->Prop}(hs:s.heap.IsSliceOf sl b c .none)(pl:IsPart b lo)(f:IsPart c a)(h:Q (((sIx n 0 lo:Nat):Int),1,sIx n n a-sIx n 0 lo) s):wpAny (model prog w) A (Builtin.Slice.sliceApplied (.ref sl) (pure (n:Int))) Q E s:=by
 obtain⟨os,d,g,e⟩:=id hs;unfold Builtin.Slice.sliceApplied Builtin.Slice.sliceFields;refine Y3 (Y3 (wpAny_field d e (x:=b) rfl (Y3 (wpAny_field d e (x:=c) rfl (Y3 (wpAny_field d e (x:=.none) rfl (Y2 ?_)))))));refine Y3 (slicePart_none ?_);show wpAny _ _ (if ((1:Int)==0)=true then _ else _) _ _ s;rw[T8 Zd];refine Y3 (tW pl (Y3 (tW f (Y3 (Y2 ?_)))));show wpAny _ _ (match Builtin.Slice.sliceAdjust lo a 1 (n:Int) with|(lo,a)=>pure (lo,(1:Int),Builtin.Slice.slicePlaces lo a 1)) _ _ s;rw[Dl lo a n];show wpAny _ _ (pure (((sIx n 0 lo:Nat):Int),(1:Int),Builtin.Slice.slicePlaces ((sIx n 0 lo:Nat):Int) ((sIx n n a:Nat):Int) 1)) _ _ s;rw[Dm];exact Y2 h
def Mx(xs:Array Value)(i k:Nat):((List.range k).filterMap λ(m:Nat)=>xs[((i:Int)+(m:Int)*1).toNat]?).toArray=((xs.toList.drop i).take k).toArray:=by
 have e:(λ(m:Nat)=>xs[((i:Int)+(m:Int)*1).toNat]?)=λm=>xs[i+m]?:=by
  funext m
  have:((i:Int)+(m:Int)*1).toNat=i+m:=by omega
  rw[this]
 rw[e];have:=pick_run xs i k;rw[List.filterMap_map]at this;have a:((λx=>xs[x]?)∘λx=>i+x)=λm=>xs[i+m]?:=rfl
 rw[a]at this;rw[this]
def getItem_tuple_cut{t sl:WP}{lo b:Option Int}(c:IsTup s.heap t a)(hs:s.heap.IsSliceOf sl e f .none)(pl:IsPart e lo)(g:IsPart f b)(i:¬ (sIx a.size 0 lo=0/\sIx a.size a.size b=a.size))(h:Q (.ref s.heap.objs.size) {s with heap:=s.heap.push {cls:=.type "tuple",data:=.seq ((a.toList.drop (sIx a.size 0 lo)).take (sIx a.size a.size b-sIx a.size 0 lo)).toArray } })(o:a.size<=sizeLine):wpAny (model prog w) A (getItem (.ref t) (.ref sl)) Q E s:=by
 have d:sizeOk (.seq ((a.toList.drop (sIx a.size 0 lo)).take (sIx a.size a.size b-sIx a.size 0 lo)).toArray):=by
  show((a.toList.drop (sIx a.size 0 lo)).take (sIx a.size a.size b-sIx a.size 0 lo)).toArray.size<=sizeLine;rw[iA,fM,length_drop,Array.length_toList];omega
 have p:sIx a.size a.size b<=a.size:=Zx _ _ (cE _) b;obtain⟨os,j,k,r⟩:=id hs;have l:s.TypeIs (.ref sl) "slice":=⟨os,j,k⟩;unfold getItem;try with_reducible refine wpAny_holding ?_
 first|refine Y3 (Y2 ?_)|skip
 refine Y3 (wpAny_sequenceKey c.typeIs Zd ?_);refine Y3 (wpAny_callSpecial?_slot (name:=Str.ofString "__getitem__") c.typeIs PyProof.Rows.slot_tuple_getitem
  (wpAny_call_entry PyProof.Rows.slot_tuple_getitem c.typeIs entry_tuple_getitem ?_ (args_tuple_getitem _ _)))
 show wpAny _ _ (Builtin.Tuple.tupleItemsOf (.ref t)>>=_) _ _ s;refine Y3 (tupleItemsOf_ c ?_);refine Y3 (wpAny_typeOf l ?_);rw[UF Zd];refine Y3 (sliceApplied_gen hs pl g ?_);have n:¬ ((((sIx a.size 0 lo:Nat):Int)==0&&(1:Int)==1&&(sIx a.size a.size b-sIx a.size 0 lo)==a.size)=true):=by
  intro q;rw[Bool.and_eq_true,Bool.and_eq_true]at q;have u:((sIx a.size 0 lo:Nat):Int)=0:=eq_of_beq q.1.1;have v:sIx a.size a.size b-sIx a.size 0 lo=a.size:=eq_of_beq q.2;exact i ⟨Zo,Zo⟩
 show wpAny _ _ (if (((sIx a.size 0 lo:Nat):Int)==0&&(1:Int)==1&&(sIx a.size a.size b-sIx a.size 0 lo)==a.size)=true then _ else _) _ _ s;rw[T8 n,Mx];first
  | exact Y3 (m:=Builtin.Tuple.tupleExact _) (wpAny_newObj_type (Y2 ⟨_,rfl,Y2 h⟩) d)
  | exact Y3 (m:=Builtin.Tuple.tupleExact _) (wpAny_newObj_type (Y3 (Y2 (Y2 ⟨_,rfl,Y2 h⟩))) d)
  | exact Y3 (Y3 (m:=Builtin.Tuple.tupleExact _) (wpAny_newObj_type (Y2 (Y2 ⟨_,rfl,Y2 h⟩)) d))
  | exact Y3 (Y3 (m:=Builtin.Tuple.tupleExact _) (wpAny_newObj_type (Y2 ⟨_,rfl,Y2 h⟩) d))
end
end HT
namespace L2
open PySem PySem.Spec PyProof.Rows
abbrev TO:=St->Hp->(Option Int->Hp->Prop)->Prop
def PO(X:Cx)(e:Option Expr)(t:TO):Prop:=
 ∀(b:ZB)(s:UV)(a:St)(H:Hp)(Q:Option Int->Hp->Prop),Inv X b a H s->t a H Q →
  wpAny (model X.prog X.w) X.A (evalPart e X.env) (λu d=>∃o c,Inv X b a c d/\IsPart u o/\Q o c) X.xe s
def sY:TO:=λ_ H Q=>Q none H
def Mz(t:TE):TO:=λb H Q=>t b H λx a=>∃i,x=.int i/\Q (some i) a
section
variable {X:Cx}{e:Expr}{te:TE}{lo hi:Option Expr}{tl th:TO}{pos p2:Pos}
def Tl:PO X none sY:=by
 intro a s b H Q I h;rw[evalPart_none];exact Y2 ⟨none,H,I,.none,h⟩
def Tm(h:PE X e te):PO X (some e) (Mz te):=by
 intro a s j H Q I b;rw[evalPart_some];refine bY (h a s j H _ I b) ?_;rintro u k ⟨x,c,d,f,g⟩
 obtain⟨i,rfl,q⟩:=g;obtain⟨t,rfl⟩:=f;exact⟨some i,c,d,.int i t,q⟩
def SlR(X:Cx)(r:V->Option Int->Option Int->Hp->VK->Prop):Prop:=
 ∀(a:ZB)(s:UV)(d:St)(H:Hp)(x:V)(v b c:WF)(lo hi:Option Int)(sl:WP)(Q:VK),Inv X a d H s->RelV x v->s.heap.IsSliceOf sl b c .none->IsPart b lo->IsPart c hi->r x lo hi H Q →
  ∃T id,typeLookup (.type T) "__getitem__"=pure (some (.builtin id))/\s.TypeIs v T/\wpAny (model X.prog X.w) X.A (getItem v (.ref sl)) (EP X a d Q) X.xe s
def tSl(r:V->Option Int->Option Int->Hp->VK->Prop)(te:TE)(tl th:TO):TE:=λa H Q=>te a H λx b=>tl a b λl c=>th a c λu d=>r x l u d Q
def Na(j:SlR X r)(k:PE X e te)(m:PO X lo tl)(n:PO X hi th):PE X (.Subscript e (.Slice lo hi none p2) pos) (tSl r te tl th):=by
 intro c s d H Q I h;refine Subscript_ (bY (k c s d H _ I h) ?_);refine λv o=>yE2 λx p=>yA3 λt w y=>?_;refine wpAny_Slice (bY (m c o d p _ t y) λf z ⟨l,A,B,C,D⟩=>bY (n c z d A _ B D) ?_);refine λg a=>yE2 λu i=>yA3 λE F G=>?_;rw[evalPart_none];refine Y2 ?_;have J:Inv X c d i {a with heap:=a.heap.push {cls:=.type "slice",data:=.fields #[f,g,.none] } }:=E.kept (t':=a.toks) λb N q=>hV _ q
 refine yE0 (j c {a with heap:=a.heap.push {cls:=.type "slice",data:=.fields #[f,g,.none] } } d i x v f g l u a.heap.objs.size Q J w (Heap.IsSliceOf.new ..) C F G) (yE2 λT id=>yA3 λK L M=>?_);show wpAny (model X.prog X.w) X.A (subscriptTail e (.Slice lo hi none p2) v (.ref a.heap.objs.size)) (EP X c d Q) X.xe {a with heap:=a.heap.push {cls:=.type "slice",data:=.fields #[f,g,.none] } };exact tail_any (ops:=[.ref a.heap.objs.size,v]) L K M (by with_unfolding_all rfl)
def Ji(xs:List V)(lo hi:Option Int):List V:=(xs.drop (HT.sIx xs.length 0 lo)).take (HT.sIx xs.length xs.length hi-HT.sIx xs.length 0 lo)
def rS(xs:List V)(lo hi:Option Int):(Ji xs lo hi).length<=xs.length:=by
 unfold Ji;rw[fM,length_drop];omega
def aDl(K:W.Frag):V->Option Int->Option Int->Hp->VK->Prop:=λx lo hi H Q=>∃a b,x=.ref a/\SqT K H a b ∧
 ¬ (HT.sIx b.length 0 lo=0/\HT.sIx b.length b.length hi=b.length)/\∀p,H p=none->Q (.ref p) (aH H p (.tup (Ji b lo hi)))
def Zy:SlR X (aDl X.K):=by
 intro t s z H x v u w lo hi sl Q I j k l m h;revert h;refine yE2 λa c=>yA4 λζ n p q=>?_;subst ζ;cases j;obtain⟨i,r,f,g⟩:=I.tuple n;have d:i.toArray.size=c.length:=by rw[iA];exact r.length.symm
 refine⟨"tuple",_,PyProof.Rows.slot_tuple_getitem.lookup,f.typeIs,?_⟩;refine HT.getItem_tuple_cut f k l m (by rw[d];exact p) ?_ (by rw[d];exact g);rw[d];refine⟨.ref s.heap.objs.size,_,I.laid (t':=s.toks) (o:=.tup (Ji c lo hi)) (λb y q=>hV _ q) (cE _) ?_,rfl,q _ (I.hok.fresh (cE _))⟩;exact⟨iB (rS c lo hi) g,_,(r.drop (HT.sIx c.length 0 lo)).take (HT.sIx c.length c.length hi-HT.sIx c.length 0 lo),IsTup.new _ _⟩
def aBY(K:W.Frag):R2:=λx y H Q=>∃a b d c,x=.ref a/\y=.ref b/\SqT K H a d/\SqT K H b c/\d≠[]/\d.length+c.length<=sizeLine ∧
 (c=[]->Q (.ref a) H)/\(c≠[]->∀p,H p=none->Q (.ref p) (aH H p (.tup (d++c))))
def Vals.nil_iff(r:Vals xs us):us=[]↔xs=[]:=by
 cases r with
 | nil=>simp
 | cons _ _=>simp
def Tn:OpR X (binaryOp .Add) (aBY X.K):=by
 intro A s E H x y v u Q I g i h;revert h;refine yE4 λa b j k=>yA8 λζ η l m n f p r=>?_;subst ζ η;cases g;cases i;obtain⟨B,d,t,_⟩:=I.tuple l;obtain⟨C,c,p2,_⟩:=I.tuple m;refine HT.cat_tup t p2 (λz=>n (d.nil_iff.mp z)) (λz=>⟨.ref a,H,I,rfl,p (c.nil_iff.mp z)⟩) (λz=>?_) (by rw[<- d.length,<- c.length];exact f);refine⟨.ref s.heap.objs.size,_,I.laid (t':=s.toks) (o:=.tup (j++k)) (λb D q=>hV _ q) (cE _) ?_,rfl,r (λw=>z (c.nil_iff.mpr w)) _ (I.hok.fresh (cE _))⟩;exact⟨by rw[gQ];exact f,_,d.append c,IsTup.new _ _⟩
end
def Jj(n:Nat)(i:Int):Option Nat:=if 0<=i then (if i<n then some i.toNat else none) else if -(n:Int)<=i then some (i+n).toNat else none
def eK{a:Type}(xs:List a)(i:Int):Option a:=(Jj xs.length i).bind λj=>xs[j]?
def Gd(h:Jj n i=some j):seqIndex? i n=some j/\j<n/\-(n:Int)<=i/\i<n:=by
 unfold Jj at h;by_cases b:0<=i
 ·rw[UF b]at h;by_cases a:i<n
  ·rw[UF a]at h;have e:i.toNat=j:=Option.some.inj h;exact⟨by rw[seqIndex_of b a,e],Zo,Zo,a⟩
  ·rw[T8 a]at h;cases h
 ·rw[T8 b]at h;by_cases a:-(n:Int)<=i
  ·rw[UF a]at h;have e:(i+n).toNat=j:=Option.some.inj h;exact⟨by rw[seqIndex_neg Zo a,e],Zo,a,Zo⟩
  ·rw[T8 a]at h;cases h
def xQ{v:a}(h:eK xs i=some v):∃j,seqIndex? i xs.length=some j/\xs[j]?=some v/\j<xs.length/\-(xs.length:Int)<=i/\i<xs.length:=by
 unfold eK at h;cases e:Jj xs.length i with
 | none=>rw[e]at h;cases h
 | some j=>
  rw[e]at h;refine yE0 (Gd e) (yA4 λb c d f=>?_);exact⟨j,b,h,c,d,f⟩
def aL{a:Type}{xs:List a}{j:Nat}{v:a}(h:xs[j]?=some v):eK xs (j:Int)=some v:=by
 have b:j<xs.length:=(Zgs.mp h).1;have e:Jj xs.length (j:Int)=some j:=by
  unfold Jj;rw[UF Zo,UF Zo];simp
 unfold eK;rw[e];exact h
def Am(xs:List a)(v:a):eK (xs++[v]) (-1)=some v:=by
 have b:(xs++[v]).length=xs.length+1:=by simp
 have e:Jj (xs++[v]).length (-1)=some xs.length:=by
  unfold Jj;rw[b,T8 Zd,UF Zo]
  congr 1
  omega
 unfold eK;rw[e];show(xs++[v])[xs.length]?=some v;simp
def xR(b:Expr):Prop:=∀o i,subscripted b false o i=operate [o,i] (getItem o i)
def IxR(X:Cx)(r:R2):Prop:=
 ∀(c slice:Expr)(a:ZB)(s:UV)(b:St)(H:Hp)(x y:V)(v u:WF)(Q:VK),Inv X a b H s->RelV x v->RelV y u->r x y H Q →
  subscripted slice false v u=operate [v,u] (getItem v u)->wpAny (model X.prog X.w) X.A (subscriptTail c slice v u) (EP X a b Q) X.xe s
def Ma(X:Cx)(id:String)(r:V->List V->Hp->VK->Prop):Prop:=
 ∀(a:ZB)(s:UV)(d:St)(H:Hp)(x:V)(b:List V)(v:WF)(c:List WF)(Q:VK),Inv X a d H s->RelV x v->Vals b c->r x b H Q →
  wpAny (model X.prog X.w) X.A (call (.builtin id) (v::c)) (EP X a d Q) X.xe s
section
variable {X:Cx}{a b:Expr}{ta tb:TE}{pos:Pos}
def aBZ(d:IxR X r)(e:PE X a ta)(f:PE X b tb)(hs:xR b):PE X (.Subscript a b pos) (vP r ta tb):=by
 intro c s m H Q I h;exact Subscript_ (Zh e f I h λv u g x y i j k l q=>d a b c g m i x y v u Q j k l q (hs _ _))
def aDm(K:W.Frag):R2:=λx y H Q=>∃p c i v,x=.ref p/\y=.int i/\SqL K H p c/\eK c i=some v/\Q v H
def aDn(K:W.Frag):R2:=λx y H Q=>∃p c i v,x=.ref p/\y=.int i/\SqT K H p c/\eK c i=some v/\Q v H
def aDo:R2:=λx y H Q=>∃z i c,x=.str z/\y=.int i/\z.length<=sizeLine/\eK z.cps.toList i=some c/\Q (.str ⟨#[c]⟩) H
def To:IxR X (aDm X.K):=by
 intro M slice f s n H x y v u Q I A B h k;revert h;refine yE4 λp N i z=>yA5 λζ η C D q=>?_;subst ζ η;cases A;obtain⟨t,rfl⟩:=B;obtain⟨o,r,d,O⟩:=I.list C;refine yE0 (xQ D) (yE1 λj=>yA5 λc E P F G=>?_);obtain⟨w,l,J⟩:=r.get E;have K:=r.length;have R:=rA;have g:EP X f n Q w s:=⟨z,H,I,J,q⟩;by_cases m:0<=i
 ·have e:i.toNat=j:=by
   rw[seqIndex_of m G]at c;exact Option.some.inj c
  exact item_listR d.isList m Zo (by rw[e];simpa using l) g k
 ·have e:(i+(o.toArray.size:Int)).toNat=j:=by
   rw[seqIndex_neg Zo F]at c;rw[iA,<- K];exact Option.some.inj c
  exact subscriptTail_builtinR (x:=w) d.isList.typeIs slot_list_getitem.lookup
   (wpAny_getItem_list_neg (Q:=λr L=>r=w/\EP X f n Q r L) d.isList Zo (by rw[iA]<;>omega) Zo (by rw[e];simpa using l) ⟨rfl,g⟩) k
def Zz:IxR X (aDn X.K):=by
 intro F slice c s e H x y v u Q I g k h l;revert h;refine yE4 λp J i z=>yA5 λζ η m n q=>?_;subst ζ η;cases g;obtain⟨t,rfl⟩:=k;obtain⟨G,r,d,K⟩:=I.tuple m;refine yE0 (xQ n) (yE1 λj=>yA5 λo A L M N=>?_);obtain⟨w,B,C⟩:=r.get A;have D:=r.length;have O:=rA;have f:EP X c e Q w s:=⟨z,H,I,C,q⟩;exact subscriptTail_builtinR (x:=w) d.typeIs slot_tuple_getitem.lookup
  (getItem_tuple (j:=j) (Q:=λr E=>r=w/\EP X c e Q r E) d Zo Zo (by rw[iA,<- D];exact o) (by simpa using B) ⟨rfl,f⟩) l
def aAa:IxR X aDo:=by
 intro w slice A s F H x y v u Q I e f h g;revert h;refine yE3 λz i c=>yA5 λζ η B k q=>?_;subst ζ η;obtain⟨t,rfl⟩:=e;obtain⟨C,rfl⟩:=f;refine yE0 (xQ k) (yE1 λj=>yA5 λd l D m n=>?_);have o:z.cps.toList.length=z.length:=by simp[Str.length]
 rw[o]at d m n;have E:=rA;exact tail_any (typeIs_str s z t) slot_str_getitem.lookup (getItem_str (c:=c) (by
  have p:decide (i < -(2 ^ 63:Int))=false:=XV Zo;have r:decide (i ≥ 2 ^ 63)=false:=XV Zo;rw[p,r,Bool.or_false]) (by rw[d];simpa using l) ⟨.str ⟨#[c]⟩,H,I.tok _,⟨_,rfl⟩,q⟩) g
def Dn(c:List WF)(n j:Nat)(u:WF):Obj.mapSeq (·.setIfInBounds j u) {cls:=.type "list",data:=.seq c.toArray n }={cls:=.type "list",data:=.seq (c.set j u).toArray n }:=by
 simp[Obj.mapSeq]
def Inv.lst(I:Inv X d f H s)(h:H p=some (.lst xs)) :
  ∃(c:List WF)(n:Nat),Vals xs c/\s.heap.get? p=some {cls:=.type "list",data:=.seq c.toArray n }/\xs.length<=sizeLine:=by
 obtain⟨z,c,n,r,e⟩:=I.hok p _ h;exact⟨c,n,r,e,z⟩
def Inv.lstUpd{g:ZB}{k:St}{H:Hp}{s:UV}{p:WP}{xs c:List V}{i its':List WF}{n d:Nat}{f:Obj->Obj}(I:Inv X g k H s)(h:H p=some (.lst xs))(l:s.heap.get? p=some {cls:=.type "list",data:=.seq i.toArray n })(j:f {cls:=.type "list",data:=.seq i.toArray n }={cls:=.type "list",data:=.seq its'.toArray d })(r:Vals c its')(m:c.length<=sizeLine)(t:Nat) :
  Inv X g k (aH H p (.lst c)) {s with heap:=s.heap.update p f,toks:=t }:=by
 have e:(s.heap.update p f).get? p=some {cls:=.type "list",data:=.seq its'.toArray d }:=by
  rw[Heap.get?_update_self f l (by rw[j]<;>rfl),j]
 refine I.write (x:=p) (e:=p) (by rw[h];trivial) (.inl rfl) (λb u o q=>(Heap.get?_update_other _ _ (Ne.symm o)).trans q) ⟨_,e⟩ ?_;exact⟨m,its',d,r,e⟩
def Xa:V->V->V->Hp->(Hp->Prop)->Prop:=λo i v H Q=>∃p c k j,o=.ref p/\i=.int k/\H p=some (.lst c)/\Jj c.length k=some j/\Q (aH H p (.lst (c.set j v)))
def Nb:Yw X Xa:=by
 intro z s G H o i v J K u Q I A B C h;revert h;refine yE4 λp D k j=>yA5 λζ η l E q=>?_;subst ζ η;cases A;obtain⟨t,rfl⟩:=B;obtain⟨g,n,r,d,F⟩:=I.lst l;refine yE0 (Gd E) (yA4 λc L m w=>?_);have e:=r.length;have M:=rA;have x:Inv X z G (aH H p (.lst (D.set j v))) {s with heap:=s.heap.update p (Obj.mapSeq (·.setIfInBounds j u)) }:=
  I.lstUpd l d (Dn g n j u) (r.set C j) (by rw[length_set];exact F) s.toks
 by_cases y:0<=k
 ·have f:k.toNat=j:=by
   rw[seqIndex_of y w]at c;exact Option.some.inj c
  exact W.ki_setAt d y Zo (by rw[iA,<- e];exact w) (by rw[f];exact⟨_,x,q⟩)
 ·have f:(k+(g.toArray.size:Int)).toNat=j:=by
   rw[seqIndex_neg Zo m]at c;rw[iA,<- e];exact Option.some.inj c
  exact W.ki_setBack d Zo (by rw[iA,<- e];exact m) Zo (by rw[f];exact⟨_,x,q⟩)
def xS(lo c:Option Int)(n:Nat):(sliceBounds lo c none n).1=((HT.sIx n 0 lo:Nat):Int)/\(sliceBounds lo c none n).2.1=((HT.sIx n n c:Nat):Int)/\(sliceBounds lo c none n).2.2=1:=by
 refine⟨?_,?_,rfl⟩
 ·cases lo with
  | none=>simp[sliceBounds,HT.sIx]
  | some i=>
   simp only [sliceBounds,HT.sIx,Option.getD_none,show(1:Int)>0 by decide,if_true];by_cases h:i<0
   ·simp only [h,if_true]<;>omega
   ·simp only [h,if_false]<;>omega
 ·cases c with
  | none=>simp[sliceBounds,HT.sIx]
  | some i=>
   simp only [sliceBounds,HT.sIx,Option.getD_none,show(1:Int)>0 by decide,if_true];by_cases h:i<0
   ·simp only [h,if_true]<;>omega
   ·simp only [h,if_false]<;>omega
def vE(c:List WF)(lo d:Option Int):slicePick c.toArray lo d none=((c.drop (HT.sIx c.length 0 lo)).take (HT.sIx c.length c.length d-HT.sIx c.length 0 lo)).toArray:=by
 obtain⟨e,f,g⟩:=xS lo d c.toArray.size;unfold slicePick;rw[e,f,g];simp only [sliceRange_one,pick_run,iA]<;>rfl
def aDp(K:W.Frag):V->Option Int->Option Int->Hp->VK->Prop:=λx lo d H Q=>∃a c,x=.ref a/\SqL K H a c/\∀p,H p=none->Q (.ref p) (aH H p (.lst (Ji c lo d)))
def Tp:SlR X (aDp X.K):=by
 intro n s y H x v t u lo d sl Q I g i j k h;obtain⟨a,c,rfl,l,q⟩:=h;cases g;obtain⟨p,r,e,m⟩:=I.list l;have f:=r.length;refine⟨"list",_,slot_list_getitem.lookup,e.isList.typeIs,?_⟩;refine wpAny_getItem_list_slice e.isList i j k .none Zs ?_ (by rw[iA]<;>omega);rw[vE,<- f];refine⟨.ref s.heap.objs.size,_,I.laid (t':=s.toks) (o:=.lst (Ji c lo d)) (λb w q=>hV _ q) (cE _) ?_,rfl,q _ (I.hok.fresh (cE _))⟩;exact⟨iB (rS c lo d) m,_,0,(r.drop (HT.sIx c.length 0 lo)).take (HT.sIx c.length c.length d-HT.sIx c.length 0 lo),W1 _ rfl⟩
def cF:V->Bool
 | .non=>true
 | .bl _=>true
 | .int _=>true
 | .str _=>true
 | _=>false
def xT:V->V->Bool
 | .non,.non=>true
 | .bl a,.bl b=>a==b
 | .bl a,.int b=>(if a then 1 else 0)==b
 | .int a,.bl b=>a==(if b then 1 else 0)
 | .int a,.int b=>a==b
 | .str a,.str b=>a==b
 | _,_=>false
def tX{u v:WF}(e:RelV y u)(c:RelV x v)(g:cF y=true)(f:cF x=true):SeqAt.EqAt A s u v (xT y x):=by
 cases y with
 | non=>
  cases e
  cases x with
  | non=>cases c;exact SeqAt.EqAt.same _
  | bl b=>cases c;exact SeqAt.EqAt.none_bool b
  | int b=>obtain⟨t,rfl⟩:=c;exact SeqAt.EqAt.none_int b t
  | str b=>obtain⟨t,rfl⟩:=c;exact SeqAt.EqAt.none_str b t
  | _=>exact T7 (show false=true from f) Y1
 | bl a=>
  cases e
  cases x with
  | non=>cases c;exact SeqAt.EqAt.bool_none a
  | bl b=>cases c;exact SeqAt.EqAt.bool_bool a b
  | int b=>obtain⟨t,rfl⟩:=c;exact SeqAt.EqAt.bool_int a b t
  | str b=>obtain⟨t,rfl⟩:=c;exact SeqAt.EqAt.bool_str a b t
  | _=>exact T7 (show false=true from f) Y1
 | int a=>
  obtain⟨d,rfl⟩:=e
  cases x with
  | non=>cases c;exact SeqAt.EqAt.int_none a d
  | bl b=>cases c;exact SeqAt.EqAt.int_bool a d b
  | int b=>obtain⟨t,rfl⟩:=c;exact SeqAt.EqAt.int_int a d b t
  | str b=>obtain⟨t,rfl⟩:=c;exact SeqAt.EqAt.int_str a d b t
  | _=>exact T7 (show false=true from f) Y1
 | str a=>
  obtain⟨d,rfl⟩:=e
  cases x with
  | non=>cases c;exact SeqAt.EqAt.str_none a d
  | bl b=>cases c;exact SeqAt.EqAt.str_bool a d b
  | int b=>obtain⟨t,rfl⟩:=c;exact SeqAt.EqAt.str_int a d b t
  | str b=>obtain⟨t,rfl⟩:=c;exact SeqAt.EqAt.str_str a d b t
  | _=>exact T7 (show false=true from f) Y1
 | _=>exact T7 (show false=true from g) Y1
def rC(x:V)(u:WF):Bool:=match u with
 | .none=>xT .non x
 | .bool b=>xT (.bl b) x
 | .int i _=>xT (.int i) x
 | .str z _=>xT (.str z) x
 | _=>false
def xU(r:RelV y u)(f:cF y=true):rC x u=xT y x:=by
 cases y with
 | non=>cases r;rfl
 | bl b=>cases r;rfl
 | int i=>obtain⟨t,rfl⟩:=r;rfl
 | str z=>obtain⟨t,rfl⟩:=r;rfl
 | _=>exact T7 (show false=true from f) Y1
theorem pQ{x:V}:∀ {xs:List V}{us:List WF},Vals xs us->xs.all cF=true->us.any (rC x)=xs.any λy=>xT y x
 | _,_,.nil,_=>rfl
 | y::xs,u::us,.cons r t,f=>by
  rw[all_cons,Bool.and_eq_true]at f;rw[any_cons,any_cons,xU r f.1,pQ t f.2]
theorem eX{A:Around}{s:UV}{x:V}{v:WF}(d:RelV x v)(e:cF x=true):∀ {xs:List V}{us:List WF},Vals xs us->xs.all cF=true->∀u∈us,SeqAt.EqAt A s u v (rC x u)
 | _,_,.nil,_=>λu c=>by cases c
 | y::xs,u::us,.cons r t,f=>λg c=>by
  rw[all_cons,Bool.and_eq_true]at f;rcases mem_cons.mp c with rfl|c
  ·rw[xU r f.1];exact tX r d f.1 e
  ·exact eX d e t f.2 g c
def cX(x:V)(xs:List V):Bool:=xs.any λy=>xT y x
def rIn(K:W.Frag)(d:Bool):R2:=λx y H Q=>∃p c,y=.ref p/\(SqL K H p c∨SqT K H p c)/\cF x=true/\c.all cF=true/\Q (.bl (if d then !cX x c else cX x c)) H
def Jk:OpR X (compareOp .In) (rIn X.K false):=by
 intro l s n H x y v u Q I g j h;revert h;refine yE2 λp m=>yA5 λζ d i fs q=>?_;subst ζ;cases j;rcases d with d|d
 ·obtain⟨c,r,e,k⟩:=I.list d;refine SeqAt.in_listAt (rC x) e.isList (λw f=>eX g i r fs w (by simpa using f)) ⟨.bl _,H,I,rfl,?_⟩;rw[show c.toArray.any (rC x)=c.any (rC x) by simp,pQ r fs];exact q
 ·obtain⟨c,r,e,k⟩:=I.tuple d;refine SeqAt.in_tupleAt (rC x) e (λw f=>eX g i r fs w (by simpa using f)) ⟨.bl _,H,I,rfl,?_⟩;rw[show c.toArray.any (rC x)=c.any (rC x) by simp,pQ r fs];exact q
def xV:OpR X (compareOp .NotIn) (rIn X.K true):=by
 intro l s n H x y v u Q I g j h;revert h;refine yE2 λp m=>yA5 λζ d i fs q=>?_;subst ζ;cases j;rcases d with d|d
 ·obtain⟨c,r,e,k⟩:=I.list d;refine SeqAt.notIn_listAt (rC x) e.isList (λw f=>eX g i r fs w (by simpa using f)) ⟨.bl _,H,I,rfl,?_⟩;rw[show c.toArray.any (rC x)=c.any (rC x) by simp,pQ r fs];exact q
 ·obtain⟨c,r,e,k⟩:=I.tuple d;refine SeqAt.notIn_tupleAt (rC x) e (λw f=>eX g i r fs w (by simpa using f)) ⟨.bl _,H,I,rfl,?_⟩;rw[show c.toArray.any (rC x)=c.any (rC x) by simp,pQ r fs];exact q
def xW:OpR X (compareOp .NotIn) (λx y H Q=>∃i j,x=.str i/\y=.str j/\Q (.bl (!(!(Builtin.Str.occurrences j i 0 j.length 1).isEmpty))) H):=by
 intro e s g H x y v u Q I c d h;obtain⟨i,j,rfl,rfl,q⟩:=h;obtain⟨t,rfl⟩:=c;obtain⟨f,rfl⟩:=d;exact notIn_str ⟨.bl _,H,I,rfl,q⟩
def xX:CallR X (.builtin "len") (λxs H Q=>∃p c,xs=[.ref p]/\(SqL X.K H p c∨SqT X.K H p c)/\Q (.int c.length) H):=by
 intro l s o H xs m Q I r h;obtain⟨p,c,rfl,d,q⟩:=h;obtain⟨u,rfl,j⟩:=lU r;cases j;have n:=rA;rcases d with d|d
 ·obtain⟨i,f,g,k⟩:=I.list d;have e:=f.length;exact Calls.call_len_list g.isList (by simp only [iA]<;>omega) ⟨.int c.length,H,I.tok _,⟨s.toks+1,by rw[iA,e]⟩,q⟩
 ·obtain⟨i,f,g,k⟩:=I.tuple d;have e:=f.length;exact len_tuple g (by simp only [iA]<;>omega) ⟨.int c.length,H,I.tok _,⟨s.toks+1,by rw[iA,e]⟩,q⟩
def xY:CallR X (.builtin "len") (λxs H Q=>∃z,xs=[.str z]/\z.length<=sizeLine/\Q (.int z.length) H):=by
 intro c s g H xs d Q I r h;obtain⟨z,rfl,e,q⟩:=h;obtain⟨u,rfl,t,rfl⟩:=lU r;have f:=rA;exact len_str Zo ⟨.int z.length,H,I.tok _,⟨_,rfl⟩,q⟩
def xZ:CallR X (.type "list") (λxs H Q=>∃p f,xs=[.ref p]/\(SqL X.K H p f∨SqT X.K H p f)/\∀l,H l=none->Q (.ref l) (aH H l (.lst f))):=by
 intro A s D H xs E Q I r h;obtain⟨p,f,rfl,j,q⟩:=h;obtain⟨u,rfl,C⟩:=lU r;cases C;have y:∀(d:List WF),Vals f d->f.length<=sizeLine->∀(c:Heap)(g:Nat),(∀b z,s.heap.get? b=some z->c.get? b=some z) →
   c.get? s.heap.objs.size=some {cls:=.type "list",dict:=none,data:=.seq d.toArray g,slots:=#[] }->EP X A D Q (.ref s.heap.objs.size) {s with heap:=c }:=λd i k c g m e=>
  ⟨.ref s.heap.objs.size,_,I.laid (t':=s.toks) m (cE _) (show ObjOk X.prog X.w _ c _ (.lst f) from⟨k,d,g,i,e⟩),rfl,q _ (I.hok.fresh (cE _))⟩
 rcases j with j|j
 ·obtain⟨d,i,t,k⟩:=I.list j;have B:=i.length;obtain⟨o,v,w,n,x⟩:=t.isList;exact call_list_seq p (.inl rfl) v w x (λc g m e=>y d i k c g m e) (by simp only [iA]<;>omega)
 ·obtain⟨d,i,t,k⟩:=I.tuple j;have B:=i.length;obtain⟨o,v,w,n,x⟩:=t;exact call_list_seq p (.inr rfl) v w x (λc g m e=>y d i k c g m e) (by simp only [iA]<;>omega)
def vF:CallR X (.type "tuple") (λxs H Q=>∃p c,xs=[.ref p]/\((SqL X.K H p c/\∀l,H l=none->Q (.ref l) (aH H l (.tup c)))∨(SqT X.K H p c/\Q (.ref p) H))):=by
 intro k s t H xs z Q I r h;obtain⟨p,c,rfl,h⟩:=h;obtain⟨u,rfl,v⟩:=lU r;cases v;rcases h with⟨g,q⟩|⟨g,q⟩
 ·obtain⟨f,i,j,m⟩:=I.list g;have y:=i.length;refine call_tuple_list j.isList (λd w=>?_) (by simp only [iA]<;>omega);have n:Inv X k t H {s with heap:=d }:=I.kept (t':=s.toks) w;have x:Inv X k t (aH H d.objs.size (.tup c)) {s with heap:=d.push {cls:=.type "tuple",data:=.seq f.toArray } }:=
   n.laid (t':=s.toks) (λb o e=>hV _ e) (cE _) (show ObjOk X.prog X.w _ _ _ (.tup c) from⟨m,f,i,IsTup.new _ _⟩)
  exact⟨.ref d.objs.size,_,x,rfl,q _ (n.hok.fresh (cE _))⟩
 ·obtain⟨f,i,j,m⟩:=I.tuple g;exact call_tuple_same j ⟨.ref p,H,I,rfl,q⟩
def tyV(K:W.Frag)(T:String)(x:V)(H:Hp):Prop:=match x with
 | .str _=>T="str"
 | .int _=>T="int"
 | .ref p=>(T="list"/\∃d,SqL K H p d)∨(T="tuple"/\∃o,K.lookup p=some o/\o.cls=.type "tuple"/\o.dict=none)∨
   (T="dict"/\((∃c,H p=some (.dK c))∨∃c,H p=some (.dT c)))∨(T="set"/\∃S n,H p=some (.set S n))
 | _=>False
def aAc{v:WF}(I:Inv X l w H s)(r:RelV x v)(ty:tyV X.K T x H) :
  s.TypeIs v T/\∀a,v=.ref a->∃j,s.heap.get? a=some j/\j.dict=none:=by
 cases x with
 | str z=>
  obtain⟨t,rfl⟩:=r;cases(show T="str" from ty);exact⟨typeIs_str s z t,λ_ e=>nomatch e⟩
 | int i=>
  obtain⟨t,rfl⟩:=r;cases(show T="int" from ty);exact⟨typeIs_int s i t,λ_ e=>nomatch e⟩
 | ref p=>
  cases r;rcases ty with⟨rfl,A,q⟩|⟨rfl,o,d,u,g⟩|⟨rfl,d⟩|⟨rfl,S,n,d⟩
  ·obtain⟨y,_,k,_⟩:=I.list q;refine⟨k.isList.typeIs,λa e=>?_⟩;cases e;obtain⟨o,n,e,c,g,_⟩:=k;exact⟨o,e,g⟩
  ·refine⟨⟨o,I.kIn p o d,u⟩,λa e=>?_⟩;cases e;exact⟨o,I.kIn _ o d,g⟩
  ·have z:∃o,s.heap.get? p=some o/\o.ExactDict:=by
    rcases d with⟨m,d⟩|⟨m,d⟩
    ·obtain⟨_,_,_,_,o,_,_,e,f,_⟩:=I.hok p _ d;exact⟨o,e,f⟩
    ·refine yE0 (I.hok p _ d) (yA3 λ_ _=>yE1 λ_=>yA2 λ_=>yE3 λo _ _=>yA3 λe f _=>?_);exact⟨o,e,f⟩
   obtain⟨o,e,f⟩:=z;refine⟨⟨o,e,f.1⟩,λa h=>?_⟩;cases h;exact⟨o,e,f.2.1⟩
  ·refine yE0 (I.hok p _ d) (yE4 λo _ _ _=>yA3 λe f _=>?_);refine⟨⟨o,e,f.1⟩,λa h=>?_⟩;cases h;exact⟨o,e,f.2.1⟩
 | _=>exact False.elim ty
def tBM(K:W.Frag)(T:String)(r:V->List V->Hp->VK->Prop)(e:TE)(t:TA):TE:=λd H Q=>e d H λx c=>tyV K T x c/\t d c λf g=>r x f g Q
variable {o e:Expr}{es:List Expr}{to:TE}{t:TA}{name:Str}{apos cpos:Pos}{T id:String}{r:V->List V->Hp->VK->Prop}
def aB0(j:PlainAttrs T)(slot:Slot T name id)(k:typeOf (.builtin id)=pure (.type "method_descriptor"))(l:Ma X id r)(m:PE X o to)(n:PA X (e::es) t)(p:attributeBase o name X.env (eval o X.env)=eval o X.env:=by rfl)(q:((backTo cpos (starEach (e::es) X.env)).all (λx=>!x.1)&&(backToKw cpos (keywordEach [] X.env)).all (λx=>x.1.isSome)
   && decide ((e::es).length+([]:List Keyword).length+(if ([]:List Keyword).isEmpty then 0 else 1)<30))=true:=by rfl)(u:(apos.endLine == cpos.line)=true:=by rfl)(hs:starEach (e::es) X.env=(false,eval e X.env)::starEach es X.env:=by rfl)(w:(backTo cpos (starEach es X.env)).any (·.1)=false:=by rfl) :
  PE X (.Call (.Attribute o name apos) (e::es) [] cpos) (tBM X.K T r to t):=by
 intro c s d H Q I h;refine wpAny_Call_method_late p q u rfl (bY (m c s d H _ I h) ?_);refine λv y=>yE2 λx z=>yA4 λf g ty A=>?_;obtain⟨B,C⟩:=aAc f g ty;refine⟨T,id,j,slot,k,B,C,?_⟩;have i:=n cpos c y d z _ f A;rw[hs]at i ⊢;refine Calls.callWith_builtin (by show(false||(backTo cpos (starEach es X.env)).any (·.1))=false;rw[w]<;>rfl) (Calls.evalArgs_plain ?_);exact bY i λD E ⟨F,G,J,K,L⟩=>l c E d G x F v D Q J g K L
/- O.append(e),list.index P a R tuple .. N Ma M of 06m -/
end
def MtM(X:Cx)(id:String)(r:V->List V->Hp->VK->Prop):Prop:=
 ∀(a:ZB)(s:UV)(d:St)(H:Hp)(x:V)(b:List V)(v:WF)(c:List WF)(Q:VK),Inv X a d H s->RelV x v->Vals b c->r x b H Q →
  wpAny (model X.prog X.w) X.A (call (.builtin id) (v::c)) (EP X a d Q) X.xe s
def Vals.one:∀ {x:V}{us:List WF},Vals [x] us->∃u,us=[u]/\RelV x u
 | _,_,.cons r .nil=>⟨_,rfl,r⟩
def Vals.two(h:Vals [x,y] us):∃u v,us=[u,v] ∧ RelV x u ∧ RelV y v:=by
 cases h with|cons r t=>cases t with|cons q t=>cases t;exact⟨_,_,rfl,r,q⟩
def Vals.rep{xs:List V}{us:List WF}(h:Vals xs us):∀k:Nat,Vals (replicate k xs).flatten (replicate k us).flatten
 | 0=>.nil
 | k+1=>by
  rw[replicate_succ,replicate_succ,flatten_cons,flatten_cons];exact Vals.append h (Vals.rep h k)
def vX(a:List WF):∀(k:Nat)(b:List WF),
  List.foldl (λc d=>c++d) b.toArray (replicate k a.toArray)=(b++(replicate k a).flatten).toArray
 | 0,b=>by simp
 | k+1,b=>by
  have e:b.toArray++a.toArray=(b++a).toArray:=by simp
  have f:(b++a)++(replicate k a).flatten=b++(replicate (k+1) a).flatten:=by
   rw[replicate_succ,flatten_cons,append_assoc]
  rw[<- f,<- vX a k (b++a),<- e,replicate_succ,List.foldl_cons]
section
variable {X:Cx}{pins:ZB}{σ:St}{H:Hp}{s:UV}{l b:WP}{xs ys zs:List V}
def Inv.lset{a its':List WF}{n:Nat}{f:Array Value->Array Value}{t':Nat}(I:Inv X pins σ H s)(c:H l=some (.lst xs))(e:s.heap.get? l=some {cls:=.type "list",data:=.seq a.toArray n })(d:f a.toArray=its'.toArray)(g:Vals ys its')(h:ys.length<=sizeLine) :
  Inv X pins σ (aH H l (.lst ys)) {s with heap:=s.heap.update l (Obj.mapSeq f),toks:=t' }:=by
 have q:=PySem.IsL.update e f;rw[d]at q;refine I.write (x:=l) (e:=l) (by rw[c];exact trivial) (.inl rfl) (λk u i j=>(Heap.get?_update_other s.heap (Obj.mapSeq f) (Ne.symm i)).trans j) ⟨_,q⟩ ?_;exact⟨h,its',_,g,q⟩
def Inv.lnew(I:Inv X pins σ H s)(c:Vals ys a)(d:ys.length<=sizeLine) :
  Inv X pins σ (aH H s.heap.objs.size (.lst ys)) {s with heap:=s.heap.push {cls:=.type "list",data:=.seq a.toArray },toks:=t' }:=
 I.laid (λ_ _ q=>hV _ q) (cE _) ⟨d,a,0,c,W1 _ rfl⟩
def Inv.fresh(I:Inv X pins σ H s):H s.heap.objs.size=none:=I.hok.fresh (cE _)
def Inv.lstM(I:Inv X pins σ H s)(c:H l=some (.lst xs)):xs.length<=sizeLine/\∃(a:List WF)(n:Nat),Vals xs a/\xs.length=a.length/\s.heap.get? l=some {cls:=.type "list",data:=.seq a.toArray n }:=by
 obtain⟨z,a,n,r,e⟩:=I.hok l _ c;exact⟨z,a,n,r,r.length,e⟩
def An(h:n<=sizeLine):Builtin.List.listTooLong n=false:=by
 unfold Builtin.List.listTooLong;exact XV Zo
end
section
variable {X:Cx}
def Ge:V->List V->Hp->VK->Prop:=λx b H Q=>∃l a y,x=.ref l/\b=[y]/\H l=some (.lst a)/\a.length<sizeLine/\Q .non (aH H l (.lst (a++[y])))
def Jl:MtM X "list.append" Ge:=by
 intro g s p H x i v j Q I c d h;revert h;refine yE3 λl k y=>yA5 λζ η b m q=>?_;subst ζ η;cases c;obtain⟨u,rfl,f⟩:=d.one;obtain⟨z,a,n,r,o,e⟩:=I.lstM b;refine call_meets F.slot_list_append ⟨_,e,rfl⟩ F.entry_list_append (F.args_list_append_2 _ _) (PySem.list_append l a.toArray n u (by rw[iA];omega)) ⟨e,?_⟩;refine⟨.non,_,I.lset (its':=a++[u]) b e Zs (r.append (.cons f .nil)) ?_,rfl,q⟩;rw[gQ,length_singleton];omega
def Tq:V->List V->Hp->VK->Prop:=λx d H Q=>∃l b a c,x=.ref l/\d=[.ref b]/\H l=some (.lst a)/\H b=some (.lst c)/\a.length+c.length<=sizeLine/\Q .non (aH H l (.lst (a++c)))
def aBy:MtM X "list.extend" Tq:=by
 intro w s K H x y v A Q I f g h;revert h;refine yE4 λl b B C=>yA6 λζ η d i D q=>?_;subst ζ η;cases f;obtain⟨u,rfl,j⟩:=g.one;cases j;obtain⟨z,a,n,r,E,e⟩:=I.lstM d;obtain⟨G,c,k,m,J,o⟩:=I.lstM i;have p:a.toArray.size+c.toArray.size<=sizeLine:=by rw[iA,iA];omega
 have t:¬ (!a.toArray.isEmpty&&Builtin.List.listTooLong (a.toArray.size+c.toArray.size))=true:=by
  rw[An p,Bool.and_false];exact Y1
 refine call_meets F.slot_list_extend ⟨_,e,rfl⟩ F.entry_list_extend (F.args_list_extend_2 _ _)
  (AutoSeq1.list_extend_list_list_0 l a.toArray n b c.toArray k t (by rw[iA];omega) Zo) ⟨e,o,?_⟩
 refine⟨.non,_,I.lset (its':=a++c) d e Zs (r.append m) ?_,rfl,q⟩;rw[gQ];omega
def aDr:R2:=λx y H Q=>∃l b a c,x=.ref l/\y=.ref b/\H l=some (.lst a)/\H b=some (.lst c)/\a.length+c.length<=sizeLine/\∀p,H p=none->Q (.ref p) (aH H p (.lst (a++c)))
def aAd:OpR X (binaryOp .Add) aDr:=by
 intro o s E H x y v u Q I d f h;revert h;refine yE4 λl b p t=>yA6 λζ η g i w q=>?_;subst ζ η;cases d;cases f;obtain⟨z,a,n,r,A,e⟩:=I.lstM g;obtain⟨B,c,C,j,D,k⟩:=I.lstM i;refine PySem.P.add_list e k ?_ (by rw[iA,iA];omega);have m:a.toArray++c.toArray=(a++c).toArray:=by simp
 rw[m];exact⟨.ref _,_,I.lnew (t':=s.toks) (r.append j) (by rw[gQ];omega),rfl,q _ I.fresh⟩
def aDs:R2:=λx y H Q=>∃l k a,x=.ref l/\y=.int k/\H l=some (.lst a)/\-(2^63)<=k/\k<2^63/\a.length*k.toNat<=sizeLine ∧
 ∀p,H p=none->Q (.ref p) (aH H p (.lst (replicate k.toNat a).flatten))
def Gf(xs:List b)(k:Nat):(replicate k xs).flatten.length=k*xs.length:=by
 induction k with
 | zero=>simp
 | succ k a=>rw[replicate_succ,flatten_cons,gQ,a,Nat.succ_mul,Nat.add_comm]
def aAe:OpR X (binaryOp .Mult) aDs:=by
 intro K s N H x y v u Q I i j h;revert h;refine yE3 λl k L=>yA7 λζ η o p w f q=>?_;subst ζ η;cases i;obtain⟨t,rfl⟩:=j;obtain⟨z,b,n,r,A,e⟩:=I.lstM o;have g:b.toArray.size*k.toNat<=sizeLine:=by rw[iA,<- A];exact f
 have B:¬ b.toArray.size*k.toNat>(2^63-1)/8:=by
  have:(sizeLine:Nat)<=(2^63-1)/8:=by decide
  omega
 have C:¬ (!Builtin.List.listFitsIndex k)=true:=by
  rw[fitsIndex_both p w];exact Y1
 have D:¬ Builtin.List.listTooLong (b.toArray.size*k.toNat)=true:=by
  rw[An g];exact Y1
 have E:List.foldl (λc d=>c++d) #[] (replicate (if b.toArray.isEmpty=true then 0 else k.toNat) b.toArray)=(replicate k.toNat b).flatten.toArray:=by
  have G:∀m:Nat,List.foldl (λc d=>c++d) #[] (replicate m b.toArray)=(replicate m b).flatten.toArray:=λm=>by
   have:=vX b m [];rw[nil_append]at this;exact this
  rw[G];cases b with
  | nil=>simp
  | cons a M=>rw[T8 Zs]
 refine wpAny_binaryOp_repeat_ref (T:="list") (U:="int") Zd ⟨_,e,rfl⟩ (λJ=>typeIs_int J k t) noFill_list_mul F.fills_int_mul F.slot_int_rmul repeat_list F.slot_int_index.lookup
  (call_meets F.slot_int_rmul (typeIs_int s k t) F.entry_int_rmul (F.args_int_rmul_2 _ _) (int___rmul___int_list k t l b.toArray n)
   ⟨e,rfl,⟨_,e,rfl⟩,call_meets F.slot_list_mul ⟨_,e,rfl⟩ F.entry_list_mul (F.args_list_mul_2 _ _) (AutoListH.list___mul___list_int_3 l b.toArray n k t C B D) ⟨e,?_⟩⟩)
 rw[E];exact⟨.ref _,_,I.lnew (t':=s.toks) (r.rep k.toNat) (by rw[Gf,Nat.mul_comm];exact f),rfl,q _ I.fresh⟩
end
section
variable {κ:Type} [DecidableEq κ]
def dN(a:List (κ×V))(k:κ):Option V:=(a.find? λb=>decide (b.1=k)).map (·.2)
def rD(b:List (κ×V))(k:κ)(v:V):List (κ×V):=
 if (b.any λa=>decide (a.1=k))=true then b.map (λa=>if a.1=k then (a.1,v) else a) else b++[(k,v)]
def cY{k:κ}(e:p.1=k):dN (p::r) k=some p.2:=by simp[dN,find?_cons,e]
def cZ{k:κ}(e:¬ p.1=k):dN (p::r) k=dN r k:=by simp[dN,find?_cons,e]
theorem pR(k:κ):∀a:List (κ×V),(a.any λb=>decide (b.1=k))=(dN a k).isSome
 | []=>rfl
 | p::r=>by
  rw[any_cons];by_cases e:p.1=k
  ·simp only [cY e,X2 e,Bool.true_or,Option.isSome_some]
  ·rw[cZ e,XV e,Bool.false_or];exact pR k r
theorem Ao(k j:κ)(y:V):∀b:List (κ×V),dN (b.map λa=>if a.1=k then (a.1,y) else a) j=(dN b j).map λx=>if j=k then y else x
 | []=>rfl
 | p::r=>by
  have c:=Ao k j y r;rw[map_cons];by_cases h:p.1=k
  ·rw[UF h];by_cases e:p.1=j
   ·rw[cY (p:=(p.1,y)) e,cY e,Option.map_some,UF (e.symm.trans h)]
   ·rw[cZ (p:=(p.1,y)) e,cZ e,c]
  ·rw[T8 h];by_cases e:p.1=j
   ·rw[cY (p:=p) e,cY e,Option.map_some,T8 (λz=>h (e.trans z))]
   ·rw[cZ (p:=p) e,cZ e,c]
theorem vY(k j:κ)(y:V):∀b:List (κ×V),dN b k=none->dN (b++[(k,y)]) j=if j=k then some y else dN b j
 | [],_=>by
  by_cases e:k=j
  ·rw[UF e.symm];exact cY (p:=(k,y)) e
  ·rw[T8 (λz=>e z.symm)];exact cZ (p:=(k,y)) e
 | p::r,a=>by
  rw[cons_append];have c:¬ p.1=k:=λz=>by rw[cY z]at a;cases a
  rw[cZ c]at a;have d:=vY k j y r a;by_cases e:p.1=j
  ·rw[cY e,cY e,T8 (λz=>c (e.trans z))]
  ·rw[cZ e,cZ e,d]
def Nc(b:List (κ×V))(k j:κ)(y:V):dN (rD b k y) j=if j=k then some y else dN b j:=by
 unfold rD;by_cases a:(b.any λc=>decide (c.1=k))=true
 ·rw[UF a,Ao];rw[pR]at a;by_cases e:j=k
  ·obtain⟨x,d⟩:=Option.isSome_iff_exists.mp a;rw[UF e,e,d,Option.map_some,UF rfl]
  ·rw[T8 e];cases dN b j with
   | none=>rfl
   | some x=>rw[Option.map_some,T8 e]
 ·rw[T8 a];refine vY k j y b ?_;rw[pR]at a;cases q:dN b k with
  | none=>rfl
  | some x=>rw[q]at a;exact(a rfl).elim
def Ap(a:List (κ×V))(k:κ)(v:V):(rD a k v).length<=a.length+1:=by
 unfold rD;split
 ·rw[aX];omega
 ·rw[gQ,eJ,length_nil];omega
def Nd{k:κ}(v:V)(h:dN a k=none):rD a k v=a++[(k,v)]:=by
 unfold rD;rw[pR,h];exact T8 Zd
def RelO.isSome_eq(r:RelO o u):o.isSome=u.isSome:=by
 cases o with
 | none=>cases u with
  | none=>rfl
  | some _=>exact(show False from r).elim
 | some _=>cases u with
  | none=>exact(show False from r).elim
  | some _=>rfl
def RelO.getD(r:RelO o u)(a:RelV d d'):RelV (o.getD d) (u.getD d'):=by
 cases o with
 | none=>cases u with
  | none=>exact a
  | some _=>exact(show False from r).elim
 | some _=>cases u with
  | none=>exact(show False from r).elim
  | some _=>exact r
def KV.val(r:KV d vs)(k:κ):RelO (dN d k) (valueAt vs k):=by
 unfold KV at r;induction r with
 | nil=>exact True.intro
 | @cons p q ps a h t g=>
  obtain⟨f,i⟩:=h;by_cases e:p.1=k
  ·have c:q.1=k:=f.symm.trans e;have b:valueAt (q::a) k=some q.2:=by simp[valueAt,find?_cons,c]
   rw[cY e,b];exact i
  ·have c:¬ q.1=k:=λz=>e (f.trans z)
   have b:valueAt (q::a) k=valueAt a k:=by simp[valueAt,find?_cons,c]
   rw[cZ e,b];exact g
def KV.any(r:KV b vs)(k:κ):(b.any λa=>decide (a.1=k))=vs.any λa=>decide (a.1=k):=by
 unfold KV at r;induction r with
 | nil=>rfl
 | cons h t c=>rw[any_cons,any_cons,c,h.1]
def KV.repl(r:KV c vs)(k:κ)(d:RelV y u) :
  KV (c.map λa=>if a.1=k then (a.1,y) else a) (vs.map λa=>if a.1=k then (a.1,u) else a):=by
 unfold KV at r ⊢
 induction r with
 | nil=>exact .nil
 | @cons p q ps i h t f=>
  rw[map_cons,map_cons];refine .cons ?_ f;obtain⟨b,g⟩:=h;by_cases e:p.1=k
  ·rw[UF e,UF (b.symm.trans e)];exact⟨b,d⟩
  ·rw[T8 e,T8 (λz=>e (b.trans z))];exact⟨b,g⟩
def KV.put(r:KV a vs)(k:κ)(b:RelV y u):KV (rD a k y) (stored vs k u):=by
 unfold rD stored;rw[r.any k];by_cases e:(vs.any λc=>decide (c.1=k))=true
 ·rw[UF e,UF e];exact r.repl k b
 ·rw[T8 e,T8 e];exact Paired.snoc r ⟨rfl,b⟩
end
def vZ{k:eN}(r:RelV (kV k) u):(bQ P w).is k u=true:=by
 cases k with
 | inl i=>obtain⟨t,e⟩:=(show ∃t,u=Value.int i t from r);subst e;exact Af P w i t
 | inr x=>obtain⟨t,e⟩:=(show ∃t,u=Value.str x t from r);subst e;exact Ah P w x t
def wC{P:Program}{w:World}:∀ {a:List eN}{us:List WF},Vals (a.map kV) us->ItemsAre (bQ P w) a us
 | [],_,r=>by rw[map_nil]at r;cases r;exact .nil
 | k::a,_,r=>by
  rw[map_cons]at r;cases r with
  | cons h t=>exact .cons (vZ h) (wC t)
abbrev KT(H:Hp):List (List eN×V)->List (List eN×WP×WF)->Prop:=Paired λp q=>p.1=q.1/\H q.2.1=some (.tup (p.1.map kV))/\RelV p.2 q.2.2
def KT.val(r:KT H d xs)(k:List eN):RelO (dN d k) ((atKey xs k).map (·.2)):=by
 induction r with
 | nil=>exact True.intro
 | @cons p q ps a h t g=>
  obtain⟨f,_,i⟩:=h;by_cases e:p.1=k
  ·have c:q.1=k:=f.symm.trans e;have b:atKey (q::a) k=some q.2:=by simp[atKey,find?_cons,c]
   rw[cY e,b];exact i
  ·have c:¬ q.1=k:=λz=>e (f.trans z)
   have b:atKey (q::a) k=atKey a k:=by simp[atKey,find?_cons,c]
   rw[cZ e,b];exact g
section
variable {P:Program}{w:World}{H:Hp}{h:Heap}{a:WP}
def Xb(ok:HOk P w H h)(e:Rd H a u):ObjOk P w H h a u:=e.ok ok
def tY(ok:HOk P w H h)(e:Rd H a (.dK b)):b.length<=sizeLine/\(a==sysModules)=false/\∃vs,KV b vs/\h.DictOf (bQ P w) a vs:=
 show ObjOk P w H h a (.dK b) from Xb ok e
def Nf(ok:HOk P w H h)(e:H a=some (.dK b)):b.length<=sizeLine/\(a==sysModules)=false/\∃vs,KV b vs/\h.DictOf (bQ P w) a vs:=tY ok (.inl e)
def tZ(ok:HOk P w H h)(e:H a=some (.tup (b.map kV))):(tupleKind (bQ P w)).is h b a:=by
 obtain⟨_,c,r,o,d,f,n,g⟩:=(show ObjOk P w H h a (.tup (b.map kV)) from ok a _ e);exact⟨o,c.toArray,n,d,f,g,by simpa using wC r⟩
def wD(ok:HOk P w H h)(e:Rd H a (.dT c)):c.length<=sizeLine/\(a==sysModules)=false ∧
  ∃xs,KT H c xs/\h.DictOfH (tupleKind (bQ P w)) a xs:=by
 refine yE0 (show ObjOk P w H h a (.dT c) from Xb ok e) (yA3 λz y=>yE1 λxs=>yA2 λr=>yE3 λo f g=>yA5 λi j k n s=>?_);refine⟨z,y,xs,r,o,f,g,i,j,k,n,λx b=>?_,s⟩;have all:∀ {l:List (List eN×V)}{m:List (List eN×WP×WF)},KT H l m->∀x∈m,(tupleKind (bQ P w)).is h x.1 x.2.1:=by
  intro l m q;induction q with
  | nil=>intro x b;exact nomatch b
  | @cons p q ps v d t u=>
   intro x b;rcases mem_cons.mp b with e|b
   ·subst e;exact tZ ok (by rw[<- d.1];exact d.2.1)
   ·exact u x b
 exact all r x b
end
def DGet(H:Hp)(a:WP)(y:V)(r:Option V):Prop:=
 (∃c k,Rd H a (.dK c)/\y=kV k/\r=dN c k)∨∃c k b,Rd H a (.dT c)/\y=.ref b/\H b=some (.tup (k.map kV))/\r=dN c k
def DGet.k{k:eN}(e:H a=some (.dK b)):DGet H a (kV k) (dN b k):=.inl ⟨b,k,.inl e,rfl,rfl⟩
section
variable {X:Cx}{pins:ZB}{σ:St}{H:Hp}{s:UV}{a:WP}{y v:V}{u r:WF}{o:Option V}{A:Around}{E:Y5}
def Inv.big(I:Inv X pins σ H s):sysModules<s.heap.objs.size:=by
 have h:mainGlobals<s.heap.objs.size:=(I.mod.glob.keeps I.bk).lt;exact lt_trans Zd h
def Jm(w:A.units+1<cLine)(I:Inv X pins σ H s)(g:DGet H a y (some v))(n:RelV y u)(h:∀c q,Inv X pins σ H q->RelV v c->Q c q) :
  wpAny (model X.prog X.w) A (getItem (.ref a) u) Q E s:=by
 rcases g with⟨t,k,e,f,l⟩|⟨t,k,b,e,f,x,l⟩
 ·subst f;obtain⟨z,B,C,d,i⟩:=tY I.hok e;obtain⟨c,j,m⟩:=RelO.some_of (v:=v) (o:=valueAt C k) (by rw[l];exact d.val k);exact wpAny_getItem_of (vZ n) i.mapOf j (h c _ (I.tok _) m)
 ·subst f;cases(show u=Value.ref b from n);obtain⟨z,B,D,d,i⟩:=wD I.hok e;obtain⟨c,j,m⟩:=RelO.some_of (v:=v) (o:=(atKey D k).map (·.2)) (by rw[l];exact d.val k);obtain⟨p,F,G⟩:=Option.map_eq_some_iff.mp j;refine wpAny_getItem_heap (tupleKind_room_in1 w) (tZ I.hok x) i F ?_;rw[G];exact h c _ (I.tok _) m
def aDt(p:A.units+1<cLine)(I:Inv X pins σ H s)(g:DGet H a y o)(j:RelV y u)(h:∀m,Inv X pins σ H m->Q (.bool o.isSome) m) :
  wpAny (model X.prog X.w) A (compareOp .In u (.ref a)) Q E s:=by
 rcases g with⟨n,k,e,d,l⟩|⟨n,k,b,e,d,t,l⟩
 ·subst d;obtain⟨z,f,w,c,i⟩:=tY I.hok e;refine wpAny_in_of (vZ j) f i.mapOf ?_;rw[<- (c.val k).isSome_eq,<- l];exact h _ (I.tok _)
 ·subst d;cases(show u=Value.ref b from j);obtain⟨z,f,x,c,i⟩:=wD I.hok e;refine wpAny_in_heap (tupleKind_room_in1 p) (tZ I.hok t) f i ?_;have q:=(c.val k).isSome_eq;rw[Option.isSome_map]at q;rw[<- q,<- l];exact h _ (I.tok _)
def Tr(p:A.units+1<cLine)(I:Inv X pins σ H s)(g:DGet H a y o)(j:RelV y u)(h:∀m,Inv X pins σ H m->Q (.bool (!o.isSome)) m) :
  wpAny (model X.prog X.w) A (compareOp .NotIn u (.ref a)) Q E s:=by
 rcases g with⟨n,k,e,d,l⟩|⟨n,k,b,e,d,t,l⟩
 ·subst d;obtain⟨z,f,w,c,i⟩:=tY I.hok e;refine wpAny_notIn_of (vZ j) f i.mapOf ?_;rw[<- (c.val k).isSome_eq,<- l];exact h _ (I.tok _)
 ·subst d;cases(show u=Value.ref b from j);obtain⟨z,f,x,c,i⟩:=wD I.hok e;refine wpAny_notIn_heap (tupleKind_room_in1 p) (tZ I.hok t) f i ?_;have q:=(c.val k).isSome_eq;rw[Option.isSome_map]at q;rw[<- q,<- l];exact h _ (I.tok _)
def Ts(I:Inv X pins σ H s)(f:Mut (H a))(hs:Heap.SameBut a s.heap h')(g:∃q,h'.get? a=some q)(d:ObjOk X.prog X.w (aH H a c) h' a c) :
  Inv X pins σ (aH H a c) {s with heap:=h',toks:=t' }:=
 I.write (x:=a) (e:=a) f (.inl rfl) (λb q h z=>(hs.2 b h).trans z) g d
def aAf(z:b.length<=sizeLine)(e:(a==sysModules)=false)(c:KV b vs)(dd:h'.DictOf (bQ P w) a vs) :
  ObjOk P w d h' a (.dK b):=⟨z,e,vs,c,dd⟩
end
def aAg(i:Expr):Prop:=∀a b,subscripted i false a b=operate [a,b] (getItem a b)
def Tt{prog:Program}{w:World}{A:Around}{E:Y5}{s:UV}{env:Env}{b slice:Expr}{pos:Pos}{T id:String}{Q:Y5}(l:typeLookup (.type T) "__getitem__"=pure (some (.builtin id)))(hs:aAg slice)(h:wpAny (model prog w) A (eval b env) (λo e=>wpAny (model prog w) A (eval slice env) (λi a=>a.TypeIs o T/\wpAny (model prog w) A (getItem o i) Q E a) E e) E s) :
  wpAny (model prog w) A (eval (.Subscript b slice pos) env) Q E s:=by
 refine Subscript_ (wpAny_mono h (λo e j=>wpAny_mono j (λi a c=>?_) λ_ _ x=>x) λ_ _ x=>x);obtain⟨g,c⟩:=c;unfold subscriptTail;refine Y3 ?_;rw[getitemInPython_of_ne g.not_modules];refine Y3 (wpAny_specialOf g l ?_);have d:wpAny (model prog w) A (subscripted slice false o i) (λr f=>wpAny (model prog w) A (letTemporaryGo b o r>>=λ_=>pure r) Q E f) E a:=by
  rw[hs o i];exact wpAny_operating (wpAny_mono c (λr f k=>Y3 (wpAny_letTemporaryGo (Y2 k))) λ_ _ x=>x)
 first
  | exact Y2 (Y3 d)
  | exact Y3 (Y2 (Y3 d))
  | exact Y3 d
def Aq(I:Inv X d h H s)(g:DGet H a y o):s.TypeIs (.ref a) "dict":=by
 rcases g with⟨f,k,e,_,_⟩|⟨f,k,b,e,_,_,_⟩
 ·obtain⟨_,_,i,_,c⟩:=tY I.hok e;exact c.typeIs
 ·obtain⟨_,_,j,_,c⟩:=wD I.hok e;exact c.typeIs
def Xc(d ty:TE):TE:=λc H Q=>d c H λx e=>ty c e λy b=>∃a v,x=.ref a/\DGet b a y (some v)/\Q v b
section
variable {X:Cx}{o i e value:Expr}{pos pos' vb:Pos}{td ty tv:TE}
def Tu(f:X.A.units+1<cLine)(j:PE X o td)(k:PE X i ty)(hs:aAg i):PE X (.Subscript o i pos) (Xc td ty):=by
 intro b s d H Q I h;refine Tt PySem.F.slot_dict_getitem.lookup hs (bY (j b s d H _ I h) λu l ⟨x,m,n,p,q⟩=>bY (k b l d m _ n q) ?_);refine λC D=>yE2 λy r=>yA3 λc t=>yE2 λa v=>yA3 λw g z=>?_;subst w;obtain rfl:u=Value.ref a:=p;exact⟨Aq c g,Jm f c g t λE F A B=>⟨v,r,A,B,z⟩⟩
end
def Ar(h:Heap)(a:sysModules<h.objs.size):ObjOk P w H (h.push {cls:=.type "dict",data:=.dict #[] }) h.objs.size (.dK []):=
 ⟨zero_le _,beq_eq_false_iff_ne.mpr (Ne.symm (ne_of_lt a)),[],.nil,Heap.DictOf.new h⟩
def Ng:TE:=λ_ H Q=>∀p,H p=none->Q (.ref p) (aH H p (.dK []))
section
variable {X:Cx}{pos:Pos}
def Nh:PE X (.Dict [] [] pos) Ng:=λb s c H Q I h=>
 wpAny_Dict_empty ⟨.ref s.heap.objs.size,_,I.laid (a:=s.heap.objs.size) (o:=.dK []) (t':=s.toks) (λ_ _ q=>hV _ q) (cE _) (Ar s.heap I.big),rfl,h _ (I.hok.fresh (cE _))⟩
end
def Do:List (TE×TE)->St->Hp->(List (V×V)->Hp->Prop)->Prop
 | [],_,H,Q=>Q [] H
 | (tk,b)::r,a,H,Q=>tk a H λx c=>b a c λy d=>Do r a d λps e=>Q ((x,y)::ps) e
abbrev VV:List (V×V)->List (WF×WF)->Prop:=Paired λp q=>RelV p.1 q.1/\RelV p.2 q.2
def PPs(X:Cx)(pos:Pos)(keys:List (Option Expr))(d:List Expr)(e:List (TE×TE)):Prop:=
 ∀(b:ZB)(s:UV)(a:St)(H:Hp)(Q:List (V×V)->Hp->Prop),Inv X b a H s->Do e a H Q →
  wpAny (model X.prog X.w) X.A (evalPairs (pairTrees keys d X.env pos)) (λf g=>∃ps c,Inv X b a c g/\VV ps f/\Q ps c) X.xe s
def Tv:PPs X pos [] [] []:=λa s b H Q I h=>pairTrees_nil_walk ⟨[],H,I,.nil,h⟩
def Ni{k v:Expr}{tk e:TE}(hk:PE X k tk)(g:PE X v e)(i:PPs X pos d vs c) :
  PPs X pos (some k::d) (v::vs) ((tk,e)::c):=λa s b H Q I h=>
 pairTrees_cons_walk (bY (hk a s b H _ I h) λu j ⟨x,l,m,n,o⟩=>bY (g a j b l _ m o) λC p ⟨y,q,r,t,w⟩=>
  bY (i a p b q _ r w) λD E ⟨ps,z,A,f,B⟩=>⟨(x,y)::ps,z,A,.cons ⟨n,t⟩ f,B⟩)
def iW(b more:List (eN×V)):List (eN×V):=more.foldl (λc a=>rD c a.1 a.2) b
def KV.merge:∀ {more:List (eN×V)}{b:List (eN×WF)}{a:List (eN×V)}{vs:List (eN×WF)},KV more b->KV a vs->KV (iW a more) (merged vs b):=by
 intro more b a vs r;unfold KV at r;induction r generalizing a vs with
 | nil=>intro q;exact q
 | @cons p q ps f h t c=>
  intro d;have e:KV (rD a p.1 p.2) (stored vs q.1 q.2):=by
   have:=d.put p.1 h.2;rw[<- h.1];exact this
  exact c e
theorem oG:∀(more a:List (eN×V)),(iW a more).length<=a.length+more.length
 | [],a=>by show a.length<=a.length+0;omega
 | p::r,a=>by
  have b:=oG r (rD a p.1 p.2);have c:=Ap a p.1 p.2;show(iW (rD a p.1 p.2) r).length<=_;rw[eJ];omega
theorem uA{P:Program}{w:World}:∀ {e:List (eN×V)}{ws:List (WF×WF)},VV (e.map λf=>(kV f.1,f.2)) ws->∃d,Carries (bQ P w) ws d/\KV e d
 | [],_,r=>by rw[map_nil]at r;cases r;exact⟨[],True.intro,.nil⟩
 | p::e,_,r=>by
  rw[map_cons]at r;cases r with
  | @cons a b i bs h t=>
   obtain⟨d,c,q⟩:=uA (P:=P) (w:=w) t;obtain⟨j,g⟩:=b;exact⟨(p.1,g)::d,⟨vZ h.1,rfl,c⟩,.cons ⟨rfl,h.2⟩ q⟩
def Xd(d:List (TE×TE)):TE:=λe H Q=>∀p,H p=none->Do d e (aH H p (.dK [])) λps b=>b p=some (.dK [])/\∃a:List (eN×V),ps=a.map (λc=>(kV c.1,c.2))/\a.length<=15/\Q (.ref p) (aH b p (.dK (iW [] a)))
def Tw{keys:List (Option Expr)}(h:PPs X pos keys b d)(l:keys.all (·.isSome)=true)(m:keys.length=b.length)(n:keys≠[])(p:keys.length<=15):PE X (.Dict keys b pos) (Xd d):=by
 intro j s K H Q I q;have r:=I.hok.fresh (cE s.heap.objs.size);have t:=I.laid (a:=s.heap.objs.size) (o:=.dK []) (h':=s.heap.push {cls:=.type "dict",data:=.dict #[] }) (t':=s.toks) (λ_ _ q=>hV _ q) (cE _) (Ar s.heap I.big);refine wpAny_Dict_walk (knd:=bQ X.prog X.w) l m n p (bY (h j _ K _ _ t (q _ r)) ?_);refine λM N=>yE2 λps O=>yA4 λg k e=>yE1 λf=>yA3 λu lk v=>?_;subst u;obtain⟨x,c,y⟩:=uA (P:=X.prog) (w:=X.w) k;obtain⟨z,A,L,B,C⟩:=Nf g.hok e;cases B;refine⟨x,c,C,λh' i D=>⟨.ref s.heap.objs.size,_,?_,rfl,v⟩⟩;have E:(iW [] f).length<=sizeLine:=by
  have F:=oG f [];rw[length_nil]at F;rw[sizeLine_eq];omega
 have G:∃q,h'.get? s.heap.objs.size=some q:=let ⟨q,_,_,J,_⟩:=i;⟨q,J⟩;exact Ts g (by rw[e];exact True.intro) D G (aAf E A (y.merge .nil) i)
structure M2(X:Cx)(o:Expr)(m:Str)(apos:Pos)(e f:Expr)(cpos:Pos):Prop where
 base:attributeBase o m X.env (eval o X.env)=eval o X.env
 few:((backTo cpos (starEach [e,f] X.env)).all (λx=>!x.1)&&(backToKw cpos (keywordEach [] X.env)).all (λx=>x.1.isSome)
  && decide (([e,f]:List Expr).length+([]:List Keyword).length+(if ([]:List Keyword).isEmpty then 0 else 1)<30))=true
 line:(apos.endLine==cpos.line)=true
 trees:backTo cpos (starEach [e,f] X.env)=[(false,eval e X.env),(false,eval f X.env)]
def IsD(H:Hp)(a:WP):Prop:=(∃b,Rd H a (.dK b))∨∃b,Rd H a (.dT b)
def aAh(I:Inv X j l H s)(d:IsD H a) :
  s.TypeIs (.ref a) "dict"/\(∀b,Value.ref a=.ref b->∃c,s.heap.get? b=some c/\c.dict=none)/\(a==sysModules)=false:=by
 rcases d with⟨k,e⟩|⟨k,e⟩
 ·obtain⟨_,g,m,_,f⟩:=tY I.hok e;refine⟨f.typeIs,λb q=>?_,g⟩;cases q;revert f;refine yE3 λc _ _=>yA3 λh i _=>?_;exact⟨c,h,i.2.1⟩
 ·obtain⟨_,g,n,_,f⟩:=wD I.hok e;refine⟨f.typeIs,λb q=>?_,g⟩;cases q;revert f;refine yE3 λc _ _=>yA3 λh i _=>?_;exact⟨c,h,i.2.1⟩
section
variable {X:Cx}{pins:ZB}{σ:St}{H:Hp}{s:UV}{a:WP}{y d:V}{u r:WF}{o:Option V}{A:Around}{E:Y5}
def aAi(v:A.units+1<cLine)(I:Inv X pins σ H s)(g:DGet H a y o)(m:RelV y u)(n:RelV d r)(h:∀p q,Inv X pins σ H q->RelV (o.getD d) p->Q p q) :
  wpAny (model X.prog X.w) A (call (.builtin "dict.get") [.ref a,u,r]) Q E s:=by
 rcases g with⟨t,k,e,i,l⟩|⟨t,k,b,e,i,w,l⟩
 ·subst i;obtain⟨z,j,B,f,c⟩:=tY I.hok e;refine call_meetsIn PySem.F.slot_dict_get c.typeIs PySem.F.entry_dict_get (PySem.F.args_dict_get_3 _ _ _) (meets_dict_get_default (bQ X.prog X.w) a (vZ m) j r) ⟨_,c.mapOf,h _ _ (I.tok _) ?_⟩;rw[l];exact(f.val k).getD n
 ·subst i;cases(show u=Value.ref b from m);obtain⟨z,j,x,f,c⟩:=wD I.hok e;refine call_meetsIn PySem.F.slot_dict_get c.typeIs PySem.F.entry_dict_get (PySem.F.args_dict_get_3 _ _ _) (meetsH_dict_get_default (tupleKind (bQ X.prog X.w)) a b j r) ⟨tupleKind_room_in1 v,k,x,tZ I.hok w,c,h _ _ (I.tok _) ?_⟩;rw[l];exact(f.val k).getD n
end
def Nj(e ty tx:TE):TE:=λb H Q=>e b H λx c=>∃a,x=.ref a/\IsD c a/\ty b c λy f=>tx b f λz d=>∃o,DGet d a y o/\Q (o.getD z) d
section
variable {X:Cx}{o e f:Expr}{apos cpos:Pos}{td ty tx:TE}
def Nk(j:X.A.units+1<cLine)(k:PE X o td)(l:PE X e ty)(n:PE X f tx)(m:M2 X o "get" apos e f cpos):PE X (.Call (.Attribute o "get" apos) [e,f] [] cpos) (Nj td ty tx):=by
 intro b s c H Q I h;refine wpAny_Call_method m.base m.few m.line PySem.F.plainAttrs_dict PySem.F.slot_dict_get PySem.F.type_dict_get (bY (k b s c H _ I h) ?_);refine λu p=>yE2 λx q=>yA3 λi r=>yE1 λa=>yA3 λt d v=>?_;subst t;obtain rfl:u=Value.ref a:=r;obtain⟨w,A,_⟩:=aAh i d;refine⟨w,A,?_⟩;rw[m.trees];refine Calls.callWith_builtin rfl (Calls.evalArgs_plain (Calls.spliced_cons (bY (l b p c q _ i v) λO B ⟨y,C,D,E,F⟩=>
  Calls.spliced_cons (bY (n b B c C _ D F) λP R ⟨z,G,J,K,S,g,L⟩=>Calls.spliced_nil ?_))))
 exact aAi j J g E K λT U M N=>⟨_,G,M,N,L⟩
end
end L2
namespace QC
open PySem PySem.W PySem.Calls PyProof.Rows
def sO:∀(ns:List Int)(vs:List WF),WellAll P h vs (ns.map WData.int)->IntsAre vs ns:=by
 intro ns;induction ns with
 | nil=>
  intro vs w;rw[map_nil]at w;cases w;exact .nil
 | cons n ns c=>
  intro vs w;rw[map_cons]at w;cases w with
  | cons a b=>
   cases a;exact .cons _ _ (c _ b)
def Jn{l:OpenLaw}{n:Nat}(j:l.most=some n){P:Params}{h:Heap}{args:List WData}{e:List WF}(f:l.row.toRowW.claim.pre args=true)(k:WellAll P h e args) :
  ∃a vs ns,e=[Value.ref a]/\args=[WData.list (ns.map WData.int)]/\h.get? a=some {cls:=.type "list",data:=.seq vs.toArray }/\IntsAre vs ns/\ns.length<=n:=by
 have m:WShape.hasAll [] args [.list .int]=true:=(pre_splitW f).1;have g:l.pre.holds [] {args:=args }=true:=(pre_splitW f).2;obtain⟨d,r,rfl,o,p⟩:=hasAllW_cons m;obtain rfl:=hasAllW_nil p;obtain⟨y,rfl,s⟩:=hasW_list o;obtain⟨ns,rfl⟩:=items_int s;have i:ns.length<=n:=by
  unfold OpenLaw.pre at g;have b:(WTm.not (.lt (.lit (.int (n:Int))) (.len (.arg 0)))).holds [] {args:=[.list (ns.map .int)] }=true:=by
   have b:=(holds_andW g).1;rw[j]at b;exact b
  have c:=condW_of b (w_not (w_lt w_lit (w_len_list (w_arg rfl))));rw[aX]at c;refine Nat.le_of_not_lt λq=>?_
  have t:(n:Int)<((ns.length:Nat):Int):=by omega
  first
   | (rw[X2 t]at c;exact T7 c Zd)
   | (simp at c;omega)
 cases k with
 | cons u v=>
  cases v
  cases u with
  | list w x=>exact⟨_,_,ns,rfl,rfl,w,sO ns _ x,i⟩
def Jo(l:OpenLaw)(args:List WData):l.row.toRowW.claim.post args (.bool true) args=true:=
 postW_of (r:=l.row.toRowW) (X:=(true==true))
  (show WShape.has [] (.bool true) .bool=true by first|rfl|decide|simp[WShape.has,WShape.arms,WShape.armsAll])
  (show(WTm.eq .res (.lit (.bool true))).value [] {args:=args,res:=some (.bool true),after:=args }=some (.bool (true==true)) from w_eq_bool (w_res rfl) w_lit) rfl
def attach_call{l:OpenLaw}{n:Nat}{q:Program}{m:List Str}{p:(Str->Option WF)->Heap->Prop}{s:World->Heap->Prop}{d:DefRec}(x:l.most=some n)(y:d.params.defaults=[])(call:∀(w:World)(h b:UV)(mg j:Y4)(c:WP)(o:Obj)(k e i:WF)(a:WP)(vs:List WF)(ns:List Int),
   Ground q m [] p w h mg j b.heap->s w b.heap →
   b.heap.get? c=some o->o.data=.func (docDef d.name d.params d.body d.scope k e i)->b.heap.CodeRec e d.name->mg d.name=some (.ref c) →
   b.heap.get? a=some {cls:=.type "list",data:=.seq vs.toArray }->IntsAre vs ns->ns.length<=n->b.gens=#[] →
   codeAny (model l.prog w) callerA (.call (.ref c) ⟨[.ref a],[]⟩) (λr g=>r=.ok (.ret (.bool true))/\OldK b.heap g.heap/\g.os=b.os/\AllBare g.gens) b) :
  WalkO q m p s l.row.toRowW d [] (λf vs=>PySem.call f vs):=by
 intro w h b mg j G Y c o k e i z kV A B C t D E O P R F S T H Q;obtain rfl:z=.none:=Dflts.none t y;obtain rfl:kV=.none:=Dflts.noKw t;refine yE0 (Jn x F H) (yE3 λa vs ns=>yA5 λζ η I u v=>?_);subst ζ η;refine enter_call (codeAny_mono (call w h b mg j c o k e i a vs ns G Y A (fd_plain B) C D I u v E) λr g J=>?_);obtain⟨rfl,K,L,M⟩:=J;exact⟨.inl ⟨.bool true,.bool true,[],rfl,λ_=>rfl,.bool true,Jo l _,λ_=>⟨List.Pairwise.nil,λ_ N=>(nomatch N)⟩⟩,K,L,M⟩
end QC
namespace L2
open PySem PySem.Spec PyProof.Rows
def wE:∀ {vs:List WF}{ns:List Int},IntsAre vs ns->Vals (ns.map V.int) vs
 | _,_,.nil=>.nil
 | _,_,.cons n t h=>.cons ⟨t,rfl⟩ (wE h)
def aAj(H:Hp):Prop:=∀b,H b=none∨∃o a,H b=some (.frz o (.lst a))
def Nl{P:Program}{w:World}{K:W.Frag}{mg t:Y4}{CX:Mv}{k:Nat}{y a:WP}{E:FuncData}{x:Str}{sp:Sp}{c:UV}{vs:List WF}{ns:List Int}(G:K.In c.heap)(I:c.heap.Ns mainGlobals mg)(f:c.heap.Ns builtinsNs t)(U:∀x:Str,x≠"__name__"->t x=bootBuiltins x)(X:c.heap.NoLimit)(Y:c.gens=#[])(n:c.heap.get? a=some {cls:=.type "list",data:=.seq vs.toArray })(J:IntsAre vs ns)(L:ns.length<=sizeLine)(Z:Room k callerA)(F:∀base:Heap,K.In base->base.Ns mainGlobals mg->oS P w K mg base CX k y E [x] sp)(GQ:∀(s:UV)(u:WF),BindsTo s E ⟨[u],[]⟩ [(x,u)])(Y7:∀H:Hp,aAj H->SqL K H a (ns.map V.int)->sp [.ref a] H (λv _=>v=.bl true) λ_ _ _=>False)(MN:∀H e g,CX [] H c (λ_ _ _=>False) e g->False) :
  codeAny (model P w) callerA (.call (.ref y) ⟨[.ref a],[]⟩) (λr g=>r=.ok (.ret (.bool true))/\OldK c.heap g.heap/\g.os=c.os/\AllBare g.gens) c:=by
 have M:=wE J;have MO:=J.length;have C:∀H:Hp,aAj H->SqL K H a (ns.map V.int)->HOk P w H c.heap->(∀b,H b≠none->b=a)->(H a≠none->K.lookup a=none) →
   codeAny (model P w) callerA (.call (.ref y) ⟨[.ref a],[]⟩) (λr g=>r=.ok (.ret (.bool true))/\OldK c.heap g.heap/\g.os=c.os/\AllBare g.gens) c:=by
  intro H N hS D O hK;have Q:∀ {b:WP}{o:Obj},c.heap.get? b=some o->H b=none->(xI c.heap H).get? b=some o:=λe a0=>Me e a0
  have GK:∀ {b:WP}{o:Obj}{i:Array DictEntry}{j:Nat},c.heap.get? b=some o->o.data=.dict i j->H b=none:=λ{b o i j} e d=>by
   cases q:H b with
   | none=>rfl
   | some u=>
    have A:b=a:=O b (by rw[q];simp);subst A;rw[n]at e;cases e;have d':Data.seq vs.toArray _=Data.dict i j:=d;cases d'
  have p:∀ {b:WP}{m:Y4},c.heap.Ns b m->(xI c.heap H).Ns b m:=λ{b m} ⟨o,i,j,e,d,r⟩=>⟨o,i,j,Q e (GK e d),d,r⟩
  have R:K.In (xI c.heap H):=λb o e=>Q (G b o e) (by
   cases q:H b with
   | none=>rfl
   | some u=>
    have A:b=a:=O b (by rw[q];simp);subst A;rw[hK (by rw[q];simp)]at e;cases e)
  have hM:Mod K mg (xI c.heap H):=⟨R,p I,⟨t,p f,U⟩,let ⟨mc,h1,h2⟩:=X;⟨mc,p h1,h2⟩⟩;have e0:Env0 P w K mg (xI c.heap H) callerA [] c H:=⟨rfl,hM,λb o e=>Ss e,le_of_eq (Iz _ _),trivial,λb f=>T7 (show b∈([]:List WP) from f) Zs,D,.of_eq Y⟩;refine codeAny_mono ((F _ R (p I)).run callerA [] c H ⟨[.ref a],[]⟩ [.ref a] [.ref a] _ _ Z e0 (GQ c (.ref a)) (.cons rfl .nil) (Y7 H N hS)) λr g h=>?_
  cases r with
  | error e=>exact(MN H e g h).elim
  | ok fl=>
   cases fl with
   | next=>exact False.elim h
   | brk=>exact False.elim h
   | cont=>exact False.elim h
   | ret u=>
    revert h;refine yE2 λv H'=>yA6 λos T un MP r' q=>?_;have q':v=.bl true:=q;subst q';obtain rfl:u=Value.bool true:=r';refine⟨rfl,OldK.of_keep λb o e=>?_,os,T⟩
    cases q:H b with
    | none=>exact un.keep b o e q (by intro z;exact T7 (show b∈([]:List WP) from z) Zs) Zs
    | some u=>
     rcases N b with z|⟨ob,xs,z⟩
     ·rw[q]at z;cases z
     ·have z2:=un.frzs b ob _ z;obtain⟨S,_⟩:=D b _ z;obtain⟨e2,_⟩:=MP b _ z2;rw[e]at S;cases S;exact e2
 cases B:K.lookup a with
 | some o=>
  have e:=G a o B;rw[n]at e;cases e;refine C (λ_=>none) (λ_=>.inl rfl) (.inr ⟨_,vs.toArray,_,B,rfl,rfl,rfl,by rw[iA,MO];exact L,by simpa using M⟩) (λb u z=>by have l:(none:Option HO)=some u:=z;cases l) (λb z=>T7 rfl z) λz=>T7 rfl z
 | none=>
  refine C (λb=>if b=a then some (.frz {cls:=.type "list",data:=.seq vs.toArray } (.lst (ns.map V.int))) else none) (λb=>?_) (.inl (.inr ⟨{cls:=.type "list",data:=.seq vs.toArray },UF rfl⟩)) (λb u z=>?_) (λb z=>?_) λ_=>B
  ·by_cases f:b=a
   ·exact .inr ⟨_,_,UF f⟩
   ·exact .inl (T8 f)
  ·by_cases f:b=a
   ·have l:=(UF f).symm.trans z;cases l;subst f;exact⟨n,by rw[aX];exact L,vs,_,M,n⟩
   ·have l:=(T8 f).symm.trans z;cases l
  ·by_cases f:b=a
   ·exact f
   ·exact T7 (T8 f) z
def Gg{l:W.OpenLaw}{n k:Nat}{q:Program}{o:List Str}{t:(Str->Option WF)->Heap->Prop}{j:World->Heap->Prop}{d:DefRec}{K:Params->W.Frag}{CX:World->Mv}{sp:World->Sp}{x:Str}(y:l.most=some n)(z:n<=sizeLine)(A:d.params.defaults=[])(B:Room k callerA)(C:∀(w:World)(h:Heap),j w h->(K w.params).In h)(F:∀(w:World)(mg:Y4)(b:WP)(h:Heap),(K w.params).In h->h.Ns mainGlobals mg->mg d.name=some (.ref b) →
   ∃c:FuncData,(∀(s:UV)(u:WF),BindsTo s c ⟨[u],[]⟩ [(x,u)]) ∧
    ∀base:Heap,(K w.params).In base->base.Ns mainGlobals mg->oS l.prog w (K w.params) mg base (CX w) k b c [x] (sp w))(D:∀(w:World)(H:Hp)(a:WP)(ns:List Int),ns.length<=n->aAj H->SqL (K w.params) H a (ns.map V.int)->sp w [.ref a] H (λv _=>v=.bl true) λ_ _ _=>False)(E:∀(w:World)(H:Hp)(s:UV)(e:WF)(g:UV),CX w [] H s (λ_ _ _=>False) e g->False) :
  W.WalkO q o t j l.row.toRowW d [] (λf vs=>PySem.call f vs):=by
 refine QC.attach_call y A λw Q r mg S b a0 T U R a vs ns G Y X Z U1 I J p i L=>?_;have m:=C w _ Y;obtain⟨c,M,N⟩:=F w mg b _ m G.T.g I;exact Nl m G.T.g G.T.b G.T.builtins G.T.nolimit L J p (iB i z) B N M (λH O P=>D w H a ns i O P) λH e g=>E w H r e g
end L2
/- THE VE JY (shape;LID,My.* are QF):
   My.Adr: a structure of the addresses that VF QG names (classes,FO);My.Txt K t: a structure (Prop) of the equations over K;
   My.txt_mk:{K} {implicit addresses ..} (e1:nsIn K mainGlobals "law"=some (some (.ref f))) (e2:K.lookup f=some ⟨oc,od,.func (fnOf "law" "law" params body scope dV kV doc pm an cdv ct),sl⟩) (e3:codeIn K cdv "law"=true) ..:∃t,My.Txt K t
set_option maxRecDepth 100000 in
set_option maxHeartbeats 0 in
def PySem.Challenge.cw_LID_holds : PySem.Challenge.rw_LID.Holds := by
 w_on;o_law;k_head;(case hw=>w_witness2)
 k_fill
 refine L2.Gg (l:=PySem.Challenge.rw_LID) (n:=63) (k:=40) (x:="script") (CX:=λw=>..) (sp:=λ_=>My.sp_law) rfl Zd rfl ⟨rfl,Zd,Zd⟩ (λw h Y=>W.kIn_of Y) ?F ?S ?C
 case F=>
  intro w mg fa h KX G DG;have T:∃t,My.Txt (L2.KOf KX) t:=by
   dsimp only [L2.KOf]                          -- K VG QH as «<heap const> w.params» for k_is
   refine' My.txt_mk ?e1 ?e2 ?e3 ..
   (case e1=>W.k_is)                    -- in the order: a name->its address->its object->its parts
   (case e2=>W.k_is)
   ..
  obtain⟨t,T⟩:=T;have e0:=DG.symm.trans (W.mg_of KX G T.law);cases e0                                       -- fa is the QI own address;exact⟨_,λs u=>.of_eq rfl,λbase kb nb=>My.law_fn T kb nb⟩     -- if «.of_eq rfl» comes too early: refine' ⟨_,?b,λbase kb nb=>My.law_fn T kb nb⟩;exact λs u=>.of_eq rfl
 case S=>exact λw H a ns hl hO hS=>..
 case C=>exact ..
(the tactic k_is has no namespace: write k_is) -/
namespace L2
open PySem PySem.Spec PyProof.Rows
def nC(s:Stmt)(j:Nat):Stmt:=match s with
 | .ClassDef _ _ _ a _ _ _ _ _ _ _=>a.getD j (.Pass ⟨0,0,0,0⟩)
 | _=>.Pass ⟨0,0,0,0⟩
def cJ(s:Stmt):Arguments:=match s with
 | .FunctionDef _ a _ _ _ _ _ _ _ _=>a
 | _=>{posonlyargs:=[],args:=[],vararg:=none,kwonlyargs:=[],kw_defaults:=[],kwarg:=none,defaults:=[] }
def bB(s:Stmt):List Stmt:=match s with
 | .FunctionDef _ _ b _ _ _ _ _ _ _=>b
 | _=>[]
def aE(s:Stmt):Scope:=match s with
 | .FunctionDef _ _ _ _ _ _ sc _ _ _=>sc
 | _=>{kind:=.function,names:=[],isGenerator:=false,isCoroutine:=false }
abbrev sZ:Mv:=λ_ _ _ _ _ _=>False
abbrev E0:XK:=λ_ _ _=>False
def Nm:Dj sZ X E0:=λ_ _ _ _ _ _ _ h=>h.elim
structure Fun(K:W.Frag)(x qual:Str)(st:Stmt)(f:WP)(fd:FuncData):Prop where
 ex:∃(oc:WF)(od:Option WP)(kV doc pm:WF)(an:Option WP)(cdv ct:WF)(osl:Array (Option WF)),
  fd=W.fnOf x qual (cJ st) (bB st) (aE st) .none kV doc pm an cdv ct/\K.lookup f=some ⟨oc,od,.func fd,osl⟩/\W.codeIn K cdv qual=true
 kp:W.keepIn K (.ref f)=true
section
variable {P:Program}{w:World}{K:W.Frag}{mg:Y4}{base:Heap}
def Fun.ok{x b:Str}{st:Stmt}{f:WP}{c:FuncData}{N ps:List Str}{k:Nat}{sp:Sp}(F:Fun K x b st f c)(S:aI N ps (aE st))(len:∀vs H Q E,sp vs H Q E->vs.length=ps.length)(d:∀(a:WF)(A:Around)(outer:List Env)(s:UV)(H:Hp)(vs:List V)(Q:VK)(E:XK),Room k (A.deeper (envOfC b (aE st) s.heap.objs.size f a))->sp vs H Q E →
   ∃t,PSs (cV sZ P w K mg base N b (aE st) f a A outer s H E).nox (bB st) t/\t {nx:=λ_ e=>Q .non e,rt:=Q } (start N vs) H):oS P w K mg base sZ (k+1) f c ps sp:=by
 refine yE0 F.ex (yE9 λn o kV l p r a u m=>yA3 λζ lk g=>?_);subst ζ;refine Mw lk g S len λA outer s H vs Q E i j=>?_;obtain⟨t,h,q⟩:=d a A outer s H vs Q E i j;exact⟨t,h.nox,q⟩
def Fun.binds{x g:Str}{st:Stmt}{f:WP}{i:FuncData}{ps:List Str}(F:Fun K x g st f i)(h:∀(kV a c:WF)(d:Option WP)(b e:WF)(us:List WF),us.length=ps.length->bindArgs (W.fnOf x g (cJ st) (bB st) (aE st) .none kV a c d b e) ⟨us,[]⟩=pure (ps.zip us)):Binds K i ps []:=by
 refine yE0 F.ex (yE9 λk l kV a c d b e j=>yA3 λζ lk m=>?_);subst ζ;exact .all (h kV a c d b e)
def oU{x a:Str}{st:Stmt}{f:WP}{j:WF}{od e:Option WP}{i:Array (Option WF)}{kV d g b h:WF}(l:K.lookup f=some ⟨j,od,.func (W.fnOf x a (cJ st) (bB st) (aE st) .none kV d g e b h),i⟩)(c:W.codeIn K b a=true)(k:W.keepIn K (.ref f)=true):Fun K x a st f (W.fnOf x a (cJ st) (bB st) (aE st) .none kV d g e b h):=⟨⟨j,od,kV,d,g,e,b,h,i,rfl,l,c⟩,k⟩
end
def aB2{k:Nat}(a:Room k A):A.units+1<cLine:=Ly (Nat.add_le_add_left (by decide:1<=64) _) a.units
def Same(H a:Hp):Prop:=∀b o,H b=some o->a b=some o
def Same.refl(H:Hp):Same H H:=λ_ _ h=>h
def Same.trans(a:Same H d)(b:Same d e):Same H e:=λc o h=>b c o (a c o h)
def Same.free(e:Same H a)(h:a l=Option.none):H l=Option.none:=by
 cases q:H l with
 | none=>rfl
 | some o=>
  rw[e l o q]at h;cases h
def lV(env:Env):List (Str×NameKind)->List (Str×WP)->List (Str×WP)
 | [],a=>a
 | (n,k)::r,a=>lV env r (if k=.free then (match env.cells.lookup n with|some c=>(n,c)::a|none=>a) else a)
theorem oV{env:Env}:∀(names:List (Str×NameKind))(cs:List (Str×WP)),(∀x∈names,x.2=.free->∃c,env.cells.lookup x.1=some c) →
  (forIn names cs λ(x:Str × NameKind) (r:List (Str × Addr))=>(do
   if x.2 == .free then do
    let c←cellOf env x.1
    pure (ForInStep.yield ((x.1,c)::r))
   else pure (ForInStep.yield r):Sem _))=pure (lV env names cs)
 | [],cs,_=>rfl
 | (n,k)::r,cs,h=>by
  rw[forIn_cons];by_cases a:k=.free
  ·subst a;obtain⟨c,e⟩:=h (n,.free) iV rfl;have d:env.cells.lookup n=some c:=e;have f:cellOf env n=pure c:=by unfold cellOf;rw[d]
   simp only [beq_self_eq_true,if_true,f,pure_bind];rw[oV r ((n,c)::cs) λx b=>h x (fN _ b)];simp[lV,d]
  ·have g:(k==NameKind.free)=false:=by simpa using a
   simp only [g,Bool.false_eq_true,if_false,pure_bind];rw[oV r cs λx b=>h x (fN _ b)];simp[lV,a]
def uB(h:∀x∈a.names,x.2=.free->∃c,env.cells.lookup x.1=some c):closureFor a env=pure (lV env a.names []):=by
 have e:=oV a.names [] h;unfold closureFor;exact(congrArg (λz=>z>>=λ(r:List (Str×WP))=>(pure r:Sem _)) e).trans (pure_bind _ _)
theorem As{env:Env}:∀(names:List (Str×NameKind))(cs:List (Str×WP)),(∀y d,(y,d)∈cs->env.cells.lookup y=some d)->∀y d,(y,d)∈lV env names cs->env.cells.lookup y=some d
 | [],_,h=>h
 | (n,k)::r,cs,h=>by
  unfold lV;refine As r _ λy d a=>?_
  split at a
  ·split at a
   ·rename_i c b;rcases mem_cons.mp a with e|e
    ·cases e;exact b
    ·exact h y d e
   ·exact h y d a
  ·exact h y d a
def Gh{env:Env}:∀(names:List (Str×NameKind))(cs:List (Str×WP))(y:Str)(d:WP),(y,d)∈lV env names cs->(y,.free)∈names∨(y,d)∈cs
 | [],_,_,_,h=>.inr h
 | (n,k)::r,cs,y,d,h=>by
  unfold lV at h;rcases Gh r _ y d h with e|hm
  ·exact .inl (fN _ e)
  ·split at hm
   ·rename_i a;split at hm
    ·rcases mem_cons.mp hm with e|e
     ·cases e;subst a;exact .inl iV
     ·exact .inr e
    ·exact .inr hm
   ·exact .inr hm
theorem Nn{env:Env}:∀(names:List (Str×NameKind))(cs:List (Str×WP))(y:Str),((∃d,(y,d)∈cs)∨(y,.free)∈names)->(∀x∈names,x.2=.free->∃c,env.cells.lookup x.1=some c)->∃d,(y,d)∈lV env names cs
 | [],_,_,h,_=>by
  rcases h with h|h
  ·exact h
  ·cases h
 | (n,k)::r,cs,y,h,b=>by
  unfold lV;refine Nn r _ y ?_ λx f=>b x (fN _ f)
  rcases h with⟨d,a⟩|h
  ·refine .inl ⟨d,?_⟩;split
   ·split
    ·exact fN _ a
    ·exact a
   ·exact a
  ·rcases mem_cons.mp h with e|e
   ·have g:y=n:=congrArg Prod.fst e;have i:NameKind.free=k:=congrArg Prod.snd e;subst g i;obtain⟨c,j⟩:=b (y,.free) iV rfl;have l:env.cells.lookup y=some c:=j;refine .inl ⟨c,?_⟩;rw[UF rfl,l];exact iV
   ·exact .inr e
theorem uC{a:Type}:∀ {l:List (Str×a)}{y:Str}{d:a},(y,d)∈l->∃d',l.lookup y=some d'/\(y,d')∈l
 | (n,c)::r,y,d,h=>by
  by_cases e:y=n
  ·subst e;exact⟨c,by simp[lookup_cons],iV⟩
  ·rcases mem_cons.mp h with q|q
   ·cases q;exact T7 rfl e
   ·obtain⟨d',b,f⟩:=uC q;have g:(y==n)=false:=by simpa using e
    exact⟨d',by rw[lookup_cons,g];exact b,fN _ f⟩
def eO(h:(lV env names []).lookup y=some c):env.cells.lookup y=some c/\(y,.free)∈names:=by
 have a:=PySem.mem_of_lookup h;refine⟨As names [] (λ_ _ z=>nomatch z) y c a,?_⟩;rcases Gh names [] y c a with e|e
 ·exact e
 ·cases e
def Gi(h:(y,.free)∈names)(b:∀x∈names,x.2=.free->∃c,env.cells.lookup x.1=some c):∃c,(lV env names []).lookup y=some c/\env.cells.lookup y=some c:=by
 obtain⟨d,e⟩:=Nn names [] y (.inr h) b;obtain⟨c,a,_⟩:=uC e;exact⟨c,a,(eO a).1⟩
def yA(d:∀y∈a.names,y.2≠.cell)(h:(relabel a env).names.lookup x=some .cell∨(relabel a env).names.lookup x=some .free):(x,.free)∈a.names:=by
 have go:∀ {k:NameKind},k=.cell∨k=.free->(relabel a env).names.lookup x=some k->(x,.free)∈a.names:=λ{k} f h=>by
  have c:=PySem.mem_of_lookup h;unfold relabel at c;obtain⟨⟨n,j⟩,b,e⟩:=Zmm.mp c;dsimp only at e;split at e
  ·rename_i g;cases e;have:j=.free:=by
    have:=(Bool.and_eq_true_iff.mp (Bool.and_eq_true_iff.mp g).1).1;simpa using this
   subst this;exact b
  ·cases e;rcases f with q|q
   ·exact T7 q (d _ b)
   ·subst q;exact b
 rcases h with h|h
 ·exact go (.inl rfl) h
 ·exact go (.inr rfl) h
theorem pS{env:Env}:∀ {names:List (Str×NameKind)}{x:Str},names.lookup x=some .free →
  (names.map λ(n,k)=>if (k==NameKind.free&&env.scope.kind == .function&&env.kindOf n==some .cell) then (n,NameKind.cell) else (n,k)).lookup x=some .cell∨
  (names.map λ(n,k)=>if (k==NameKind.free&&env.scope.kind == .function&&env.kindOf n==some .cell) then (n,NameKind.cell) else (n,k)).lookup x=some .free
 | [],_,h=>by simp at h
 | (n,k)::r,x,h=>by
  have b:=@pS env r x;rw[map_cons];dsimp only;cases a:x==n with
  | true=>
   simp only [lookup_cons,a]at h;cases h;split
   ·left;simp[lookup_cons,a]
   ·right;simp[lookup_cons,a]
  | false=>
   simp only [lookup_cons,a]at h;split
   ·simp only [lookup_cons,a];exact b h
   ·simp only [lookup_cons,a];exact b h
def qV(X:Cx)(a:Scope)(C:WP)(N:List Str)(b:UV)(c:Hp)(fp:List WP):Cx where
 prog:=X.prog
 w:=X.w
 K:=X.K
 mg:=X.mg
 base:=X.base
 A:=X.A
 N:=N
 s₀:=b
 H₀:=c
 env:=compEnvC a (lV X.env a.names []) C X.env
 outer:=X.stack
 stack:=X.stack
 ex:=fp
 fn:=λ_=>false
 calm:=X.calm
 pn:=[]
 xe:=λ_ _=>False
def Ad(js:List (Option Nat))(a:St):St:=js.map λo=>match o with|some j=>(a[j]?).getD none|none=>none
structure CompScope(X:Cx)(scope:Scope)(N:List Str)(js:List (Option Nat)):Prop where
 kind:scope.kind=.function
 nocell:∀y∈scope.names,y.2≠.cell
 loc:∀y∈scope.names,y.2=.local->scope.names.lookup y.1=some .local
 len:js.length=N.length
 cap:∀(i j:Nat),js[i]?=some (some j)->∃x,N[i]?=some x/\X.N[j]?=some x/\scope.names.lookup x=some .free
 out:∀y∈scope.names,y.2=.free->X.env.kindOf y.1=some .cell∨X.env.kindOf y.1=some .free
def Dp(js:List (Option Nat))(g:TG):Prop:=∀x a H Q,g x a H Q->g x a H λb c=>Q b c/\b.length=a.length/\∀(i j:Nat),js[i]?=some (some j)->b[i]?=a[i]?
def Gj(js:List (Option Nat))(g:Fv):Prop:=∀c a H Q,g c a H Q->g c a H λb d=>Q b d/\b.length=a.length/\∀(i j:Nat),js[i]?=some (some j)->b[i]?=a[i]?
def aY{k:Nat}(h:js[k]?=some none):Dp js (aK k):=λx a H Q q=>by
 refine⟨q,Zs,λi j e=>?_⟩;have:k≠i:=λz=>by subst z;rw[h]at e;cases e
 rw[getElem?_set_ne this]
def kG:Gj js Yx:=λa b H Q q=>⟨q.1,q.2,rfl,λ_ _ _=>rfl⟩
def cN{k:Nat}(h:js[k]?=some none)(m:Gj js u):Gj js (Mm (aK k) u):=λs f H Q q=>by
 obtain⟨v,r,e,q⟩:=q;refine⟨v,r,e,?_⟩;obtain⟨_,n⟩:=aY h v f H (λ_ _=>True) trivial;have o:=m r _ _ _ q;have p:(λd g=>Q d g/\d.length=(f.set k (some v)).length/\∀(i j:Nat),js[i]?=some (some j)->d[i]?=(f.set k (some v))[i]?)=(λd (g:Hp)=>Q d g/\d.length=f.length/\∀(i j:Nat),js[i]?=some (some j)->d[i]?=f[i]?):=by
  funext d g
  have l:∀(i j:Nat),js[i]?=some (some j)->(f.set k (some v))[i]?=f[i]?:=n.2;apply propext;constructor
  ·refine yA3 λa b c=>?_;exact⟨a,by simpa using b,λi j e=>(c i j e).trans (l i j e)⟩
  ·refine yA3 λa b c=>?_;exact⟨a,by simpa using b,λi j e=>(c i j e).trans (l i j e).symm⟩
 show u r (f.set k (some v)) H _;rw[<- p];exact o
def lX{K:W.Frag}{n:Nat}{js:List (Option Nat)}{t:Fv}(h:Gj js t):Dp js (Tb K n t):=λx f H Q q=>by
 revert q;refine yE2 λa b=>yA4 λe c d q=>?_;exact⟨a,b,e,c,d,h b f H Q q⟩
section
variable {X:Cx}{pins:ZB}{σ:St}{H H':Hp}{s:UV}
def Un.more{fs e:List WP}(u:Un fs e H H' h h')(f:h.get? D=none)(a:H D=none):Un fs e H (aH H' D o) h h' where
 keep:=u.keep
 slot:=u.slot
 free:=λb c q n g=>by
  have:b≠D:=λz=>by rw[z,f]at q;cases q
  rw[aJ this];exact u.free b c q n g
 there:=u.there
 tups:=λb d q=>by rw[aJ (aF q a)];exact u.tups b d q
 frzs:=λb c d q=>by rw[aJ (aF q a)];exact u.frzs b c d q
 tbls:=λb ps q=>by rw[aJ (aF q a)];exact u.tbls b ps q
def HOk.more(k:HOk P w H h)(a:H D=none)(f:ObjOk P w (aH H D o) h D o):HOk P w (aH H D o) h:=λb u e=>by
 by_cases d:b=D
 ·subst d;rw[aD]at e;cases e;exact f
 ·rw[aJ d]at e;exact(k b u e).stay (λ_ _ _ q=>q) (λc q=>by rw[aJ (aF q a)];exact q) λc g q=>by rw[aJ (aF q a)];exact q
def CompScope.ok(S:CompScope X f N js)(I:Inv X pins σ H s)(i:s.heap.objs.size<=C)(d:∀b∈fp,qZ X pins H b)(j:∀b∈fp,b<s.heap.objs.size) :
  (qV X f C N s H fp).Ok where
 mod:=I.ok.mod
 kind:=S.kind
 glob:=I.ok.glob
 blt:=I.ok.blt
 above:=i
 inj:=λx y c g k=>I.ok.inj x y c (eO g).1 (eO k).1
 has:=λx l=>by
  have h:(x,.free)∈f.names:=yA S.nocell l;obtain⟨c,g,_⟩:=Gi (env:=X.env) h λy m n=>I.ok.has y.1 (S.out y m n)
  exact⟨c,g⟩
 cab:=λx c z=>nomatch z
 hd:=I.ok.hd
 frames:=I.ok.frames
 stk:=.inl rfl
 exf:=λb a=>⟨ne_of_lt (TD (j b a) i),λx c e=>(d b a).2.2.2.2.1 x c (eO e).1⟩
 bs:=I.bs
 bsz:=iB I.ok.bsz I.sz
 noex:=λb o e a=>by
  rcases(d b a).2.2.2.1 with z|z
  ·exact I.ok.noex b o e z
  ·exact T7 (TD (Heap.lt_size e) (iB I.ok.bsz z)) (lt_irrefl _)
 exfs:=λb a h=>by
  rcases mem_cons.mp (I.stkSub b h) with z|z
  ·exact(d b a).2.1 z
  ·exact(d b a).2.2.1 z
 funs:=I.stack
 frf:=I.stkFree
def CompScope.start{tk:Nat}(S:CompScope X r N js)(I:Inv X pins σ H s)(B:s.heap.objs.size<=C)(t:s.heap.objs.size<=D)(M:D≠C)(O:∀b∈fp,qZ X pins H b)(P:∀b∈fp,b<s.heap.objs.size)(k:∀b o,s.heap.get? b=some o->h.get? b=some o)(Q:h.Ns C m)(R:h.get? D=some l)(T:∀v,l.data≠.cell v) :
  Inv (qV X r C N s H fp) [(D,l)] (Ad js σ) H {s with heap:=h,toks:=tk } where
 ok:=S.ok I B O P
 os:=rfl
 bare:=I.bare
 base:=Un.kept k
 loc:=by
  refine⟨m,Q,λi x v u a h3=>?_⟩;have u:N[i]?=some x:=u;unfold Ad at a;rw[jF]at a;cases e:js[i]? with
  | none=>rw[e]at a;cases a
  | some o=>
   rw[e]at a;cases o with
   | none=>cases a
   | some j=>
    have n:(σ[j]?).getD none=some v:=Option.some.inj a;have L:σ[j]?=some (some v):=by
     cases q:σ[j]? with
     | none=>rw[q]at n;cases n
     | some z=>rw[q]at n;exact congrArg some n
    obtain⟨y,E,U,F⟩:=S.cap i j e;rw[u]at E;cases E;have G:(x,.free)∈r.names:=PySem.mem_of_lookup F;have J:=S.out (x,.free) G rfl;obtain⟨mX,_,V⟩:=I.loc;have W:Yg X.env.scope x:=by
     rcases J with z|z
     ·exact .inr (.inl z)
     ·exact .inr (.inr z)
    obtain⟨a0,a1,a2⟩:=V j x v U L W;refine⟨a0,a1,.inr ?_⟩;rcases a2 with⟨d,_⟩|⟨d,c,Y,Z⟩
    ·rcases J with z|z
     ·have f:X.env.kindOf x=some .cell:=z;rw[d]at f;cases f
     ·have f:X.env.kindOf x=some .free:=z;rw[d]at f;cases f
    ·obtain⟨c',B0,K⟩:=Gi (env:=X.env) G λy hy d=>I.ok.has y.1 (S.out y hy d)
     rw[Y]at K;cases K;refine⟨pS F,c,B0,?_⟩;obtain⟨g,w,A⟩:=Z;exact⟨g,k c g w,A⟩
 cell:=λx c e=>by
  obtain⟨v,g,w,A⟩:=I.cell x c (eO e).1;exact⟨v,g,k c g w,A⟩
 free:=I.hok.fresh B
 freeC:=λx c e=>I.freeC x c (eO e).1
 pin:=λp hp=>by
  have e:p=(D,l):=by
   rcases Zma.mp hp with z|z
   ·exact T7 (show p∈([]:List (WP×Obj)) from z) Zs
   ·simpa using z
  subst e;refine⟨R,I.hok.fresh t,M,λhm=>?_,T⟩;rcases mem_cons.mp (I.stkSub D hm) with z|z
  ·have z:D=X.env.locals:=z;have:=I.lt;rw[<- z]at this;exact T7 (TD this t) (lt_irrefl _)
  ·exact I.nofs t z
 hok:=I.hok.kept k
 len:=by
  unfold Ad;rw[aX];exact S.len
end
def PTs(X:Cx)(cs:List Expr)(t:TT):Prop:=
 ∀(b:ZB)(s:UV)(a:St)(H:Hp)(Q:Bool->Hp->Prop)(E:Y5),Inv X b a H s->t a H Q →
  wpAny (model X.prog X.w) X.A (forIn cs true λc r=>if r=true then do let ok←isTrue c X.env (eval c X.env);pure (ForInStep.yield ok) else pure (ForInStep.yield r)) (TP X b a Q) E s
def No:TT:=λ_ H Q=>Q true H
def Tx:PTs X [] No:=λa s b H Q E I h=>wpAny_tests_nil ⟨H,I,h⟩
def Ty(h:PT X c t)(b:X.xe=λ_ _=>False:=by rfl):PTs X [c] t:=λa s d H Q E I q=>
 wpAny_tests_one (wpAny_mono (h a s d H Q I q) (λ_ _ z=>z) λe f z=>by rw[b]at z;exact z.elim)
def uD(js:List (Option Nat))(g:TG)(j:TT)(k:TE)(p:St)(J:It)(l:Hp)(Q:List V->Hp->Prop):Prop:=
 ∃W:Nat->Nat->List V->Hp->Prop,(∃m,W 0 m [] l)/\∀i m a H,W i m a H →
  (J.stop i H/\Q a H)∨
  (J.go i H/\a.length<sizeLine/\∃N:List V->Hp->Prop,(∀e c,N e c->∃f,f<m/\W (i+1) f e c) ∧
   ∀x c,J.yld i H x c->g x (Ad js p) c λd n=>j d n λb h=>if b=true then k d h λy o=>N (a++[y]) o else N a h)
def Np(c:TI)(js:List (Option Nat))(g:TG)(d:TT)(e:TE):TE:=λb H Q=>c b H λJ f=>
 uD js g d e b J f λh a=>∀p,a p=none->Q (.ref p) (aH a p (.lst h))
def Xe(i:Nat)(c:TI)(js:List (Option Nat))(g:TG)(d:TT)(e:TE):TS:=λD a H=>c a H λJ f=>
 uD js g d e a J f λh b=>∀p,b p=none->D.nx (a.set i (some (.ref p))) (aH b p (.lst h))
section
variable {X:Cx}{tg iter elt:Expr}{ifs:List Expr}{scope:Scope}{N:List Str}{js:List (Option Nat)}{wi:TI}{g:TG}{tt:TT}{te:TE}{pos:Pos}
def uE{P:ZB}{l:St}{d:Hp}{a:UV}{it:WP}{fp:List WP}{Q:Nat->Heap->Prop}{a2:It}{Qf:List V->Hp->Prop}{RR:WF->WP->Result->UV->Prop}{E:Y5}(hc:X.calm=true)(S:CompScope X scope N js)(go:Dp js g)(c:∀(C:WP)(s₂:UV)(H₂:Hp)(fp:List WP),PG (qV X scope C N s₂ H₂ fp) tg g/\PTs (qV X scope C N s₂ H₂ fp) ifs tt/\PE (qV X scope C N s₂ H₂ fp) elt te)(L:Inv X P l d a)(T:xK X.prog X.w X.K tg a2 fp it Q)(AV:Q 0 a.heap)(f2:∀b∈fp,qZ X P d b)(hw:uD js g tt te l a2 d Qf)(VJ:∀(C D:WP)(f:List V)(r:Hp)(w:UV)(m:Y4),a.heap.objs.size<=C->a.heap.objs.size<=D->D≠C->Inv X P l (aH r D (.lst f)) w->r C=none->r D=none->w.heap.Ns C m->Qf f r->RR (.ref D) C (.ok .next) w) :
  wpAny (model X.prog X.w) X.A (newList []) (λacc K=>wpAny (model X.prog X.w) X.A (newFunctionEnv scope X.env.globals (lV X.env scope.names []) [] X.env.qual none .none (some X.env)) (λGS s₄=>
   codeAny (model X.prog X.w) X.A (.compStart (.ListComp elt [⟨tg,iter,ifs,0⟩] scope pos) 0 (.ref it) acc {GS with scope:=relabel scope X.env }) (RR acc GS.locals) s₄) E K) E a:=by
 obtain⟨W,⟨m0,w0⟩,turn⟩:=hw;refine wpAny_newObj_type (wpAny_newFunctionEnv S.nocell (by intro y hy;simp at hy) (λh₁ R U=>?_) S.kind);dsimp only at R U ⊢;generalize MQ:a.heap.push {cls:=.type "list",dict:=none,data:=.seq ([]:List WF).toArray }=Y at R U ⊢;have hC:Y.objs.size=a.heap.objs.size+1:=by rw[<- MQ,Heap.size_push]
 have M:a.heap.objs.size≠Y.objs.size:=by rw[hC];exact ne_of_lt (lt_succ_self _)
 have DJ:a.heap.objs.size<=Y.objs.size:=by rw[hC];exact le_succ _
 have old:∀b o,a.heap.get? b=some o->h₁.get? b=some o:=λb o e=>U.extBut b o (by rw[hC];exact ne_of_lt (Nat.lt_succ_of_lt (Heap.lt_size e))) (hV _ (MQ▸hV _ e))
 have GU:h₁.get? a.heap.objs.size=some {cls:=.type "list",data:=.seq ([]:List WF).toArray 0 }:=U.extBut _ _ M (hV _ (MQ▸W1 _ rfl));have Z:∀b∈fp,b<a.heap.objs.size:=λb c=>by
  obtain⟨o,e,_⟩:=T.obj _ _ AV b c;exact Heap.lt_size e
 generalize QJ:a.heap.objs.size=D at M DJ GU ⊢;generalize hCn:Y.objs.size=C at M DJ R ⊢;have KA:a.heap.objs.size<=C:=by rw[QJ];exact DJ
 have A:a.heap.objs.size<=D:=le_of_eq QJ;refine yE0 (c C a d fp) (yA3 λpg pt pe=>?_);have I0:=S.start (D:=D) (fp:=fp) (tk:=a.toks+([]:List (Str×WF)).length) L KA A M f2 Z old R GU (λv z=>nomatch z);have MR:∀ {J:Hp}{s:ZB},(∀b∈fp,J b=none)->(∀p∈s,p.1∉fp)->∀b∈fp,qZ (qV X scope C N a d fp) s J b:=λhn t b c=>
  ⟨hn b c,ne_of_lt (TD (Z b c) KA),(S.ok L KA f2 Z).exfs b c,.inl c,λx a0 e=>(f2 b c).2.2.2.2.1 x a0 (eO e).1,λp O z=>by
   rcases Zma.mp O with q|q
   ·exact T7 (show p∈([]:List (WP×Obj)) from q) Zs
   ·exact t p q (z ▸ c)⟩
 have QK:D∉fp:=λz=>T7 (TD (Z D z) A) (lt_irrefl _)
 have one:∀ {ob:Obj},∀p∈[(D,ob)],p.1∉fp:=λp t=>by
  have e:=Zms.mp t;subst e;exact QK
 have loop:∀K:UV,K={a with heap:=h₁,toks:=a.toks+([]:List (Str×WF)).length } →
   codeAny (model X.prog X.w) X.A (.compLoop (.ListComp elt [⟨tg,iter,ifs,0⟩] scope pos) 0 (.ref it) (.ref D) (compEnvC scope (lV X.env scope.names []) C X.env)) (RR (.ref D) C) K:=by
  rintro K rfl;refine codeAny_loop rfl (λa1 s'=>∃(i:Nat)(f:List V)(J:Hp)(h:List WF)(k:Nat),Inv (qV X scope C N a d fp) [(D,{cls:=.type "list",data:=.seq h.toArray k })] (Ad js l) J s'/\Vals f h/\f.length<=sizeLine/\Q i s'.heap/\(∀b∈fp,J b=none)/\W i a1 f J) ?_ m0 ?_
  ·refine λa1 w=>yE5 λi f r h k=>yA6 λI3 rv hz GI GJ w3=>?_;show wpAny _ X.A ((compTurn (.ListComp elt [⟨tg,iter,ifs,0⟩] scope pos) 0 (.ref it) (.ref D) (compEnvC scope (lV X.env scope.names []) C X.env)).onRaise (λx=>do noteFrame x _;theTreesLotGoes x)) _ _ w;refine wpAny_noted (wpAny_noRaise ?_);rw[compTurn_list];rcases turn i a1 f r w3 with⟨stop,qn⟩|⟨goes,C9,Nx,hN,step⟩
   ·refine Y3 (wpAny_standAt (Y3 (bY (T.done (qV X scope C N a d fp) rfl rfl rfl hc i _ w (Ad js l) r (λ_ _=>False) I3 (MR GJ one) GI stop) ?_)));rintro a4 s4 ⟨hr,B⟩;subst hr;refine Y2 ?_;have j:=B.pin (D,{cls:=.type "list",data:=.seq h.toArray k }) (by simp[qV]);obtain⟨mC,VL,_⟩:=id B.loc;have IX:Inv X P l (aH r D (.lst f)) s4:=by
     refine L.call' (ch:=fp) B.os (Un.more B.base (Heap.get?_none_of_le A) (L.hok.fresh A)) (HOk.more B.hok j.2.1 ⟨hz,h,k,rv,j.1⟩) B.bare λb c=>?_;refine yE0 (f2 b c) (yA6 λ_ f1 _ f3 f4 f5=>?_);exact⟨f3,f1,f4,f5⟩
    exact VJ C D f r s4 mC KA A M IX B.free j.2.1 VL qn
   ·refine Y3 (wpAny_standAt (Y3 (bY (T.item (qV X scope C N a d fp) rfl rfl rfl hc i _ w (Ad js l) r (λ_ _=>False) I3 (MR GJ one) GI goes) ?_)));rintro a4 s4 ⟨a5,hr,h4⟩;subst hr;refine Y3 (bY h4 ?_);refine λ_ s5=>yE2 λx H5=>yA5 λI5 r5 y5 DC LZ=>?_;have MB:=I5.pinned (MR LZ one) (T.obj _ _ DC);refine Y3 (bY (pg _ s5 (Ad js l) H5 x a5 _ MB r5 (go _ _ _ _ (step x H5 y5))) ?_);refine λ_ s6=>yE2 λσ6 H6=>yA2 λI6 ζ=>?_;obtain⟨q6,l6,e6⟩:=ζ;have weak:∀ {s:ZB}{n:Hp}{u:UV},Inv (qV X scope C N a d fp) s σ6 n u->Inv (qV X scope C N a d fp) s (Ad js l) n u:=λ{s n u} G=>by
     refine G.weak l6.symm λa3 v H=>?_
     cases e:js[a3]? with
     | none=>unfold Ad at H;rw[jF,e]at H;cases H
     | some o=>
      cases o with
      | none=>unfold Ad at H;rw[jF,e]at H;cases H
      | some j'=>rw[e6 a3 j' e];exact H
    have CC:∀ {n:Hp}{u:UV}{s:ZB},Inv (qV X scope C N a d fp) (s++tT fp s5.heap) (Ad js l) n u->Q (i+1) u.heap/\∀b∈fp,n b=none:=λ{n u s} G=>by
     refine⟨T.keep _ _ _ DC λb c o e=>(G.pin (b,o) (TW _ (TW _ (kP c e)))).1,λb c=>?_⟩;obtain⟨o,e,a6⟩:=T.obj _ _ DC b c;exact(G.pin (b,o) (TW _ (TW _ (kP c e)))).2.1
    refine Y3 (bY (pt _ s6 σ6 H6 _ _ I6 q6) ?_);rintro ok u ⟨n,G,q7⟩
    cases ok with
    | false=>
     rw[T8 Y1]at q7;refine Y2 ⟨rfl,?_⟩;obtain⟨m',O,w7⟩:=hN f n q7;have QL:=weak G;obtain⟨k1,k2⟩:=CC QL;exact⟨m',O,i+1,f,n,h,k,QL.unpinned,rv,hz,k1,k2,w7⟩
    | true=>
     rw[UF rfl]at q7;show wpAny _ _ ((eval elt _>>=λx=>call (.builtin "list.append") [.ref D,x]>>=λ_=>pure ())>>=λ_=>again _) _ _ _;refine Y3 (Y3 (bY (pe _ u σ6 n _ G q7) ?_));refine λy I=>yE2 λyv H8=>yA3 λI8 r8 q8=>?_;obtain⟨m',O,w8⟩:=hN (f++[yv]) H8 q8;have MS:=weak I8;obtain⟨k1,k2⟩:=CC MS;have j:=MS.pin (D,{cls:=.type "list",data:=.seq h.toArray k }) (by simp[qV]);have xc:=rv.length;refine Y3 (call_meets F.slot_list_append ⟨_,j.1,rfl⟩ F.entry_list_append (F.args_list_append_2 _ _) (PySem.list_append D h.toArray k y (by rw[iA];omega)) ⟨j.1,?_⟩);refine Y2 (Y2 ⟨rfl,m',O,i+1,f++[yv],H8,h++[y],?_⟩);have q:=PySem.IsL.update j.1 (λz=>z.push y);have eA:h.toArray.push y=(h++[y]).toArray:=by simp
     rw[eA]at q;have I9:Inv (qV X scope C N a d fp) [] (Ad js l) H8 I:=MS.pins_of λp t=>T7 t Zs
     have QM:∀b o,b≠D->I.heap.get? b=some o->(I.heap.update D (Obj.mapSeq λz=>z.push y)).get? b=some o:=λb o c hu=>(Heap.get?_update_other I.heap _ (Ne.symm c)).trans hu
     have VM:Inv (qV X scope C N a d fp) [] (Ad js l) H8 {I with heap:=I.heap.update D (Obj.mapSeq λz=>z.push y),toks:=I.toks }:=I9.turned QM j.2.1 j.2.2.1 (.inr A)
      (λx a0 e z=>by
       obtain⟨v,oc,q1,q2⟩:=L.cell x a0 (eO e).1;rw[z]at q1;exact T7 (TD (Heap.lt_size q1) A) (lt_irrefl _))
      (λp t=>by
       rcases Zma.mp t with q|q
       ·exact T7 (show p∈([]:List (WP×Obj)) from q) Zs
       ·exact T7 q Zs)
     refine⟨(if ((h++[y]).toArray).size==h.toArray.size then k else k+1),VM.pins_of λp t=>?_,rv.append (.cons r8 .nil),?_,?_,k2,w8⟩
     ·have e:=Zms.mp t;subst e;exact⟨q,j.2.1,j.2.2.1,j.2.2.2.1,λv z=>nomatch z⟩
     ·rw[gQ,length_singleton];omega
     ·exact T.keep _ _ _ k1 λb c o e=>QM b o (λz=>QK (z▸c)) e
  ·exact⟨0,[],d,[],0,I0,.nil,zero_le _,T.keep _ _ _ AV λb _ o e=>old b o e,λb c=>(f2 b c).1,w0⟩
 exact codeAny_compStart_list (loop _ rfl) (T.self _ 0 _ _ _ (T.keep _ _ _ AV λb _ o e=>old b o e) (loop _ rfl))
def Ua(r:X.calm=true)(S:CompScope X scope N js)(go:Dp js g)(t:PI X tg iter wi)(j:∀(C:WP)(f:UV)(i:Hp)(fp:List WP),PG (qV X scope C N f i fp) tg g/\PTs (qV X scope C N f i fp) ifs tt/\PE (qV X scope C N f i fp) elt te)(hs:∀x,foldedSetIterable iter X.env x=pure x:=by intro _;rfl):PE X (.ListComp elt [⟨tg,iter,ifs,0⟩] scope pos) (Np wi js g tt te):=by
 intro k s n H Q I h;rw[eval_ListComp];refine wpAny_comprehension_free (use:=none) rfl hs (uB λy u w=>I.ok.has y.1 (S.out y u w)) S.kind S.loc (bY (t k s n H _ I h) λv W A=>bY A λY Z B=>?_);revert B;refine yE5 λit fp tn a0 H2=>yA6 λe a T E f2 F=>?_;subst e;refine uE (RR:=λo C=>compPost (model X.prog X.w) X.A X.xe none (EP X k n Q) o C) r S go j a T E f2 F ?_;intro C D G J K m d hD L M O P R q;refine⟨m,R,λh' U=>?_⟩;refine⟨.ref D,aH J D (.lst G),M.turned (it:=C) (t':=K.toks) (λb a1 j e=>(U.2 b j).trans e) (by rw[aJ (Ne.symm L)];exact O) ?_ (.inr (iB a.sz d)) ?_ ?_,rfl,q D P⟩
 ·exact ne_of_gt (TD a.lt d)
 ·intro x c e z;obtain⟨v,oc,l,q2⟩:=a.cell x c e;rw[z]at l;exact T7 (TD (Heap.lt_size l) d) (lt_irrefl _)
 ·intro p V z;have:=Heap.lt_size (a.pin p V).1;rw[z]at this;exact T7 (TD this d) (lt_irrefl _)
def Ub(t:X.N.Nodup)(m:X.N[i]?=some y)(u:Lz X.env.scope y)(w:X.calm=true)(S:CompScope X scope N js)(go:Dp js g)(A:PI X tg iter wi)(n:∀(C:WP)(j:UV)(k:Hp)(fp:List WP),PG (qV X scope C N j k fp) tg g/\PTs (qV X scope C N j k fp) ifs tt/\PE (qV X scope C N j k fp) elt te)(B:swapsWith (.ListComp elt [⟨tg,iter,ifs,0⟩] scope pos) (some (.Name y b)) o.line X.env=pure true)(hs:∀x,foldedSetIterable iter X.env x=pure x:=by intro _;rfl)(E:X.fn y=true∨X.env.scope.names.lookup y=some .local:=by first|exact .inl rfl|exact .inr rfl|assumption) :
  PS X (.Assign [.Name y b] (.ListComp elt [⟨tg,iter,ifs,0⟩] scope pos) o) (Xe i wi js g tt te):=by
 intro l s σ a0 D I a1;rw[exec_Assign_Name_used _ _ _ _ B];refine Y3 (wpAny_standAt (Y3 ?_));show wpAny _ X.A (do let _ ← comprehension (.ListComp elt [⟨tg,iter,ifs,0⟩] scope pos) scope X.env _ (newList []) false (eval iter X.env) (some (assign (.Name y b) X.env))) _ _ s;refine Y3 (bY (wpAny_comprehension_free (use:=some (assign (.Name y b) X.env)) (Q:=λ_ f=>SP X l D .next f) rfl hs (uB λy m F=>I.ok.has y.1 (S.out y m F)) S.kind S.loc
  (bY (A l s σ a0 _ I a1) λv s1 G=>bY G λJV s2 H=>?_)) λ_ f J=>Y2 (Y2 J))
 revert H;refine yE5 λit fp tn a7 H2=>yA6 λe d a2 K f2 L=>?_;subst e;refine uE (RR:=λr C=>compPost (model X.prog X.w) X.A X.xe (some (assign (.Name y b) X.env)) (λ_ f=>SP X l D .next f) r C) w S go n d a2 K f2 L ?_;intro C Da ys H3 s3 a3 h hD M O P R T a4;have cne:∀x c,X.env.cells.lookup x=some c->c≠C:=λx c e z=>by
  obtain⟨v,oc,p,q2⟩:=d.cell x c e;rw[z]at p;exact T7 (TD (Heap.lt_size p) h) (lt_irrefl _)
 have q:C≠X.env.locals:=ne_of_gt (TD d.lt h);show wpAny _ X.A (assign (.Name y b) X.env (.ref Da)) _ _ _;refine wpAny_assign_Name (vN (v:=.ref Da) O t m u rfl (λU V W=>?_) E);obtain⟨a,Y,Z⟩:=W;have aC:C≠a:=by
  rcases Z with z|z
  ·rw[z];exact q
  ·exact Ne.symm (cne y a z)
 refine⟨a3,T.sameBut Y aC,λh' GV=>?_⟩;refine⟨_,_,V.turned (it:=C) (t':=U.toks) (λa5 a8 n e=>(GV.2 a5 n).trans e) (by rw[aJ (Ne.symm M)];exact P) q (.inr (iB d.sz h)) cne ?_,a4 Da R⟩;intro a6 hp z;have:=Heap.lt_size (d.pin a6 hp).1;rw[z]at this;exact T7 (TD this h) (lt_irrefl _)
end
def Its(x:Str):It:=⟨λi _=>i<x.cps.size,λi H v a=>a=H/\∃c,x.cps[i]?=some c/\v=.str ⟨#[c]⟩,λi _=>x.cps.size<=i⟩
def Dq{P:Program}{w:World}{K:W.Frag}{tg:Expr}(it:WP)(x:Str)(t:Tok):xK P w K tg (Its x) [it] it (λi h=>h.IsStrIter it "str_ascii_iterator" x t i) where
 mem:=by simp
 obj:=λi h st b a=>by
  have e:b=it:=by simpa using a
  subst e;obtain⟨o,e,c,d⟩:=st;exact⟨o,e,λv z=>by rw[d]at z;cases z⟩
 keep:=λi h f st k=>let ⟨o,G,r⟩:=st;⟨o,k it Zs o G,r⟩
 item:=by
  intro X l m n C i B s F H E I g st p;subst l m n;refine yE0 (g it Zs) (yA6 λq f1 f2 u y A=>?_);have j:i<x.cps.size:=p;refine wpAny_pyNext_ascii_item st (c:=x.cps[i]) (by simp[j]) λf D J=>?_;have L:Inv X B F H {s with heap:=f,toks:=s.toks+1 }:=I.turned (λb o a e=>(J.2 b a).trans e) q f1 u y A;refine yE0 (id D) (yE1 λo=>yA3 λe c d=>?_);exact⟨_,rfl,Aj (s:={s with heap:=f,toks:=s.toks+1 }) e c d Zd ⟨.str ⟨#[x.cps[i]]⟩,H,L,⟨_,rfl⟩,⟨rfl,_,by simp[j],rfl⟩,D,λb a=>(g b a).1⟩⟩
 done:=by
  intro X l m n C i B s F H E I g st p;subst l m n;refine yE0 (g it Zs) (yA6 λq f1 f2 u y A=>?_);have j:x.cps.size<=i:=p;exact wpAny_pyNext_ascii_end (I.ok.hd C) st (by simp[j]) λf M=>⟨rfl,I.turned (t':=s.toks) (λb o a e=>M b o a e) q f1 u y A⟩
 self:=λ_ _ _ _ _ st h=>wpAny_pyIter_striter_ascii st h
def Jp{P:Program}{w:World}{K:W.Frag}{tg:Expr}(it:WP)(x:Str)(t:Tok):xK P w K tg (Its x) [it] it (λi h=>h.IsStrIter it "str_iterator" x t i) where
 mem:=by simp
 obj:=λi h st b a=>by
  have e:b=it:=by simpa using a
  subst e;obtain⟨o,e,c,d⟩:=st;exact⟨o,e,λv z=>by rw[d]at z;cases z⟩
 keep:=λi h f st k=>let ⟨o,G,r⟩:=st;⟨o,k it Zs o G,r⟩
 item:=by
  intro X l m n C i B s F H E I g st p;subst l m n;refine yE0 (g it Zs) (yA6 λq f1 f2 u y A=>?_);have j:i<x.cps.size:=p;refine wpAny_pyNext_wide_item st (c:=x.cps[i]) (by simp[j]) λf D J=>?_;have L:Inv X B F H {s with heap:=f,toks:=s.toks+1 }:=I.turned (λb o a e=>(J.2 b a).trans e) q f1 u y A;refine yE0 (id D) (yE1 λo=>yA3 λe c d=>?_);exact⟨_,rfl,Aj (s:={s with heap:=f,toks:=s.toks+1 }) e c d Zd ⟨.str ⟨#[x.cps[i]]⟩,H,L,⟨_,rfl⟩,⟨rfl,_,by simp[j],rfl⟩,D,λb a=>(g b a).1⟩⟩
 done:=by
  intro X l m n C i B s F H E I g st p;subst l m n;refine yE0 (g it Zs) (yA6 λq f1 f2 u y A=>?_);have j:x.cps.size<=i:=p;exact wpAny_pyNext_wide_end (I.ok.hd C) st (by simp[j]) λf M=>⟨rfl,I.turned (t':=s.toks) (λb o a e=>M b o a e) q f1 u y A⟩
 self:=λ_ _ _ _ _ st h=>wpAny_pyIter_striter_wide st h
section
variable {X:Cx}{tg:Expr}
def aB4(a:TE):TI:=λc H R=>a c H λx b=>∃z,x=.str z/\R (Its z) b
def aAk{l:Expr}{g:TE}(k:PE X l g):PI X tg l (aB4 g):=by
 intro f s r H R I h;refine bY (k f s r H _ I h) ?_;rintro v a ⟨x,d,c,m,n⟩
 obtain⟨z,rfl,q⟩:=n;obtain⟨t,rfl⟩:=m;have i:∀b∈[a.heap.objs.size],qZ X f d b:=λb p=>by
  have e:b=a.heap.objs.size:=by simpa using p
  subst e;exact c.fpOk (cE _) (c.hok.fresh (cE _))
 cases j:z.cps.all (·<128)
 ·refine wpAny_pyIter_wide j ?_;exact⟨a.heap.objs.size,[a.heap.objs.size],_,_,d,rfl,c.kept (t':=a.toks) λb o e=>hV _ e,Jp _ z t,⟨_,W1 _ rfl,rfl,rfl⟩,i,q⟩
 ·refine wpAny_pyIter_ascii j ?_;exact⟨a.heap.objs.size,[a.heap.objs.size],_,_,d,rfl,c.kept (t':=a.toks) λb o e=>hV _ e,Dq _ z t,⟨_,W1 _ rfl,rfl,rfl⟩,i,q⟩
end
abbrev tx(l:List Nat):Str:=⟨l.toArray⟩
def lY(x:Str):tx x.cps.toList=x:=by cases x;simp
def dC(l:List Nat):(tx l).length=l.length:=by simp[Str.length]
def yB:tx a=tx b↔a=b:=by
 constructor
 ·intro h;have:=congrArg (λs:Str=>s.cps.toList) h;simpa using this
 ·intro h;rw[h]
def gC(x y:Str):(x++y).cps.toList=x.cps.toList++y.cps.toList:=by
 show(Str.append x y).cps.toList=_;unfold Str.append;simp
def cP(xs:List a)(lo b:Option Int):List a:=(xs.drop (HT.sIx xs.length 0 lo)).take (HT.sIx xs.length xs.length b-HT.sIx xs.length 0 lo)
def pT(xs:List b)(lo a:Option Int):(cP xs lo a).length<=xs.length:=by
 unfold cP;rw[fM,length_drop];omega
def Gk(n d:Nat)(v:Option Int):(match v with|none=>(d:Int)|some i=>max 0 (min (if i<0 then i+(n:Int) else i) (n:Int)))=((HT.sIx n d v:Nat):Int):=by
 cases v with
 | none=>rfl
 | some i=>
  show max 0 (min (if i<0 then i+(n:Int) else i) (n:Int))=(((if i<0 then (i+(n:Int)).toNat else min i.toNat n):Nat):Int);by_cases h:i<0
  ·rw[UF h,UF h];omega
  ·rw[T8 h,T8 h];omega
def Nq(lo a:Option Int)(n:Nat):Builtin.Str.strSliceIndices lo a 1 n=(List.range (HT.sIx n n a-HT.sIx n 0 lo)).map (HT.sIx n 0 lo+·):=by
 rw[<- sliceRange_one,<- Gk n 0 lo,<- Gk n n a];unfold Builtin.Str.strSliceIndices;simp only [show(1:Int)>0 by decide,if_true];cases lo<;>cases a<;>rfl
def Uc(n d:Nat)(a:d<=n)(v:Option Int):HT.sIx n d v<=n:=by
 cases v with
 | none=>exact a
 | some i=>
  show(if i<0 then (i+(n:Int)).toNat else min i.toNat n)<=n;split<;>omega
def Jq(x:Str)(lo a:Option Int):(Txt.slice x lo a).cps.toList=cP x.cps.toList lo a:=by
 have c:x.cps.toList.length=x.length:=by simp[Str.length]
 unfold Txt.slice cP;rw[c,Nq];have key:=pick_run x.cps (HT.sIx x.length 0 lo) (HT.sIx x.length x.length a-HT.sIx x.length 0 lo);split
 ·rename_i h;have d:(HT.sIx x.length x.length a-HT.sIx x.length 0 lo)=x.length:=by simpa using h
  have f:=Uc x.length x.length (cE _) a;have b:HT.sIx x.length 0 lo=0∨x.length=0:=by omega
  rw[d];rcases b with b|b
  ·rw[b,drop_zero,qU (by rw[c];exact cE _)]
  ·have e:x.cps.toList=[]:=List.eq_nil_of_length_eq_zero (by rw[c];exact b);rw[e];simp
 ·simpa using key
def Nr(x:Str)(lo a:Option Int):Txt.slice x lo a=tx (cP x.cps.toList lo a):=by
 rw[<- Jq,lY]
section
variable {X:Cx}
def aDu:V->Option Int->Option Int->Hp->VK->Prop:=λx lo a H Q=>∃z,x=.str z/\z.length<=sizeLine/\Q (.str (tx (cP z.cps.toList lo a))) H
def Dr{h:Heap}{sl:WP}{a b:WF}{lo c:Option Int}(hs:h.IsSliceOf sl a b .none)(pl:IsPart a lo)(d:IsPart b c):∃l u:Option (Int×Tok),h.IsSlice sl l u none/\l.map (·.1)=lo/\u.map (·.1)=c:=by
 cases pl with
 | none=>
  cases d with
  | none=>exact⟨none,none,hs,rfl,rfl⟩
  | int j t=>exact⟨none,some (j,t),hs,rfl,rfl⟩
 | int i t=>
  cases d with
  | none=>exact⟨some (i,t),none,hs,rfl,rfl⟩
  | int j u=>exact⟨some (i,t),some (j,u),hs,rfl,rfl⟩
def aAl:SlR X aDu:=by
 intro c s p H x v r w lo b sl Q I e f g i h;obtain⟨z,rfl,j,q⟩:=h;obtain⟨t,rfl⟩:=e;obtain⟨l,u,m,n,o⟩:=Dr f g i;refine⟨"str",_,F.slot_str_getitem.lookup,typeIs_str _ _ _,wpAny_getItem_str_slice m rfl ?_⟩;have d:∀a k,EP X c p Q (.str (Txt.slice z lo b) a) {s with toks:=k }:=λa k=>⟨.str (tx (cP z.cps.toList lo b)),H,I.tok _,⟨a,by rw[Nr]⟩,q⟩
 subst n o;exact post_val_or_str ⟨iB (Txt.slice_le z _ _) j,λa k=>d a k⟩
def Ds:∀ {us:List WF},Vals (ns.map V.str) us->StrsAre us ns:=by
 induction ns with
 | nil=>intro us r;rw[map_nil]at r;cases r;exact .nil
 | cons n ns a=>
  intro us r;rw[map_cons]at r;cases r with
  | cons b c=>
   obtain⟨t,e⟩:=b;subst e;exact .cons n t (a c)
def Nt(K:W.Frag):V->List V->Hp->VK->Prop:=λx c H Q=>∃b p a,x=.str b/\c=[.ref p]/\SqL K H p (a.map V.str)/\(a.map (·.length)).sum+a.length*b.length<=16777216/\Q (.str (Txt.join b a)) H
def Ud:Ma X "str.join" (Nt X.K):=by
 intro g s w H x l v m Q I a b h;revert h;refine yE3 λi p n=>yA5 λζ η c d q=>?_;subst ζ η;obtain⟨t,rfl⟩:=a;obtain⟨u,rfl,e⟩:=b.one;cases e;obtain⟨j,r,f,_⟩:=I.list c;exact join_list f.isList (by simpa using Ds r) d λo k=>⟨.str _,H,I.tok _,⟨_,rfl⟩,q⟩
def aDv(K:W.Frag):List V->Hp->VK->Prop:=λa H Q=>∃x T t b,a=[x,.ty T]/\pP K H x t/\W.kitOne K t (.type T)=some b/\Q (.bl b) H
def Nu:CallR X (.builtin "isinstance") (aDv X.K):=by
 intro j s l H k a Q I r h;revert h;refine yE4 λx T t b=>yA4 λζ ty e q=>?_;subst ζ;obtain⟨u,c,rfl,d,f⟩:∃u c,a=[u,c]/\RelV x u/\RelV (.ty T) c:=by
  cases r with
  | cons p q=>
   cases q with
   | cons g i=>
    cases i;exact⟨_,_,rfl,p,g⟩
 cases(show c=Value.type T from f);exact Jg I d ty e λtk=>⟨.bl b,H,I.tok _,rfl,q⟩
def rT:∀ {us:List WF},Vals (ns.map V.bl) us->PyProof.Rows.LSm.BoolsAre us ns:=by
 induction ns with
 | nil=>intro us r;rw[map_nil]at r;cases r;exact .nil
 | cons n ns a=>
  intro us r;rw[map_cons]at r;cases r with
  | cons b c=>
   have e:=b;cases(show _=Value.bool n from e);exact .cons n (a c)
def aAm(K:W.Frag):List V->Hp->VK->Prop:=λa H Q=>∃(p:WP)(bs:List Bool),a=[.ref p]/\SqL K H p (bs.map V.bl)/\Q (.bl (bs.all id)) H
def aAn(K:W.Frag):List V->Hp->VK->Prop:=λa H Q=>∃(p:WP)(bs:List Bool),a=[.ref p]/\SqL K H p (bs.map V.bl)/\Q (.bl (bs.any id)) H
def Nv(g:X.calm=true):CallR X (.builtin "all") (aAm X.K):=by
 intro w s F H x y Q I r h;obtain⟨p,bs,rfl,j,q⟩:=h;obtain⟨u,rfl,k⟩:=lU r;cases k;obtain⟨a,l,m,z⟩:=I.list j;have c:=m.isList;have d:=rT l;have n:p<s.heap.objs.size:=by obtain⟨_,e,_⟩:=c;exact Heap.lt_size e
 refine call_all_walk (wpAny_pyIter_list c ?_);refine⟨s.heap.objs.size,[s.heap.objs.size,p],[s.heap.objs.size],a.toArray.size,_,_,λi=>(bs[i]?).getD true,rfl,Walks.list (A:=X.A.in1) (I.ok.hd g) _ p (ne_of_lt n) a.toArray,
  ⟨⟨_,W1 _ rfl,rfl,rfl⟩,c.push _⟩,λi v B C D o f=>?_,λE tk t=>?_⟩
 ·obtain⟨b,e,rfl⟩:=d.get i v (by simpa using o);simp only [e,Option.getD_some]at f;exact wpAny_truthy_bool f
 ·have e:((List.range a.toArray.size).all λi=>(bs[i]?).getD true)=bs.all id:=by
   rw[iA,d.length];exact PyProof.Rows.LSm.range_all bs
  rw[e];exact⟨.bl _,H,I.kept (PyProof.Rows.LSm.kept_iter t),rfl,q⟩
def Nw(g:X.calm=true):CallR X (.builtin "any") (aAn X.K):=by
 intro w s F H x y Q I r h;obtain⟨p,bs,rfl,j,q⟩:=h;obtain⟨u,rfl,k⟩:=lU r;cases k;obtain⟨a,l,m,z⟩:=I.list j;have c:=m.isList;have d:=rT l;have n:p<s.heap.objs.size:=by obtain⟨_,e,_⟩:=c;exact Heap.lt_size e
 refine call_any_walk (wpAny_pyIter_list c ?_);refine⟨s.heap.objs.size,[s.heap.objs.size,p],[s.heap.objs.size],a.toArray.size,_,_,λi=>(bs[i]?).getD false,rfl,Walks.list (A:=X.A.in1) (I.ok.hd g) _ p (ne_of_lt n) a.toArray,
  ⟨⟨_,W1 _ rfl,rfl,rfl⟩,c.push _⟩,λi v B C D o f=>?_,λE tk t=>?_⟩
 ·obtain⟨b,e,rfl⟩:=d.get i v (by simpa using o);simp only [e,Option.getD_some]at f;exact wpAny_truthy_bool f
 ·have e:((List.range a.toArray.size).any λi=>(bs[i]?).getD false)=bs.any id:=by
   rw[iA,d.length];exact PyProof.Rows.LSm.range_any bs
  rw[e];exact⟨.bl _,H,I.kept (PyProof.Rows.LSm.kept_iter t),rfl,q⟩
end
section
variable {X:Cx}
def rE(K:W.Frag)(d:Bool):R2:=λx y H Q=>∃(a b:WP)(c:List V),x=.ref a/\y=.ref b/\SqL K H a c/\SqL K H b []/\Q (.bl (if d then !c.isEmpty else c.isEmpty)) H
def nD(r:Vals [] us):us=[]:=by cases r;rfl
def Ny(c:X.A.units<cLine):OpR X (compareOp .Eq) (rE X.K false):=by
 intro w s D H x y v u Q I i k h;revert h;refine yE3 λa b l=>yA5 λζ η m n q=>?_;subst ζ η;cases i;cases k;obtain⟨A,d,f,_⟩:=I.list m;obtain⟨B,o,g,_⟩:=I.list n;have p:=nD o;subst p;have r:=d.length
 cases l with
 | nil=>
  have t:=nD d;subst t;exact SeqAt.eq_listAt (e:=λ_=>true) f.isList g.isList rfl c (λj h=>T7 h Zs) ⟨.bl true,H,I,rfl,q⟩
 | cons z C=>
  exact SeqAt.eq_list_lengthsAt f.isList g.isList (by simp only [iA,<- r];simp) c ⟨.bl false,H,I,rfl,q⟩
def Nz(c:X.A.units<cLine):OpR X (compareOp .NotEq) (rE X.K true):=by
 intro w s D H x y v u Q I i k h;revert h;refine yE3 λa b l=>yA5 λζ η m n q=>?_;subst ζ η;cases i;cases k;obtain⟨A,d,f,_⟩:=I.list m;obtain⟨B,o,g,_⟩:=I.list n;have p:=nD o;subst p;have r:=d.length
 cases l with
 | nil=>
  have t:=nD d;subst t;exact SeqAt.RcNeAt.lists (e:=λ_=>true) f.isList g.isList rfl c (λj h=>T7 h Zs) _ _ _ _ ⟨.bl false,H,I,rfl,q⟩
 | cons z C=>
  exact SeqAt.RcNeAt.lists_lengths f.isList g.isList (by simp only [iA,<- r];simp) c _ _ _ _ ⟨.bl true,H,I,rfl,q⟩
end
def mB(x:V)(k:Bool->Prop):Prop:=match x with|.bl b=>k b|_=>False
def mI(x:V)(k:Int->Prop):Prop:=match x with|.int b=>k b|_=>False
def mS(x:V)(k:Str->Prop):Prop:=match x with|.str b=>k b|_=>False
def mR(x:V)(k:WP->Prop):Prop:=match x with|.ref b=>k b|_=>False
def wF(x:V)(k:Bool->Prop):mB x k=∃b,x=.bl b/\k b:=by
 cases x<;>simp[mB]
def lZ(x:V)(k:Int->Prop):mI x k=∃b,x=.int b/\k b:=by
 cases x<;>simp[mI]
def iG(x:V)(k:Str->Prop):mS x k=∃b,x=.str b/\k b:=by
 cases x<;>simp[mS]
def bS(x:V)(k:WP->Prop):mR x k=∃b,x=.ref b/\k b:=by
 cases x<;>simp[mR]
def eY(h:Nat.ble n 1000=true):n<=sizeLine:=iB (Nat.le_of_ble_eq_true h) Zd
def dD(h:n<=1000):n<=sizeLine:=iB h Zd
section
variable {X:Cx}{a b c e:Expr}{ta tb tc te:TE}{pos:Pos}
def vr(i:Nat):TE:=λd H Q=>match d[i]? with|some (some v)=>Q v H|_=>False
def aB5(i:Nat):vr i=Yh i:=by
 funext d H Q
 unfold vr Yh;apply propext
 cases d[i]? with
 | none=>simp
 | some o=>cases o<;>simp
def xv(i:Nat)(d:X.N[i]?=some x:=by rfl)(f:Yg X.env.scope x:=by first|exact Or.inl rfl|exact Or.inr (Or.inl rfl)|exact Or.inr (Or.inr rfl))(g:(x==("__debug__":Str))=false:=by decide)(h:(x==("__classdict__":Str))=false:=by decide):PE X (.Name x pos) (vr i):=by
 rw[aB5];exact Yi d f g h
def OpR.imp(h:OpR X f r)(i:∀x y H Q,d x y H Q->r x y H Q):OpR X f d:=λg s l H x y v u Q I j k q=>h g s l H x y v u Q I j k (i x y H Q q)
def UnR.imp(h:UnR X f r)(i:∀x H Q,d x H Q->r x H Q):UnR X f d:=λg s k H x v Q I j q=>h g s k H x v Q I j (i x H Q q)
def CallR.imp(h:CallR X f r)(i:∀xs H Q,d xs H Q->r xs H Q):CallR X f d:=λg s l H xs j Q I k q=>h g s l H xs j Q I k (i xs H Q q)
def IxR.imp(h:IxR X r)(i:∀x y H Q,d x y H Q->r x y H Q):IxR X d:=λf slice g s l H x y v u Q I j k q=>h f slice g s l H x y v u Q I j k (i x y H Q q)
def SlR.imp(h:SlR X r)(i:∀x l u H Q,d x l u H Q->r x l u H Q):SlR X d:=λg s t H x v j k lo f sl Q I m n o p q=>h g s t H x v j k lo f sl Q I m n o p (i x lo f H Q q)
def m2(C:Int->Int->Prop)(g:Int->Int->V):R2:=λx y H Q=>mI x λi=>mI y λj=>C i j/\Q (g i j) H
def Mb(g:Int->Int->V):R2:=λx y H Q=>mI x λi=>mI y λj=>Q (g i j) H
def pU(x y:V)(H:Hp)(Q:VK)(h:Mb g x y H Q):Wy g x y H Q:=by
 unfold Mb at h;rw[lZ]at h;obtain⟨i,rfl,h⟩:=h;rw[lZ]at h;obtain⟨j,rfl,h⟩:=h;exact⟨i,j,rfl,rfl,h⟩
def yC(x y:V)(H:Hp)(Q:VK)(h:m2 C g x y H Q):rI C g x y H Q:=by
 unfold m2 at h;rw[lZ]at h;obtain⟨i,rfl,h⟩:=h;rw[lZ]at h;obtain⟨j,rfl,d,h⟩:=h;exact⟨i,j,rfl,rfl,d,h⟩
def aB6:OpR X (binaryOp .Add) (Mb λi j=>.int (i+j)):=Zj.imp pU
def aB7:OpR X (binaryOp .Sub) (Mb λi j=>.int (i-j)):=Zl.imp pU
def aB8:OpR X (binaryOp .Mult) (m2 CMul λi j=>.int (i*j)):=Zm.imp yC
def aB9:OpR X (binaryOp .Mod) (m2 (λ_ j=>0<j) λi j=>.int (i%j)):=Zp.imp yC
def aCa:OpR X (binaryOp .Pow) (m2 Td λi j=>.int (i^j.toNat)):=Zq.imp yC
def aDw:OpR X (compareOp .Lt) (Mb λi j=>.bl (decide (i<j))):=aBT.imp pU
def aDx:OpR X (compareOp .LtE) (Mb λi j=>.bl (decide (i<=j))):=aBU.imp pU
def aDy:OpR X (compareOp .Gt) (Mb λi j=>.bl (decide (j<i))):=aBV.imp pU
def Oa:R2:=λx y H Q=>mS x λi=>mS y λj=>i.length+j.length<=sizeLine/\Q (.str (i++j)) H
def aAo:OpR X (binaryOp .Add) Oa:=De.imp λx y H Q h=>by
 unfold Oa at h;rw[iG]at h;obtain⟨i,rfl,h⟩:=h;rw[iG]at h;obtain⟨j,rfl,d,h⟩:=h;exact⟨i,j,rfl,rfl,d,h⟩
def mEq:R2:=λx y H Q=>match x,y with
 | .int i,.int j=>Q (.bl (decide (i=j))) H
 | .str i,.str j=>Q (.bl (decide (i=j))) H
 | .bl i,.bl j=>Q (.bl (decide (i=j))) H
 | .non,.non=>Q (.bl true) H
 | .int _,.non=>Q (.bl false) H|.non,.int _=>Q (.bl false) H
 | .str _,.non=>Q (.bl false) H|.non,.str _=>Q (.bl false) H
 | .bl _,.non=>Q (.bl false) H|.non,.bl _=>Q (.bl false) H
 | .int _,.str _=>Q (.bl false) H|.str _,.int _=>Q (.bl false) H
 | .bl _,.str _=>Q (.bl false) H|.str _,.bl _=>Q (.bl false) H
 | _,_=>False
def mNe:R2:=λx y H Q=>match x,y with
 | .int i,.int j=>Q (.bl (!decide (i=j))) H
 | .str i,.str j=>Q (.bl (!decide (i=j))) H
 | .bl i,.bl j=>Q (.bl (!decide (i=j))) H
 | .non,.non=>Q (.bl false) H
 | .int _,.non=>Q (.bl true) H|.non,.int _=>Q (.bl true) H
 | .str _,.non=>Q (.bl true) H|.non,.str _=>Q (.bl true) H
 | .bl _,.non=>Q (.bl true) H|.non,.bl _=>Q (.bl true) H
 | .int _,.str _=>Q (.bl true) H|.str _,.int _=>Q (.bl true) H
 | .bl _,.str _=>Q (.bl true) H|.str _,.bl _=>Q (.bl true) H
 | _,_=>False
def aCb:OpR X (compareOp .Eq) mEq:=aBR.imp λx y H Q h=>by
 unfold rEq;cases x<;>cases y<;>first|exact h.elim|exact⟨rfl,h⟩|(refine⟨rfl,?_⟩;have h:Q (.bl _) H:=h;simpa using h)
def aDA:OpR X (compareOp .NotEq) mNe:=aBS.imp λx y H Q h=>by
 unfold rNe;cases x<;>cases y<;>first|exact h.elim|exact⟨rfl,h⟩|(refine⟨rfl,?_⟩;have h:Q (.bl _) H:=h;simpa using h)
def Jr(d:Bool):R2:=λx y H Q=>mS x λi=>mS y λj=>∃c,i=tx [c]/\Q (.bl (if d then !decide (c∈j.cps.toList) else decide (c∈j.cps.toList))) H
def aCc:OpR X (compareOp .In) (Jr false):=Jc.imp λx y H Q h=>by
 unfold Jr at h;rw[iG]at h;obtain⟨i,rfl,h⟩:=h;rw[iG]at h;obtain⟨j,rfl,c,rfl,h⟩:=h;refine⟨_,j,rfl,rfl,?_⟩;have e:=StrLaws.found_one j c;have d:(!(Builtin.Str.occurrences j (tx [c]) 0 j.length 1).isEmpty)=decide (c∈j.cps.toList):=e;rw[d];exact h
def Ob:OpR X (compareOp .NotIn) (Jr true):=xW.imp λx y H Q h=>by
 unfold Jr at h;rw[iG]at h;obtain⟨i,rfl,h⟩:=h;rw[iG]at h;obtain⟨j,rfl,c,rfl,h⟩:=h;refine⟨_,j,rfl,rfl,?_⟩;have e:=StrLaws.found_one j c;have d:(!(Builtin.Str.occurrences j (tx [c]) 0 j.length 1).isEmpty)=decide (c∈j.cps.toList):=e;rw[d];exact h
def aCd:OpR X (compareOp .Is) (λx y H Q=>match y with|.non=>Q (.bl (decide (x=.non))) H|_=>False):=Zt.imp λx y H Q h=>by
 cases y<;>first|exact⟨rfl,h⟩|exact h.elim
def mT(t:TE):TT:=λf H Q=>t f H λx d=>mB x λk=>Q k d
def Xf(t:TE):mT t=Ga t:=by
 funext f H Q
 unfold mT Ga;congr 1
 funext x d
 exact wF x _
def aAp(t:TE):mT t=tB t:=by
 funext f H Q
 unfold mT tB;congr 1
 funext x d
 exact wF x _
def aCe{op:CmpOp}(d:OpR X (compareOp op) r)(f:PE X a ta)(g:PE X b tb)(h:behindInMarks op b=false:=by first|exact xL _|rfl):PT X (.Compare a [op] [b] pos) (mT (vP r ta tb)):=by
 rw[Xf];exact Tf d f g h
def aCf{op:CmpOp}(d:OpR X (compareOp op) r)(f:PE X a ta)(g:PE X b tb)(h:behindInMarks op b=false:=by first|exact xL _|rfl):PE X (.Compare a [op] [b] pos) (vP r ta tb):=Te d f g h
def rF(r g:R2)(ta tb tc:TE):TE:=λd H Q=>ta d H λx h=>tb d h λy i=>r x y i λz f=>mB z λk=>(if k=true then tc d f λj l=>g y j l Q else Q (.bl false) f)
def wG(r d:R2)(ta tb tc:TE):rF r d ta tb tc=xM r d ta tb tc:=by
 funext i H Q
 unfold rF xM;congr 1
 funext x f
 congr 1
 funext y g
 congr 1
 funext z h
 exact wF z _
def Ue{op d:CmpOp}(g:OpR X (compareOp op) r)(h:OpR X (compareOp d) f)(i:PE X a ta)(j:PE X b tb)(k:PE X c tc)(l:lastMarks [op,d] [b,c]=false:=by with_unfolding_all rfl):PE X (.Compare a [op,d] [b,c] pos) (rF r f ta tb tc):=by
 rw[wG];exact Mr g h i j k l
def Uf{op d:CmpOp}(g:OpR X (compareOp op) r)(h:OpR X (compareOp d) f)(i:PE X a ta)(j:PE X b tb)(k:PE X c tc)(l:lastMarks [op,d] [b,c]=false:=by with_unfolding_all rfl):PT X (.Compare a [op,d] [b,c] pos) (mT (rF r f ta tb tc)):=by
 rw[Xf,wG];exact Ms g h i j k l
def aCg(h:PE X e t)(d:∀whole,isTrue e X.env whole=(do let v←whole;standAt e.pos;holding [v] (truthy v)):=by intro _;rfl):PT X e (mT t):=by
 rw[aAp];exact Ym h d
def Gm(ta tb:TE):TE:=λf H Q=>ta f H λx d=>mB x λc=>if c=true then tb f d Q else Q (.bl false) d
def Ug(ta tb:TE):TE:=λf H Q=>ta f H λx d=>mB x λc=>if c=true then Q (.bl true) d else tb f d Q
def Gn(ta:TE):TE:=λf H Q=>ta f H λx d=>mB x λc=>Q (.bl (!c)) d
def aCh(d:PE X a ta)(f:PE X (.BoolOp .And (b::rest) pos) tb):PE X (.BoolOp .And (a::b::rest) pos) (Gm ta tb):=by
 have:Gm ta tb=Mf ta tb:=by
  funext h H Q;unfold Gm Mf;congr 1;funext x g;exact wF x _
 rw[this];exact Yt d f
def aDB(d:PE X a ta)(f:PE X (.BoolOp .Or (b::rest) pos) tb):PE X (.BoolOp .Or (a::b::rest) pos) (Ug ta tb):=by
 have:Ug ta tb=Yr ta tb:=by
  funext h H Q;unfold Ug Yr;congr 1;funext x g;exact wF x _
 rw[this];exact aBJ d f
def aCi(d:PE X a ta):PE X (.UnaryOp .Not a pos) (Gn ta):=by
 have:Gn ta=Mg ta:=by
  funext g H Q;unfold Gn Mg;congr 1;funext x f;exact wF x _
 rw[this];exact Yu d
def aCj(d:PE X a ta):PE X (.UnaryOp .USub a pos) (tUn (λx H Q=>mI x λi=>Q (.int (-i)) H) ta):=aBP (Zr.imp λx H Q h=>by
 rw[lZ]at h;obtain⟨i,rfl,h⟩:=h;exact⟨i,rfl,h⟩) d
def Dt(K:W.Frag):R2:=λx y H Q=>mR x λp=>mI y λi=>∃d,SqL K H p d/\∃v,eK d i=some v/\Q v H
def Du(K:W.Frag):R2:=λx y H Q=>mR x λp=>mI y λi=>∃d,SqT K H p d/\∃v,eK d i=some v/\Q v H
def aAq:R2:=λx y H Q=>mS x λz=>mI y λi=>z.length<=sizeLine/\∃c,eK z.cps.toList i=some c/\Q (.str (tx [c])) H
def aAr:IxR X (Dt X.K):=To.imp λx y H Q h=>by
 unfold Dt at h;rw[bS]at h;obtain⟨p,rfl,h⟩:=h;rw[lZ]at h;obtain⟨i,rfl,d,f,v,g,h⟩:=h;exact⟨p,d,i,v,rfl,rfl,f,g,h⟩
def aCk:IxR X (Du X.K):=Zz.imp λx y H Q h=>by
 unfold Du at h;rw[bS]at h;obtain⟨p,rfl,h⟩:=h;rw[lZ]at h;obtain⟨i,rfl,d,f,v,g,h⟩:=h;exact⟨p,d,i,v,rfl,rfl,f,g,h⟩
def aCl:IxR X aAq:=aAa.imp λx y H Q h=>by
 unfold aAq at h;rw[iG]at h;obtain⟨z,rfl,h⟩:=h;rw[lZ]at h;obtain⟨i,rfl,d,c,f,h⟩:=h;exact⟨z,i,c,rfl,rfl,d,f,h⟩
def aDC(d:IxR X r)(f:PE X a ta)(g:PE X b tb)(hs:xR b:=by exact λ_ _=>rfl):PE X (.Subscript a b pos) (vP r ta tb):=aBZ d f g hs
def wH(t:TE):TO:=λf H Q=>t f H λx d=>mI x λi=>Q (some i) d
def aAs(h:PE X e te):PO X (some e) (wH te):=by
 have:wH te=Mz te:=by
  funext f H Q;unfold wH Mz;congr 1;funext x d;exact lZ x _
 rw[this];exact Tm h
def aAt:V->Option Int->Option Int->Hp->VK->Prop:=λx lo d H Q=>mS x λz=>z.length<=sizeLine/\Q (.str (tx (cP z.cps.toList lo d))) H
def aCm:SlR X aAt:=aAl.imp λx l u H Q h=>by
 unfold aAt at h;rw[iG]at h;obtain⟨z,rfl,d,h⟩:=h;exact⟨z,rfl,d,h⟩
def Js(K:W.Frag):V->Option Int->Option Int->Hp->VK->Prop:=λx lo f H Q=>mR x λa=>∃d,SqL K H a d/\∀p,H p=none->Q (.ref p) (aH H p (.lst (cP d lo f)))
def aAu:SlR X (Js X.K):=Tp.imp λx l u H Q h=>by
 unfold Js at h;rw[bS]at h;obtain⟨a,rfl,d,f,h⟩:=h;exact⟨a,d,rfl,f,h⟩
def aAv:CallR X (.builtin "len") (λvs H Q=>match vs with|[.str z]=>z.length<=sizeLine/\Q (.int z.length) H|_=>False):=xY.imp λvs H Q h=>by
 split at h
 ·rename_i z;exact⟨z,rfl,h.1,h.2⟩
 ·exact h.elim
def aAw:CallR X (.builtin "len") (λvs H Q=>match vs with|[.ref p]=>∃d,(SqL X.K H p d∨SqT X.K H p d)/\Q (.int d.length) H|_=>False):=xX.imp λvs H Q h=>by
 split at h
 ·rename_i p;obtain⟨d,f,h⟩:=h;exact⟨p,d,rfl,f,h⟩
 ·exact h.elim
def aCn:CallR X (.type "int") (λvs H Q=>match vs with|[.bl k]=>Q (.int (if k then 1 else 0)) H|_=>False):=Jf.imp λvs H Q h=>by
 split at h
 ·rename_i k;exact .inr ⟨k,rfl,h⟩
 ·exact h.elim
end
inductive Kd where|non|bl|int|str|lst|tup|dct
def Jt:Kd->String|.non=>"NoneType"|.bl=>"bool"|.int=>"int"|.str=>"str"|.lst=>"list"|.tup=>"tuple"|.dct=>"dict"
def Kof(H:Hp):V->Kd->Prop
 | .non,.non=>True|.bl _,.bl=>True|.int _,.int=>True|.str _,.str=>True
 | .ref a,.lst=>(∃b,H a=some (.lst b))∨∃o b,H a=some (.frz o (.lst b))
 | .ref a,.tup=>∃b,H a=some (.tup b)
 | .ref a,.dct=>∃c,H a=some (.dK c)
 | _,_=>False
def Au:Kd->Kd->Bool|.non,.non=>true|.bl,.bl=>true|.int,.int=>true|.int,.bl=>true|.str,.str=>true|.lst,.lst=>true|.tup,.tup=>true|.dct,.dct=>true|_,_=>false
def Go(K:W.Frag)(a k:Kd):W.kitOne K (.type (Jt k)) (.type (Jt a))=some (Au a k):=by
 cases a<;>cases k<;>first|rfl|kernel_rfl
def aDD{K:W.Frag}{H:Hp}{x:V}{k:Kd}(h:Kof H x k):pP K H x (.type (Jt k)):=by
  cases x<;>cases k<;>first
    | exact h.elim
    | exact .non
    | exact .bl _
    | exact .int _
    | exact .str _
    | (obtain⟨a,e⟩:=h;exact .tup e)
    | (obtain⟨a,e⟩:=h;exact .dK e)
    | (rcases h with⟨a,e⟩ | ⟨o,a,e⟩
       . exact .lst e
       . exact .frz e)
def aAx(a:Kd):List V->Hp->VK->Prop:=λb H Q=>match b with
 | [x,y]=>y=.ty (Jt a)/\∃k,Kof H x k/\Q (.bl (Au a k)) H
 | _=>False
section
variable {X:Cx}
def aCo(a:Kd):CallR X (.builtin "isinstance") (aAx a):=Nu.imp λc H Q h=>by
 unfold aAx at h;split at h
 ·rename_i x y;obtain⟨rfl,k,b,h⟩:=h;exact⟨x,_,_,_,rfl,aDD b,Go X.K a k,h⟩
 ·exact h.elim
variable {e:Expr}{te:TE}{p p2 pos:Pos}{T:Str}
def aAy(b:Kd)(te:TE):TE:=λc H Q=>te c H λx a=>∃k,Kof a x k/\Q (.bl (Au b k)) a
def aCp(a:Kd)(f:PE X e te)(g:Gl X "isinstance")(i:X.mg "isinstance"=none)(j:Gl X T)(l:X.mg T=none)(m:bootBuiltins T=some (.type (Jt a)))(hs:starEach [e,.Name T p2] X.env=(false,eval e X.env)::starEach [.Name T p2] X.env:=by rfl)(n:starEach [.Name T p2] X.env=(false,eval (.Name T p2) X.env)::starEach [] X.env:=by rfl)(o:T≠"__name__":=by decide)(r:(T==("__debug__":Str))=false:=by decide)(t:(backTo pos (starEach [.Name T p2] X.env)).any (·.1)=false:=by rfl) :
  PE X (.Call (.Name "isinstance" p) [e,.Name T p2] [] pos) (aAy a te):=by
 have h:=Al (X:=X) (x:="isinstance") (p:=p) (pos:=pos) (aCo a) g i PyProof.Rows.boot_isinstance (xP f (xP (Fu (v:=.ty (Jt a)) (pos:=p2) j l m rfl o r) xO n) hs) Zd Zd hs t;intro d s c H Q I q;exact h d s c H Q I (by
  show te c H _;have:(λ(x:V) (b:Hp)=>aAx a [x,.ty (Jt a)] b Q)=(λx b=>∃k,Kof b x k/\Q (.bl (Au a k)) b):=by
   funext x b
   apply propext;constructor
   ·rintro⟨_,z⟩;exact z
   ·intro z;exact⟨rfl,z⟩
  exact this ▸ q)
end
structure Callee(P:Program)(w:World)(K:W.Frag)(mg:Y4)(base:Heap)(n:Nat)(x:Str)(ps:List Str)(sp:Sp):Prop where
 ex:∃(f:WP)(fd:FuncData),oS P w K mg base sZ n f fd ps sp/\mg x=some (.ref f)/\W.keepIn K (.ref f)=true/\Binds K fd ps []
section
variable {X:Cx}{n:Nat}{x:Str}{ps:List Str}{sp:Sp}{p pos:Pos}{e:Expr}{es:List Expr}{t:TA}
def Xg(sp:Sp)(t:TA):TE:=λc H Q=>t c H λa b=>sp a b Q E0
def aDE(c:Callee X.prog X.w X.K X.mg X.base n x ps sp)(i:Room n X.A)(j:Gl X x)(k:PA X (e::es) t)(l:(x==("__debug__":Str))=false:=by decide)(m:starEach (e::es) X.env=(false,eval e X.env)::starEach es X.env:=by rfl)(o:(backTo pos (starEach es X.env)).any (·.1)=false:=by rfl):PE X (.Call (.Name x p) (e::es) [] pos) (Xg sp t):=by
 refine yE0 c.ex (yE2 λf w=>yA4 λF r u v=>?_);have h:=Tk (X:=X) (p:=p) (pos:=pos) (E:=E0) F i j r u v (dvs:=[]) .nil Nm k l m o;intro g s d H Q I q;exact h g s d H Q I (by
  show t d H _;have:(λ(a:List V) (b:Hp)=>sp (a++[]) b Q E0)=(λa b=>sp a b Q E0):=by
   funext a b;rw[append_nil]
  rw[this];exact q)
end
structure DefAt(K:W.Frag)(mg:Y4)(x:Str)(st:Stmt)(ps:List Str):Prop where
 ex:∃(f:WP)(fd:FuncData),Fun K x x st f fd/\mg x=some (.ref f)/\Binds K fd ps []
def DefAt.ok{P:Program}{w:World}{K:W.Frag}{mg:Y4}{base:Heap}{x:Str}{st:Stmt}{N ps:List Str}{k:Nat}{sp:Sp}(D:DefAt K mg x st ps)(S:aI N ps (aE st))(len:∀vs H Q E,sp vs H Q E->vs.length=ps.length)(b:∀(f:WP)(a:WF)(A:Around)(outer:List Env)(s:UV)(H:Hp)(vs:List V)(Q:VK)(E:XK),Room k (A.deeper (envOfC x (aE st) s.heap.objs.size f a))->sp vs H Q E →
   ∃t,PSs (cV sZ P w K mg base N x (aE st) f a A outer s H E).nox (bB st) t/\t {nx:=λ_ c=>Q .non c,rt:=Q } (start N vs) H):Callee P w K mg base (k+1) x ps sp:=by
 obtain⟨f,d,F,e,g⟩:=D.ex;exact⟨f,d,F.ok S len (b f),e,F.kp,g⟩
def Oc(a:Scope)(b:List Str)(scope:Scope)(N:List Str)(js:List (Option Nat)):Bool:=
 (scope.kind == .function)&&scope.names.all (λy=>y.2 != .cell)&&scope.names.all (λy=>y.2 != .local||scope.names.lookup y.1==some .local)&&(js.length==N.length)&&
 (List.range js.length).all (λi=>match js[i]? with|some (some j)=>(match N[i]? with|some x=>b[j]? == some x&&scope.names.lookup x==some .free|none=>false)|_=>true)&&
 scope.names.all (λy=>y.2 != .free||a.names.lookup y.1==some .cell||a.names.lookup y.1==some .free)
def CompScope.by(a:Scope)(f:List Str)(g:X.env.scope=a)(h:X.N=f)(ok:Oc a f d N js=true):CompScope X d N js:=by
 unfold Oc at ok;simp only [Bool.and_eq_true]at ok;obtain⟨⟨⟨⟨⟨k,l⟩,m⟩,n⟩,o⟩,p⟩:=ok;refine⟨by simpa using k,λy b=>?_,λy b c=>?_,by simpa using n,λi j e=>?_,λy b c=>?_⟩
 ·have:=all_eq_true.mp l y b;simpa using this
 ·have:=all_eq_true.mp m y b;rw[c]at this;simpa using this
 ·have r:i<js.length:=(Zgs.mp e).1;have:=all_eq_true.mp o i (List.mem_range.mpr r);rw[e]at this;cases q:N[i]? with
  | none=>simp[q]at this
  | some x=>
   simp only [q,Bool.and_eq_true,beq_iff_eq]at this;exact⟨x,rfl,by rw[h];exact this.1,this.2⟩
 ·have:=all_eq_true.mp p y b;rw[c]at this;have z:(a.names.lookup y.1==some .cell)=true∨(a.names.lookup y.1==some .free)=true:=by simpa using this
  have s:X.env.kindOf y.1=a.names.lookup y.1:=by rw[<- g];rfl
  rw[s];rcases z with z|z
  ·exact .inl (by simpa using z)
  ·exact .inr (by simpa using z)
def aO:Expr->Bool|.Starred _ _=>false|_=>true
def bD(h:aO e=true):starEach (e::a) env=(false,eval e env)::starEach a env:=by
 cases e<;>first|rfl|cases h
def dW(h:a.all aO=true):(backTo pos (starEach a env)).any (·.1)=false:=by
 induction a with
 | nil=>rfl
 | cons e a b=>
  rw[all_cons,Bool.and_eq_true]at h;rw[bD h.1];have:=b h.2;show(false||(backTo pos (starEach a env)).any (·.1))=false;rw[this];rfl
section
variable {X:Cx}{e o:Expr}{es:List Expr}{te to:TE}{t:TA}{x:Str}{p pos apos cpos:Pos}{id T:String}{r:List V->Hp->VK->Prop}
def yD(a:PE X e te)(b:PA X es t)(h:aO e=true:=by rfl):PA X (e::es) (lN te t):=xP a b (bD h)
def Uh(a:CallR X (.builtin id) r)(b:Gl X x)(c:X.mg x=none)(d:bootBuiltins x=some (.builtin id))(f:PA X (e::es) t)(g:x≠"__name__":=by decide)(h:(x==("__debug__":Str))=false:=by decide)(i:aO e=true:=by rfl)(j:es.all aO=true:=by rfl):PE X (.Call (.Name x p) (e::es) [] pos) (Zw r t):=Al a b c d f g h (bD i) (dW j)
def Od(a:CallR X (.type T) r)(b:Gl X x)(c:X.mg x=none)(d:bootBuiltins x=some (.type T))(f:PA X (e::es) t)(g:x≠"__name__":=by decide)(h:(x==("__debug__":Str))=false:=by decide)(i:aO e=true:=by rfl)(j:es.all aO=true:=by rfl):PE X (.Call (.Name x p) (e::es) [] pos) (Zw r t):=Jh a b c d f g h (bD i) (dW j)
def aCq{ps:List Str}(c:Callee X.prog X.w X.K X.mg X.base n x ps sp)(a:Room n X.A)(b:Gl X x)(d:PA X (e::es) t)(f:(x==("__debug__":Str))=false:=by decide)(g:aO e=true:=by rfl)(h:es.all aO=true:=by rfl):PE X (.Call (.Name x p) (e::es) [] pos) (Xg sp t):=aDE c a b d f (bD g) (dW h)
def Oe(h:es.all aO=true):(backTo cpos (starEach es env)).all (λx=>!x.1)=true:=by
 induction es with
 | nil=>rfl
 | cons e es a=>
  rw[all_cons,Bool.and_eq_true]at h;rw[bD h.1];show(!false&&(backTo cpos (starEach es env)).all (λx=>!x.1))=true;rw[a h.2];rfl
def aDF{name:Str}{r:V->List V->Hp->VK->Prop}(c:PlainAttrs T)(slot:Slot T name id)(d:typeOf (.builtin id)=pure (.type "method_descriptor"))(f:Ma X id r)(g:PE X o to)(h:PA X (e::es) t)(i:attributeBase o name X.env (eval o X.env)=eval o X.env:=by rfl)(j:(apos.endLine==cpos.line)=true:=by rfl)(a:aO e=true:=by rfl)(b:es.all aO=true:=by rfl)(k:es.length+1<30:=by decide) :
  PE X (.Call (.Attribute o name apos) (e::es) [] cpos) (tBM X.K T r to t):=by
 refine aB0 c slot d f g h i ?_ j (bD a) (dW b);rw[Oe (by rw[all_cons,a,b];rfl)];show(true&&true&&decide (es.length+1+0+0<30))=true;simp;omega
def aAz{b:Pos}{T:Str}(a:Kd)(c:PE X e te)(d:Gl X "isinstance")(f:X.mg "isinstance"=none)(g:Gl X T)(h:X.mg T=none)(i:bootBuiltins T=some (.type (Jt a)))(j:T≠"__name__":=by decide)(k:(T==("__debug__":Str))=false:=by decide)(l:aO e=true:=by rfl):PE X (.Call (.Name "isinstance" p) [e,.Name T b] [] pos) (aAy a te):=
 aCp a c d f g h i (bD l) (bD rfl) j k (dW rfl)
end
def aZ:bootBuiltins "len"=some (.builtin "len"):=by decide +kernel
def aR:bootBuiltins "isinstance"=some (.builtin "isinstance"):=by decide +kernel
def uF:bootBuiltins "all"=some (.builtin "all"):=by decide +kernel
def aAA:bootBuiltins "any"=some (.builtin "any"):=by decide +kernel
def Dv:bootBuiltins "max"=some (.builtin "max"):=by decide +kernel
def aAB:bootBuiltins "min"=some (.builtin "min"):=by decide +kernel
def nE:bootBuiltins "list"=some (.type "list"):=by decide +kernel
def iC:bootBuiltins "str"=some (.type "str"):=by decide +kernel
def iD:bootBuiltins "int"=some (.type "int"):=by decide +kernel
def yE:bootBuiltins "bool"=some (.type "bool"):=by decide +kernel
def bW:bootBuiltins "tuple"=some (.type "tuple"):=by decide +kernel
end L2
namespace L2
def mE(h:c=true)(k:A):if c=true then A else B:=by rw[UF h];exact k
def jU(h:c=false)(k:B):if c=true then A else B:=by rw[T8 (by rw[h];exact Y1)];exact k
def aV(a:c=true->A)(b:c=false->B):if c=true then A else B:=by
 cases h:c with
 | true=>rw[UF rfl];exact a h
 | false=>rw[T8 Y1];exact b h
open PySem PySem.Spec PyProof.Rows
structure Av(J:It)(xs:List V)(A:Hp->Prop):Prop where
 go:∀i H,i<xs.length->A H->J.go i H
 yld:∀i H x H',i<xs.length->A H->J.yld i H x H'->H'=H/\xs[i]?=some x
 stop:∀H,A H->J.stop xs.length H
def pV(x:Str):List V:=x.cps.toList.map λc=>V.str (tx [c])
def Gp(x:Str):Av (Its x) (pV x) (λ_=>True):=by
 have a:(pV x).length=x.cps.size:=by simp[pV]
 refine⟨λi H b _=>by rw[a]at b;exact b,λi H v g _ _ ⟨e,c,d,f⟩=>⟨e,?_⟩,λH _=>by rw[a];exact cE _⟩;subst f;unfold pV;rw[jF,Array.getElem?_toList,d];rfl
def dS(lo:Int)(n:Nat):List V:=(List.range n).map λ(i:Nat)=>V.int (lo+(i:Int))
def fR(lo:Int)(n:Nat):Av (Itr lo n) (dS lo n) (λ_=>True):=by
 have b:(dS lo n).length=n:=by simp[dS]
 refine⟨λi H a _=>by rw[b]at a;exact a,λi H v d a _ ⟨e,c⟩=>⟨e,?_⟩,λH _=>by rw[b];exact cE _⟩;subst c;rw[b]at a;unfold dS;rw[jF,getElem?_range a];rfl
def dX(K:W.Frag)(a:WP)(xs:List V):Av (Itl K a) xs (λH=>SqL K H a xs):=
 ⟨λi H b h=>⟨xs,xs[i],h,by simp[b]⟩,λi H x c _ h ⟨e,y⟩=>⟨e,y xs h⟩,λH h=>⟨xs,h,cE _⟩⟩
def iI(K:W.Frag)(a:WP)(xs:List V):Av (Itt K a) xs (λH=>SqT K H a xs):=
 ⟨λi H b h=>⟨xs,xs[i],h,by simp[b]⟩,λi H x c _ h ⟨e,y⟩=>⟨e,y xs h⟩,λH h=>⟨xs,h,cE _⟩⟩
def bN{k:TE}(S:Av J xs A)(w:xs.length<=100000)(Pv:Nat->List V->Hp->Prop)(o:∀i a H,Pv i a H->A H/\a.length<=i)(q:Pv 0 [] H)(hs:∀i x a H,xs[i]?=some x->Pv i a H->g x (Ad js n) H λh r=>j h r λb l=>if b=true then k h l λy s=>Pv (i+1) (a++[y]) s else Pv (i+1) a l)(t:∀a H,Pv xs.length a H->Q a H):uD js g j k n J H Q:=by
 refine⟨λi m a H=>m=xs.length-i/\i<=xs.length/\Pv i a H,⟨xs.length,Zs,zero_le _,q⟩,?_⟩;refine λi m a H=>yA3 λζ z p=>?_;subst ζ;obtain⟨c,B⟩:=o i a H p;by_cases d:i<xs.length
 ·refine .inr ⟨S.go i H d c,Ly (m:=100000) Zo Zd,Pv (i+1),λC f u=>⟨xs.length-(i+1),Zo,rfl,d,u⟩,λx f y=>?_⟩;obtain⟨rfl,v⟩:=S.yld i H x f d c y;exact hs i x a f v p
 ·have e:i=xs.length:=by omega
  subst e;exact .inl ⟨S.stop H c,t a H p⟩
def rG(S:Av J xs A)(q:xs.length<=100000)(p:V->Bool)(f:V->V)(r:A H)(hs:∀(x:V)(a:List V)(N:List V->Hp->Prop),x∈xs->(p x=true->N (a++[f x]) H)->(p x=false->N a H)->g x (Ad js o) H λk s=>l k s λb j=>if b=true then m k j λy t=>N (a++[y]) t else N a j)(u:Q ((xs.filter p).map f) H):uD js g l m o J H Q:=by
 refine bN S q (λi a c=>a=((xs.take i).filter p).map f/\c=H) (λi a c ⟨e,d⟩=>⟨by rw[d];exact r,?_⟩) ⟨Zs,rfl⟩ (?_) (?_)
 ·rw[e,aX];exact iB (List.length_filter_le _ _) (by rw[fM];exact min_le_left _ _)
 ·rintro i x a c n ⟨e,d⟩;subst d;have key:(xs.take (i+1)).filter p=(xs.take i).filter p++(if p x=true then [x] else []):=take_succ_filter p xs i x n;refine hs x a (λv j=>v=((xs.take (i+1)).filter p).map f/\j=c) (sW n) (λh=>⟨?_,rfl⟩) (λh=>⟨?_,rfl⟩)
  ·rw[key,UF h,hX,e];rfl
  ·rw[key,T8 (by rw[h];exact Y1),append_nil,e]
 ·rintro a c ⟨e,d⟩;subst d;rw[e,qU (cE _)];exact u
def pW{J:It}{xs:List V}{A:Hp->Prop}{g:TG}{k:TS}{D:sN}{a:St}{H:Hp}(S:Av J xs A)(Pv:Nat->St->Hp->Prop)(n:∀i a H,Pv i a H->A H)(o:Pv 0 a H)(hs:∀(i:Nat)(x:V) a H,xs[i]?=some x->Pv i a H->g x a H λc f=>k {D with nx:=Pv (i+1),ct:=Pv (i+1),bk:=D.nx } c f)(q:∀ a H,Pv xs.length a H->D.nx a H) :
  ∃W:Nat->Nat->St->Hp->Prop,(∃m,W 0 m a H)/\∀i m a H,W i m a H →
   (J.stop i H/\D.nx a H)∨(J.go i H/\∃N:St->Hp->Prop,(∀ d b,N d b->∃l,l<m/\W (i+1) l d b)/\∀x b,J.yld i H x b->g x a b λc f=>k {D with nx:=N,ct:=N,bk:=D.nx } c f):=by
 refine⟨λi m a H=>m=xs.length-i/\i<=xs.length/\Pv i a H,⟨xs.length,Zs,zero_le _,o⟩,?_⟩;rintro i m a H ⟨rfl,t,p⟩;have h:=n i a H p;by_cases j:i<xs.length
 ·refine .inr ⟨S.go i H j h,Pv (i+1),λd b r=>⟨xs.length-(i+1),Zo,rfl,j,r⟩,λx b y=>?_⟩;obtain⟨rfl,s⟩:=S.yld i H x b j h y;exact hs i x a b s p
 ·have e:i=xs.length:=by omega
  subst e;exact .inl ⟨S.stop H h,q a H p⟩
end L2
namespace L2
open PySem
def aA(h:H p=none):Same H (aH H p o):=λb u q=>by rw[aJ (aF q h)];exact q
def jV(xs:List a)(k:Nat):cP xs none (some (k:Int))=xs.take k:=by
 unfold cP;rw[HT.sIx_none,HT.sIx_nat,drop_zero,Nat.sub_zero,<- List.take_take,qU (cE _)]
def dH(xs:List a)(k:Nat):cP xs (some (k:Int)) none=xs.drop k:=by
 unfold cP;rw[HT.sIx_none,HT.sIx_nat];by_cases h:k<=xs.length
 ·rw[min_eq_left h,qU (by rw[length_drop];exact cE _)]
 ·rw[min_eq_right Zo,drop_of_length_le (cE _),drop_of_length_le Zo,take_nil]
open PySem PySem.Spec PyProof.Rows
def eZ(h:H p=some o)(a:H q=none):aH H q u p=some o:=by rw[aJ (aF h a)];exact h
def fA{c:Type}{xs:List c}{i:Int}(b:0<=i)(d:i<xs.length):∃v,eK xs i=some v/\v∈xs:=by
 obtain⟨j,rfl⟩:=qX b;have a:j<xs.length:=by omega
 exact⟨xs[j],aL (by simp[a]),getElem_mem a⟩
theorem Gq(g:Array Nat):∀(ps:List Str)(a:Array Nat),(ps.foldl (λa p=>a++g++p.cps) a).toList=a.toList++(ps.map λp=>g.toList++p.cps.toList).flatten
 | [],a=>by simp
 | p::ps,a=>by
  rw[List.foldl_cons,Gq g ps];simp
def Of(ps:List Str):(Txt.join (tx []) ps).cps.toList=(ps.map λp=>p.cps.toList).flatten:=by
 unfold Txt.join Builtin.Str.glued;rw[Gq];cases ps with
 | nil=>simp[Str.empty]
 | cons p ps=>simp
def Ui(ps:List Str):Txt.join (tx []) ps=tx (ps.map λp=>p.cps.toList).flatten:=by rw[<- Of,lY]
def uG(a:List Nat):Txt.join (tx []) (a.map λc=>tx [c])=tx a:=by
 rw[Ui,map_map];congr 1
 congr 1
 induction a with
 | nil=>rfl
 | cons c r b=>rw[map_cons,flatten_cons,b];rfl
def oW:("":Str)=tx []:=by decide +kernel
def Aw(t:z.length<=100000)(p:Nat->Bool)(f:Nat->V)(hs:∀(c:Nat)(a:List V)(N:List V->Hp->Prop),c∈z.cps.toList->(p c=true->N (a++[f c]) H)->(p c=false->N a H)->g (.str (tx [c])) (Ad js s) H λn u=>o n u λb k=>if b=true then q n k λy v=>N (a++[y]) v else N a k)(w:Q ((z.cps.toList.filter p).map f) H):uD js g o q s (Its z) H Q:=by
 have r:(pV z).length=z.cps.toList.length:=by simp[pV]
 refine bN (Gp z) (by rw[r];simpa [Str.length]using t) (λi a j=>a=((z.cps.toList.take i).filter p).map f/\j=H) (λi a j ⟨e,l⟩=>⟨trivial,?_⟩) ⟨Zs,rfl⟩ (?_) (?_)
 ·rw[e,aX];exact iB (List.length_filter_le _ _) (by rw[fM];exact min_le_left _ _)
 ·rintro i x a j d ⟨e,l⟩;subst l;unfold pV at d;rw[jF]at d;cases m:z.cps.toList[i]? with
  | none=>rw[m]at d;cases d
  | some c=>
   rw[m]at d;cases d;have key:(z.cps.toList.take (i+1)).filter p=(z.cps.toList.take i).filter p++(if p c=true then [c] else []):=take_succ_filter p _ i c m;refine hs c a (λA k=>A=((z.cps.toList.take (i+1)).filter p).map f/\k=j) (sW m) (λh=>⟨?_,rfl⟩) (λh=>⟨?_,rfl⟩)
   ·rw[key,UF h,hX,e];rfl
   ·rw[key,T8 (by rw[h];exact Y1),append_nil,e]
 ·rintro a j ⟨e,l⟩;subst l;rw[e,r,qU (cE _)];exact w
theorem kR{a:Type}(p:a->Bool):∀l:List a,(l.filter λc=>!p c).isEmpty=l.all p
 | []=>rfl
 | c::l=>by
  rw[List.filter_cons,all_cons];cases h:p c with
  | true=>simp[kR p l]
  | false=>simp
end L2
namespace L2
open PySem
def Xh(x:Str):x=tx x.cps.toList:=(lY x).symm
end L2
namespace L2
open PySem
theorem uH:∀a:List Nat,((a.map λc=>tx [c]).map (·.length)).sum=a.length
 | []=>rfl
 | c::a=>by
  rw[map_cons,map_cons,sum_cons,uH a,eJ];show 1+a.length=_;omega
end L2
namespace L2
open PySem
def kS{t:TT}{b:St}{H:Hp}{Q:Bool->Hp->Prop}(R:Bool->Hp->Prop)(h:∀k:Bool->Hp->Prop,(∀v a,R v a->k v a)->t b H k)(c:∀v a,R v a->Q v a):t b H Q:=h Q c
def aCr{t:TS}{D:sN}{c:St}{H:Hp}(R:St->Hp->Prop)(h:∀nx:St->Hp->Prop,(∀ a b,R a b->nx a b)->t {D with nx:=nx } c H)(d:∀ a b,R a b->D.nx a b):t D c H:=h D.nx d
def Kof.same{k:Kd}(s:Same H b)(h:Kof H x k):Kof b x k:=by
  cases x<;>cases k<;>first
    | exact h
    | (obtain⟨a,e⟩:=h;exact⟨a,s _ _ e⟩)
    | (rcases h with⟨a,e⟩ | ⟨o,a,e⟩
       . exact .inl ⟨a,s _ _ e⟩
       . exact .inr ⟨o,a,s _ _ e⟩)
open PySem PySem.Spec PyProof.Rows
structure XE(X:Cx)(e:Expr)(t:TE):Prop where
 h:PE X e t
structure XT(X:Cx)(e:Expr)(t:TT):Prop where
 h:PT X e t
structure XW(X:Cx)(e:Expr)(t:TT):Prop where
 h:PW X e t
structure XA(X:Cx)(es:List Expr)(t:TA):Prop where
 h:PA X es t
structure XS(X:Cx)(st:Stmt)(t:TS):Prop where
 h:PS X st t
structure XB(X:Cx)(st:List Stmt)(t:TS):Prop where
 h:PSs X st t
structure XI(X:Cx)(tg iter:Expr)(t:TI):Prop where
 h:PI X tg iter t
structure XG(X:Cx)(e:Expr)(t:TG):Prop where
 h:PG X e t
structure XGs(X:Cx)(es:List Expr)(t:Fv):Prop where
 h:PGs X es t
structure XO(X:Cx)(e:Option Expr)(t:TO):Prop where
 h:PO X e t
structure XTs(X:Cx)(cs:List Expr)(t:TT):Prop where
 h:PTs X cs t
structure aCt(X:Cx)(t:Ml):Prop where
 h:Yw X t
structure jG(X:Cx)(f:WF->WF->Sem Value)(r:R2):Prop where
 h:OpR X f r
structure Xi(X:Cx)(r:R2):Prop where
 h:IxR X r
structure XSl(X:Cx)(r:V->Option Int->Option Int->Hp->VK->Prop):Prop where
 h:SlR X r
structure XC(X:Cx)(f:WF)(r:List V->Hp->VK->Prop):Prop where
 h:CallR X f r
structure XM(X:Cx)(id:String)(r:V->List V->Hp->VK->Prop):Prop where
 h:Ma X id r
namespace R
section
variable {X:Cx}{a b c e o i:Expr}{es rest:List Expr}{ta tb tc te to ti:TE}{tA AU:TT}{t u:TA}{pos p p2 apos cpos pos':Pos}{x:Str}{n:Nat}{r r':R2}
def v(i:Nat)(d:X.N[i]?=some x:=by rfl)(f:Yg X.env.scope x:=by first|exact Or.inl rfl|exact Or.inr (Or.inl rfl)|exact Or.inr (Or.inr rfl))(g:(x==("__debug__":Str))=false:=by decide)(h:(x==("__classdict__":Str))=false:=by decide):XE X (.Name x pos) (vr i):=⟨xv i d f g h⟩
def int{i j pos}:XE X (.Constant (.int i) j pos) (tC (.int i)):=⟨Yj⟩
def bl{b j pos}:XE X (.Constant (.bool b) j pos) (tC (.bl b)):=⟨aBH⟩
def bv{j pos}:XE X (.Constant .none j pos) (tC .non):=⟨Yk⟩
def ae{x j pos}:XE X (.Constant (.str x) j pos) (tC (.str x)):=⟨Yl⟩
def gS(f:Gl X x)(d:∃t,X.mg x=some (.str z t))(g:(x==("__debug__":Str))=false:=by decide):XE X (.Name x pos) (tC (.str z)):=by
 obtain⟨t,d⟩:=d;exact⟨xJ f d ⟨t,rfl⟩ g⟩
def gI(f:Gl X x)(d:∃t,X.mg x=some (.int z t))(g:(x==("__debug__":Str))=false:=by decide):XE X (.Name x pos) (tC (.int z)):=by
 obtain⟨t,d⟩:=d;exact⟨xJ f d ⟨t,rfl⟩ g⟩
def gR{a:WP}(d:Gl X x)(f:X.mg x=some (.ref a))(g:(x==("__debug__":Str))=false:=by decide):XE X (.Name x pos) (tC (.ref a)):=⟨xJ d f rfl g⟩
def op{op:Operator}(d:jG X (binaryOp op) r)(f:XE X a ta)(g:XE X b tb):XE X (.BinOp a op b pos) (vP r ta tb):=⟨aBO d.h f.h g.h⟩
def aw:jG X (binaryOp .Add) (Mb λi j=>.int (i+j)):=⟨aB6⟩
def bh:jG X (binaryOp .Sub) (Mb λi j=>.int (i-j)):=⟨aB7⟩
def ck:jG X (binaryOp .Mult) (m2 CMul λi j=>.int (i*j)):=⟨aB8⟩
def cg:jG X (binaryOp .Mod) (m2 (λ_ j=>0<j) λi j=>.int (i%j)):=⟨aB9⟩
def br:jG X (binaryOp .Pow) (m2 Td λi j=>.int (i^j.toNat)):=⟨aCa⟩
def bx:jG X (binaryOp .Add) Oa:=⟨aAo⟩
def lt:jG X (compareOp .Lt) (Mb λi j=>.bl (decide (i<j))):=⟨aDw⟩
def le:jG X (compareOp .LtE) (Mb λi j=>.bl (decide (i<=j))):=⟨aDx⟩
def gt:jG X (compareOp .Gt) (Mb λi j=>.bl (decide (j<i))):=⟨aDy⟩
def eq:jG X (compareOp .Eq) mEq:=⟨aCb⟩
def ne:jG X (compareOp .NotEq) mNe:=⟨aDA⟩
def jk:jG X (compareOp .In) (Jr false):=⟨aCc⟩
def jb:jG X (compareOp .NotIn) (Jr true):=⟨Ob⟩
def inQ:jG X (compareOp .In) (rIn X.K false):=⟨Jk⟩
def notInQ:jG X (compareOp .NotIn) (rIn X.K true):=⟨xV⟩
def fj:jG X (compareOp .Is) (λx y H Q=>match y with|.non=>Q (.bl (decide (x=.non))) H|_=>False):=⟨aCd⟩
def eqNil(d:X.A.units<cLine):jG X (compareOp .Eq) (rE X.K false):=⟨Ny d⟩
def neNil(d:X.A.units<cLine):jG X (compareOp .NotEq) (rE X.K true):=⟨Nz d⟩
def az{op:CmpOp}(d:jG X (compareOp op) r)(f:XE X a ta)(g:XE X b tb)(h:behindInMarks op b=false:=by first|exact xL _|rfl):XE X (.Compare a [op] [b] pos) (vP r ta tb):=⟨aCf d.h f.h g.h h⟩
def ai{op:CmpOp}(d:jG X (compareOp op) r)(f:XE X a ta)(g:XE X b tb)(h:behindInMarks op b=false:=by first|exact xL _|rfl):XT X (.Compare a [op] [b] pos) (mT (vP r ta tb)):=⟨aCe d.h f.h g.h h⟩
def iw{op d:CmpOp}(f:jG X (compareOp op) r)(g:jG X (compareOp d) r')(h:XE X a ta)(j:XE X b tb)(k:XE X c tc)(l:lastMarks [op,d] [b,c]=false:=by with_unfolding_all rfl):XE X (.Compare a [op,d] [b,c] pos) (rF r r' ta tb tc):=⟨Ue f.h g.h h.h j.h k.h l⟩
def fi{op d:CmpOp}(f:jG X (compareOp op) r)(g:jG X (compareOp d) r')(h:XE X a ta)(j:XE X b tb)(k:XE X c tc)(l:lastMarks [op,d] [b,c]=false:=by with_unfolding_all rfl):XT X (.Compare a [op,d] [b,c] pos) (mT (rF r r' ta tb tc)):=⟨Uf f.h g.h h.h j.h k.h l⟩
def bt(d:XE X a ta):XE X (.UnaryOp .USub a pos) (tUn (λx H Q=>mI x λi=>Q (.int (-i)) H) ta):=⟨aCj d.h⟩
def ar{t:TE}(h:XE X e t)(d:∀whole,isTrue e X.env whole=(do let v←whole;standAt e.pos;holding [v] (truthy v)):=by intro _;rfl):XT X e (mT t):=⟨aCg h.h d⟩
def au(d:XT X a tA):XT X (.UnaryOp .Not a pos) (Yn tA):=⟨Yq d.h⟩
def bz(d:XT X a tA):XW X (.BoolOp .And [a] pos) tA:=⟨Su d.h⟩
def bd(d:XT X a tA):XW X (.BoolOp .Or [a] pos) tA:=⟨Yo d.h⟩
def bw(d:XT X a tA)(f:XW X (.BoolOp .And (b::rest) pos) AU):XW X (.BoolOp .And (a::b::rest) pos) (lQ tA AU):=⟨Yp d.h f.h⟩
def ba(d:XT X a tA)(f:XW X (.BoolOp .Or (b::rest) pos) AU):XW X (.BoolOp .Or (a::b::rest) pos) (tOr tA AU):=⟨aBI d.h f.h⟩
def tw(h:XW X e tA):XT X e tA:=⟨h.h.pt⟩
def bq{op}(h:XE X a ta):XE X (.BoolOp op [a] pos) ta:=⟨Ys h.h⟩
def bp(d:XE X a ta)(f:XE X (.BoolOp .And (b::rest) pos) tb):XE X (.BoolOp .And (a::b::rest) pos) (Gm ta tb):=⟨aCh d.h f.h⟩
def or(d:XE X a ta)(f:XE X (.BoolOp .Or (b::rest) pos) tb):XE X (.BoolOp .Or (a::b::rest) pos) (Ug ta tb):=⟨aDB d.h f.h⟩
def ja(d:XE X a ta):XE X (.UnaryOp .Not a pos) (Gn ta):=⟨aCi d.h⟩
def je(d:XT X c tA)(f:XE X a ta)(g:XE X b tb):XE X (.IfExp c a b pos) (tIf tA ta tb):=⟨Mh d.h f.h g.h⟩
def ix(d:Xi X r)(f:XE X a ta)(g:XE X b tb)(hs:xR b:=by exact λ_ _=>rfl):XE X (.Subscript a b pos) (vP r ta tb):=⟨aDC d.h f.h g.h hs⟩
def iL:Xi X (Dt X.K):=⟨aAr⟩
def iT:Xi X (Du X.K):=⟨aCk⟩
def iS:Xi X aAq:=⟨aCl⟩
def pn:XO X none sY:=⟨Tl⟩
def ps(h:XE X e te):XO X (some e) (wH te):=⟨aAs h.h⟩
def sl{r:V->Option Int->Option Int->Hp->VK->Prop}{lo d:Option Expr}{f th:TO}(g:XSl X r)(h:XE X e te)(j:XO X lo f)(k:XO X d th):XE X (.Subscript e (.Slice lo d none p2) pos) (tSl r te f th):=⟨Na g.h h.h j.h k.h⟩
def sS:XSl X aAt:=⟨aCm⟩
def sL:XSl X (Js X.K):=⟨aAu⟩
def ac:XA X [] vD:=⟨xO⟩
def aa(d:XE X e te)(f:XA X es t)(h:aO e=true:=by rfl):XA X (e::es) (lN te t):=⟨yD d.h f.h h⟩
def aq(h:XA X es t):XE X (.List es pos) (aBW t):=⟨Zv h.h⟩
def ao{id:String}{r:List V->Hp->VK->Prop}(d:XC X (.builtin id) r)(f:Gl X x)(g:X.mg x=none)(h:bootBuiltins x=some (.builtin id))(j:XA X (e::es) t)(k:x≠"__name__":=by decide)(l:(x==("__debug__":Str))=false:=by decide)(m:aO e=true:=by rfl)(q:es.all aO=true:=by rfl):XE X (.Call (.Name x p) (e::es) [] pos) (Zw r t):=⟨Uh d.h f g h j.h k l m q⟩
def bj{T:String}{r:List V->Hp->VK->Prop}(d:XC X (.type T) r)(f:Gl X x)(g:X.mg x=none)(h:bootBuiltins x=some (.type T))(j:XA X (e::es) t)(k:x≠"__name__":=by decide)(l:(x==("__debug__":Str))=false:=by decide)(m:aO e=true:=by rfl)(q:es.all aO=true:=by rfl):XE X (.Call (.Name x p) (e::es) [] pos) (Zw r t):=⟨Od d.h f g h j.h k l m q⟩
def dk:XC X (.builtin "len") (λvs H Q=>match vs with|[.str z]=>z.length<=sizeLine/\Q (.int z.length) H|_=>False):=⟨aAv⟩
def lenL:XC X (.builtin "len") (λvs H Q=>match vs with|[.ref p]=>∃d,(SqL X.K H p d∨SqT X.K H p d)/\Q (.int d.length) H|_=>False):=⟨aAw⟩
def df:XC X (.type "int") (λvs H Q=>match vs with|[.bl k]=>Q (.int (if k then 1 else 0)) H|_=>False):=⟨aCn⟩
def all(d:X.calm=true):XC X (.builtin "all") (aAm X.K):=⟨Nv d⟩
def any(d:X.calm=true):XC X (.builtin "any") (aAn X.K):=⟨Nw d⟩
def fn{ps:List Str}(c:Callee X.prog X.w X.K X.mg X.base n x ps sp)(f:Room d X.A)(g:Gl X x)(h:XA X (e::es) t)(j:(x==("__debug__":Str))=false:=by decide)(k:aO e=true:=by rfl)(l:es.all aO=true:=by rfl)(hk:n<=d:=by decide):XE X (.Call (.Name x p) (e::es) [] pos) (Xg sp t):=⟨aCq c (f.mono hk) g h.h j k l⟩
def bm{T id:String}{name:Str}{r:V->List V->Hp->VK->Prop}(d:PlainAttrs T)(slot:Slot T name id)(f:typeOf (.builtin id)=pure (.type "method_descriptor"))(g:XM X id r)(h:XE X o to)(j:XA X (e::es) t)(k:attributeBase o name X.env (eval o X.env)=eval o X.env:=by rfl)(l:(apos.endLine==cpos.line)=true:=by rfl)(m:aO e=true:=by rfl)(q:es.all aO=true:=by rfl)(s:es.length+1<30:=by decide) :
  XE X (.Call (.Attribute o name apos) (e::es) [] cpos) (tBM X.K T r to t):=⟨aDF d slot f g.h h.h j.h k l m q s⟩
def cv:XM X "list.append" Ge:=⟨Jl⟩
def join:XM X "str.join" (Nt X.K):=⟨Ud⟩
def ax{T:Str}(d:Kd)(f:XE X e te)(g:Gl X "isinstance")(h:X.mg "isinstance"=none)(j:Gl X T)(k:X.mg T=none)(l:bootBuiltins T=some (.type (Jt d)))(m:T≠"__name__":=by decide)(q:(T==("__debug__":Str))=false:=by decide)(s:aO e=true:=by rfl):XE X (.Call (.Name "isinstance" p) [e,.Name T p2] [] pos) (aAy d te):=⟨aAz d f.h g h j k l m q s⟩
def jo:XE X (.Dict [] [] pos) (Ng):=⟨Nh⟩
variable {tg:Expr}
def wL(d:XE X e te):XI X tg e (Fw X.K te):=⟨Tc d.h⟩
def wT(d:XE X e te):XI X tg e (Zc X.K te):=⟨Ze d.h⟩
def wS(d:XE X e te):XI X tg e (aB4 te):=⟨aAk d.h⟩
def db(d:Gl X "range")(f:X.mg "range"=none)(g:XA X [a] t)(h:aO a=true:=by rfl):XI X tg (.Call (.Name "range" p) [a] [] pos) (Wx t):=⟨Ja d f g.h (bD h)⟩
def gn{i:Nat}(d:X.N.Nodup)(f:X.N[i]?=some x:=by rfl)(g:Lz X.env.scope x:=by first|exact Or.inl rfl|exact Or.inr rfl)(h:X.fn x=true∨X.env.scope.names.lookup x=some .local:=by first|exact .inl rfl|exact .inr rfl|assumption):XG X (.Name x pos) (aK i):=⟨Sz d f g h⟩
def cu:XGs X [] Yx:=⟨Ta⟩
def bu(g:XG X e d)(h:XGs X es f)(hs:(assignEach (e::es) X.env).map (·.2)=assign e X.env::(assignEach es X.env).map (·.2):=by rfl):XGs X (e::es) (Mm d f):=⟨Mn g.h h.h hs⟩
def gt'{k:Nat}(f:X.calm=true)(h:XGs X es d)(g:(assignEach es X.env).length=n:=by rfl)(j:(assignEach es X.env).findIdx? (·.1)=none:=by rfl):XG X (.Tuple es k pos) (Tb X.K n d):=⟨Yy f h.h g j⟩
def eu:aCt X Xa:=⟨Nb⟩
def eo(h:XE X o to)(j:XE X i ti)(hs:aCt X g)(k:∀v,assign (.Subscript o i pos) X.env v=(do
   let d←holding [v] (eval o X.env)
   let f←holding [v,d] (eval i X.env)
   standAt pos
   holding [v,d,f] (setItem d f v)
   release [v,d,f] []):=by intro _;rfl):XG X (.Subscript o i pos) (aBM to ti g):=⟨Yz h.h j.h hs.h k⟩
end
section
variable {X:Cx}{c e tg iter elt:Expr}{ifs:List Expr}{te:TE}{tc tt:TT}{g:TG}{wi:TI}{st:Stmt}{ss sa sb:List Stmt}{t u:TS}{pos pos' xu py:Pos}{x y:Str}{scope:Scope}{N:List Str}{js:List (Option Nat)}
def bc:XTs X [] No:=⟨Tx⟩
def dt(h:XT X c tt)(a:X.xe=λ_ _=>False:=by rfl):XTs X [c] tt:=⟨Ty h.h a⟩
def bb(h:X.calm=true)(S:CompScope X scope N js)(go:Dp js g)(i:XI X tg iter wi)(j:∀(C:WP)(d:UV)(f:Hp)(fp:List WP),XG (qV X scope C N d f fp) tg g/\XTs (qV X scope C N d f fp) ifs tt/\XE (qV X scope C N d f fp) elt te)(hs:∀x,foldedSetIterable iter X.env x=pure x:=by intro _;rfl):XE X (.ListComp elt [⟨tg,iter,ifs,0⟩] scope pos) (Np wi js g tt te):=
 ⟨Ua h S go i.h (λC d f fp=>let ⟨a,b,c⟩:=j C d f fp;⟨a.h,b.h,c.h⟩) hs⟩
def dw(h:X.N.Nodup)(j:X.N[i]?=some y)(k:Lz X.env.scope y)(l:X.calm=true)(S:CompScope X scope N js)(go:Dp js g)(m:XI X tg iter wi)(n:∀(C:WP)(d:UV)(f:Hp)(fp:List WP),XG (qV X scope C N d f fp) tg g/\XTs (qV X scope C N d f fp) ifs tt/\XE (qV X scope C N d f fp) elt te)(o:swapsWith (.ListComp elt [⟨tg,iter,ifs,0⟩] scope pos) (some (.Name y py)) xu.line X.env=pure true)(hs:∀x,foldedSetIterable iter X.env x=pure x:=by intro _;rfl)(p:X.fn y=true∨X.env.scope.names.lookup y=some .local:=by first|exact .inl rfl|exact .inr rfl|assumption) :
  XS X (.Assign [.Name y py] (.ListComp elt [⟨tg,iter,ifs,0⟩] scope pos) xu) (Xe i wi js g tt te):=
 ⟨Ub h j k l S go m.h (λC d f fp=>let ⟨a,b,c⟩:=n C d f fp;⟨a.h,b.h,c.h⟩) o hs p⟩
def al:XB X [] aT:=⟨Sv⟩
def af(a:XS X st t):XB X [st] t:=⟨Sw a.h⟩
def ad(a:XS X st t)(b:XB X ss u):XB X (st::ss) (Mi t u):=⟨Mj a.h b.h⟩
def ag(a:XE X e te):XS X (.Return (some e) pos) (Ai te):=⟨Yv a.h⟩
def cj(a:XE X e te)(hs:swapsWith e none pos.line X.env=pure false:=by rfl):XS X (.Expr e pos) (Ww te):=⟨Sx a.h hs⟩
def aj(a:XT X c tc)(b:XB X sa t)(d:XB X sb u):XS X (.If c sa sb pos) (Sy tc t u):=⟨aBK a.h b.h d.h⟩
def ah(a:X.N.Nodup)(b:XE X e te)(d:X.N[i]?=some x:=by rfl)(f:Lz X.env.scope x:=by first|exact Or.inl rfl|exact Or.inr rfl)(hs:swapsWith e (some (.Name x pos')) pos.line X.env=pure false:=by rfl)(h:X.fn x=true∨X.env.scope.names.lookup x=some .local:=by first|exact .inl rfl|exact .inr rfl|assumption):XS X (.Assign [.Name x pos'] e pos) (Mo te (aK i)):=⟨Zb a d f b.h hs h⟩
def eh(a:XE X e te)(b:XG X tg g)(hs:swapsWithSole [tg] e pos.line X.env=pure false:=by rfl)(d:swappedStores [tg] e X.env=pure none:=by rfl)(f:(assignEach [tg] X.env).map (·.2)=[assign tg X.env]:=by rfl) :
  XS X (.Assign [tg] e pos) (Mo te g):=⟨Za a.h b.h hs d f⟩
def cq(a:PassesOwn (model X.prog X.w) X.A X.env X.xe)(b:X.calm=true)(d:XI X tg iter wi)(f:XG X tg g)(h:XB X ss t)(hs:∀x,foldedSetIterable iter X.env x=pure x:=by intro _;rfl):XS X (.For tg iter ss [] pos) (aBN wi g t):=⟨Zf a b d.h f.h h.h hs⟩
end
end R
def DefAt.go{P:Program}{w:World}{K:W.Frag}{mg:Y4}{base:Heap}{x:Str}{st:Stmt}{N ps:List Str}{k:Nat}{sp:Sp}(D:DefAt K mg x st ps)(S:aI N ps (aE st))(len:∀vs H Q E,sp vs H Q E->vs.length=ps.length)(b:∀(f:WP)(a:WF)(A:Around)(outer:List Env)(s:UV)(H:Hp)(vs:List V)(Q:VK)(E:XK),Room k (A.deeper (envOfC x (aE st) s.heap.objs.size f a))->sp vs H Q E →
   ∃t,XB (cV sZ P w K mg base N x (aE st) f a A outer s H E).nox (bB st) t/\t {nx:=λ_ c=>Q .non c,rt:=Q } (start N vs) H):Callee P w K mg base (k+1) x ps sp:=
 D.ok S len λf a A outer s H vs Q E d h=>let ⟨t,e,g⟩:=b f a A outer s H vs Q E d h;⟨t,e.h,g⟩
def DefAt.gg{P:Program}{w:World}{K:W.Frag}{mg:Y4}{base:Heap}{x:Str}{st:Stmt}{N ps:List Str}{k:Nat}{sp:Sp}(D:DefAt K mg x st ps)(S:aI N ps (aE st))(b:∀(f:WP)(a:WF)(A:Around)(outer:List Env)(s:UV)(H:Hp)(vs:List V)(Q:VK)(E:XK),Room k (A.deeper (envOfC x (aE st) s.heap.objs.size f a))->sp vs H Q E →
   ∃t,XB (cV sZ P w K mg base N x (aE st) f a A outer s H E).nox (bB st) t/\t {nx:=λ_ c=>Q .non c,rt:=Q } (start N vs) H)(len:∀vs H Q E,sp vs H Q E->vs.length=ps.length:=by intro vs H Q E h;repeat (first | (obtain⟨rfl,_⟩:=h;rfl) | obtain⟨_,h⟩:=h)):Callee P w K mg base (k+1) x ps sp:=
 D.ok S len λf a A outer s H vs Q E d h=>let ⟨t,e,g⟩:=b f a A outer s H vs Q E d h;⟨t,e.h,g⟩
def Fun.go{P:Program}{w:World}{K:W.Frag}{mg:Y4}{base:Heap}{x b:Str}{st:Stmt}{f:WP}{c:FuncData}{N ps:List Str}{k:Nat}{sp:Sp}(F:Fun K x b st f c)(S:aI N ps (aE st))(len:∀vs H Q E,sp vs H Q E->vs.length=ps.length)(d:∀(a:WF)(A:Around)(outer:List Env)(s:UV)(H:Hp)(vs:List V)(Q:VK)(E:XK),Room k (A.deeper (envOfC b (aE st) s.heap.objs.size f a))->sp vs H Q E →
   ∃t,XB (cV sZ P w K mg base N b (aE st) f a A outer s H E).nox (bB st) t/\t {nx:=λ_ e=>Q .non e,rt:=Q } (start N vs) H):oS P w K mg base sZ (k+1) f c ps sp:=
 F.ok S len λa A outer s H vs Q E g h=>let ⟨t,i,j⟩:=d a A outer s H vs Q E g h;⟨t,i.h,j⟩
def Fun.gg{P:Program}{w:World}{K:W.Frag}{mg:Y4}{base:Heap}{x b:Str}{st:Stmt}{f:WP}{c:FuncData}{N ps:List Str}{k:Nat}{sp:Sp}(F:Fun K x b st f c)(S:aI N ps (aE st))(d:∀(a:WF)(A:Around)(outer:List Env)(s:UV)(H:Hp)(vs:List V)(Q:VK)(E:XK),Room k (A.deeper (envOfC b (aE st) s.heap.objs.size f a))->sp vs H Q E →
   ∃t,XB (cV sZ P w K mg base N b (aE st) f a A outer s H E).nox (bB st) t/\t {nx:=λ_ e=>Q .non e,rt:=Q } (start N vs) H)(len:∀vs H Q E,sp vs H Q E->vs.length=ps.length:=by intro vs H Q E h;repeat (first | (obtain⟨rfl,_⟩:=h;rfl) | obtain⟨_,h⟩:=h)):oS P w K mg base sZ (k+1) f c ps sp:=
 F.ok S len λa A outer s H vs Q E g h=>let ⟨t,i,j⟩:=d a A outer s H vs Q E g h;⟨t,i.h,j⟩
def aAC{K:W.Frag}{h:Heap}{mg:Y4}{x:Str}{st:Stmt}{ps:List Str}{f:WP}{od b:Option WP}{sl:Array (Option WF)}{m kV n d g e:WF}(X:K.In h)(G:h.Ns mainGlobals mg)(a:W.nsIn K mainGlobals x=some (some (.ref f)))(l:K.lookup f=some ⟨m,od,.func (W.fnOf x x (cJ st) (bB st) (aE st) .none kV n d b g e),sl⟩)(c:W.codeIn K g x=true)(k:W.keepIn K (.ref f)=true)(o:∀(kV i d:WF)(b:Option WP)(j e:WF)(us:List WF),us.length=ps.length->bindArgs (W.fnOf x x (cJ st) (bB st) (aE st) .none kV i d b j e) ⟨us,[]⟩=pure (ps.zip us)):DefAt K mg x st ps:=
 ⟨f,_,oU l c k,W.mg_of X G a,(oU (st:=st) l c k).binds o⟩
namespace R
section
variable {X:Cx}{K:W.Frag}{a b c e o i tg:Expr}{es rest:List Expr}{te to:TE}{t:TA}{pos p p2 apos cpos:Pos}{x:Str}{n:Nat}
def kiL(d:X.K=K:=by rfl):Xi X (Dt K):=d▸iL
def kiT(d:X.K=K:=by rfl):Xi X (Du K):=d▸iT
def it(K:W.Frag)(i:Nat){x:Str}{p p2 pos:Pos}{c:Int}{j}(d:X.K=K:=by rfl)(f:X.N[i]?=some x:=by rfl)(g:Yg X.env.scope x:=by first|exact Or.inl rfl|exact Or.inr (Or.inl rfl)|exact Or.inr (Or.inr rfl))(h:(x==("__debug__":Str))=false:=by decide)(k:(x==("__classdict__":Str))=false:=by decide):XE X (.Subscript (.Name x p) (.Constant (.int c) j p2) pos) (vP (Du K) (vr i) (tC (.int c))):=ix (kiT d) (v i f g h k) int
def il(K:W.Frag)(i:Nat){x:Str}{p p2 pos:Pos}{c:Int}{j}(d:X.K=K:=by rfl)(f:X.N[i]?=some x:=by rfl)(g:Yg X.env.scope x:=by first|exact Or.inl rfl|exact Or.inr (Or.inl rfl)|exact Or.inr (Or.inr rfl))(h:(x==("__debug__":Str))=false:=by decide)(k:(x==("__classdict__":Str))=false:=by decide):XE X (.Subscript (.Name x p) (.Constant (.int c) j p2) pos) (vP (Dt K) (vr i) (tC (.int c))):=ix (kiL d) (v i f g h k) int
def be(d:X.K=K:=by rfl):XSl X (Js K):=d▸sL
def cf(d:X.K=K:=by rfl):jG X (compareOp .In) (rIn K false):=d▸inQ
def iy(d:X.K=K:=by rfl):jG X (compareOp .NotIn) (rIn K true):=d▸notInQ
def jr(d:X.A.units<cLine)(f:X.K=K:=by rfl):jG X (compareOp .Eq) (rE K false):=f▸eqNil d
def jd(d:X.A.units<cLine)(f:X.K=K:=by rfl):jG X (compareOp .NotEq) (rE K true):=f▸neNil d
def av(f:X.K=K:=by rfl):XC X (.builtin "len") (λvs H Q=>match vs with|[.ref p]=>∃d,(SqL K H p d∨SqT K H p d)/\Q (.int d.length) H|_=>False):=f▸lenL
def dl(d:X.calm=true)(f:X.K=K:=by rfl):XC X (.builtin "all") (aAm K):=f▸all d
def jq(d:X.calm=true)(f:X.K=K:=by rfl):XC X (.builtin "any") (aAn K):=f▸any d
def cy(d:X.K=K:=by rfl):XM X "str.join" (Nt K):=d▸join
def ay{T id:String}{name:Str}{r:V->List V->Hp->VK->Prop}(d:PlainAttrs T)(slot:Slot T name id)(f:typeOf (.builtin id)=pure (.type "method_descriptor"))(g:XM X id r)(h:XE X o to)(j:XA X (e::es) t)(k:X.K=K:=by rfl)(l:attributeBase o name X.env (eval o X.env)=eval o X.env:=by rfl)(m:(apos.endLine==cpos.line)=true:=by rfl)(q:aO e=true:=by rfl)(s:es.all aO=true:=by rfl)(u:es.length+1<30:=by decide) :
  XE X (.Call (.Attribute o name apos) (e::es) [] cpos) (tBM K T r to t):=k▸bm d slot f g h j l m q s u
def cm(d:XE X e te)(f:X.K=K:=by rfl):XI X tg e (Fw K te):=f▸wL d
def dg(d:XE X e te)(f:X.K=K:=by rfl):XI X tg e (Zc K te):=f▸wT d
def cr{k:Nat}(f:X.calm=true)(h:XGs X es d)(g:X.K=K:=by rfl)(j:(assignEach es X.env).length=n:=by rfl)(l:(assignEach es X.env).findIdx? (·.1)=none:=by rfl):XG X (.Tuple es k pos) (Tb K n d):=g▸gt' f h j l
end
end R
section
variable {X:Cx}
def Dw:List V->Hp->VK->Prop:=λa H Q=>match a with
 | [.int i]=>(0<=i/\i<10^40)/\Q (.str (Str.ofString (toString i))) H
 | [.str z]=>Q (.str z) H
 | _=>False
def aCv:CallR X (.type "str") Dw:=by
 intro a s d H f b Q I r h;unfold Dw at h;split at h
 ·rename_i i;refine xN a s d H [.int i] b Q I r ⟨i,rfl,?_,h.2⟩;have c:i.natAbs<2^1920:=by
   have e:(10:Nat)^40<=2^1920:=by decide +kernel
   have g:i.natAbs<10^40:=by
    have:=h.1;omega
   omega
  rcases Nat.eq_zero_or_pos i.natAbs with z|z
  ·rw[z];decide
  ·exact(Nat.log2_lt Zo).mpr c
 ·rename_i z;obtain⟨u,rfl,t,rfl⟩:=lU r;exact PySem.P.str_of_str ⟨.str z,H,I,⟨t,rfl⟩,h⟩
 ·exact h.elim
def Og:List V->Hp->VK->Prop:=λa H Q=>match a with
 | [.str z]=>NumText.AllDigits z.cps.toList/\z.cps.toList≠[]/\z.length<=640/\Q (.int (NumText.digitsVal z.cps.toList:Nat)) H
 | _=>False
def aAD:CallR X (.type "int") Og:=by
 intro d s g H e f Q I r h;unfold Og at h;split at h
 ·rename_i z;revert h;refine yA4 λb c a h=>?_;obtain⟨u,rfl,t,rfl⟩:=lU r;exact W.KIN.call_text (PySem.intText_digits b c (iB a Zd)) a ⟨.int _,H,I.tok _,⟨_,rfl⟩,h⟩
 ·exact h.elim
end
namespace R
variable {X:Cx}
def fo:XC X (.type "str") Dw:=⟨aCv⟩
def iz:XC X (.type "int") Og:=⟨aAD⟩
end R
def LET:List Nat:=[97,98,99,100,101,102,103,104,105,106,107,108,109,110,111,112,113,114,115,116,117,118,119,120,121,122]
def oH:List Nat:=[48,49,50,51,52,53,54,55,56,57]
def yF:(("abcdefghijklmnopqrstuvwxyz":Str)).cps.toList=LET:=by decide +kernel
def Dx:(("0123456789":Str)).cps.toList=oH:=by decide +kernel
def bM(x:V)(cs:List Nat)(n:Int):Bool:=match x with|.str z=>decide (1<=(z.length:Int))&&decide ((z.length:Int)<=n)&&z.cps.toList.all (λc=>decide (c∈cs))|_=>false
def cC(z:Str)(cs:List Nat)(n:Int):bM (.str z) cs n=(decide (1<=(z.length:Int))&&decide ((z.length:Int)<=n)&&z.cps.toList.all (λc=>decide (c∈cs))):=rfl
def oX:Sp:=λc H Q _=>∃x a n k,c=[x,.str a,.int n]/\Kof H x k/\(∀z,x=.str z->z.length<=1000)/\∀b,Same H b->Q (.bl (bM x a.cps.toList n)) b
def jW(cs:List Nat)(n:Int):Sp:=λb H Q _=>∃x k,b=[x]/\Kof H x k/\(∀z,x=.str z->z.length<=1000)/\∀a,Same H a->Q (.bl (bM x cs n)) a
def Gr(c:Nat):c∈oH↔48<=c/\c<=57:=by
 unfold oH;simp only [mem_cons,QZZ,or_false];omega
def Ax{z:Str}(h:z.cps.toList.all (λc=>decide (c∈oH))=true):NumText.AllDigits z.cps.toList:=λc a=>(Gr c).mp (X4 (all_eq_true.mp h c a))
def aM(z:Str):Option Nat:=
 if bM (.str z) oH 13=true then (if z.cps.toList.head?=some 48/\z≠tx [48] then none else some (NumText.digitsVal z.cps.toList)) else none
def bE:Option Nat->V|none=>.non|some n=>.int (n:Int)
def uI:Sp:=λb H Q _=>∃z:Str,b=[.str z]/\z.length<=1000/\∀a,Same H a->Q (bE (aM z)) a
theorem Gs:∀(k m:Nat),m<10^(k+1)->(toDigits 10 m).length<=k+1
 | 0,m,h=>by rw[Nat.toDigits_of_lt_base (by simpa using h)];exact cE _
 | k+1,m,h=>by
  by_cases b:m<10
  ·rw[Nat.toDigits_of_lt_base b];simp
  ·have a:m%10<10:=mod_lt m Zd;have t:toDigits 10 (m/10)++toDigits 10 (m%10)=toDigits 10 (10*(m/10)+m%10):=Nat.toDigits_append_toDigits Zd Zo a;rw[Nat.div_add_mod]at t;rw[<- t,gQ,Nat.toDigits_of_lt_base a];have:=Gs k (m/10) (by rw[Nat.pow_succ]at h;omega);simp;omega
def Ay(m:Nat):Str:=Str.ofString (toString ((m:Nat):Int))
def Az(m:Nat):(Ay m).cps.toList=(toDigits 10 m).map Char.toNat:=W.KIN.signs_num m
def mF(m:Nat):NumText.AllDigits (Ay m).cps.toList:=by
 intro c a;rw[Az]at a;obtain⟨d,b,e⟩:=Zmm.mp a;have r:=PyProof.Rows.digit_range (Nat.isDigit_of_mem_toDigits Zd Zd b);rw[<- e];exact r
def Oh(m:Nat):(Ay m).length=(toDigits 10 m).length:=by
 have:(Ay m).cps.toList.length=(Ay m).length:=by simp[Str.length]
 rw[<- this,Az,aX]
def Gu{m k:Nat}(h:m<10^(k+1)):(Ay m).length<=k+1:=by rw[Oh];exact Gs k m h
def isNm(z:Str):Prop:=1<=z.length/\z.length<=8/\∀c∈z.cps.toList,c∈LET
def Gv(z:Str)(ns:List Str):cX (.str z) (ns.map V.str)=decide (z∈ns):=by
 unfold cX;rw[any_map,Bool.eq_iff_iff,any_eq_true,decide_eq_true_iff];constructor
 ·rintro⟨y,a,e⟩;have:y=z:=by simpa [xT]using e
  rw[<- this];exact a
 ·intro h;exact⟨z,h,by simp[xT]⟩
def Ju(ns:List Str):(ns.map V.str).all cF=true:=by
 rw[all_map];exact all_eq_true.mpr λ_ _=>rfl
def six{r:Int}(a:0<=r)(b:r<6):r=0∨r=1∨r=2∨r=3∨r=4∨r=5:=by omega
namespace R
variable {X:Cx}
def fh(a:X.calm=true):XC X (.builtin "max") (λvs H Q=>match vs with | [.int i,.int j]=>Q (.int (if j > i then j else i)) H | _=>False):=⟨(Jd a).imp λvs H Q h=>by
 split at h
 ·rename_i i j;exact⟨i,j,rfl,h⟩
 ·exact h.elim⟩
end R
section
variable {prog:Program}{w:World}{A:Around}{E:Y5}{s:UV}
def Jv(b:IsTup s.heap t a)(h:Q true s):wpAny (model prog w) A (Builtin.Tuple.tupleIsExact (.ref t)) Q E s:=by
 unfold Builtin.Tuple.tupleIsExact;refine Y3 (wpAny_typeOf b.typeIs ?_);exact Y2 h
def oA{t sl:WP}{a:Array Value}{d e:WF}{lo c:Option Int}{Q:Y5}(b:IsTup s.heap t a)(hs:s.heap.IsSliceOf sl d e .none)(pl:IsPart d lo)(g:IsPart e c)(f:HT.sIx a.size 0 lo=0/\HT.sIx a.size a.size c=a.size)(h:Q (.ref t) s):wpAny (model prog w) A (getItem (.ref t) (.ref sl)) Q E s:=by
 obtain⟨os,i,j,m⟩:=id hs;have k:s.TypeIs (.ref sl) "slice":=⟨os,i,j⟩;unfold getItem;try with_reducible refine wpAny_holding ?_
 first|refine Y3 (Y2 ?_)|skip
 refine Y3 (wpAny_sequenceKey b.typeIs Zd ?_);refine Y3 (wpAny_callSpecial?_slot (name:=Str.ofString "__getitem__") b.typeIs PyProof.Rows.slot_tuple_getitem
  (wpAny_call_entry PyProof.Rows.slot_tuple_getitem b.typeIs entry_tuple_getitem ?_ (args_tuple_getitem _ _)))
 show wpAny _ _ (Builtin.Tuple.tupleItemsOf (.ref t)>>=_) _ _ s;refine Y3 (tupleItemsOf_ b ?_);refine Y3 (wpAny_typeOf k ?_);rw[UF Zd];refine Y3 (HT.sliceApplied_gen hs pl g ?_);have l:(((HT.sIx a.size 0 lo:Nat):Int)==0&&(1:Int)==1&&(HT.sIx a.size a.size c-HT.sIx a.size 0 lo)==a.size)=true:=by
  rw[f.1,f.2];simp
 show wpAny _ _ (if (((HT.sIx a.size 0 lo:Nat):Int)==0&&(1:Int)==1&&(HT.sIx a.size a.size c-HT.sIx a.size 0 lo)==a.size)=true then _ else _) _ _ s;rw[UF l];refine Y3 (Jv b ?_);rw[UF rfl];exact Y3 (wpAny_rule (Y2 ⟨_,rfl,Y2 h⟩))
def Oi{t b:WP}{ws:List WF}{Q:Y5}(h:IsTup s.heap t ([]:List WF).toArray)(i:IsTup s.heap b ws.toArray)(j:Q (.ref b) s):wpAny (model prog w) A (binaryOp .Add (.ref t) (.ref b)) Q E s:=by
 obtain⟨⟨q,k,p,sl⟩,c,d,n,e⟩:=id h;obtain⟨⟨r,l,data2,m⟩,f,g,o,a⟩:=id i;simp only at d e g a;subst d e g a;exact concat_meets ⟨_,c,rfl⟩ ⟨_,f,rfl⟩ noFill_tuple_add seq_tuple_add PySem.F.slot_tuple_add PySem.F.entry_tuple_add (PySem.F.args_tuple_add_2 _ _)
   (tuple_addW0 t b _ ws.toArray n o k l sl m Zs) ⟨c,f,j⟩
end
section
variable {X:Cx}{e o e1 e2:Expr}{te:TE}{pos p2 p3:Pos}
def aAE:V->Option Int->Option Int->Hp->VK->Prop:=λx lo d H Q=>mR x λa=>∃c,H a=some (.tup c)/\∀p b,Same H b->b p=some (.tup (cP c lo d))->Q (.ref p) b
def aCw:SlR X aAE:=by
 intro m s z H x v u w lo f sl Q I g i j k h;unfold aAE at h;rw[bS]at h;obtain⟨a,rfl,b,d,q⟩:=h;by_cases c:HT.sIx b.length 0 lo=0/\HT.sIx b.length b.length f=b.length
 ·cases g;obtain⟨t,r,l,A⟩:=I.tuple (QYY d);have n:t.toArray.size=b.length:=by rw[iA];exact r.length.symm
  refine⟨"tuple",_,PyProof.Rows.slot_tuple_getitem.lookup,l.typeIs,?_⟩;refine oA l i j k (by rw[n];exact c) ⟨.ref a,H,I,rfl,q a H (Same.refl H) ?_⟩;rw[d];unfold cP;rw[c.1,c.2,drop_zero,Nat.sub_zero,qU (cE _)]
 ·exact Zy m s z H (.ref a) v u w lo f sl Q I g i j k ⟨a,b,rfl,QYY d,c,λp y=>q p _ (aA y) aD⟩
def Oj:R2:=λx y H Q=>mR x λa=>mR y λb=>∃c d,H a=some (.tup c)/\H b=some (.tup d)/\c.length+d.length<=1000/\∀p f,Same H f->f p=some (.tup (c++d))->Q (.ref p) f
def aAF:OpR X (binaryOp .Add) Oj:=by
 intro k s z H x y v u Q I f g h;unfold Oj at h;rw[bS]at h;obtain⟨a,rfl,h⟩:=h;rw[bS]at h;obtain⟨b,rfl,i,l,c,d,m,q⟩:=h;by_cases j:i=[]
 ·subst j;cases f;cases g;obtain⟨A,n,r,_⟩:=I.tuple (QYY c);obtain⟨B,C,p2,_⟩:=I.tuple (QYY d);cases n;exact Oi r p2 ⟨.ref b,H,I,rfl,q b H (Same.refl H) (by rw[d];rfl)⟩
 ·exact Tn k s z H _ _ v u Q I f g ⟨a,b,i,l,rfl,rfl,QYY c,QYY d,j,iB m Zd,(λt=>q a H (Same.refl H) (by rw[c,t,append_nil])),λ_ p w=>q p _ (aA w) aD⟩
end
def Tab(P:Params):List DictEntry->List (Str×Int)->Prop
 | [],[]=>True
 | e::r,(x,i)::q=>(∃t,e.key=.str x t)/\e.hash=PyData.keyHash P x/\(∃t,e.val=.int i t)/\Tab P r q
 | _,_=>False
def Tab.keys{P:Params}:∀ {a:List DictEntry}{ws:List (Str×Int)},Tab P a ws->W.KeysLit P a
 | [],[],_=>trivial
 | e::r,(x,i)::q,h=>⟨let ⟨t,b⟩:=h.1;⟨x,t,b,h.2.1⟩,Tab.keys h.2.2.2⟩
 | [],_::_,h=>h.elim
 | _::_,[],h=>h.elim
theorem Tab.find{P:Params}(z:Str):∀ {a:List DictEntry}{ws:List (Str×Int)},Tab P a ws->(match ws.lookup z with|some i=>∃t,(a.find? λe=>Value.isStrOf z e.key).map (·.val)=some (.int i t)|none=>(a.find? λe=>Value.isStrOf z e.key).map (·.val)=none)
 | [],[],_=>rfl
 | [],_::_,h=>h.elim
 | _::_,[],h=>h.elim
 | e::r,(x,i)::q,h=>by
  obtain⟨⟨t,b⟩,k,⟨c,d⟩,f⟩:=h;have g:=Tab.find z f;rw[lookup_cons,find?_cons];have j:Value.isStrOf z e.key=(z==x):=by
   rw[b];show(x==z)=(z==x);exact Bool.beq_comm
  rw[j];cases l:z==x with
  | true=>exact⟨c,by rw[<- d];rfl⟩
  | false=>exact g
structure KTab(K:W.Frag)(P:Params)(a:WP)(ws:List (Str×Int)):Prop where
 ex:∃es n,K.lookup a=some ⟨.type "dict",none,.dict (toArray es) n,#[]⟩/\Tab P es ws/\(a==sysModules)=false
def KTab.map{K:W.Frag}{prog:Program}{w:World}{a:WP}{ws:List (Str×Int)}{h:Heap}(T:KTab K w.params a ws)(X:K.In h) :
  ∃f:Str->Option WF,h.MapOf (strKind prog w) a f/\(a==sysModules)=false/\∀z,(match ws.lookup z with|some i=>∃t,f z=some (.int i t)|none=>f z=none):=by
 refine yE0 T.ex (yE2 λd n=>yA3 λc b lo=>?_);refine⟨_,W.mapOf_K (prog:=prog) X c b.keys,lo,λz=>?_⟩;have:=b.find z;unfold findBy;rw[List.find?_toArray];exact this
section
variable {X:Cx}
def aAG(K:W.Frag)(P:Params)(c:Bool):R2:=λx y H Q=>mS x λz=>mR y λa=>∃b,KTab K P a b/\Q (.bl (if c then !(b.lookup z).isSome else (b.lookup z).isSome)) H
def Jw{f:Option WF}{o:Option Int}(h:match o with|some i=>∃t,f=some (.int i t)|none=>f=none):f.isSome=o.isSome:=by
 cases o with
 | none=>rw[h];rfl
 | some i=>obtain⟨t,h⟩:=h;rw[h];rfl
def Ol:OpR X (compareOp .NotIn) (aAG X.K X.w.params true):=by
 intro i s j H x y v u Q I b c h;unfold aAG at h;rw[iG]at h;obtain⟨z,rfl,h⟩:=h;rw[bS]at h;obtain⟨a,rfl,d,T,h⟩:=h;obtain⟨t,rfl⟩:=b;cases c;obtain⟨f,e,lo,g⟩:=T.map (prog:=X.prog) I.kIn;exact wpAny_notIn_of (strKind_is X.prog X.w z t) lo e ⟨.bl (!(d.lookup z).isSome),H,I.tok _,by rw[Jw (g z)];rfl,h⟩
def aAH(K:W.Frag)(P:Params):R2:=λx y H Q=>mR x λa=>mS y λz=>∃b i,KTab K P a b/\b.lookup z=some i/\Q (.int i) H
def i_K:IxR X (aAH X.K X.w.params):=by
 intro m slice n s p H x y v u Q I d e h g;unfold aAH at h;rw[bS]at h;obtain⟨a,rfl,h⟩:=h;rw[iG]at h;obtain⟨z,rfl,o,i,T,j,h⟩:=h;obtain⟨t,rfl⟩:=e;cases d;obtain⟨f,c,lo,k⟩:=T.map (prog:=X.prog) I.kIn;have b:=k z;rw[j]at b;obtain⟨l,b⟩:=b;exact tail_any c.typeIs slot_dict_getitem.lookup (wpAny_getItem_of (strKind_is X.prog X.w z t) c b ⟨.int i,H,I.tok _,⟨l,rfl⟩,h⟩) g
end
structure XPs(X:Cx)(pos:Pos)(keys:List (Option Expr))(values:List Expr)(trs:List (TE×TE)):Prop where
 h:PPs X pos keys values trs
namespace R
section
variable {X:Cx}{K:W.Frag}{P:Params}{e e1 k v o f:Expr}{te t1 tk tv td ty QP:TE}{pos p2 apos cpos:Pos}{ks:List (Option Expr)}{vs:List Expr}{trs:List (TE×TE)}
def sT:XSl X aAE:=⟨aCw⟩
def fb:jG X (binaryOp .Add) Oj:=⟨aAF⟩
def jl(a:X.K=K:=by rfl)(b:X.w.params=P:=by rfl):jG X (compareOp .NotIn) (aAG K P true):=a▸b▸⟨Ol⟩
def jm(a:X.K=K:=by rfl)(b:X.w.params=P:=by rfl):Xi X (aAH K P):=a▸b▸⟨i_K⟩
def jg(b:X.K=K:=by rfl):XC X (.type "list") (λvs H Q=>match vs with | [.ref p]=>∃a,(SqL K H p a∨SqT K H p a)/\∀l,H l=none->Q (.ref l) (aH H l (.lst a)) | _=>False):=b ▸ ⟨xZ.imp λvs H Q h=>by
 split at h
 ·rename_i p;obtain⟨a,c,h⟩:=h;exact⟨p,a,rfl,c,h⟩
 ·exact h.elim⟩
def du(b:X.K=K:=by rfl):XC X (.type "tuple") (λvs H Q=>match vs with | [.ref p]=>∃a,SqL K H p a/\∀l,H l=none->Q (.ref l) (aH H l (.tup a)) | _=>False):=b ▸ ⟨vF.imp λvs H Q h=>by
 split at h
 ·rename_i p;obtain⟨a,c,h⟩:=h;exact⟨p,a,rfl,.inl ⟨c,h⟩⟩
 ·exact h.elim⟩
def dq:XPs X pos [] [] []:=⟨Tv⟩
def bn(hk:XE X k tk)(a:XE X v tv)(b:XPs X pos ks vs trs):XPs X pos (some k::ks) (v::vs) ((tk,tv)::trs):=⟨Ni hk.h a.h b.h⟩
def dm(h:XPs X pos ks vs trs)(a:ks.all (·.isSome)=true:=by rfl)(b:ks.length=vs.length:=by rfl)(c:ks≠[]:=by simp)(d:ks.length<=15:=by decide):XE X (.Dict ks vs pos) (Xd trs):=⟨Tw h.h a b c d⟩
def jc(a:X.A.units+1<cLine)(b:XE X o td)(c:XE X e ty)(d:XE X f QP)(g:attributeBase o "get" X.env (eval o X.env)=eval o X.env:=by rfl)(h:(apos.endLine == cpos.line)=true:=by rfl)(i:((backTo cpos (starEach [e,f] X.env)).all (λx=>!x.1)&&(backToKw cpos (keywordEach [] X.env)).all (λx=>x.1.isSome)
  && decide (([e,f]:List Expr).length+([]:List Keyword).length+(if ([]:List Keyword).isEmpty then 0 else 1)<30))=true:=by rfl)(j:backTo cpos (starEach [e,f] X.env)=[(false,eval e X.env),(false,eval f X.env)]:=by rfl):XE X (.Call (.Attribute o "get" apos) [e,f] [] cpos) (Nj td ty QP):=⟨Nk a b.h c.h d.h ⟨g,i,h,j⟩⟩
end
end R
def WS:List (Str×Int):=[("add",1),("take",1),("move",2),("send",2),("fetch",2),("pass",3)]
def UW:List V:=[.str "move",.str "pass"]
def dR(x:V):Bool:=bM x LET 8
def aQ(lo a:Int)(x:V):Bool:=match x with|.int n=>decide (lo<=n)&&decide (n<=a)|_=>false
def bO(x:V)(ns:List V):Bool:=match x with
 | .str z=>(match WS.lookup z with
  | some i=>decide ((ns.length:Int)=i)&&ns.all dR&&(!cX (.str z) UW||!decide (eK ns 0=eK ns 1))
  | none=>false)
 | _=>false
def iE(xs:List V):List V:=cP xs (some 1) (some (-1))
def bC(xs:List V):Bool:=decide (3<=xs.length)&&bO ((eK xs 0).getD .non) (iE xs)&&aQ 1 1000000000000 ((eK xs (-1)).getD .non)
def Pt(H:Hp)(x:V):Prop:=∃k,Kof H x k/\∀z,x=.str z->z.length<=1000
def Pt.same(s:Same H a)(h:Pt H x):Pt a x:=let ⟨k,b,c⟩:=h;⟨k,b.same s,c⟩
def cH(H:Hp)(x:V):Bool:=match x with|.ref a=>(match H a with|some (.tup b)=>bC b|_=>false)|_=>false
def Th(H:Hp)(x:V):Prop:=Pt H x/\∀a b,x=.ref a->H a=some (.tup b)->∀y∈b,Pt H y
def gF:Sp:=λc H Q _=>∃x lo a,c=[x,.int lo,.int a]/\Pt H x/\∀b,Same H b->Q (.bl (aQ lo a x)) b
def Om:Sp:=λd H Q _=>∃x a b,d=[x,.ref a]/\Pt H x/\H a=some (.tup b)/\b.length<=1000/\(∀y∈b,Pt H y)/\∀c,Same H c->Q (.bl (bO x b)) c
def mG:Sp:=λd H Q _=>∃x,d=[x]/\Th H x/\(∀a b,x=.ref a->H a=some (.tup b)->b.length<=1000)/\∀c,Same H c->Q (.bl (cH H x)) c
def uJ(h:WS.lookup z=some i):1<=i/\i<=3:=by
 have key:∀(l:List (Str×Int)),l.lookup z=some i->(z,i)∈l:=by
  intro l;induction l with
  | nil=>intro h;cases h
  | cons p l a=>
   obtain⟨x,j⟩:=p;intro h;rw[lookup_cons]at h;cases e:z==x with
   | true=>rw[e]at h;injection h with h;rw[<- h,eq_of_beq e];exact iV
   | false=>rw[e]at h;exact fN _ (a h)
 have m:=key _ h;have all:∀p∈WS,1<=p.2/\p.2<=3:=by decide +kernel
 exact all _ m
def Xj(h:WS.lookup z=some i)(u:cX (.str z) UW=true):2<=i:=by
 have e:z="move"∨z="pass":=by
  unfold cX UW at u;simp only [any_cons,List.any_nil,Bool.or_false,Bool.or_eq_true,xT,beq_iff_eq,decide_eq_true_iff]at u;rcases u with u|u
  ·exact .inl u.symm
  ·exact .inr u.symm
 rcases e with rfl|rfl
 ·have:WS.lookup ("move":Str)=some 2:=by decide +kernel
  rw[this]at h;injection h with h;omega
 ·have:WS.lookup ("pass":Str)=some 3:=by decide +kernel
  rw[this]at h;injection h with h;omega
def yG(h:3<=xs.length):iE xs=(xs.drop 1).take (xs.length-2):=by
 unfold iE cP HT.sIx;simp only [Int.reduceNeg,Int.reduceLT,if_true,if_false];have a:min (Int.toNat 1) xs.length=1:=by
  show min 1 xs.length=1;omega
 have b:((-1:Int)+(xs.length:Int)).toNat=xs.length-1:=by omega
 rw[b];show((xs.drop (min (Int.toNat 1) xs.length)).take (xs.length-1-min (Int.toNat 1) xs.length))=_;rw[a];congr 1
def kT(h:3<=xs.length):(iE xs).length=xs.length-2:=by
 rw[yG h,fM,length_drop];omega
def Gw(h:3<=xs.length)(m:y∈iE xs):y∈xs:=by
 rw[yG h]at m;exact mem_of_mem_drop (mem_of_mem_take m)
def aAI:R2:=λx y H Q=>mR x λl=>mR y λb=>∃a c,H l=some (.lst a)/\H b=some (.lst c)/\a.length+c.length<=sizeLine/\∀p,H p=none->Q (.ref p) (aH H p (.lst (a++c)))
def R.bo:jG X (binaryOp .Add) aAI:=⟨aAd.imp λx y H Q h=>by
 unfold aAI at h;rw[bS]at h;obtain⟨a,rfl,h⟩:=h;rw[bS]at h;obtain⟨b,rfl,c,d,h⟩:=h;exact⟨a,b,c,d,rfl,rfl,h⟩⟩
inductive DeedIs:List V->Prop
 | one (z a:Str) (n:Int):(z="add"∨z="take")->isNm a->1<=n->n<=1000000000000->DeedIs [.str z,.str a,.int n]
 | two (z a b:Str) (n:Int):(z="move"∨z="send"∨z="fetch")->isNm a->isNm b->a≠b->1<=n->n<=1000000000000->DeedIs [.str z,.str a,.str b,.int n]
 | three (a b c:Str) (n:Int):isNm a->isNm b->isNm c->a≠b->1<=n->n<=1000000000000->DeedIs [.str "pass",.str a,.str b,.str c,.int n]
def fS(h:isNm z):dR (.str z)=true:=by
 unfold dR;rw[cC,X2 (by have:=h.1;omega),X2 (by have:=h.2.1;omega),all_eq_true.mpr λc a=>X2 (h.2.2 c a)];rfl
def DeedIs.ok(h:DeedIs xs):bC xs=true:=by
 cases h with
 | one z a n i d f g=>
  show(bO (.str z) [.str a]&&aQ 1 1000000000000 (.int n))=true;have e:bO (.str z) [.str a]=true:=by
   rcases i with rfl|rfl
   ·show(true&&(dR (.str a)&&true)&&_)=true;rw[fS d];rfl
   ·show(true&&(dR (.str a)&&true)&&_)=true;rw[fS d];rfl
  rw[e];show(decide (1<=n)&&decide (n<=1000000000000))=true;rw[X2 f,X2 g];rfl
 | two z a b n i d j k f g=>
  show(bO (.str z) [.str a,.str b]&&aQ 1 1000000000000 (.int n))=true;have ne:decide (some (V.str a)=some (V.str b))=false:=XV λe=>k (by injection e with e;injection e)
  have e:bO (.str z) [.str a,.str b]=true:=by
   rcases i with rfl|rfl|rfl
   all_goals
    show(true&&(dR (.str a)&&(dR (.str b)&&true))&&(_||!decide (some (V.str a)=some (V.str b))))=true;rw[fS d,fS j,ne,Bool.not_false,Bool.or_true];rfl
  rw[e];show(decide (1<=n)&&decide (n<=1000000000000))=true;rw[X2 f,X2 g];rfl
 | three a b c n d j l k f g=>
  show(bO (.str "pass") [.str a,.str b,.str c]&&aQ 1 1000000000000 (.int n))=true;have ne:decide (some (V.str a)=some (V.str b))=false:=XV λe=>k (by injection e with e;injection e)
  have e:bO (.str "pass") [.str a,.str b,.str c]=true:=by
   show(true&&(dR (.str a)&&(dR (.str b)&&(dR (.str c)&&true)))&&(_||!decide (some (V.str a)=some (V.str b))))=true;rw[fS d,fS j,fS l,ne,Bool.not_false,Bool.or_true];rfl
  rw[e];show(decide (1<=n)&&decide (n<=1000000000000))=true;rw[X2 f,X2 g];rfl
def isNm.len(h:isNm z):z.length<=1000:=iB h.2.1 Zd
def pX:List (eN×V):=iW [] [(.inr "add",.int 3),(.inr "take",.int 3),(.inr "move",.int 4),(.inr "send",.int 4),(.inr "fetch",.int 4),(.inr "pass",.int 5)]
def On:pX=[(.inr "add",.int 3),(.inr "take",.int 3),(.inr "move",.int 4),(.inr "send",.int 4),(.inr "fetch",.int 4),(.inr "pass",.int 5)]:=by decide +kernel
def Jx(z:Str):dN pX (.inr z)=(WS.lookup z).map λi=>V.int (i+2):=by
 rw[On];unfold dN WS;have e:∀x:Str,(decide ((Sum.inr x:eN)=.inr z))=(z==x):=λx=>by
  rw[Bool.eq_iff_iff,decide_eq_true_iff,beq_iff_eq];constructor
  ·intro h;injection h with h;exact h.symm
  ·intro h;rw[h]
 simp only [find?_cons,lookup_cons,List.find?_nil,List.lookup_nil,e]
 repeat' split
 all_goals first|rfl|simp_all
inductive TV where
 | sc (v:V)
 | tp (xs:List TV)
 | ls (xs:List TV)
def isSc:V->Bool|.non=>true|.bl _=>true|.int _=>true|.str _=>true|_=>false
def Rep(H:Hp):Nat->TV->V->Prop
 | 0,.sc v,x=>x=v/\isSc v=true
 | _+1,.sc v,x=>x=v/\isSc v=true
 | n+1,.tp c,x=>∃a b,x=.ref a/\H a=some (.tup b)/\Paired (Rep H n) c b
 | n+1,.ls c,x=>∃a b,x=.ref a/\H a=some (.lst b)/\Paired (Rep H n) c b
 | 0,_,_=>False
def Paired.map'(f:∀a b,R a b->S a b)(h:Paired R xs c):Paired S xs c:=by
 induction h with
 | nil=>exact .nil
 | cons h t g=>exact .cons (f _ _ h) g
theorem Rep.same{H c:Hp}(s:Same H c):∀ {n:Nat}{t:TV}{x:V},Rep H n t x->Rep c n t x
 | 0,.sc v,x,h=>h
 | n+1,.sc v,x,h=>h
 | n+1,.tp d,x,⟨a,b,e,g,p⟩=>⟨a,b,e,s _ _ g,Paired.map' (λ_ _=>Rep.same s) p⟩
 | n+1,.ls d,x,⟨a,b,e,g,p⟩=>⟨a,b,e,s _ _ g,Paired.map' (λ_ _=>Rep.same s) p⟩
def Rep.scal{v:V}(h:isSc v=true):Rep H n (.sc v) v:=by
 cases n<;>exact⟨rfl,h⟩
def Paired.get'{b c:Type}{R:b->c->Prop}:∀ {xs:List b}{a:List c}{j:Nat},Paired R xs a->∀(h:j<a.length),∃h':j<xs.length,R xs[j] a[j]
 | _,_,0,.cons h t,_=>⟨Nat.succ_pos _,h⟩
 | _,_,j+1,.cons h t,d=>let ⟨h',r⟩:=Paired.get' (j:=j) t (by simpa using d);⟨by simpa using h',by simpa using r⟩
end L2
namespace L2
open PySem PySem.Spec PyProof.Rows PySem.Builtin PySem.Builtin.Str
def Gx:∀l:List (Str×Tok),Vals ((l.map (·.1)).map V.str) (strValues l)
 | []=>.nil
 | p::l=>.cons ⟨p.2,rfl⟩ (Gx l)
def jn(c:Nat):List (List Nat)->List Nat
 | []=>[]
 | [p]=>p
 | p::q::r=>p++c::jn c (q::r)
theorem Gy{c:Nat}:∀(p q A B:List Nat),c∉p->c∉q->p++c::A=q++c::B->p=q/\A=B
 | [],[],A,B,_,_,h=>⟨rfl,by simpa using h⟩
 | [],b::q,A,B,_,d,h=>by
  simp at h;exact T7 (mem_cons.mpr (.inl h.1)) d
 | a::p,[],A,B,e,_,h=>by
  simp at h;exact T7 (mem_cons.mpr (.inl h.1.symm)) e
 | a::p,b::q,A,B,e,d,h=>by
  simp at h;obtain⟨f,g⟩:=h;obtain⟨i,j⟩:=Gy p q A B (λm=>e (fN _ m)) (λm=>d (fN _ m)) g;exact⟨by rw[f,i],j⟩
theorem Oo{c:Nat}:∀(ps a:List (List Nat)),ps≠[]->a≠[]->(∀p∈ps,c∉p)->(∀q∈a,c∉q)->jn c ps=jn c a->ps=a
 | [],_,h,_,_,_,_=>T7 rfl h
 | _,[],_,h,_,_,_=>T7 rfl h
 | [p],[q],_,_,_,_,h=>by simp[jn]at h;rw[h]
 | [p],q::f::r,_,_,b,_,h=>by
  have:c∈p:=by
   have e:p=q++c::jn c (f::r):=h;rw[e];simp
  exact T7 this (b p iV)
 | p::g::r,[q],_,_,_,d,h=>by
  have:c∈q:=by
   have e:p++c::jn c (g::r)=q:=h;rw[<- e];simp
  exact T7 this (d q iV)
 | p::g::r,q::f::i,_,_,b,d,h=>by
  obtain⟨j,k⟩:=Gy p q _ _ (b p iV) (d q iV) h;have:=Oo (g::r) (f::i) Zs Zs (λx m=>b x (fN _ m)) (λx m=>d x (fN _ m)) k;rw[j,this]
def pY(c:Nat):∀ps:List Str,(Txt.join (tx [c]) ps).cps.toList=jn c (ps.map λp=>p.cps.toList):=by
 intro ps;have e:Txt.join (tx [c]) ps=PySem.Str.join (tx [c]) ps:=StrLaws.glued_eq_join _ ps;rw[e];induction ps with
 | nil=>rfl
 | cons p r a=>
  cases r with
  | nil=>rfl
  | cons q r=>
   show((p++tx [c])++PySem.Str.join (tx [c]) (q::r)).cps.toList=_;rw[gC,gC,a (by exact StrLaws.glued_eq_join _ _)];simp[jn]
def rV{ps:List Str}(h:ps≠[])(i:∀p∈ps,c∉p.cps.toList):Txt.split (Txt.join (tx [c]) ps) (tx [c])=ps:=by
 have j:=StrLaws.join_split (Txt.join (tx [c]) ps) (tx [c]);have d:Txt.join (tx [c]) (Txt.split (Txt.join (tx [c]) ps) (tx [c]))=Txt.join (tx [c]) ps:=(StrLaws.glued_eq_join _ _).trans j;have f:=StrLaws.split_free (Txt.join (tx [c]) ps) c;have a:=split_pos (Txt.join (tx [c]) ps) (tx [c]);generalize Txt.split (Txt.join (tx [c]) ps) (tx [c])=g at d a f;have k:jn c (g.map λp=>p.cps.toList)=jn c (ps.map λp=>p.cps.toList):=by rw[<- pY,<- pY,d]
 have n:=Oo _ _ (by intro e;simp at e;rw[e]at a;exact T7 a Zd) (by simpa using h) (λx m=>by
  obtain⟨p,b,rfl⟩:=Zmm.mp m;exact f p b) (λx m=>by
  obtain⟨p,b,rfl⟩:=Zmm.mp m;exact i p b) k
 have key:∀l:List Str,(l.map λp=>p.cps.toList).map tx=l:=λl=>by
  rw[map_map];conv=>rhs;rw[<- map_id l]
  apply map_congr_left;intro p _;exact lY p
 rw[<- key g,n,key]
def kH:(" ":Str)=tx [32]:=by decide +kernel
open PySem PySem.Spec PyProof.Rows
def cW:V->Str|.str z=>z|.int n=>Str.ofString (toString n)|_=>tx []
structure Xk(xs:List V)(ns:List Str)(m:Nat):Prop where
 eq:xs=ns.map V.str++[.int (m:Int)]
 two:2<=ns.length
 four:ns.length<=4
 len:∀z∈ns,z.length<=8
 free:∀z∈ns,32∉z.cps.toList
 pos:1<=m
 most:m<=1000000000000
def Ba(m:Nat):cW (.int (m:Int))=Ay m:=rfl
def Op(m:Nat):32∉(Ay m).cps.toList:=λh=>T7 (mF m 32 h) Zo
def kI(z:Str):List V:=cP ((Txt.split z (tx [32])).map V.str) none (some (-1))++[bE (aM (cW ((eK ((Txt.split z (tx [32])).map V.str) (-1)).getD .non)))]
def uK(xs:List a)(y:a):cP (xs++[y]) none (some (-1))=xs:=by
 unfold cP HT.sIx;simp;have:(-1+((xs.length:Int)+1)).toNat=xs.length:=by omega
 rw[this];simp
def TK(H c:Hp):Prop:=∀a b,H a=some (.tup b)->c a=some (.tup b)
section
variable {X:Cx}{es:List Expr}{t:TA}{pos:Pos}
def Oq(t:TA):TE:=λd H Q=>t d H λb c=>b.length<=1000/\∀p a,Same c a->a p=some (.tup b)->Q (.ref p) a
def Uj{g}(h:PA X es t):PE X (.Tuple es g pos) (Oq t):=by
 intro f s m H Q I i;refine wpAny_Tuple_spliced (bY (h pos f s m H _ I i) λj a ⟨k,c,d,r,z,q⟩=>⟨by rw[<- r.length];exact dD z,?_⟩);have l:c a.heap.objs.size=none:=d.hok.fresh (cE _);refine⟨.ref a.heap.objs.size,aH c a.heap.objs.size (.tup k),d.laid (t':=a.toks) (λb u e=>hV _ e) (cE _) ?_,rfl,q _ _ (aA l) aD⟩;exact⟨dD z,j,r,⟨_,W1 _ rfl,rfl,_,rfl⟩⟩
def R.am{a}(h:XA X es t):XE X (.Tuple es a pos) (Oq t):=⟨Uj h.h⟩
end
section
variable {X:Cx}{pins:ZB}{σ:St}{H:Hp}{s:UV}
theorem wI:∀ {xs:List V}{vs:List WF} (i:Nat),Vals xs vs->i<xs.length->∀x,xs[i]?=some x->RelV x (vs.getD i Value.none)
 | x::xs,v::vs,0,.cons r b,_,y,a=>by
  cases a;exact r
 | x::xs,v::vs,i+1,.cons r b,c,y,a=>by
  have:=wI i b (by simpa using c) y (by simpa using a);simpa using this
end
def aCx(K:W.Frag)(c:TE)(f:Str):TE:=λe H Q=>c e H λx b=>mR x λa=>∃C d fs v,b a=some (.ins C d fs)/\Cls K C/\NoAttr K C f/\fs.lookup f=some v/\Q v b
def Xl(K:W.Frag)(e g:TE)(f:Str):TS:=λD b H=>g b H λy h=>e b h λx c=>mR x λa=>∃C d fs,c a=some (.ins C d fs)/\Cls K C/\NoAttr K C f/\fs.length<1000/\D.nx b (aH c a (.ins C d (kQ f y fs)))
section
variable {X:Cx}{e o value:Expr}{f:Str}{pos pos':Pos}{te ta tv:TE}{K:W.Frag}
def Uk(g:PE X e te)(i:attributeBase e f X.env (eval e X.env)=eval e X.env):PE X (.Attribute e f pos) (aCx X.K te f):=by
 intro d s w H Q I h;refine Gb i (bY (g d s w H _ I h) ?_);refine λu y=>yE2 λx j=>yA3 λk m b=>?_;(try dsimp only at b);rw[bS]at b;revert b;refine yE1 λa=>yA2 λζ=>yE4 λC z fs v=>yA5 λp c n l q=>?_;subst ζ;obtain rfl:u=Value.ref a:=m;exact Df k p c n l λA B r t=>⟨v,j,r,t,q⟩
def Ul(i:PE X o ta)(j:PE X value tv)(hs:swapsWith value (some (.Attribute o f pos')) pos.line X.env=pure false):PS X (.Assign [.Attribute o f pos'] value pos) (Xl X.K ta tv f):=by
 intro g s d H D I h;refine plainObj_wpAny_Assign_Attribute (bY (j g s d H _ I h) λu k ⟨y,m,p,r,q⟩=>bY (i g k d m _ p q) ?_) hs;refine λt E=>yE2 λx F=>yA3 λv w b=>?_;(try dsimp only at b);rw[bS]at b;obtain⟨a,rfl,C,G,fs,z,c,n,l,A⟩:=b;obtain rfl:t=Value.ref a:=w;exact Dg v z c n l r λJ B=>⟨d,_,B,A⟩
end
structure Jy(P:Program)(w:World)(K:W.Frag)(mg:Y4)(base:Heap)(n:Nat)(C:WP)(m:Str)(ps:List Str)(sp:Sp):Prop where
 ex:∃f fd,Cls K C/\Zu K C m f/\oS P w K mg base sZ n f fd ps sp/\Binds K fd ps []
def Gz(C:WP)(m:Str)(sp:Sp)(d:TE)(t:TA):TE:=λc H Q=>d c H λx b=>mR x λa=>∃e fs,b a=some (.ins C e fs)/\fs.lookup m=none/\t c b λf g=>sp (.ref a::f) g Q E0
section
variable {X:Cx}{e o:Expr}{es:List Expr}{m x:Str}{p pos apos:Pos}{ta:TE}{t:TA}{C:WP}{n:Nat}{ps:List Str}{sp:Sp}{dvs:List V}
def Os(w:PE X o ta)(c:Jy X.prog X.w X.K X.mg X.base n C m ps sp)(y:Room n X.A)(z:PA X (e::es) t)(hs:aO e=true)(A:(backTo pos (starEach es X.env)).any (·.1)=false)(B:eval (.Call (.Attribute o m apos) (e::es) [] pos) X.env=(do
   let g←eval o X.env
   standAt apos.atName
   let (f,first)←holding [g] (getMethod g m pl)
   callWith pos f first (backTo pos (starEach (e::es) X.env)) (backToKw pos (keywordEach [] X.env)))) :
  PE X (.Call (.Attribute o m apos) (e::es) [] pos) (Gz C m sp ta t):=by
 refine yE0 c.ex (yE2 λf N=>yA4 λD i F E=>?_);intro d s v H Q I h;refine W.methodCall_KW (pl:=pl) (bY (w d s v H _ I h) ?_) B;refine λu G=>yE2 λx J=>yA3 λj K b=>?_;(try dsimp only at b);rw[bS]at b;obtain⟨a,rfl,O,fs,L,l,q⟩:=b;obtain rfl:u=Value.ref a:=K;refine tV j L D i l ?_;refine W.callWith_K (first:=[.ref a]) (h₀:=X.base) I.ok.mod.kin i.kp (bY (z pos d G v J _ j q) λus P ⟨vs,R,k,r,M⟩=>⟨k.kIn,?_⟩) (bD hs) A;exact Dk (us:=.ref a::us) (vs:=.ref a::vs) (dvs:=[]) (ds:=[]) F y E .nil Nm k (.cons rfl r) (by rw[append_nil];exact M)
def Jz(k:PE X o ta)(c:Jy X.prog X.w X.K X.mg X.base n C m ps sp)(r:Room n X.A)(v:eval (.Call (.Attribute o m apos) [] [] pos) X.env=(do
   let g←eval o X.env
   standAt apos.atName
   let (f,first)←holding [g] (getMethod g m pl)
   callWith pos f first (backTo pos (starEach [] X.env)) (backToKw pos (keywordEach [] X.env)))) :
  PE X (.Call (.Attribute o m apos) [] [] pos) (Gz C m sp ta vD):=by
 obtain⟨f,D,w,i,F,y⟩:=c.ex;intro j s B H Q I h;refine W.methodCall_KW (pl:=pl) (bY (k j s B H _ I h) ?_) v;refine λu E=>yE2 λx G=>yA3 λb z d=>?_;(try dsimp only at d);rw[bS]at d;obtain⟨a,rfl,J,fs,A,l,q⟩:=d;obtain rfl:u=Value.ref a:=z;refine tV b A w i l ?_;exact W.callWith_K0 (first:=[.ref a]) b.kIn i.kp (Dk (us:=[.ref a]) (vs:=[.ref a]) (dvs:=[]) (ds:=[]) F r y .nil Nm b (.cons rfl .nil) (by rw[append_nil];exact q))
end
structure aDG(K:W.Frag)(x qual:Str)(st:Stmt)(dv:WF)(f:WP)(fd:FuncData):Prop where
 ex:∃(oc:WF)(od:Option WP)(kV doc pm:WF)(an:Option WP)(cdv ct:WF)(osl:Array (Option WF)),
  fd=W.fnOf x qual (cJ st) (bB st) (aE st) dv kV doc pm an cdv ct/\K.lookup f=some ⟨oc,od,.func fd,osl⟩/\W.codeIn K cdv qual=true
section
variable {P:Program}{w:World}{K:W.Frag}{mg:Y4}{base:Heap}{x qual:Str}{st:Stmt}{dv:WF}{f C:WP}{fd:FuncData}{N ps:List Str}{k:Nat}{sp:Sp}
structure MethAt(K:W.Frag)(C:WP)(m qual:Str)(st:Stmt)(ps:List Str):Prop where
 cl:Cls K C
 ex:∃f fd,Fun K m qual st f fd/\Zu K C m f/\Binds K fd ps []
def MethAt.gg(D:MethAt K C m qual st ps)(S:aI N ps (aE st))(b:∀(f:WP)(a:WF)(A:Around)(outer:List Env)(s:UV)(H:Hp)(vs:List V)(Q:VK)(E:XK),Room k (A.deeper (envOfC qual (aE st) s.heap.objs.size f a))->sp vs H Q E →
   ∃t,XB (cV sZ P w K mg base N qual (aE st) f a A outer s H E).nox (bB st) t/\t {nx:=λ_ c=>Q .non c,rt:=Q } (start N vs) H)(len:∀vs H Q E,sp vs H Q E->vs.length=ps.length:=by intro vs H Q E h;repeat (first | (obtain⟨rfl,_⟩:=h;rfl) | obtain⟨_,h⟩:=h)):Jy P w K mg base (k+1) C m ps sp:=by
 obtain⟨f,fd,F,d,e⟩:=D.ex;exact⟨f,fd,D.cl,d,F.go S len (b f),e⟩
structure ClsAt(K:W.Frag)(mg:Y4)(x:Str)(C:WP)(qual:Str)(st:Stmt)(ps:List Str)(dvs:List (List V)):Prop where
 ex:∃f fd dv,mg x=some (.ref C)/\aDG K "__init__" qual st dv f fd/\Mk K C f/\∀d∈dvs,∃ds,Binds K fd ps ds/\Vals d ds
end
namespace R
section
variable {X:Cx}{e o i value:Expr}{es:List Expr}{m x f:Str}{p pos pos' apos:Pos}{te ta tv td ty:TE}{t:TA}{C:WP}{n:Nat}{ps:List Str}{sp:Sp}{dvs:List V}{K:W.Frag}{tg:Expr}
def dy(a:XE X e te)(b:X.K=K:=by rfl)(c:attributeBase e f X.env (eval e X.env)=eval e X.env:=by rfl):XE X (.Attribute e f pos) (aCx K te f):=b▸⟨Uk a.h c⟩
def jh(a:XE X o ta)(b:XE X value tv)(c:X.K=K:=by rfl)(hs:swapsWith value (some (.Attribute o f pos')) pos.line X.env=pure false:=by rfl):XS X (.Assign [.Attribute o f pos'] value pos) (Xl K ta tv f):=c▸⟨Ul a.h b.h hs⟩
def jp(a:X.A.units+1<cLine)(b:XE X o td)(c:XE X i ty)(hs:aAg i:=by exact λ_ _=>rfl):XE X (.Subscript o i pos) (Xc td ty):=⟨Tu a b.h c.h hs⟩
def jy(c:Jy X.prog X.w X.K X.mg X.base n C m ps sp)(d:Room a X.A)(g:XE X o ta)(h:XA X (e::es) t)(hs:aO e=true:=by rfl)(j:es.all aO=true:=by rfl)(k:eval (.Call (.Attribute o m apos) (e::es) [] pos) X.env=(do
   let b←eval o X.env
   standAt apos.atName
   let (f,first)←holding [b] (getMethod b m pl)
   callWith pos f first (backTo pos (starEach (e::es) X.env)) (backToKw pos (keywordEach [] X.env))):=by rfl)(hk:n<=a:=by decide):XE X (.Call (.Attribute o m apos) (e::es) [] pos) (Gz C m sp ta t):=⟨Os g.h c (d.mono hk) h.h hs (dW j) k⟩
def fq(c:Jy X.prog X.w X.K X.mg X.base n C m ps sp)(d:Room a X.A)(g:XE X o ta)(h:eval (.Call (.Attribute o m apos) [] [] pos) X.env=(do
   let b←eval o X.env
   standAt apos.atName
   let (f,first)←holding [b] (getMethod b m pl)
   callWith pos f first (backTo pos (starEach [] X.env)) (backToKw pos (keywordEach [] X.env))):=by rfl)(hk:n<=a:=by decide):XE X (.Call (.Attribute o m apos) [] [] pos) (Gz C m sp ta vD):=⟨Jz g.h c (d.mono hk) h⟩
end
end R
theorem rH:∀(more a:List (eN×V)),(more.map (·.1)).Nodup->(∀k∈more.map (·.1),dN a k=none)->iW a more=a++more
 | [],a,_,_=>(append_nil _).symm
 | p::r,a,c,h=>by
  obtain⟨d,e⟩:=nodup_cons.mp c;show iW (rD a p.1 p.2) r=_;have f:dN a p.1=none:=h p.1 Zs;rw[rH r _ e λk b=>?_,Nd _ f]
  ·simp
  ·rw[Nc,T8 (λ(z:k=p.1)=>d (by dsimp only;rw[<- z];exact b))];exact h k (fN _ b)
section
variable {M:Model}{A:Around}{E:Y5}{s:UV}
def SD(a b:Obj):Prop:=b.dict=a.dict/\∀c,a.data=.fields c->∃d,b.data=.fields d/\d[2]?=c[2]?
def Ot(e:WP)(b:Obj)(h':Heap):Prop:=∃a,h'.get? e=some a/\SD b a
def Ou(G:A.frames=some (env::outer))(j:s.heap.FunFrames base (env::outer))(H:env.frame=some L)(l:s.heap.get? e=some g)(I:base.StaysIn s.heap)(J:base.get? e=none)(i:g.data=.fields vs)(t:1<vs.size)(K:vs[0]?=some a0)(h:∀h',Heap.NotedW base (env::outer) e g.cls a0 (rawInt L) s.heap h'->Ot e g h'->Q () {s with heap:=h' }) :
  wpAny M A (do let a←frameOf env;let pl←entryPlaceOf L F;let b←EntryCells.newEntry head a .none (rawInt L) .none pl;setField (.ref e) 1 b) Q E s:=by
 have N:e∉(env::outer).filterMap (·.frame):=λm=>by
  obtain⟨_,o,u,d⟩:=j.mem m;rw[l]at u;cases u;exact d vs i
 refine Y3 (wpAny_frameOf_fun G j H λk1 k=>Y3 (wpAny_entryPlaceOf λpl v=>?_));unfold EntryCells.newEntry newFields;refine Y3 (wpAny_newObj_type ?_ (v.sizeOk5 _ _ _ _ _));have w:k1.get? e=some g:=(k.2.1 e N).trans l;have x:base.StaysIn k1:=λb o f=>(k.2.1 b λm=>by rw[(j.mem m).1]at f;cases f).trans (I b o f)
 have y:=hV (h:=k1) {cls:=.type "traceback",dict:=none,data:=.fields ([head,.ref L,.none,rawInt L,.none]++(if pl.isEmpty then replicate 6 Value.none else pl)).toArray } w;have z:k1.objs.size≠e:=ne_of_gt (Heap.lt_size w);have n:=Obj.data_mapFields i (·.setIfInBounds 1 (Value.ref k1.objs.size));have B:=Heap.get?_update_self (Obj.mapFields (·.setIfInBounds 1 (Value.ref k1.objs.size))) y (Obj.isFreed_of_fields n);have O:=(Heap.get?_update_other (k1.push {cls:=.type "traceback",dict:=none,data:=.fields ([head,.ref L,.none,rawInt L,.none]++(if pl.isEmpty then replicate 6 Value.none else pl)).toArray }) (Obj.mapFields (·.setIfInBounds 1 (Value.ref k1.objs.size))) (Ne.symm z)).trans (W1 k1 rfl);have p:∀b o,b≠e->k1.get? b=some o->((k1.push {cls:=.type "traceback",dict:=none,data:=.fields ([head,.ref L,.none,rawInt L,.none]++(if pl.isEmpty then replicate 6 Value.none else pl)).toArray }).update e (Obj.mapFields (·.setIfInBounds 1 (Value.ref k1.objs.size)))).get? b=some o:=λb o P c=>by rw[Heap.get?_update_other _ _ (Ne.symm P)];exact hV _ c
 have C:∀b o,s.heap.get? b=some o->(∀vs,o.data≠.fields vs)->b≠e:=λb o c d q=>by rw[q,l]at c;cases c;exact d vs i
 refine wpAny_setField y i t (h _ ⟨λb o f=>p b o (λq=>by rw[q,J]at f;cases f) (x b o f),j.of_keeps λb o c d=>?_,?_,λb o c d=>?_⟩ ⟨_,B,?_⟩)
 ·obtain⟨sl,r⟩:=k.2.2 b o c;exact⟨_,p b _ (C b o c d) r,rfl⟩
 ·exact⟨_,_,k1.objs.size,_,_,B,⟨Obj.cls_mapFields _ _,by rw[Array.getElem?_setIfInBounds_ne Zd];exact K⟩,n,by simp[t],x.fresh,z,O,rfl,by first|(simp;done)|(rcases v with rfl|⟨_,_,_,_,_,_,_,rfl⟩<;>simp)⟩
 ·obtain⟨sl,r⟩:=k.2.2 b o c;exact⟨sl,p b _ (C b o c d) r⟩
 ·refine⟨by obtain⟨T,U,R,S⟩:=g;cases i;rfl,λV D=>⟨_,n,?_⟩⟩;rw[i]at D;cases D;exact Array.getElem?_setIfInBounds_ne Zd
def aCy{k:Obj}(v:A.frames=some (env::outer))(w:s.heap.FunFrames base (env::outer))(l:env.frame=some L)(f:s.heap.get? e=some k)(x:s.heap.TracedW base e cls a0)(y:base.StaysIn s.heap)(z:base.get? e=none)(h:∀h',Heap.NotedW base (env::outer) e cls a0 (rawInt L) s.heap h'->Ot e k h'->Q () {s with heap:=h' }):wpAny M A (noteFrame (.ref e) env) Q E s:=by
 revert x;refine yE5 λO m T P B=>yA9 λn ζ p r F G g i t=>?_;obtain⟨C,D⟩:=ζ;rw[f]at n;cases n;subst C;unfold noteFrame;simp only [l];refine Y3 (wpAny_field f p r ?_);rw[UF (show(Value.ref T != Value.none)=true from by simp)];refine Y3 (wpAny_field g i t ?_);rw[T8 (show ¬ ((Value.none==rawInt L)=true) from by simp[rawInt])];refine Y3 (wpAny_setField g i (Array.getElem?_eq_some_iff.mp t).1 ?_);have d:∀b,b≠T->(s.heap.update T (Obj.mapFields (·.setIfInBounds 3 Value.none))).get? b=s.heap.get? b:=λb a=>Heap.get?_update_other _ _ (Ne.symm a)
 have u:∀b o,s.heap.get? b=some o->(∀m,o.data≠.fields m)->b≠T:=λb o a c q=>by rw[q,g]at a;cases a;exact c B i
 refine Ou v (w.of_keeps λb o a c=>⟨o,(d b (u b o a c)).trans a,rfl⟩) l ((d e (Ne.symm G)).trans f) (λb o j=>(d b λq=>by rw[q,F]at j;cases j).trans (y b o j)) z p (Array.getElem?_eq_some_iff.mp r).1 D
  λh' ⟨H,I,J,K⟩ N=>h h' ⟨H,I,J,λb o a c=>K b o ((d b (u b o a c)).trans a) c⟩ N
def Xm(y:base.StaysIn s.heap)(z:s.heap.FunFrames base l)(g:s.heap.get? e=some j)(B:s.heap.TracedAtW base e cls a0 fl)(h:∀h',base.StaysIn h'->h'.FunFrames base l->h'.TracedW base e cls a0->(∀b o,s.heap.get? b=some o->(∀vs,o.data≠.fields vs)->h'.get? b=some o)->h'.get? e=some j->Q () {s with heap:=h' }):wpAny M A (setFlight (.ref e) none) Q E s:=by
 revert B;refine yE5 λF vs T G p=>yA9 λr C t u v k m i D=>?_;rw[g]at r;cases r;have w:3<p.size:=(Array.getElem?_eq_some_iff.mp D).1;have c:∀b,b≠T->(s.heap.update T (Obj.mapFields (·.setIfInBounds 3 ((none:Option WP).elim Value.none λf=>rawInt f)))).get? b=s.heap.get? b:=λb a=>Heap.get?_update_other _ _ (Ne.symm a)
 have x:∀b o,s.heap.get? b=some o->(∀vs,o.data≠.fields vs)->b≠T:=λb o a d q=>by rw[q,m]at a;cases a;exact d p i
 unfold setFlight;refine Y3 (wpAny_field g t u ?_);rw[UF (show(Value.ref T != Value.none)=true from by simp)];refine wpAny_setField m i w (h _ (λb o n=>(c b λq=>by rw[q,v]at n;cases n).trans (y b o n)) (z.of_keeps λb o a d=>⟨o,(c b (x b o a d)).trans a,rfl⟩) ?_ (λb o a d=>(c b (x b o a d)).trans a) ((c e (Ne.symm k)).trans g));exact⟨j,vs,T,_,_,(c e (Ne.symm k)).trans g,C,t,u,v,k,Heap.get?_update_self _ m (Obj.isFreed_of_fields (Obj.data_mapFields i _)),Obj.data_mapFields i _,by simp[w]⟩
def aAJ(j:A.frames=some (env::outer))(l:s.heap.FunFrames base (env::outer))(c:env.frame=some L)(d:s.heap.get? e=some a)(m:base.StaysIn s.heap)(n:base.get? e=none)(f:a.data=.fields vs)(g:vs[1]?=some .none)(p:vs[0]?=some a0)(h:∀h',Heap.LeftW base (env::outer) e a.cls a0 s.heap h'->Ot e a h'->Q () {s with heap:=h' }):wpAny M A (leaving env (.ref e)) Q E s:=by
 unfold leaving noteFrame;simp only [c];refine Y3 (Y3 (wpAny_field d f g ?_));rw[T8 Zd];refine Ou j l c d m n f (Array.getElem?_eq_some_iff.mp g).1 p λk ⟨r,t,u,v⟩ ⟨w,x,y⟩=>?_;exact Xm (s:={s with heap:=k }) r t x u λh' z B C D F=>h h' ⟨z,B,C,λb o G i=>let ⟨sl,q⟩:=v b o G i;⟨sl,D b _ q i⟩⟩ ⟨w,F,y⟩
end
section
variable {P:Program}{w:World}{H H0:Hp}{h h1 h2:Heap}{a:WP}{o:HO}
def ObjOk.has(x:ObjOk P w H h a o):∃b,h.get? a=some b:=by
 cases o with
 | lst d=>obtain⟨_,_,_,_,e⟩:=x;exact⟨_,e⟩
 | tup d=>obtain⟨_,_,_,b,e,_⟩:=x;exact⟨_,e⟩
 | dK c=>obtain⟨_,_,_,_,b,_,_,e,_⟩:=x;exact⟨_,e⟩
 | dT c=>revert x;refine yA3 λ_ _=>yE1 λ_=>yA2 λ_=>yE3 λb _ _=>yA2 λe _=>?_;exact⟨_,e⟩
 | set S n=>revert x;refine yE4 λb _ _ _=>yA2 λe _=>?_;exact⟨_,e⟩
 | ins C g fs=>revert x;refine yA5 λ_ _ _ e _=>?_;exact⟨_,e⟩
 | own y=>exact x
 | xd fs=>obtain⟨_,⟨b,_,_,e,_⟩,_⟩:=x;exact⟨_,e⟩
 | rng lo i=>revert x;refine yE3 λ_ _ _ e=>?_;exact⟨_,e⟩
 | frz b u=>exact⟨_,x.1⟩
 | tbl ps=>exact⟨_,x⟩
 | met f y=>exact⟨_,x⟩
 | ext j=>exact x.2.1
def HOk.none_of(x:HOk P w H h)(e:h.get? a=none):H a=none:=by
 cases q:H a with
 | none=>rfl
 | some u=>
  obtain⟨b,z⟩:=(x a u q).has;rw[e]at z;cases z
def Dy{fs g:List WP}(un:Un fs [] H0 H i h1)(B:HOk P w H h1)(s:∀b∈g,b∈fs∨(i.get? b=none/\H b=none))(I:∀b∈fs,b∈g)(t:∀b∈fs,H0 b=none/\∃o,i.get? b=some o/\∀vs,o.data≠.fields vs)(C:(W.hideAll h1 g).StaysIn h2)(D:∀b o,h1.get? b=some o->(∀vs,o.data≠.fields vs)->∃sl,h2.get? b=some {o with slots:=sl }):Un fs [] H0 H i h2/\HOk P w H h2:=by
 have p:∀b d,h1.get? b=some d->b∉g->h2.get? b=some d:=λb d q n=>C b d (W.hideAll_get _ q n)
 have x:∀b d,i.get? b=some d->b∉fs->b∉g:=λb d q n z=>by
  rcases s b z with y|y
  ·exact n y
  ·rw[y.1]at q;cases q
 have sl:∀b d,i.get? b=some d->b∈fs->∃sl,h2.get? b=some {d with slots:=sl }:=λb d q f=>by
  obtain⟨r,k,l,E⟩:=t b f;rw[q]at l;cases l;obtain⟨sl,e⟩:=un.slot b d q r f Zs;obtain⟨F,G⟩:=D b {d with slots:=sl } e E;exact⟨F,G⟩
 refine⟨⟨λb d q n f m=>p b d (un.keep b d q n f m) (x b d q f),λb d q n f m=>sl b d q f,un.free,λb d q m=>?_,un.tups,un.frzs,un.tbls⟩,λb u e=>?_⟩
 ·by_cases f:b∈fs
  ·obtain⟨_,z⟩:=sl b d q f;exact⟨_,z⟩
  ·obtain⟨k,z⟩:=un.there b d q m;exact⟨k,p b k z (x b d q f)⟩
 ·have A:∀c v,H c=some v->c∉g:=λc v j z=>by
   rcases s c z with y|y
   ·obtain⟨r,k,l,_⟩:=t c y;rw[un.free c k l r Zs]at j;cases j
   ·rw[y.2]at j;cases j
  refine(B b u e).stay (λc v j q=>p c v q ?_) (λ_ q=>q) λ_ _ q=>q;rcases j with z|z
  ·rw[z];exact A b u e
  ·exact A c _ z
def yH{fs d:List WP}(un:Un fs [] H0 H c h1)(p:HOk P w H h1)(r:∀b∈d,b∈fs∨(c.get? b=none/\H b=none))(s:∀b∈fs,H0 b=none/\∃o,c.get? b=some o/\∀vs,o.data≠.fields vs)(t:∀b o,h1.get? b=some o->(∀vs,o.data≠.fields vs)->∃sl,h2.get? b=some {o with slots:=sl })(i:(W.hideAll h1 d).get? T=none)(u:h2.get? T=some f)(v:f.data=.fields g):c.get? T=none/\H T=none:=by
 by_cases j:T∈d
 ·rcases r T j with y|y
  ·obtain⟨x,k,A,l⟩:=s T y;obtain⟨sl,e⟩:=un.slot T k A x y Zs;obtain⟨B,m⟩:=t T _ e l;rw[u]at m;cases m;exact T7 v (l g)
  ·exact y
 ·have z:h1.get? T=none:=by
   cases q:h1.get? T with
   | none=>rfl
   | some n=>
    rw[W.hideAll_get _ q j]at i;cases i
  refine⟨?_,p.none_of z⟩
  cases q:c.get? T with
  | none=>rfl
  | some n=>
   obtain⟨k,e⟩:=un.there T n q Zs;rw[z]at e;cases e
end
def Trc(h:Heap)(a:WP)(cls fl:WF)(T:WP):Prop:=
 ∃b c f d e,h.get? a=some b/\b.cls=cls/\c[0]?=some f/\b.data=.fields c/\c[1]?=some (.ref T)/\T≠a/\h.get? T=some d/\d.data=.fields e/\e[3]?=some fl
def DOf(h:Heap)(a:WP)(od:Option WP):Prop:=∃b c,h.get? a=some b/\b.data=.fields c/\(∀d,od=some d->b.dict=some d)/\(od=none->c[2]?=some .none)
structure Fly(P:Program)(w:World)(l:List Env)(H0:Hp)(s0:UV)(H:Hp)(a:WP)(cls:WF)(od:Option WP)(fl:WF)(s:UV):Prop where
 na:s0.heap.get? a=none
 os:s.os=s0.os
 bare:AllBare s.gens
 un:Un (lM l) [] H0 H s0.heap s.heap
 hok:HOk P w H s.heap
 ha:H a=none
 tr:∃T,Trc s.heap a cls fl T/\s0.heap.get? T=none/\H T=none
 dd:DOf s.heap a od
def rJ(P:Program)(w:World):Mv:=λf H s E e g=>∃a b c d,e=Value.ref a/\Fly P w f H s d a b c .none g/\E b c d
section
variable {X:Cx}{pins:ZB}{σ:St}{H H0:Hp}{s s0:UV}{a:WP}{cls fl:WF}{od:Option WP}{M:Model}{A:Around}{E:Y5}{Q:Unit->UV->Prop}
def yI(c:env∈l)(d:env.frame=some b):b∈lM l:=mem_filterMap.mpr ⟨env,c,d⟩
def Inv.frms(I:Inv X pins σ H s):∀b∈lM X.stack,H b=none/\∃o,s.heap.get? b=some o/\∀vs,o.data≠.fields vs:=λb c=>
 ⟨I.stkFree b c,(I.stack.mem c).2⟩
def Fly.inv(F:Fly X.prog X.w X.stack H0 s0 H a cls od fl s)(b:Inv X pins σ H0 s0):Inv X pins σ H s:=b.call' F.os F.un F.hok F.bare (λ_ z=>nomatch z)
def pZ(d:Inv X pins σ H0 s0)(F:Fly X.prog X.w X.stack H0 s0 H a cls od .none s)(p:A.frames=some X.stack)(g:X.stack=X.env::X.outer)(q:X.env.frame=some X.env.locals)(k:∀h,Fly X.prog X.w X.stack H0 s0 H a cls od (rawInt X.env.locals) h->Q () h):wpAny M A (noteFrame (.ref a) X.env) Q E s:=by
 have a1:=F.inv d;obtain⟨T,⟨r,t,a0,u,v,f,w,x,B,C,D,G,I,J⟩,K,N⟩:=F.tr;have O:∀env∈X.stack,∀b,env.frame=some b->b∈lM X.stack++[a,T]:=λenv P b c=>T0 _ (yI P c)
 have i:∀b∈lM X.stack++[a,T],b∈lM X.stack∨(s0.heap.get? b=none/\H b=none):=λb c=>by
  rcases Zma.mp c with z|z
  ·exact .inl z
  ·rcases mem_cons.mp z with y|y
   ·rw[y];exact .inr ⟨F.na,F.ha⟩
   ·rw[Zms.mp y];exact .inr ⟨K,N⟩
 have R:a∈lM X.stack++[a,T]:=TW _ iV;have S:T∈lM X.stack++[a,T]:=TW _ (fN _ iV);have U:=W.funFrames_hide a1.stack O;have go:=aCy (M:=M) (A:=A) (E:=E) (Q:=Q) (s:=s) (base:=W.hideAll s.heap (lM X.stack++[a,T])) (env:=X.env) (outer:=X.outer) (L:=X.env.locals) (e:=a) (cls:=cls) (a0:=a0) (by rw[p,g]) (by rw[<- g];exact U) q f
  ⟨r,t,T,u,v,f,⟨w,x⟩,B,C,W.hideAll_none _ S,D,G,I,J⟩ (λb a3 a2=>W.of_hideAll _ a2) (W.hideAll_none _ R) ?_
 ·exact go
 ·rintro h' ⟨k1,k2,⟨V,Y,Z,HH,HI,q1,⟨q2,q3⟩,q4,q5,q6,q7,j,l,HK⟩,m⟩ ⟨MW,d1,n⟩;obtain⟨u2,HL⟩:=Dy F.un F.hok i (λb c=>T0 _ c) d.frms k1 m;obtain⟨n1,n2⟩:=yH F.un F.hok i d.frms m q6 j l;refine k _ ⟨F.na,F.os,F.bare,u2,HL,F.ha,⟨Z,⟨V,Y,a0,HH,HI,q1,q2,q3,q4,q5,q7,j,l,HK⟩,n1,n2⟩,?_⟩;refine yE0 F.dd (yE2 λo1 v1=>yA4 λo z2 z3 z4=>?_);rw[f]at o;cases o;obtain⟨v2,y1,y2⟩:=n.2 _ z2;exact⟨MW,v2,d1,y1,λdx BA=>n.1.trans (z3 dx BA),λhn=>y2.trans (z4 hn)⟩
def iX(d:Inv X pins σ H0 s0)(F:Fly X.prog X.w X.stack H0 s0 H a cls od fl s)(k:∀h,Fly X.prog X.w X.stack H0 s0 H a cls od .none h->Q () h):wpAny M A (setFlight (.ref a) none) Q E s:=by
 have a1:=F.inv d;obtain⟨T,⟨i,e,a0,t,u,f,v,w,x,B,C,D,G,I⟩,J,K⟩:=F.tr;have L:∀g∈X.stack,∀b,g.frame=some b->b∈lM X.stack++[a,T]:=λg N b c=>T0 _ (yI N c)
 have j:∀b∈lM X.stack++[a,T],b∈lM X.stack∨(s0.heap.get? b=none/\H b=none):=λb c=>by
  rcases Zma.mp c with z|z
  ·exact .inl z
  ·rcases mem_cons.mp z with y|y
   ·rw[y];exact .inr ⟨F.na,F.ha⟩
   ·rw[Zms.mp y];exact .inr ⟨J,K⟩
 have O:T∈lM X.stack++[a,T]:=TW _ (fN _ iV);refine Xm (base:=W.hideAll s.heap (lM X.stack++[a,T])) (l:=X.stack) (cls:=cls) (a0:=a0) (fl:=fl) (λb o q=>W.of_hideAll _ q) (W.funFrames_hide a1.stack L) f ⟨i,e,T,t,u,f,⟨v,w⟩,x,B,W.hideAll_none _ O,C,D,G,I⟩ ?_;rintro P k1 k2 ⟨R,S,U,V,Y,Z,⟨q2,q3⟩,q4,q5,q6,q7,m,n,HK⟩ k4 kE;have p:∀b o,s.heap.get? b=some o->(∀e,o.data≠.fields e)->∃sl,P.get? b=some {o with slots:=sl }:=λb o q a2=>⟨o.slots,k4 b o q a2⟩
 obtain⟨u2,HL⟩:=Dy F.un F.hok j (λb c=>T0 _ c) d.frms k1 p;obtain⟨n1,n2⟩:=yH F.un F.hok j d.frms p q6 m n;refine k _ ⟨F.na,F.os,F.bare,u2,HL,F.ha,⟨U,⟨R,S,a0,V,Y,Z,q2,q3,q4,q5,q7,m,n,HK⟩,n1,n2⟩,?_⟩;refine yE0 F.dd (yE2 λo1 v1=>yA4 λr z2 z3 z4=>?_);rw[f]at r;cases r;exact⟨i,v1,kE,z2,z3,z4⟩
def Bb{pins:ZB}{G σ:St}{cls:WF}{P:Program}{w:World}{K:W.Frag}{mg:Y4}{base:Heap}{N:List Str}{d:Str}{c:Scope}{f:WP}{g:WF}{A:Around}{outer:List Env}{s s0 i:UV}{H H0 j:Hp}{E:XK}{e t:WP}{k:Option WP}{vs:Array Value}{sl:Array (Option WF)}(J:Inv (cV (rJ P w) P w K mg base N d c f g A outer s H E) pins G H0 s0)(L:s0.heap.get? e=none)(p:j e=none)(I:Inv (cV (rJ P w) P w K mg base N d c f g A outer s H E) pins σ j i)(l:(envOfC d c s.heap.objs.size f g).frame=some (envOfC d c s.heap.objs.size f g).locals)(m:i.heap.get? e=some {cls:=cls,dict:=k,data:=.fields vs,slots:=sl })(O:vs[0]?=some (.ref t))(R:vs[1]?=some .none)(S:k=none->vs[2]?=some .none)(q:E cls k j) :
  (cV (rJ P w) P w K mg base N d c f g A outer s H E).xe (.ref e) i:=by
 have r:Un (lM outer) [] H j s.heap i.heap:=I.base;have T:Un (lM outer) [] H H0 s.heap s0.heap:=J.base;have u:∀b∈lM outer,H b=none/\∃o,s.heap.get? b=some o/\∀vs,o.data≠.fields vs:=λb h=>⟨I.ok.frf b h,(I.ok.funs.mem h).2⟩
 have st:(cV (rJ P w) P w K mg base N d c f g A outer s H E).stack=envOfC d c s.heap.objs.size f g::outer:=rfl;have U:s.heap.get? (envOfC d c s.heap.objs.size f g).locals=none:=Heap.get?_none_of_le I.ok.above;have v:s.heap.get? e=none:=by
  cases z:s.heap.get? e with
  | none=>rfl
  | some V=>
   obtain⟨o',y⟩:=T.there e V z Zs;rw[L]at y;cases y
 have Y:∀env∈(envOfC d c s.heap.objs.size f g::outer),∀b,env.frame=some b->b∈lM (envOfC d c s.heap.objs.size f g::outer)++[e]:=λenv m b h=>T0 _ (yI m h)
 have x:∀b∈lM (envOfC d c s.heap.objs.size f g::outer)++[e],b∈lM outer∨(s.heap.get? b=none/\j b=none):=λb h=>by
  rcases Zma.mp h with z|z
  ·unfold lM at z;rw[QZY,l]at z;rcases mem_cons.mp z with y|y
   ·rw[y];exact .inr ⟨U,I.free⟩
   ·exact .inl y
  ·rw[Zms.mp z];exact .inr ⟨v,p⟩
 have Z:∀b∈lM outer,b∈lM (envOfC d c s.heap.objs.size f g::outer)++[e]:=λb h=>by
  refine T0 _ ?_;unfold lM;rw[QZY,l];exact fN _ h
 have FR:e∈lM (envOfC d c s.heap.objs.size f g::outer)++[e]:=TW _ iV;have VQ:i.heap.FunFrames base (envOfC d c s.heap.objs.size f g::outer):=I.stack;have go:=aAJ (M:=model P w) (A:=A.deeper (envOfC d c s.heap.objs.size f g)) (E:=λe' n=>rJ P w outer H s E e' n) (Q:=λ_ n=>rJ P w outer H s E (.ref e) n) (s:=i) (base:=W.hideAll i.heap (lM (envOfC d c s.heap.objs.size f g::outer)++[e])) (env:=envOfC d c s.heap.objs.size f g) (outer:=outer) (e:=e) (a0:=.ref t)
  I.ok.frames (W.funFrames_hide VQ Y) l m (λb o q=>W.of_hideAll _ q) (W.hideAll_none _ FR) rfl R O ?_
 ·exact go
 ·rintro h2 ⟨k1,k2,⟨qx,Y9,T',HH,HI,q1,⟨q2,q3⟩,q4,q5,q6,q7,B,C,HK⟩,D⟩ ⟨MW,d1,F⟩;obtain⟨u2,HL⟩:=Dy r I.hok x Z u k1 D;obtain⟨n1,n2⟩:=yH r I.hok x u D q6 B C;exact⟨e,cls,k,j,rfl,⟨v,I.os,I.bare,u2,HL,p,⟨T',⟨qx,Y9,_,HH,HI,q1,q2,q3,q4,q5,q7,B,C,HK⟩,n1,n2⟩,let ⟨v2,y1,y2⟩:=F.2 _ rfl;⟨MW,v2,d1,y1,λvd BA=>F.1.trans BA,λhn=>y2.trans (S hn)⟩⟩,q⟩
def Ov{P:Program}{w:World}{K:W.Frag}{mg:Y4}{base:Heap}{N:List Str}{c:Str}{b:Scope}{f:WP}{d:WF}{A:Around}{outer:List Env}{s h:UV}{H i:Hp}{E:XK}{e:WP}{h':Heap}{j:List WF}(I:Inv (cV (rJ P w) P w K mg base N c b f d A outer s H E) pins σ i h)(k:(envOfC c b s.heap.objs.size f d).frame=some (envOfC c b s.heap.objs.size f d).locals)(g:Heap.MadeExcOf h.heap h' e cls j)(q:E cls none i) :
  (cV (rJ P w) P w K mg base N c b f d A outer s H E).xe (.ref e) {h with heap:=h' }:=by
 obtain⟨t,l,_,_⟩:=g.there;exact Bb I g.new (I.hok.none_of g.new) (I.kept g.keeps) k l rfl rfl (λ_=>rfl) q
end
abbrev Hb:List Value:=[.type "ValueError",.type "Exception",.type "BaseException",.type "object"]
structure XCls(K:W.Frag)(mg:Y4)(x:Str)(C:WP):Prop where
 at_:mg x=some (.ref C)
 ok:W.excIn K C Hb "ValueError.__new__"=true
def XCls.obj{K:W.Frag}{mg:Y4}{x:Str}{C:WP}{h:Heap}(c:XCls K mg x C)(X:K.In h) :
  ∃bm N nm q bs hdct sn sub ab col dd k0 k1 k2 k3 k5 mN,h.get? C=some (excClassObj nm q C N bs bm hdct sn sub ab col dd k0 k1 k2 k3 k5 "ValueError.__new__")/\h.Ns N mN/\mN "__init__"=none/\OwnTail h Hb bm:=by
 have q:=c.ok;unfold W.excIn at q;split at q
 ·rename_i dd g sl i;split at q
  ·rename_i v bm k0 k1 k2 k3 n k5 b d;simp only [Bool.and_eq_true,beq_iff_eq,Bool.not_eq_true']at q;obtain⟨⟨⟨⟨⟨j,k⟩,e⟩,m⟩,a⟩,f⟩:=q;subst j k;obtain⟨nm,bs,t,o,p,r,sn,sub,ab,col,u⟩:=g;dsimp only at b e a f;subst b e;have s:sl=#[k0,k1,k2,k3,some (.builtin "ValueError.__new__"),k5]:=by
    obtain⟨l⟩:=sl;simp only at d;rw[d]
   subst s;exact⟨bm,o,nm,p,bs,r,sn,sub,ab,col,dd,k0,k1,k2,k3,k5,_,X _ _ i,.of_isNs (W.isNs_of_in X a),W.nsMap_none_of_in X a f,W.tail_of_in X m⟩
  ·cases q
 ·cases q
def Ow(C:WP)(E:XK)(t:TA):TS:=λ_ c H=>t c H λa b=>a.length<=sizeLine/\E (.ref C) none b
def Dz(X:Cx)(E:XK):Prop:=∀(c:ZB)(f:St)(H:Hp)(s:UV)(b:Heap)(e:WP)(a:WF)(d:List WF),Inv X c f H s->Heap.MadeExcOf s.heap b e a d->E a none H->X.xe (.ref e) {s with heap:=b }
def rK{P:Program}{w:World}{K:W.Frag}{mg:Y4}{base:Heap}{N:List Str}{b:Str}{a:Scope}{f:WP}{c:WF}{A:Around}{outer:List Env}{s:UV}{H:Hp}{E:XK}(d:(envOfC b a s.heap.objs.size f c).frame=some (envOfC b a s.heap.objs.size f c).locals:=by rfl):Dz (cV (rJ P w) P w K mg base N b a f c A outer s H E) E:=
 λh n k l m e j i I g q=>Ov I d g q
section
variable {X:Cx}{x:Str}{C:WP}{E:XK}{e:Expr}{es:List Expr}{t:TA}{np cpos pos:Pos}
def Ox(c:XCls X.K X.mg x C)(i:Dz X E)(j:X.calm=true)(k:Gl X x)(l:PA X (e::es) t)(hs:aO e=true)(m:es.all aO=true)(n:(x==("__debug__":Str))=false) :
  PS X (.Raise (some (.Call (.Name x np) (e::es) [] cpos)) none pos) (Ow C E t):=by
 intro b s g H D I h;refine yE0 (c.obj I.mod.kin) (yE9 λo N nm q bs hdct sn sub ab=>yE8 λcol dd k0 k1 k2 k3 k5 mN=>yA4 λp u v T=>?_);have d:starEach (e::es) X.env=(false,eval e X.env)::starEach es X.env:=bD hs;refine wpAny_Raise_call_subT (C:=C) (nm:=nm) (q:=q) (N:=N) (bs:=bs) (bm:=o) (hdct:=hdct) (sn:=sn) (sub:=sub) (ab:=ab) (col:=col) (dd:=dd) (k0:=k0) (k1:=k1) (k2:=k2) (k3:=k3) (k5:=k5)
  PySem.F.excBase_ValueError (mN:=mN) (T.hasType PySem.F.excBase_ValueError.hasBase) (I.ok.hd j) (by rw[d];show(false||(backTo cpos (starEach es X.env)).any (·.1))=false;rw[dW m];rfl) v (gB I k c.at_ ⟨rfl,?_⟩ n)
 have f:=l cpos b s g H _ I h;rw[d]at f ⊢;refine Calls.evalArgs_plain (bY f λG w ⟨J,y,a,r,z,q⟩=>⟨rfl,by rw[<- r.length];exact z,a.bk _ _ p,u.keeps a.bk,T.keeps a.bk,λA B F=>i b g y w A B _ _ a F q⟩)
end
structure iK(P:Program)(w:World)(K:W.Frag)(mg:Y4)(base:Heap)(n:Nat)(x:Str)(ps:List Str)(sp:Sp):Prop where
 ex:∃f fd,mg x=some (.ref f)/\W.keepIn K (.ref f)=true/\oS P w K mg base (rJ P w) n f fd ps sp/\Binds K fd ps []
def DefAt.ggX{P:Program}{w:World}{K:W.Frag}{mg:Y4}{base:Heap}{x:Str}{st:Stmt}{N ps:List Str}{k:Nat}{sp:Sp}(D:DefAt K mg x st ps)(S:aI N ps (aE st))(b:∀(f:WP)(a:WF)(A:Around)(outer:List Env)(s:UV)(H:Hp)(vs:List V)(Q:VK)(E:XK),Room k (A.deeper (envOfC x (aE st) s.heap.objs.size f a))->sp vs H Q E →
   ∃t,XB (cV (rJ P w) P w K mg base N x (aE st) f a A outer s H E) (bB st) t/\t {nx:=λ_ c=>Q .non c,rt:=Q } (start N vs) H)(len:∀vs H Q E,sp vs H Q E->vs.length=ps.length:=by intro vs H Q E h;repeat (first | (obtain⟨rfl,_⟩:=h;rfl) | obtain⟨_,h⟩:=h)):iK P w K mg base (k+1) x ps sp:=by
 obtain⟨f,d,F,e,g⟩:=D.ex;refine⟨f,d,e,F.kp,?_,g⟩;refine yE0 F.ex (yE9 λo p kV m r u a v n=>yA3 λζ lk i=>?_);subst ζ;refine Mw lk i S len λA outer s H vs Q E j l=>?_;obtain⟨t,h,q⟩:=b f a A outer s H vs Q E j l;exact⟨t,h.h,q⟩
def wJ(X:Cx)(f:St->WF->Option WP->Hp->Prop):Prop:=∀(c:ZB)(b:St)(H:Hp)(s:UV)(e:WF)(a:UV),Inv X c b H s->rJ X.prog X.w X.stack H s (λd g h=>f b d g h) e a->X.xe e a
def aCz(sp:Sp)(c:St->WF->Option WP->Hp->Prop)(t:TA):TE:=λa H Q=>t a H λd e=>sp d e Q (λb f g=>c a b f g)
section
variable {X:Cx}{x:Str}{n:Nat}{ps:List Str}{sp:Sp}{Ex:St->WF->Option WP->Hp->Prop}{e:Expr}{es:List Expr}{t:TA}{p pos:Pos}
def aAK(c:iK X.prog X.w X.K X.mg X.base n x ps sp)(m:Room n X.A)(o:Gl X x)(v:wJ X Ex)(w:PA X (e::es) t)(hs:aO e=true)(y:es.all aO=true)(z:(x==("__debug__":Str))=false) :
  PE X (.Call (.Name x p) (e::es) [] pos) (aCz sp Ex t):=by
 refine yE0 c.ex (yE2 λf M=>yA4 λA B F C=>?_);intro i s l H Q I h;refine wpAny_Call_Name_kw (gB I o A ?_ z);refine W.callWith_K (h₀:=X.base) I.ok.mod.kin B (bY (w pos i s l H _ I h) λd g ⟨D,j,a,r,q⟩=>⟨a.kIn,?_⟩) (bD hs) (dW y);have E:d.length=ps.length:=by rw[<- r.length];exact F.len _ _ _ _ q
 have k:=C g d a.kIn (by rw[append_nil];exact E);rw[append_nil]at k;refine wpAny_call (codeAny_mono (F.run X.A X.stack g j ⟨d,[]⟩ d D Q _ m a.env0 k r q) λG J b=>?_)
 cases G with
 | error K=>exact v i l j g K J a b
 | ok L=>
  cases L with
  | ret u=>exact a.after b
  | next=>exact False.elim b
  | brk=>exact False.elim b
  | cont=>exact False.elim b
end
def XF(X:Cx)(c:St->WF->Option WP->Hp->Prop):WF->UV->Prop:=λe d=>∃ a H s,Inv X [] a H s/\rJ X.prog X.w X.stack H s (λb f g=>c a b f g) e d
abbrev Cx.pin(X:Cx)(pn:ZB):Cx:={X with pn:=pn }
abbrev Cx.trying(X:Cx)(pn:ZB)(a:St->WF->Option WP->Hp->Prop):Cx:={X with pn:=pn,xe:=XF (X.pin pn) a }
abbrev Cx.handling(X:Cx)(a:WP):Cx:={X with A:=X.A.mark (some (.ref a)),calm:=false,xe:=λ_ _=>False }
section
variable {X:Cx}{pins pn:ZB}{σ:St}{H:Hp}{s:UV}{Ex:St->WF->Option WP->Hp->Prop}{a:WP}
def Cx.Ok.pin(ok:X.Ok):(X.pin pn).Ok:=⟨ok.mod,ok.kind,ok.glob,ok.blt,ok.above,ok.inj,ok.has,ok.cab,ok.hd,ok.frames,ok.stk,ok.exf,ok.bs,ok.bsz,ok.noex,ok.exfs,ok.funs,ok.frf⟩
def Cx.Ok.handling(ok:X.Ok):(X.handling a).Ok:=⟨ok.mod,ok.kind,ok.glob,ok.blt,ok.above,ok.inj,ok.has,ok.cab,nofun,ok.frames,ok.stk,ok.exf,ok.bs,ok.bsz,ok.noex,ok.exfs,ok.funs,ok.frf⟩
def Inv.pnIn(I:Inv X pins σ H s):Inv (X.pin (X.pn++pins)) [] σ H s:=⟨I.ok.pin,I.os,I.bare,I.base,I.loc,I.cell,I.free,I.freeC,λp b=>I.pin p (by rw[append_nil]at b;exact b),I.hok,I.len⟩
def Inv.pnOut(I:Inv (X.pin (X.pn++pins)) [] σ H s)(ok:X.Ok):Inv X pins σ H s:=⟨ok,I.os,I.bare,I.base,I.loc,I.cell,I.free,I.freeC,λp b=>I.pin p (by rw[append_nil];exact b),I.hok,I.len⟩
def Inv.handling(I:Inv X pins σ H s):Inv (X.handling a) pins σ H s:=⟨I.ok.handling,I.os,I.bare,I.base,I.loc,I.cell,I.free,I.freeC,I.pin,I.hok,I.len⟩
def Inv.handled(I:Inv (X.handling a) pins σ H s)(ok:X.Ok):Inv X pins σ H s:=⟨ok,I.os,I.bare,I.base,I.loc,I.cell,I.free,I.freeC,I.pin,I.hok,I.len⟩
def Inv.trying(I:Inv (X.pin pn) pins σ H s):Inv (X.trying pn Ex) pins σ H s:=I.wish _
def Inv.tried(I:Inv (X.trying pn Ex) pins σ H s):Inv (X.pin pn) pins σ H s:=Inv.unwish (X:=X.pin pn) (E:=XF (X.pin pn) Ex) I
def kU:wJ (X.trying pn Ex) Ex:=λpins σ H s e c I h=>⟨σ,H,s,I.tried.pins_of (λp b=>nomatch b),h⟩
def sP(a:WP)(cls:WF)(od:Option WP):Heap->Prop:=λh=>∃o c,h.get? a=some o/\o.cls=cls/\o.data=.fields c/\∀b,od=some b->o.dict=some b
def Inv.extA{k:Heap->Prop}(I:Inv X pins σ H s)(g:Inv X pins A B r)(hex:X.ex=[])(i:r.heap.get? a=none)(f:H a=none)(l:k s.heap)(d:∃o,s.heap.get? a=some o)(hk:∀h h':Heap,k h->(∀o,h.get? a=some o->h'.get? a=some o)->k h'):Inv X pins σ (aH H a (.ext k)) s where
 ok:=I.ok
 os:=I.os
 bare:=I.bare
 base:=by
  have C:∀b e,X.s₀.heap.get? b=some e->b≠a:=λb e q z=>by
   obtain⟨G,y⟩:=g.base.there b e q (by rw[hex];simp);rw[z,i]at y;cases y
  refine⟨I.base.keep,I.base.slot,λb e q n l=>?_,I.base.there,λb t q=>?_,λb e u q=>?_,λb ps q=>?_⟩
  ·rw[aJ (C b e q)];exact I.base.free b e q n l
  ·have:=I.base.tups b t q;rw[aJ (aF this f)];exact this
  ·have:=I.base.frzs b e u q;rw[aJ (aF this f)];exact this
  ·obtain⟨more,z⟩:=I.base.tbls b ps q;exact⟨more,by rw[aJ (aF z f)];exact z⟩
 loc:=I.loc
 cell:=I.cell
 free:=by
  have:X.env.locals≠a:=λz=>by
   obtain⟨m,⟨o,_,_,d,_⟩,_⟩:=g.loc;rw[z,i]at d;cases d
  rw[aJ this];exact I.free
 freeC:=λx c h=>by
  have:c≠a:=λz=>by
   obtain⟨v,o,d,_⟩:=g.cell x c h;rw[z,i]at d;cases d
  rw[aJ this];exact I.freeC x c h
 pin:=λp w=>by
  obtain⟨D,E,F⟩:=I.pin p w;have:p.1≠a:=λz=>by
   have d:=(g.pin p w).1;rw[z,i]at d;cases d
  exact⟨D,by rw[aJ this];exact E,F⟩
 hok:=by
  intro b u j;by_cases q:b=a
  ·subst q;rw[aD]at j;cases j;exact⟨l,d,hk⟩
  ·rw[aJ q]at j;refine(I.hok b u j).stay (λc v _ h=>h) (λc h=>?_) λc t h=>?_
   ·rw[aJ (aF h f)];exact h
   ·rw[aJ (aF h f)];exact h
 len:=I.len
def Inv.exc(I:Inv X pins σ H s)(g:Inv X pins e f b)(hex:X.ex=[])(h:b.heap.get? a=none)(i:H a=none)(c:sP a cls od s.heap):Inv X pins σ (aH H a (.ext (sP a cls od))) s:=
 I.extA g hex h i c (let ⟨o,_,j,_⟩:=c;⟨o,j⟩) λ_ _ ⟨d,l,m,n⟩ k=>⟨d,l,k d m,n⟩
def tE(I:Inv X pins σ H s)(B:X.N.Nodup)(l:X.N[i]?=some x)(m:X.env.kindOf x=some .local)(L:Lz X.env.scope x)(N:X.fn x=true∨X.env.scope.names.lookup x=some .local)(h:∀C,Inv X pins (σ.set i none) H C->Q () C):wpAny M A (do bindName X.env x .none;unbindBehindTheSuite X.env x pos) Q E s:=by
 have O:(X.env.scope.kind == .class||(X.env.scope.kind == .module&&X.env.locals != X.env.globals))=false:=by rw[I.ok.kind];rfl
 refine Y3 (wpAny_bindName (pO (v:=.non) I B l L rfl (λs1 d=>?_) N));unfold unbindBehindTheSuite;refine wpAny_onRaise ?_;unfold unbindName;refine Y3 (wpAny_point (Y3 ?_));unfold deleteName;simp only [m,O];rw[T8 Zd];obtain⟨a0,D,F⟩:=id d.loc;have G:i<σ.length:=by rw[I.len];exact(Zgs.mp l).1
 have cne:=d.cne;refine Y3 (wpAny_nsDel_keeps D λh2 v P f=>?_);have R:(a0 x).isSome=true:=by
  obtain⟨u,ru,lk⟩:=F i x .non l (getElem?_set_self G) (Or.inl (by
   have:=m;unfold Env.kindOf at this;first | exact this | simpa using this))
  rcases lk with⟨_,e⟩|⟨k,_⟩
  ·rw[e];rfl
  ·rcases k with k|k
   ·have:=m;simp_all
   ·have:=m;simp_all
 simp only [R,if_true,Bool.not_true,Bool.false_eq_true,if_false];have bl:∀b o,X.s₀.heap.get? b=some o->b≠X.env.locals:=λb o e=>ne_of_lt (TD (Heap.lt_size e) I.ok.above)
 refine yE0 (id D) (yE3 λoL _ _=>yA2 λPY _=>?_);refine Y2 (wpAny_point (h _ ⟨d.ok,d.os,d.bare,⟨λb o e n w g=>(f.2 b (bl b o e)).trans (d.base.keep b o e n w g),λb o e n w g=>?_,d.base.free,λb o e g=>?_,d.base.tups,d.base.frzs,d.base.tbls⟩,⟨_,P,λj y S J r T=>?_⟩,λy c e=>?_,d.free,d.freeC,λp U=>?_,λb u e=>?_,by simpa using I.len⟩))
 ·obtain⟨sl,z⟩:=d.base.slot b o e n w g;exact⟨sl,(f.2 b (bl b o e)).trans z⟩
 ·obtain⟨V,z⟩:=d.base.there b o e g;exact⟨V,(f.2 b (bl b o e)).trans z⟩
 ·by_cases t:j=i
  ·subst t;rw[getElem?_set_self G]at r;cases r
  ·rw[getElem?_set_ne (Ne.symm t)]at r;obtain⟨u,a1,q⟩:=F j y S J (by rw[getElem?_set_ne (Ne.symm t)];exact r) T;refine⟨u,a1,?_⟩;rcases q with⟨k,e⟩|⟨k,c,e,z⟩
   ·have W:y≠x:=λe=>t (pN B J (e▸l))
    exact .inl ⟨k,by dsimp only;rw[T8 W];exact e⟩
   ·exact .inr ⟨k,c,e,z.sameBut f (cne y c e)⟩
 ·obtain⟨K,z⟩:=d.cell y c e;exact⟨K,z.sameBut f (cne y c e)⟩
 ·refine yE0 (d.pin p U) (yA5 λe n ne Y a2=>?_);exact⟨(f.2 p.1 ne).trans e,n,ne,Y,a2⟩
 ·refine(d.hok b u e).stay (λc K Z q=>(f.2 c ?_).trans q) (λ_ q=>q) λ_ _ q=>q;rintro rfl;rcases Z with z|z
  ·rw[<- z,d.free]at e;cases e
  ·rw[d.free]at z;cases z
def SP.goes(g:SP X pins {nx:=λc b=>D.nx (c.set i none) b,rt:=D.rt,bk:=λc b=>D.bk (c.set i none) b,ct:=λc b=>D.ct (c.set i none) b } f s)(h:X.N.Nodup)(j:X.N[i]?=some x)(k:X.env.kindOf x=some .local)(l:Lz X.env.scope x)(m:X.fn x=true∨X.env.scope.names.lookup x=some .local) :
  wpAny M A (do bindName X.env x .none;unbindBehindTheSuite X.env x pos) (λ_ e=>SP X pins D f e) E s:=by
 cases f with
 | next=>obtain⟨c,b,I,q⟩:=g;exact tE I h j k l m λe d=>⟨_,b,d,q⟩
 | brk=>obtain⟨c,b,I,q⟩:=g;exact tE I h j k l m λe d=>⟨_,b,d,q⟩
 | cont=>obtain⟨c,b,I,q⟩:=g;exact tE I h j k l m λe d=>⟨_,b,d,q⟩
 | ret u=>revert g;refine yE3 λv c b=>yA3 λI r q=>?_;exact tE I h j k l m λe d=>⟨v,_,b,d,r,q⟩
def SP.handled(h:SP (X.handling a) pins D f s)(ok:X.Ok):SP X pins D f s:=by
 cases f with
 | next=>obtain⟨b,c,I,q⟩:=h;exact⟨b,c,I.handled ok,q⟩
 | brk=>obtain⟨b,c,I,q⟩:=h;exact⟨b,c,I.handled ok,q⟩
 | cont=>obtain⟨b,c,I,q⟩:=h;exact⟨b,c,I.handled ok,q⟩
 | ret u=>obtain⟨v,b,c,I,r,q⟩:=h;exact⟨v,b,c,I.handled ok,r,q⟩
def SP.tried(h:SP (X.trying (X.pn++pins) Ex) [] D f s)(ok:X.Ok):SP X pins D f s:=by
 cases f with
 | next=>obtain⟨b,c,I,q⟩:=h;exact⟨b,c,I.tried.pnOut ok,q⟩
 | brk=>obtain⟨b,c,I,q⟩:=h;exact⟨b,c,I.tried.pnOut ok,q⟩
 | cont=>obtain⟨b,c,I,q⟩:=h;exact⟨b,c,I.tried.pnOut ok,q⟩
 | ret u=>obtain⟨v,b,c,I,r,q⟩:=h;exact⟨v,b,c,I.tried.pnOut ok,r,q⟩
def aCA(K:W.Frag)(C:WP)(i:Nat)(g:(St->WF->Option WP->Hp->Prop)->TS)(th:TS):TS:=λD σ H=>
 g (λf d h e=>W.exmOne K d (.ref C)=some true/\∀a,e a=none->th {nx:=λb c=>D.nx (b.set i none) c,rt:=D.rt,bk:=λb c=>D.bk (b.set i none) c,ct:=λb c=>D.ct (b.set i none) c } (f.set i (some (.ref a))) (aH e a (.ext (sP a d h)))) D σ H
def aAL{h k:List Stmt}{th:TS}(o:X.N.Nodup)(r:X.N[i]?=some n)(E:X.env.kindOf n=some .local)(t:Lz X.env.scope n)(u:X.fn n=true∨X.env.scope.names.lookup n=some .local)(G:X.stack=X.env::X.outer)(J:X.env.frame=some X.env.locals)(hex:X.ex=[])(K:Gl X c)(L:X.mg c=some (.ref C))(M:(c==("__debug__":Str))=false)(N:∀pn Ex,PSs (X.trying pn Ex) h (m Ex))(hs:∀a,PSs (X.handling a) (l::k) th) :
  PS X (.Try h [.ExceptHandler (some (.Name c p)) (some n) (l::k) D] [] [] pos) (aCA X.K C i m th):=by
 intro pins s σ H a1 I a2;refine wpAny_Try_except (wpAny_mono (N (X.pn++pins) _ [] s σ H a1 I.pnIn.trying a2) (λf w q=>?_) λa4 w q=>?_)
 ·have e:=q.tried I.ok
  cases f with
  | next=>exact wpAny_execs_nil e
  | brk=>exact e
  | cont=>exact e
  | ret a5=>exact e
 ·revert q;refine yE3 λB x sc=>yA2 λO=>yE4 λa j od P=>yA4 λζ F Q R=>?_;subst ζ;have b:Inv X pins B x sc:=O.pnOut I.ok;have S:Fly X.prog X.w X.stack x sc P a j od .none w:=F;refine pZ b S I.ok.frames G J λs2 T=>?_;refine iX b T λU g=>?_;have y:=g.inv b;refine wpAny_handleBy_cons (codeAny_handlers_test ?_) (by intro q;cases q);refine gB (X:=X.handling a) (y.handling (a:=a)) K L ?_ M;obtain⟨a6,⟨oe,vs,a0,oT,ts,V,Y,_⟩,_⟩:=g.tr;have LT:W.Looks (model X.prog X.w) U.heap (typeOf (.ref a)) j:=Y▸(W.Looks.ld V).andThen .now;refine(W.exm_one y.kIn LT Q).here ?_;show codeAny _ _ _ _ _;refine codeAny_handlers_suite_as ?_;refine iX b g λs4 d=>?_;have Z:=d.inv b;obtain⟨T4,⟨VR,VS,a04,oT4,ts4,z,q2,q3,q4,_⟩,_⟩:=d.tr;have I5:=Z.exc b hex d.na d.ha (od:=od) ⟨VR,VS,z,q2,q4,λdx BA=>by refine yE0 d.dd (yE2 λo1 _=>yA4 λA _ z2 _=>?_);rw[z]at A;cases A;exact z2 dx BA⟩;refine pO (v:=.ref a) I5 o r t rfl (λs5 I6=>?_) u;refine wpAny_mono (hs a pins s5 _ _ _ (I6.handling (a:=a)) (R a d.ha)) (λf s6 q=>?_) (λ_ _ a3=>False.elim a3);exact SP.goes (q.handled I.ok) o r E t u
end
structure qA(K:W.Frag)(D:WP):Prop where
 ga:W.findIn K (.ref D) "__getattribute__"=some (some (.builtin "BaseException.__getattribute__"))
 gx:W.findIn K (.ref D) "__getattr__"=some none
 cl:W.findIn K (.ref D) "__class__"=some (some (.builtin "object.__class__"))
 gg:W.specialIn K (.builtin "object.__class__") "__get__"=some (some (.builtin "getset_descriptor.__get__"))
 tk:W.takesIn K (.builtin "object.__class__")=some true
 mo:W.mroIn K D (.type "object")=some true
 mb:W.mroIn K D (.type "BaseException")=some true
 ci:(W.clsIn K D).isSome=true
def OfCls(x D:WP)(h:Heap):Prop:=∃o,h.get? x=some o/\o.cls=.ref D
section
variable {prog:Program}{w:World}{A:Around}{E:Y5}{s:UV}{K:W.Frag}{x D:WP}
def OfCls.type(c:OfCls x D h):W.Looks M h (typeOf (.ref x)) (.ref D):=by
 obtain⟨o,a,b⟩:=c;exact b▸(W.Looks.ld a).andThen .now
def wK(b:W.Looks M s.heap (isInstance (.ref x) (.type "BaseException")) true)(h:Q () s):wpAny M A (checkBuiltinCall "BaseException.__getattribute__" ⟨[.ref x,a],[]⟩) Q E s:=by
 have c:builtinKind "BaseException.__getattribute__"=some .slot:=by decide +kernel
 have e:splitId "BaseException.__getattribute__"=some ("BaseException","__getattribute__"):=by decide +kernel
 have f:=F.args_bexc_ga (.ref x) a;simp only [checkBuiltinCall,c,e];refine Y3 (b.here ?_);obtain⟨i,g,d,t,os⟩:=s
 repeat (first|wp_step)
 exact h
def Ea(X:K.In h)(k:qA K D):W.Looks M h (Builtin.ObjectAttr.find (.ref x) (.ref D) "__class__") (.bind (.builtin "getset_descriptor.__get__") (.builtin "object.__class__")):=by
 have a:=W.looks_findIn (M:=M) X k.cl;have b:W.Looks M h (Builtin.ObjectAttr.getOf (some (.builtin "object.__class__"))) (some (.builtin "getset_descriptor.__get__")):=W.looks_specialIn X k.gg;have c:=W.looks_takesIn (M:=M) X k.tk;refine a.andThen (b.andThen ?_);exact(show W.Looks M h (Builtin.ObjectAttr.dataDescriptor? (some (.builtin "object.__class__")) (some (.builtin "getset_descriptor.__get__"))) (some (.builtin "getset_descriptor.__get__",.builtin "object.__class__")) from c.andThen .now).andThen (W.Looks.tag .now)
open PySem.W Builtin Builtin.ObjectAttr Builtin.Getset_descriptor in
def Ka(X:K.In s.heap)(c:OfCls x D s.heap)(a:W.mroIn K D (.type "object")=some true)(h:R (.ok (.ret (.ref D))) s) :
  codeAny (model prog w) A (.call (.builtin "getset_descriptor.__get__") ⟨[.builtin "object.__class__",.ref x,tp],[]⟩) R s:=by
 obtain⟨b,g,d,t,os⟩:=s;have e:=c.type (M:=model prog w);have f:=W.looks_mroIn (M:=model prog w) X a;refine codeAny_call_builtin KF.slot_gs.plain KF.entry_gs (KF.slot_gs.check _ _ _ _ _ _ _ _ KF.type_class (KF.args_gs _ _ _) ?_);unfold Builtin.«getset_descriptor.__get__» descrGet;rw[dga_obj];apply Y3;apply Y2;unfold descrGetter descrCheckInstance descrNameAndClass isInstance;simp only [KF.owner_class]
 repeat lk
 refine⟨Code.quiet_builtin _ Zk,codeAny_builtin KF.entry_class ?_⟩;unfold Builtin.«object.__class__» shownTypeOf
 repeat lk
 exact h
def Kb(X:K.In s.heap)(c:OfCls x D s.heap)(k:qA K D)(h:Q (some (.ref D)) {s with toks:=s.toks+1 }):wpAny (model prog w) A (getAttr? (.ref x) "__class__") Q E s:=by
 obtain⟨e,g,d,t,os⟩:=s;have b:=c.type (M:=model prog w);have f:=W.looks_findIn (M:=model prog w) X k.ga;have L2:=W.looks_findIn (M:=model prog w) X k.gx;have i:=Ea (M:=model prog w) (x:=x) X k;have j:W.Looks (model prog w) e (isInstance (.ref x) (.type "BaseException")) true:=b.andThen (W.looks_mroIn X k.mb);unfold getAttr? getAttrBy? getAttrBy;refine Y3 (wpAny_mkText (Y3 (wpAny_attempt (wpAny_holding (Y3 (b.at (Y3 (f.at ?_))))))));dsimp only;have l:(Value.builtin "BaseException.__getattribute__"==Value.builtin "object.__getattribute__")=false:=by decide +kernel
 have m:(onTheHeap (Value.ref D)&&Value.builtin "BaseException.__getattribute__"==Value.builtin "object.__getattribute__")=false:=by rw[l];rfl
 rw[T8 (by rw[m];exact Y1)];unfold getAttrByItsOwn hookBefore;rw[UF (show onTheHeap (Value.ref D)=true from rfl)];refine Y3 (L2.at ?_);refine Y3 (wpAny_attempt (wpAny_holding ?_));unfold callGetattribute;rw[T8 Zd];unfold boundAndCalled;refine Y3 (wpAny_of_eq (F.excAttr_ValueError.ga.bind _) ?_);show wpAny _ _ (call (.builtin "BaseException.__getattribute__") [.ref x,.str "__class__" t]) _ _ _;refine wpAny_call (codeAny_call_builtin F.excAttr_ValueError.ga.plain F.entry_bexc_ga (wK j ?_));unfold Builtin.«object.__getattribute__»;refine Y3 (wpAny_of_eq (a:=(Value.ref x,[Value.str "__class__" t])) rfl ?_);dsimp only;refine Y3 (Y2 (Y3 (b.at (Y3 (i.at ?_)))));dsimp only;show wpAny _ _ (holding [Value.builtin "object.__class__"] (call (.builtin "getset_descriptor.__get__") [.builtin "object.__class__",.ref x,.ref D])>>=ret) _ _ _;refine Y3 (wpAny_holding (wpAny_call (Ka (s:=⟨e,g,d,t+1,os⟩) X c k.mo ?_)));refine Y2 ?_;show wpAny _ _ (handedOut (.ref D)) _ _ _;exact Y2 (Y2 h)
def uL(k:qA K D):W.KitX K (.ref x) (.ref D) (OfCls x D) where
 ty:=λ_ _ _ c=>c.type
 it:=λ_ _ X _=>by
  obtain⟨f,a⟩:=Option.isSome_iff_exists.mp k.ci;unfold W.clsIn at a;split at a
  ·rename_i g i j l b;intro p r t u m q;unfold isType loadHead;exact Y3 (wpAny_loadPart (m _ _ (X _ _ b)) (Y2 q))
  ·cases a
 ne:=λh tp v o n sl X d=>by
  obtain⟨f,a⟩:=Option.isSome_iff_exists.mp k.ci;refine Bool.eq_false_iff.mpr λq=>?_;have e:D=tp:=Value.ref.inj (beq_iff_eq.mp q);subst e;unfold W.clsIn at a;split at a
  ·rename_i g i j l b;rw[X _ _ b]at d;cases d
  ·cases a
 ca:=λX c q=>Kb X c k q
end
def aCB(K:W.Frag)(H:Hp)(D:WP)(c:V)(b:Bool):Prop:=match c with
 | .ref t=>(∃a:List WP,H t=some (.tup (a.map V.ref))/\W.kitAny K (.ref D) (a.map Value.ref)=some b)∨W.kitOne K (.ref D) (.ref t)=some b
 | .ty n=>W.kitOne K (.ref D) (.type n)=some b
 | _=>False
def aAM(K:W.Frag):List V->Hp->VK->Prop:=λd H Q=>match d with
 | [.ref a,c]=>∃D b e,H a=some (.ext (sP a (.ref D) e))/\qA K D/\aCB K H D c b/\Q (.bl b) H
 | _=>False
theorem wM:∀ {xs:List WP}{us:List WF},Vals (xs.map V.ref) us->us=xs.map Value.ref
 | [],[],_=>rfl
 | x::xs,u::us,.cons r a=>by
  cases r;rw[wM a];rfl
section
variable {X:Cx}
def aCC:CallR X (.builtin "isinstance") (aAM X.K):=by
 intro F s R H K L Q I r h;unfold aAM at h;split at h
 ·rename_i a c;revert h;refine yE3 λD b j=>yA4 λe k ans q=>?_;obtain⟨⟨o,M,l,m,N⟩,_⟩:=(show ObjOk X.prog X.w H s.heap a (.ext (sP a (.ref D) j)) from I.hok a _ e);have d:OfCls a D s.heap:=⟨o,l,m⟩
  cases r with
  | cons p u=>
   cases u with
   | cons f v=>
    cases v;cases p
    cases c with
    | ref t=>
     cases f;rcases ans with⟨w,x,y⟩|A
     ·obtain⟨_,G,B,⟨C,E,g,n,i⟩⟩:=(show ObjOk X.prog X.w H s.heap t (.tup (w.map V.ref)) from I.hok t _ x);obtain rfl:=wM B;obtain⟨O,P,J,sl⟩:=C;dsimp only at g i;subst g i;exact W.kia_tup (uL k) I.kIn d E y (by intro z;cases z) λtk=>⟨.bl b,H,I.tok _,rfl,q⟩
     ·exact W.kia_one (uL k) I.kIn d A (by intro z;cases z) λtk=>⟨.bl b,H,I.tok _,rfl,q⟩
    | ty n=>
     cases f;exact W.kia_one (uL k) I.kIn d ans (by intro z;cases z) λtk=>⟨.bl b,H,I.tok _,rfl,q⟩
    | _=>exact ans.elim
 ·exact h.elim
end
namespace R
section
variable {X:Cx}{x n c:Str}{C:WP}{E:XK}{e:Expr}{es:List Expr}{t:TA}{np cpos pos p P7:Pos}{m i:Nat}{ps:List Str}{sp:Sp}{Ex:St->WF->Option WP->Hp->Prop}{K:W.Frag}{body q0:List Stmt}{s0:Stmt}{tb:(St->WF->Option WP->Hp->Prop)->TS}{th:TS}
def bg(a:X.K=K:=by rfl):XC X (.builtin "isinstance") (aAM K):=a▸⟨aCC⟩
def fk(a:XCls X.K X.mg x C)(b:Dz X E)(d:Gl X x)(f:XA X (e::es) t)(g:X.calm=true:=by rfl)(hs:aO e=true:=by rfl)(h:es.all aO=true:=by rfl)(j:(x==("__debug__":Str))=false:=by decide) :
  XS X (.Raise (some (.Call (.Name x np) (e::es) [] cpos)) none pos) (Ow C E t):=⟨Ox a b g d f.h hs h j⟩
def fm(c:iK X.prog X.w X.K X.mg X.base m x ps sp)(b:Room a X.A)(d:Gl X x)(f:wJ X Ex)(g:XA X (e::es) t)(hs:aO e=true:=by rfl)(h:es.all aO=true:=by rfl)(j:(x==("__debug__":Str))=false:=by decide)(hk:m<=a:=by decide) :
  XE X (.Call (.Name x p) (e::es) [] pos) (aCz sp Ex t):=⟨aAK c (b.mono hk) d f g.h hs h j⟩
def jv(b:X.mg c=some (.ref C))(d:Gl X c)(f:X.N.Nodup)(g:∀pn Ex,XB (X.trying pn Ex) body (tb Ex))(hs:∀a,XB (X.handling a) (s0::q0) th)(h:X.K=K:=by rfl)(j:X.N[i]?=some n:=by rfl)(k:X.env.kindOf n=some .local:=by rfl)(l:Lz X.env.scope n:=by first|exact Or.inl rfl|exact Or.inr rfl)(o:X.fn n=true∨X.env.scope.names.lookup n=some .local:=by first|exact .inl rfl|exact .inr rfl)(q:X.stack=X.env::X.outer:=by rfl)(r:X.env.frame=some X.env.locals:=by rfl)(hex:X.ex=[]:=by rfl)(s:(c==("__debug__":Str))=false:=by decide) :
  XS X (.Try body [.ExceptHandler (some (.Name c p)) (some n) (s0::q0) P7] [] [] pos) (aCA K C i tb th):=h▸⟨aAL f j k l o q r hex d b s (λpn Ex=>(g pn Ex).h) λa=>(hs a).h⟩
end
end R
def vG:bootBuiltins "ValueError"=some (.type "ValueError"):=by decide +kernel
def R.dz(a:Gl X x)(b:X.mg x=none)(c:bootBuiltins x=some (.type n))(d:x≠"__name__":=by decide)(e:(x==("__debug__":Str))=false:=by decide):XE X (.Name x pos) (tC (.ty n)):=⟨Fu a b c rfl d e⟩
def Hc(C:WP):Sp:=λb H Q E=>∃z,b=[.str z]/\z.length<=900/\(bC (kI z)=true->∀p a,Same H a->a p=some (.tup (kI z))->Q (.ref p) a)/\(bC (kI z)=false->∀a,Same H a->E (.ref C) none a)
def yJ(h:Txt.split z (tx [32])=ws++[a]):kI z=ws.map V.str++[bE (aM a)]:=by
 have b:(ws++[a]).map V.str=ws.map V.str++[.str a]:=by rw[hX];rfl
 unfold kI;rw[h,b,uK,Am];rfl
section
variable {X:Cx}
def Xn:R2:=λx y H Q=>mR x λl=>mI y λk=>∃a,H l=some (.lst a)/\0<=k/\k<=1000/\a.length*k.toNat<=1000/\∀p,H p=none->Q (.ref p) (aH H p (.lst (replicate k.toNat a).flatten))
def R.fc:jG X (binaryOp .Mult) Xn:=⟨aAe.imp λx y H Q h=>by
 unfold Xn at h;rw[bS]at h;obtain⟨l,rfl,h⟩:=h;rw[lZ]at h;obtain⟨k,rfl,a,b,e,f,c,d⟩:=h;exact⟨l,k,a,rfl,rfl,b,Zo,Zo,dD c,d⟩⟩
def R.fw(a:X.calm=true):XC X (.builtin "min") (λvs H Q=>match vs with | [.int i,.int j]=>Q (.int (if j<i then j else i)) H | _=>False):=⟨(Je a).imp λvs H Q h=>by
 split at h
 ·exact⟨_,_,rfl,h⟩
 ·exact h.elim⟩
end
inductive DW(one other nm:Str)(n:Int):Str->List V->List (Str×Int)->List (Str×List V)->Prop
 | add:DW one other nm n "add" [.str "add",.str nm,.int n] [(nm,n)] []
 | take:DW one other nm n "take" [.str "take",.str nm,.int n] [(nm,-n)] []
 | move:DW one other nm n "move" [.str "move",.str one,.str other,.int n] [(one,-n),(other,n)] []
 | send:DW one other nm n "send" [.str "send",.str one,.str nm,.int n] [(nm,-n)] [(one,[.str "add",.str nm,.int n])]
 | fetch:DW one other nm n "fetch" [.str "fetch",.str one,.str nm,.int n] [(nm,n)] [(one,[.str "take",.str nm,.int n])]
 | pass:DW one other nm n "pass" [.str "pass",.str one,.str other,.str nm,.int n] [] [(one,[.str "take",.str nm,.int n]),(other,[.str "add",.str nm,.int n])]
structure DWX(wd:Str)(xs:List V)(cs:List (Str×Int))(as:List (Str×List V)):Prop where
 ex:∃one other nm n,DW one other nm n wd xs cs as
def aCD(H:Hp)(q:Str×List V)(v:V):Prop:=∃a d,v=.ref a/\H a=some (.tup [.str q.1,.ref d])/\H d=some (.tup q.2)
def Oy:Sp:=λe H Q _=>∃p wd b f c,e=[.ref p]/\H p=some (.tup b)/\DWX wd b f c/\∀t d a,Same H a->a t=some (.tup d)->Paired (aCD a) c d->Q (.ref t) a
def Oz:Bool->String|true=>"list_iterator"|false=>"tuple_iterator"
def qB(k:Bool)(a:WP):Obj:={cls:=.type (Oz k),data:=.fields #[.ref a,.int 0 0] }
def ItAt(k:Bool)(h:Heap)(it a:WP)(i:Nat):Prop:=∃o,h.get? it=some o/\o.cls=.type (Oz k)/\o.data=.fields #[.ref a,.int i 0]
def SeqIn(k:Bool)(h:Heap)(a:WP)(vs:Array Value):Prop:=match k with|true=>h.IsList a vs|false=>h.IsTuple a vs
def ItAt.by{k:Bool}{it a:WP}(x:ItAt k h it a i)(g:∀o,h.get? it=some o->h'.get? it=some o):ItAt k h' it a i:=let ⟨o,e,r⟩:=x;⟨o,g o e,r⟩
def SeqIn.by{k:Bool}(x:SeqIn k h a vs)(g:∀o,h.get? a=some o->h'.get? a=some o):SeqIn k h' a vs:=by
 cases k
 ·obtain⟨o,e,r⟩:=x;exact⟨o,g o e,r⟩
 ·obtain⟨o,e,r⟩:=x;exact⟨o,g o e,r⟩
def SeqIn.lt{k:Bool}(x:SeqIn k h a vs):a<h.objs.size:=by
 cases k
 ·obtain⟨o,e,r⟩:=x;exact Heap.lt_size e
 ·obtain⟨o,e,r⟩:=x;exact Heap.lt_size e
section
variable {prog:Program}{w:World}{A:Around}{E:Y5}{s:UV}
def Pa{k:Bool}(h:SeqIn k s.heap a vs)(q:Q (.ref s.heap.objs.size) {s with heap:=s.heap.push (qB k a) }):wpAny (model prog w) A (pyIter (.ref a)) Q E s:=by
 cases k
 ·exact wpAny_pyIter_tuple (show s.heap.IsTuple a vs from h) q
 ·exact wpAny_pyIter_list (show s.heap.IsList a vs from h) q
def yK{k:Bool}{it a:WP}(d:ItAt k s.heap it a i)(hs:SeqIn k s.heap a vs)(e:vs[i]?=some x)(q:∀h',ItAt k h' it a (i+1)->Heap.SameBut it s.heap h'->Q x {s with heap:=h' }):wpAny (model prog w) A (Builtin.SmallTypes.nextOf (.ref it)) Q E s:=by
 cases k with
 | true=>exact wpAny_nextOf_list_item (show s.heap.IsListIter it a i from d) (show s.heap.IsList a vs from hs) e q
 | false=>
  have f:s.heap.IsTupleIter it a i:=d;obtain⟨o,c,g,b⟩:=d;obtain⟨l,h,_,m,j⟩:=hs;unfold Builtin.SmallTypes.nextOf;refine Y3 (wpAny_callSpecial?_slot (name:=Str.ofString "__next__") f.typeIs F.slot_tuple_iterator_next (wpAny_call_entry F.slot_tuple_iterator_next f.typeIs F.entry_tuple_iterator_next ?_ (F.args_tuple_iterator_next_1 _)));show wpAny (model prog w) _ (field (.ref it) 0>>=_) _ _ s;refine Y3 (wpAny_field c b (x:=.ref a) rfl ?_);show wpAny (model prog w) _ (if (Value.ref a==Value.none)=true then _ else _) _ _ s;rw[T8 (show ¬ ((Value.ref a==Value.none)=true) from Y1)];show wpAny (model prog w) _ (field (.ref it) 1>>=_) _ _ s;refine Y3 (wpAny_field (x:=.int i 0) c b rfl ?_);show wpAny (model prog w) _ (seqItems? (.ref a)>>=_) _ _ s;refine Y3 (wpAny_seqItems (h) j ?_);simp only [e,Int.toNat_natCast];refine Y3 (wpAny_setField c b Zs (Y2 ⟨x,rfl,Y2 (q _ ?_ (Heap.SameBut.update ..))⟩));exact⟨_,Heap.get?_update_self _ c (Obj.isFreed_of_fields (Obj.data_mapFields b _)),(Obj.cls_mapFields ..).trans g,by rw[Obj.data_mapFields b];simp[rawInt]⟩
def Pb{k:Bool}{it a:WP}(c:A.handled=none)(b:ItAt k s.heap it a i)(hs:SeqIn k s.heap a vs)(g:vs[i]?=none)(h:∀h' e,Heap.ExtBut it s.heap h'->(∃o,h'.get? e=some o/\o.cls=.type "StopIteration")->E (.ref e) {s with heap:=h' }):wpAny (model prog w) A (Builtin.SmallTypes.nextOf (.ref it)) Q E s:=by
 cases k with
 | true=>exact wpAny_nextOf_list_end c (show s.heap.IsListIter it a i from b) (show s.heap.IsList a vs from hs) g h
 | false=>
  have j:s.heap.IsTupleIter it a i:=b;obtain⟨o,d,p,f⟩:=b;obtain⟨q,l,_,r,n⟩:=hs;unfold Builtin.SmallTypes.nextOf;refine Y3 (wpAny_callSpecial?_slot (name:=Str.ofString "__next__") j.typeIs F.slot_tuple_iterator_next (wpAny_call_entry F.slot_tuple_iterator_next j.typeIs F.entry_tuple_iterator_next ?_ (F.args_tuple_iterator_next_1 _)));show wpAny (model prog w) _ (field (.ref it) 0>>=_) _ _ s;refine Y3 (wpAny_field d f (x:=.ref a) rfl ?_);show wpAny (model prog w) _ (if (Value.ref a==Value.none)=true then _ else _) _ _ s;rw[T8 (show ¬ ((Value.ref a==Value.none)=true) from Y1)];show wpAny (model prog w) _ (field (.ref it) 1>>=_) _ _ s;refine Y3 (wpAny_field (x:=.int i 0) d f rfl ?_);show wpAny (model prog w) _ (seqItems? (.ref a)>>=_) _ _ s;refine Y3 (wpAny_seqItems (l) n ?_);simp only [g,Int.toNat_natCast];refine Y3 (wpAny_rule (Y3 (wpAny_setField (d) f Zs ?_)));show wpAny (model prog w) _ (newExc (.type "StopIteration") []>>=_) _ _ _;refine Y3 ?_;simp only [newTuple,newExc];refine Y3 (wpAny_newObj_type ?_ (by size_fits));refine Y3 (m:=firstArgMember _ _) (wpAny_of_eq (a:=Value.none) (by first|rfl|(simp only [firstArgMember];rfl)) ?_);refine wpAny_newObj_type ?_ (by size_fits);simp only [raiseNew];refine Y3 (wpAny_handled ?_)
  first|rw[show A.in1.handled=none from(c)]|rw[c]
  refine Y3 (Y2 (wpAny_throw ?_));exact h _ _ (((Heap.SameBut.update ..).extBut.push _).push _) ⟨_,W1 _ rfl,rfl⟩
structure Um(z ti to j1 j2 a1 a2:WP):Prop where
 i:ti≠z
 o:to≠z
 p:j1≠z
 q:j2≠z
 io:ti≠to
 ip:ti≠j1
 iq:ti≠j2
 op:to≠j1
 oq:to≠j2
 pq:j1≠j2
 a:∀b,b=a1∨b=a2->b≠z/\b≠to/\b≠j1/\b≠j2
structure ZSt(k1 k2:Bool)(h:Heap)(z ti to j1 j2 a1 a2:WP)(f0:WF)(n1 n2:Nat):Prop where
 z:IsZip h z ti to f0
 i:IsPair h ti (.ref j1) (.ref j2)
 o:∃a b,IsPair h to a b
 x:ItAt k1 h j1 a1 n1
 y:ItAt k2 h j2 a2 n2
def Uo{k1 k2:Bool}{z d a f g j k:WP}{n:Nat}{xs N:Array Value}{x y:WF}{Q:Y5}(D:Um z d a f g j k)(S:ZSt k1 k2 s.heap z d a f g j k .none n n)(vf:SeqIn k1 s.heap j xs)(U5:SeqIn k2 s.heap k N)(hx:xs[n]?=some x)(hy:N[n]?=some y)(hQ:∀h',ZSt k1 k2 h' z d a f g j k (rawInt s.heap.objs.size) (n+1) (n+1)->IsPair h' s.heap.objs.size x y->h'.objs.size=s.heap.objs.size+1 →
   (∀c o,c≠z->c≠a->c≠f->c≠g->s.heap.get? c=some o->h'.get? c=some o)->Q (.ref s.heap.objs.size) {s with heap:=h' }) :
  wpAny (model prog w) A (Builtin.«zip.__next__» ⟨[.ref z],[]⟩) (λZ s'=>∃v,Z=.done (.ret v)/\Q v s') E s:=by
 obtain⟨p,O,⟨u1,F,hO⟩,h1,h2⟩:=S;obtain⟨KH,VX,VY,VZ⟩:=D.a j (.inl rfl);obtain⟨MY,MZ,NA,WA⟩:=D.a k (.inr rfl);show wpAny (model prog w) _ (field (.ref z) 2>>=_) _ _ _;refine Y3 (wpAny_field (x:=.bool false) p rfl rfl ?_);show wpAny (model prog w) _ (field (.ref z) 3>>=_) _ _ _;refine Y3 (wpAny_field (x:=.ref d) p rfl rfl ?_);refine Y3 (wpAny_seqItems O rfl ?_);show wpAny (model prog w) _ (Builtin.SmallTypes.ownedTupleIsFree (.ref z)>>=_) _ _ _;refine Y3 ?_;unfold Builtin.SmallTypes.ownedTupleIsFree;refine Y3 (wpAny_field (x:=.none) p rfl rfl (Y2 ?_));simp only [if_true];refine Y3 (wpAny_rule ?_);refine Y3 (wpAny_field (x:=.ref a) p rfl rfl ?_);refine Y3 (wpAny_setField_rec p Zs λg1 G h=>?_);have G:IsZip g1 z d a .ellipsis:=G;refine Y3 ?_;simp only [List.zipIdx_nil,List.zipIdx_cons,List.forIn_nil,forIn_cons];refine Y3 (Y3 (wpAny_onRaise ?_));show wpAny (model prog w) _ (Builtin.SmallTypes.nextOf (.ref f)>>=_) _ _ _;refine Y3 (yK (h1.by λo e=>h.extBut _ _ D.p e) (vf.by λo e=>h.extBut _ _ KH e) hx λg2 i2 l=>Y2 ?_);have P:IsPair g2 a u1 F:=l.extBut _ _ D.op (h.extBut _ _ D.o hO);refine Y3 (wpAny_seqItems P rfl ?_);refine Y3 (wpAny_updateSeq_pair P λg3 H m=>?_);have H:IsPair g3 a x F:=H;refine Y3 (wpAny_letGo (Y2 ?_));refine Y3 (Y3 (wpAny_onRaise ?_));show wpAny (model prog w) _ (Builtin.SmallTypes.nextOf (.ref g)>>=_) _ _ _;refine Y3 (yK (h2.by λo e=>m.extBut _ _ D.oq.symm (l.extBut _ _ D.pq.symm (h.extBut _ _ D.q e))) (U5.by λo e=>m.extBut _ _ MZ (l.extBut _ _ NA (h.extBut _ _ MY e))) hy λg4 i4 q=>Y2 ?_);have R:IsPair g4 a x F:=q.extBut _ _ D.oq H;refine Y3 (wpAny_seqItems R rfl ?_);refine Y3 (wpAny_updateSeq_pair R λb u r=>?_);have u:IsPair b a x y:=u;refine Y3 (wpAny_letGo (Y2 (Y2 ?_)));refine Y3 (wpAny_seqItems u rfl ?_);refine Y3 (wpAny_newTuple ?_);have T:b.objs.size=s.heap.objs.size:=by rw[r.1,q.1,m.1,l.1,h.1]
 have U:IsZip b z d a .ellipsis:=r.extBut _ _ D.o.symm (q.extBut _ _ D.q.symm (m.extBut _ _ D.o.symm (l.extBut _ _ D.p.symm G)));have V:∀c o,c≠z->c≠a->c≠f->c≠g->s.heap.get? c=some o->b.get? c=some o:=λc o i B I J e=>r.extBut _ _ B (q.extBut _ _ J (m.extBut _ _ B (l.extBut _ _ I (h.extBut _ _ i e))))
 have i5:ItAt k1 b f j (n+1):=i2.by λo e=>r.extBut _ _ D.op.symm (q.extBut _ _ D.pq (m.extBut _ _ D.op.symm e))
 have j5:ItAt k2 b g k (n+1):=i4.by λo e=>r.extBut _ _ D.oq.symm e
 have W:z<b.objs.size:=Heap.lt_size U;show wpAny (model prog w) _ (Builtin.SmallTypes.ownedTupleHandOut (.ref z) (.ref b.objs.size)>>=_) _ _ _;refine Y3 ?_;unfold Builtin.SmallTypes.ownedTupleHandOut;have z6:IsZip (b.push {cls:=.type "tuple",data:=.seq #[x,y] }) z d a .ellipsis:=hV _ U;refine Y3 (wpAny_setField_rec z6 Zs λg7 K L=>?_);have K:IsZip g7 z d a (rawInt b.objs.size):=K;refine wpAny_setField_rec K Zs λt C M=>?_;have C:IsZip t z d a (rawInt b.objs.size):=C;have up:∀c o,c≠z->b.get? c=some o->t.get? c=some o:=λc o i e=>M.extBut _ _ i (L.extBut _ _ i (hV _ e))
 have X:IsPair t b.objs.size x y:=M.extBut _ _ (ne_of_gt W) (L.extBut _ _ (ne_of_gt W) (W1 _ rfl));have Y:t.objs.size=b.objs.size+1:=by rw[M.1,L.1,Heap.size_push]
 rw[T]at C X Y;refine Y2 ⟨_,rfl,?_⟩;show Q (.ref b.objs.size) _;rw[T];exact hQ t ⟨C,up _ _ D.i (V _ _ D.i D.io D.ip D.iq O),⟨_,_,up _ _ D.o u⟩,i5.by λo e=>up _ o D.p e,j5.by λo e=>up _ o D.q e⟩ X Y λc o i B I J e=>up c o i (V c o i B I J e)
def aAN{k1 k2:Bool}(F:A.handled=none)(D:Um z h b l m p r)(S:ZSt k1 k2 s.heap z h b l m p r .none n n)(G:SeqIn k1 s.heap p xs)(P:SeqIn k2 s.heap r u)(R:xs[n]?=none∨u[n]?=none)(H:∀h' e,(∀c o,c≠z->c≠b->c≠l->c≠m->s.heap.get? c=some o->h'.get? c=some o)->(∃o,h'.get? e=some o/\o.cls=.type "StopIteration")->E (.ref e) {s with heap:=h' }) :
  wpAny (model prog w) A (Builtin.«zip.__next__» ⟨[.ref z],[]⟩) Q E s:=by
 obtain⟨i,T,⟨U,V,W⟩,I,X⟩:=S;obtain⟨J,VX,VY,VZ⟩:=D.a p (.inl rfl);obtain⟨Y,Z,NA,WA⟩:=D.a r (.inr rfl);show wpAny (model prog w) _ (field (.ref z) 2>>=_) _ _ _;refine Y3 (wpAny_field (x:=.bool false) i rfl rfl ?_);show wpAny (model prog w) _ (field (.ref z) 3>>=_) _ _ _;refine Y3 (wpAny_field (x:=.ref h) i rfl rfl ?_);refine Y3 (wpAny_seqItems T rfl ?_);show wpAny (model prog w) _ (Builtin.SmallTypes.ownedTupleIsFree (.ref z)>>=_) _ _ _;refine Y3 ?_;unfold Builtin.SmallTypes.ownedTupleIsFree;refine Y3 (wpAny_field (x:=.none) i rfl rfl (Y2 ?_));simp only [if_true];refine Y3 (wpAny_rule ?_);refine Y3 (wpAny_field (x:=.ref b) i rfl rfl ?_);refine Y3 (wpAny_setField_rec i Zs λg1 t a=>?_);have t:IsZip g1 z h b .ellipsis:=t;refine Y3 ?_;simp only [List.zipIdx_nil,List.zipIdx_cons,List.forIn_nil,forIn_cons];refine Y3 (Y3 (wpAny_onRaise ?_));show wpAny (model prog w) _ (Builtin.SmallTypes.nextOf (.ref l)>>=_) _ _ _
 cases v:xs[n]? with
 | none=>
  refine Y3 (Pb F (I.by λo e=>a.extBut _ _ D.p e) (G.by λo e=>a.extBut _ _ J e) v λg2 e d y=>?_);obtain⟨B,f,j⟩:=y;have K:IsZip g2 z h b .ellipsis:=d _ _ D.p.symm t;have ne:e≠z:=λ(q:e=z)=>by subst q;rw[K]at f;cases f;simp at j
  exact wpAny_setField_rec K Zs λg3 _ g=>H g3 e (λc o k _ C _ q=>g.extBut _ _ k (d _ _ C (a.extBut _ _ k q))) ⟨B,g.extBut _ _ ne f,j⟩
 | some x=>
  have hy:u[n]?=none:=R.resolve_left (by rw[v];exact λq=>nomatch q);refine Y3 (yK (I.by λo e=>a.extBut _ _ D.p e) (G.by λo e=>a.extBut _ _ J e) v λg2 i2 d=>Y2 ?_);have L:IsPair g2 b U V:=d.extBut _ _ D.op (a.extBut _ _ D.o W);refine Y3 (wpAny_seqItems L rfl ?_);refine Y3 (wpAny_updateSeq_pair L λg3 o3 g=>?_);refine Y3 (wpAny_letGo (Y2 ?_));refine Y3 (Y3 (wpAny_onRaise ?_));show wpAny (model prog w) _ (Builtin.SmallTypes.nextOf (.ref m)>>=_) _ _ _;refine Y3 (Pb F (X.by λo e=>g.extBut _ _ D.oq.symm (d.extBut _ _ D.pq.symm (a.extBut _ _ D.q e))) (P.by λo e=>g.extBut _ _ Z (d.extBut _ _ NA (a.extBut _ _ Y e))) hy λg4 e M y=>?_);obtain⟨B,f,j⟩:=y;have N:IsZip g4 z h b .ellipsis:=M _ _ D.q.symm (g.extBut _ _ D.o.symm (d.extBut _ _ D.p.symm t));have ne:e≠z:=λ(q:e=z)=>by subst q;rw[N]at f;cases f;simp at j
  exact wpAny_setField_rec N Zs λg5 _ O=>H g5 e (λc o k n2 C n4 q=>O.extBut _ _ k (M _ _ n4 (g.extBut _ _ n2 (d.extBut _ _ C (a.extBut _ _ k q))))) ⟨B,O.extBut _ _ ne f,j⟩
end
section
variable {X:Cx}{pins:ZB}{σ:List (Option V)}{H:Hp}{s:UV}{h':Heap}
def Inv.turnLaid{t':Nat}{ch:List WP}{a:WP}{o:HO}(I:Inv X pins σ H s)(g:∀b∈ch,qZ X pins H b)(k:∀b u,b∉ch->s.heap.get? b=some u->h'.get? b=some u)(i:s.heap.objs.size<=a)(l:ObjOk X.prog X.w (aH H a o) h' a o) :
  Inv X pins σ (aH H a o) {s with heap:=h',toks:=t' }:=by
 have h:=I.hok.fresh i;have j:∀b u,H b=some u->b∉ch:=λb u e z=>by rw[(g b z).1]at e;cases e
 refine I.step (g':=s.gens) (d':=s.drawn) (ch:=ch) (λb d=>⟨(g b d).2.2.2.1,(g b d).2.1,(g b d).2.2.2.2.1,(g b d).2.2.2.2.2⟩) (λb u _ _ f e _=>k b u f e) (λb u _ _ f e _=>⟨u.slots,k b u f e⟩)
  (λb u _ e n=>by rw[aJ (ne_of_lt (TD (Heap.lt_size e) i))];exact n) (λb u f e=>⟨u,k b u f e⟩) (λb p e=>by rw[aJ (aF e h)];exact e) (λb v u e=>by rw[aJ (aF e h)];exact e)
  (λb ps e=>⟨#[],by rw[aJ (aF e h),e];simp⟩) (λm t=>?_) (λb u e=>?_) I.bare
 ·obtain⟨u,w,x,y,r⟩:=t;exact⟨u,w,x,k _ u (λz=>(g _ z).2.1 rfl) y,r⟩
 ·by_cases d:b=a
  ·subst d;rw[aD]at e;cases e;exact l
  ·rw[aJ d]at e;refine(I.hok b u e).stay (λc v f q=>k c v ?_ q) (λc q=>by rw[aJ (aF q h)];exact q) λc p q=>by rw[aJ (aF q h)];exact q
   rcases f with z|z
   ·rw[z];exact j b u e
   ·exact j c _ z
def Inv.turnL{t':Nat}{ch:List WP}(I:Inv X pins σ H s)(d:∀b∈ch,qZ X pins H b)(k:∀b u,b∉ch->s.heap.get? b=some u->h'.get? b=some u):Inv X pins σ H {s with heap:=h',toks:=t' }:=by
 have g:∀b u,H b=some u->b∉ch:=λb u e z=>by rw[(d b z).1]at e;cases e
 refine I.step (g':=s.gens) (d':=s.drawn) (ch:=ch) (λb f=>⟨(d b f).2.2.2.1,(d b f).2.1,(d b f).2.2.2.2.1,(d b f).2.2.2.2.2⟩) (λb u _ _ a e _=>k b u a e) (λb u _ _ a e _=>⟨u.slots,k b u a e⟩)
  (λ_ _ _ _ n=>n) (λb u a e=>⟨u,k b u a e⟩) (λ_ _ e=>e) (λ_ _ _ e=>e) (λb ps e=>⟨#[],by rw[e];simp⟩) (λm h=>?_) (λb u e=>?_) I.bare
 ·obtain⟨u,i,j,l,r⟩:=h;exact⟨u,i,j,k _ u (λz=>(d _ z).2.1 rfl) l,r⟩
 ·refine(I.hok b u e).stay (λc v a q=>k c v ?_ q) (λ_ q=>q) λ_ _ q=>q;rcases a with z|z
  ·rw[z];exact g b u e
  ·exact g c _ z
end
def Eb(K:W.Frag)(k:Bool)(H:Hp)(a:WP)(xs:List V):Prop:=match k with|true=>SqL K H a xs|false=>SqT K H a xs
def Itz(K:W.Frag)(k1 k2:Bool)(c d:WP):It:=
  ⟨λi H=>∃a b x y,Eb K k1 H c a/\Eb K k2 H d b/\a[i]?=some x/\b[i]?=some y,
   λi H v e=>∃t x y,H t=none/\v=.ref t/\e=aH H t (.tup [x,y])/\(∀a,Eb K k1 H c a->a[i]?=some x)/\∀b,Eb K k2 H d b->b[i]?=some y,
   λi H=>∃a b,Eb K k1 H c a/\Eb K k2 H d b/\(a.length<=i∨b.length<=i)⟩
def Inv.sqk(I:Inv X c d H s){k:Bool}(h:Eb X.K k H a xs):∃b,Vals xs b/\SeqIn k s.heap a b.toArray:=by
 cases k
 ·obtain⟨b,r,p,_⟩:=I.tuple h;exact⟨b,r,p⟩
 ·obtain⟨b,r,p,_⟩:=I.list h;exact⟨b,r,p.isList⟩
def Inv.sqk_inj(I:Inv X d e H s){k:Bool}(h:Eb X.K k H a xs)(c:Eb X.K k H a b):xs=b:=by
 cases k
 ·exact I.tuple_inj h c
 ·exact I.list_inj h c
def Pd{P:Program}{w:World}{K:W.Frag}{es:List Expr}{n:Nat}{pos:Pos}{k1 k2:Bool}{z d f j k C E:WP}(D:Um z d f j k C E) :
  xK P w K (.Tuple es n pos) (Itz K k1 k2 C E) [z,d,f,j,k] z (λi h=>ZSt k1 k2 h z d f j k C E .none i i) where
 mem:=by simp
 obj:=λi h st b a=>by
  obtain⟨G,H,m⟩:=st.o;obtain⟨o1,J,_,d1⟩:=st.x;obtain⟨o2,L,_,d2⟩:=st.y;simp only [mem_cons,QZZ,or_false]at a;rcases a with rfl|rfl|rfl|rfl|rfl
  ·exact⟨_,st.z,λv q=>by have r:Data.fields _=Data.cell v:=q;cases r⟩
  ·exact⟨_,st.i,λv q=>by have r:Data.seq _ _=Data.cell v:=q;cases r⟩
  ·exact⟨_,m,λv q=>by have r:Data.seq _ _=Data.cell v:=q;cases r⟩
  ·exact⟨_,J,λv q=>by rw[d1]at q;cases q⟩
  ·exact⟨_,L,λv q=>by rw[d2]at q;cases q⟩
 keep:=λi h h' st g=>by
  obtain⟨G,H,m⟩:=st.o;exact⟨g z Zs _ st.z,g d Zs _ st.i,⟨G,H,g f Zs _ m⟩,st.x.by λo e=>g j Zs o e,st.y.by λo e=>g k Zs o e⟩
 item:=by
  intro X M N O Z i pins s σ a0 a5 I y st Q;subst M N O;revert Q;refine yE4 λxs ys a3 a4=>yA4 λA B ex ey=>?_;obtain⟨its,R,p⟩:=I.sqk A;obtain⟨QW,S,U⟩:=I.sqk B;obtain⟨u,hu,ru⟩:=R.get ex;obtain⟨v,hv,DO⟩:=S.get ey;have t:s.TypeIs (.ref z) "zip":=⟨_,st.z,rfl⟩;unfold pyNext;refine Y3 (wpAny_attempt (wpAny_callSpecial?_slot (name:=Str.ofString "__next__") t F.slot_zip_next (wpAny_call_entry F.slot_zip_next t F.entry_zip_next (Uo D st p U (by simpa using hu) (by simpa using hv) λh1 x t1 z1 V=>Y2 ?_) (F.args_zip_next_1 _))));refine⟨_,rfl,?_⟩;refine wpAny_letOwnedTupleGo_zip x.z λh2 z2 l=>?_;refine yE0 x.o (yE2 λw1 w2 m=>?_);have HM:z<s.heap.objs.size:=Heap.lt_size st.z;have t2:IsPair h2 s.heap.objs.size u v:=l.extBut _ _ (ne_of_gt HM) t1;refine⟨.ref s.heap.objs.size,aH a0 s.heap.objs.size (.tup [a3,a4]),I.turnLaid (t':=s.toks) y (λb o a e=>?_) (cE _) ⟨by show 2<=sizeLine;decide,[u,v],.cons ru (.cons DO .nil),⟨_,t2,rfl,_,rfl⟩⟩,rfl,?_,?_,λb a=>?_⟩
  ·have c:b≠z/\b≠d/\b≠f/\b≠j/\b≠k:=by simpa using a
   exact l.extBut _ _ c.1 (V b o c.1 c.2.2.1 c.2.2.2.1 c.2.2.2.2 e)
  ·exact⟨s.heap.objs.size,a3,a4,I.hok.fresh (cE _),rfl,rfl,λzs Y=>by rw[I.sqk_inj Y A];exact ex,λzs Y=>by rw[I.sqk_inj Y B];exact ey⟩
  ·exact⟨z2,l.extBut _ _ D.i x.i,⟨_,_,l.extBut _ _ D.o m⟩,x.x.by λo e=>l.extBut _ _ D.p e,x.y.by λo e=>l.extBut _ _ D.q e⟩
  ·have C9:b<s.heap.objs.size:=by
    obtain⟨G,H,WB⟩:=st.o;obtain⟨o1,J,_⟩:=st.x;obtain⟨o2,L,_⟩:=st.y;simp only [mem_cons,QZZ,or_false]at a;rcases a with rfl|rfl|rfl|rfl|rfl
    ·exact HM
    ·exact Heap.lt_size st.i
    ·exact Heap.lt_size WB
    ·exact Heap.lt_size J
    ·exact Heap.lt_size L
   rw[aJ (ne_of_lt C9)];exact(y b a).1
 done:=by
  intro X M N O Z i pins s σ a0 a5 I y st Q;subst M N O;obtain⟨xs,ys,A,B,he⟩:=Q;obtain⟨its,R,p⟩:=I.sqk A;obtain⟨QW,S,U⟩:=I.sqk B;have t:s.TypeIs (.ref z) "zip":=⟨_,st.z,rfl⟩;have l1:=R.length;have l2:=S.length;unfold pyNext;refine Y3 (wpAny_attempt (wpAny_callSpecial?_slot (name:=Str.ofString "__next__") t F.slot_zip_next (wpAny_call_entry F.slot_zip_next t F.entry_zip_next (aAN (I.ok.hd Z) D st p U (he.imp (λh=>by simp;omega) (λh=>by simp;omega)) λh1 e V qr=>?_) (F.args_zip_next_1 _))));obtain⟨o,ho,WC⟩:=qr;refine Y3 (wpAny_isInstance (T:="StopIteration") (b:=true) ⟨o,ho,WC⟩ isSubtype_stop ?_);refine Y2 ⟨rfl,I.turnL (t':=s.toks) y λb u a e'=>?_⟩;have c:b≠z/\b≠d/\b≠f/\b≠j/\b≠k:=by simpa using a
  exact V b u c.1 c.2.2.1 c.2.2.2.1 c.2.2.2.2 e'
 self:=λ_ _ _ _ _ st h=>wpAny_pyIter_zip st.z h
def zpH(k1 k2:Bool)(h:Heap)(a b:WP):Heap:=
 ((((h.push (qB k1 a)).push (qB k2 b)).push {cls:=.type "tuple",data:=.seq #[.ref h.objs.size,.ref (h.objs.size+1)] }).push {cls:=.type "tuple",data:=.seq #[.none,.none] }).push {cls:=.type "zip",data:=.fields #[.none,.bool false,.bool false,.ref (h.objs.size+2),.ref (h.objs.size+3)] }
def aAO(k1 k2:Bool)(a b:WP)(xs c:Array Value) :
  Meets (Builtin.«zip.__new__» ⟨[.type "zip",.ref a,.ref b],[]⟩) (λ_ R s=>SeqIn k1 s.heap a xs/\SeqIn k2 s.heap b c/\R (.ok (.ret (.ref (s.heap.objs.size+4)))) {s with heap:=zpH k1 k2 s.heap a b }):=
 .of_wp λl w A R s h=>by
  obtain⟨f,g,d,tk,os⟩:=s;obtain⟨i,j,h⟩:=h;have m:=sub_zip;have k:SeqIn k1 (Shared.heap ⟨f,g,d,tk,os⟩) a xs:=i;have L2:SeqIn k2 (Shared.heap ⟨f.push (qB k1 a),g,d,tk,os⟩) b c:=SeqIn.by j λo e=>hV _ e
  wp_walk using Pa k,Pa L2
  refine⟨_,rfl,?_⟩;simp only [Heap.size_push];exact h
def aAP(g:d<n)(h:e<n):Um (n+4) (n+2) (n+3) n (n+1) d e where
 i:=ne_of_lt (add_lt_add_left Zd n)
 o:=ne_of_lt (add_lt_add_left Zd n)
 p:=ne_of_lt (Nat.lt_add_of_pos_right Zd)
 q:=ne_of_lt (add_lt_add_left Zd n)
 io:=ne_of_lt (add_lt_add_left Zd n)
 ip:=ne_of_gt (Nat.lt_add_of_pos_right Zd)
 iq:=ne_of_gt (add_lt_add_left Zd n)
 op:=ne_of_gt (Nat.lt_add_of_pos_right Zd)
 oq:=ne_of_gt (add_lt_add_left Zd n)
 pq:=ne_of_lt (Nat.lt_add_of_pos_right Zd)
 a:=λb f=>by
  have c:b<n:=by rcases f with rfl|rfl<;>assumption
  exact⟨ne_of_lt (TD c (le_add_right n 4)),ne_of_lt (TD c (le_add_right n 3)),ne_of_lt c,ne_of_lt (TD c (le_add_right n 1))⟩
section
variable {prog:Program}{w:World}{A:Around}{E:Y5}{s:UV}
def Up{k1 k2:Bool}(p:SeqIn k1 s.heap a xs)(q:SeqIn k2 s.heap d j)(h:∀h',ZSt k1 k2 h' (s.heap.objs.size+4) (s.heap.objs.size+2) (s.heap.objs.size+3) s.heap.objs.size (s.heap.objs.size+1) a d .none 0 0->(∀c o,s.heap.get? c=some o->h'.get? c=some o)->Q (.ref (s.heap.objs.size+4)) {s with heap:=h' }) :
  wpAny (model prog w) A (call (.type "zip") [.ref a,.ref d]) Q E s:=by
 refine callType_new F.called_zip Zd (F.typeCall_zip_2 _ _) (F.newCall_zip_2 _ _) (λobj=>F.args_object_init_3 obj _ _) F.entry_zip_new (aAO k1 k2 a d xs j) ⟨p,q,?_⟩;have k:(s.heap.push (qB k1 a)).objs.size=s.heap.objs.size+1:=Heap.size_push ..;have i:((s.heap.push (qB k1 a)).push (qB k2 d)).objs.size=s.heap.objs.size+2:=by rw[Heap.size_push,k]
 have up:∀ {r t u v x:Obj}{b:WP}{o:Obj},s.heap.get? b=some o->(((((s.heap.push r).push t).push u).push v).push x).get? b=some o:=λe=>hV _ (hV _ (hV _ (hV _ (hV _ e))))
 have g:∀ {l:Heap}{o:Obj}{n:Nat},l.objs.size=n->o.isFreed=false->(l.push o).get? n=some o:=λe f=>by subst e;exact W1 _ f
 have g1:(zpH k1 k2 s.heap a d).get? s.heap.objs.size=some (qB k1 a):=hV _ (hV _ (hV _ (hV _ (W1 _ rfl))));have g2:(zpH k1 k2 s.heap a d).get? (s.heap.objs.size+1)=some (qB k2 d):=hV _ (hV _ (hV _ (g k rfl)));have g3:IsPair (zpH k1 k2 s.heap a d) (s.heap.objs.size+2) (.ref s.heap.objs.size) (.ref (s.heap.objs.size+1)):=hV _ (hV _ (g i rfl));have y:IsPair (zpH k1 k2 s.heap a d) (s.heap.objs.size+3) .none .none:=hV _ (g (by rw[Heap.size_push,i]) rfl);have m:IsZip (zpH k1 k2 s.heap a d) (s.heap.objs.size+4) (s.heap.objs.size+2) (s.heap.objs.size+3) .none:=g (by rw[Heap.size_push,Heap.size_push,i]) rfl;exact⟨⟨_,m,rfl⟩,h _ ⟨m,g3,⟨_,_,y⟩,⟨_,g1,rfl,rfl⟩,⟨_,g2,rfl,rfl⟩⟩ λc o e=>up e⟩
end
section
variable {X:Cx}{a b:Expr}{ta tb:TE}{p pos vb:Pos}{es:List Expr}{n:Nat}
def aCF(K:W.Frag)(ta tb:TE):TI:=λg H R=>ta g H λx h=>tb g h λy c=>mR x λd=>mR y λe=>∃k1 f i j,Eb K k1 c d i/\Eb K f c e j/\R (Itz K k1 f d e) c
def Pe:bootBuiltins "zip"=some (.type "zip"):=by decide +kernel
def aAQ(J:Gl X "zip")(K:X.mg "zip"=none)(L:PE X a ta)(f:PE X b tb)(u:aO a=true)(g:aO b=true):PI X (.Tuple es n vb) (.Call (.Name "zip" p) [a,b] [] pos) (aCF X.K ta tb):=by
 intro t s G H R I h;have M:starEach [a,b] X.env=[(false,eval a X.env),(false,eval b X.env)]:=by rw[bD u,bD g];rfl
 have v:starEach [b] X.env=[(false,eval b X.env)]:=by rw[bD g];rfl
 have N:PA X [a,b] (lN ta (lN tb vD)):=yD L (yD f xO g) u;refine Call_ (qY I J K Pe (PyProof.Rows.callWith_type1 (bY (N pos t s G H (λw i=>match w with|[x,y]=>(mR x λj=>mR y λl=>∃k1 m z A,Eb X.K k1 i j z/\Eb X.K m i l A/\R (Itz X.K k1 m j l) i)|_=>False) I ?_) ?_) (by rw[M,v]) (by rw[v];rfl)))
 ·exact h
 ·refine λW d=>yE2 λw B=>yA3 λe O c=>?_;(try dsimp only at c);split at c
  rotate_left
  ·exact c.elim
  rename_i x y;rw[bS]at c;obtain⟨j,rfl,c⟩:=c;rw[bS]at c;obtain⟨l,rfl,k1,m,z,A,P,Q,q⟩:=c
  cases O with
  | cons r o=>
   cases o with
   | cons T o=>
    cases o;cases r;cases T;obtain⟨V,Y,C⟩:=e.sqk P;obtain⟨Z,qp,D⟩:=e.sqk Q;refine Up C D λE S k=>?_;have U:Inv X t G B {d with heap:=E }:=e.kept (t':=d.toks) k;refine wpAny_pyIter_zip (s:={d with heap:=E }) S.z ?_;refine⟨d.heap.objs.size+4,_,_,_,B,rfl,U,Pd (aAP C.lt D.lt),S,λb f=>?_,q⟩;have F:d.heap.objs.size<=b:=by
     simp only [mem_cons,QZZ,or_false]at f;rcases f with rfl|rfl|rfl|rfl|rfl
     ·exact le_add_right _ 4
     ·exact le_add_right _ 2
     ·exact le_add_right _ 3
     ·exact cE _
     ·exact le_add_right _ 1
    exact e.fpOk F (e.hok.fresh F)
def R.di{K:W.Frag}(c:Gl X "zip")(d:X.mg "zip"=none)(e:XE X a ta)(f:XE X b tb)(g:X.K=K:=by rfl)(h:aO a=true:=by rfl)(i:aO b=true:=by rfl):XI X (.Tuple es n vb) (.Call (.Name "zip" p) [a,b] [] pos) (aCF K ta tb):=
 g▸⟨aAQ c d e.h f.h h i⟩
end
def mH{K:W.Frag}{k1 k2:Bool}{j k:WP}{xs a:List V}{js:List (Option Nat)}{g:TG}{l:TT}{n:TE}{q:St}{H:Hp}{Q:List V->Hp->Prop}(J:xs.length<=100000)(Pv:Nat->List V->Hp->Prop)(r:∀i zs H,Pv i zs H->Eb K k1 H j xs/\Eb K k2 H k a/\zs.length<=i)(s:Pv 0 [] H)(hs:∀i x y zs H t,xs[i]?=some x->a[i]?=some y->Pv i zs H->H t=none->g (.ref t) (Ad js q) (aH H t (.tup [x,y])) λh u=>l h u λb o=>if b=true then n h o λv w=>Pv (i+1) (zs++[v]) w else Pv (i+1) zs o)(z:∀zs H,Pv (min xs.length a.length) zs H->Q zs H):uD js g l n q (Itz K k1 k2 j k) H Q:=by
 refine⟨λi m zs H=>m=min xs.length a.length-i/\i<=min xs.length a.length/\Pv i zs H,⟨_,rfl,zero_le _,s⟩,?_⟩;refine λi m zs H=>yA3 λζ L p=>?_;subst ζ;refine yE0 (r i zs H p) (yA3 λc d M=>?_);by_cases f:i<min xs.length a.length
 ·have A:i<xs.length:=TD f (min_le_left _ _);have B:i<a.length:=TD f (Nat.min_le_right _ _);refine .inr ⟨⟨xs,a,xs[i],a[i],c,d,by simp[A],by simp[B]⟩,Ly (m:=100000) Zo Zd,Pv (i+1),λI C D=>⟨_,Zo,rfl,f,D⟩,λv C y=>?_⟩;revert y;refine yE3 λt x y=>yA5 λE ζ η F G=>?_;subst ζ η;exact hs i x y zs H t (F xs c) (G a d) p E
 ·have e:i=min xs.length a.length:=by omega
  subst e;exact .inl ⟨⟨xs,a,c,d,Zo⟩,z zs H p⟩
def oY(x:V)(zs:List Str):Bool:=match x with|.str z=>decide (z∈zs)|_=>false
section
variable {X:Cx}
def nF(A:Around):A.in1.units=A.units+1:=rfl
def iY(xs a:List V):Bool:=(List.range (min xs.length a.length)).all (λj=>xT (xs.getD j .non) (a.getD j .non))&&xs.length==a.length
def aAR(e:Bool):R2:=λx y H Q=>mR x λa=>mR y λb=>∃c d,H a=some (.tup c)/\H b=some (.tup d)/\(∀(j:Nat)(u v:V),c[j]?=some u->d[j]?=some v->cF u=true/\cF v=true)/\Q (.bl (if e then !iY c d else iY c d)) H
def aAS(i:Bool)(M:X.A.units+64<cLine):OpR X (compareOp (if i then .NotEq else .Eq)) (aAR i):=by
 intro L s N H x y v u Q I z B h;unfold aAR at h;rw[bS]at h;obtain⟨a,rfl,h⟩:=h;rw[bS]at h;obtain⟨b,rfl,c,d,g1,g2,C,q⟩:=h;cases z;cases B;obtain⟨f,n,o,_⟩:=I.tuple (QYY g1);obtain⟨g,p,r,_⟩:=I.tuple (QYY g2);have D:f.length=c.length:=n.length.symm;have E:g.length=d.length:=p.length.symm;have m:∀j (k:j<f.toArray.size) (l:j<g.toArray.size),SeqAt.EqAt X.A.in1 s f.toArray[j] g.toArray[j] (xT (c.getD j .non) (d.getD j .non)):=λj k l=>by
  rw[iA]at k l;obtain⟨t,F⟩:=Paired.get' (j:=j) n k;obtain⟨w,G⟩:=Paired.get' (j:=j) p l;obtain⟨f1,f2⟩:=C j c[j] d[j] (kO t) (kO w);have J:c.getD j .non=c[j]:=by simp[List.getD,t]
  have K:d.getD j .non=d[j]:=by simp[List.getD,w]
  rw[J,K];simpa using tX F G f1 f2
 have e:((List.range (min f.toArray.size g.toArray.size)).all (λj=>xT (c.getD j .non) (d.getD j .non))&&f.toArray.size==g.toArray.size)=iY c d:=by
  rw[iA,iA,D,E];rfl
 cases i with
 | true=>
  have key:=SeqAt.RcNeAt.tuples (A:=X.A) (s:=s) o r Zo m;rw[e]at key;exact key _ _ _ _ ⟨.bl _,H,I,rfl,q⟩
 | false=>
  have key:=SeqAt.RcAt.tuples (A:=X.A) (s:=s) o r Zo m;rw[e]at key;exact key _ _ _ _ ⟨.bl _,H,I,rfl,q⟩
def R.ee(a:X.A.units+64<cLine):jG X (compareOp .Eq) (aAR false):=⟨aAS false a⟩
end
def nIs:Option eN->WF->Bool
 | none,.none=>true
 | none,_=>false
 | some k,v=>lT k v
def cQ:∀ {k:Option eN}{v:WF},nIs k v=true->(k=none/\v=.none)∨∃j,k=some j/\lT j v=true
 | none,v,h=>by cases v<;>first|exact .inl ⟨rfl,rfl⟩|exact T7 (show false=true from h) Y1
 | some j,v,h=>.inr ⟨j,rfl,h⟩
def qC:lT j .none=false:=by cases j<;>rfl
def Bc:Int:=4238894112
section
variable {prog:Program}{w:World}{A:Around}{E:Y5}{s:UV}
def Kc(h:Q Bc {s with toks:=s.toks+1 }):wpAny (model prog w) A (PySem.pyHash .none) Q E s:=by
 have a:s.TypeIs Value.none "NoneType":=rfl;unfold PySem.pyHash;refine Y3 ?_;rw[cRoomFor,T8 (show ¬ ([Value.none].any Value.onHeap=true) from Y1)];refine Y2 ?_;refine Y3 (wpAny_specialOf a PySem.F.slot_NoneType_hash.lookup ?_);show wpAny (model prog w) A (if (some (Value.builtin "NoneType.__hash__")==some Value.none)=true then _ else _) Q E s;rw[T8 (show ¬ ((some (Value.builtin "NoneType.__hash__")==some Value.none)=true) from Y1)];refine Y3 (wpAny_specialOf a PySem.F.slot_NoneType_hash.lookup ?_);show wpAny (model prog w) A (callSpecialIfBoundUnlessNone? Value.none "__hash__" _>>=_) Q E s;refine Y3 (wpAny_callSpecialIfBoundUnlessNone?_slot a PySem.F.slot_NoneType_hash (wpAny_call_entry PySem.F.slot_NoneType_hash a PySem.F.entry_NoneType_hash (show wpAny (model prog w) _ (do ret (← mkInt Bc)) _ _ s from wpAny_ret_mkInt ?_) (PySem.F.args_NoneType_hash_1 _)));show wpAny (model prog w) A (if (decide (-(2:Int)^63<=Bc)&&decide (Bc<2^63))=true then _ else _) Q E _;rw[UF Zd];exact Y2 h
end
def wN(prog:Program)(w:World):PySem.KeyKind prog w (Option eN) where
 is:=nIs
 hash:=λk=>match k with|none=>Bc|some j=>aBE w j
 inj:=λv a b m l=>by
  rcases cQ m with⟨rfl,rfl⟩|⟨i,rfl,c⟩
  ·rcases cQ l with⟨rfl,_⟩|⟨j,rfl,d⟩
   ·rfl
   ·rw[qC]at d;cases d
  ·rcases cQ l with⟨rfl,rfl⟩|⟨j,rfl,d⟩
   ·rw[qC]at c;cases c
   ·rw[(bQ prog w).inj v i j c d]
 byValue:=λk v h=>by
  rcases cQ h with⟨rfl,rfl⟩|⟨i,rfl,c⟩
  ·rfl
  ·exact(bQ prog w).byValue i v c
 pyHash:=λ{A E s k v Q} g h=>by
  rcases cQ g with⟨rfl,rfl⟩|⟨i,rfl,c⟩
  ·exact Kc h
  ·exact(bQ prog w).pyHash c h
 eqBool:=λ{A E s a b u v Q} o g h=>by
  rcases cQ o with⟨rfl,rfl⟩|⟨i,rfl,c⟩
  ·rcases cQ g with⟨rfl,rfl⟩|⟨j,rfl,d⟩
   ·exact SeqAt.EqAt.same _ _ _ _ _ (by simpa using h)
   ·have f:Q false s:=by simpa using h
    rcases bV d with⟨n,t,rfl,rfl⟩|⟨x,t,rfl,rfl⟩
    ·exact SeqAt.EqAt.none_int n t _ _ _ _ f
    ·exact SeqAt.EqAt.none_str x t _ _ _ _ f
  ·rcases cQ g with⟨rfl,rfl⟩|⟨j,rfl,d⟩
   ·have f:Q false s:=by simpa using h
    rcases bV c with⟨n,t,rfl,rfl⟩|⟨x,t,rfl,rfl⟩
    ·exact SeqAt.EqAt.int_none n t _ _ _ _ f
    ·exact SeqAt.EqAt.str_none x t _ _ _ _ f
   ·refine(bQ prog w).eqBool c d ?_;have e:decide (some i=some j)=decide (i=j):=by simp
    rw[<- e];exact h
 «strs»:=λk x t v h=>by
  rcases cQ h with⟨rfl,e⟩|⟨i,rfl,c⟩
  ·cases e
  ·exact(bQ prog w).strs i x t v c
def Pf{prog:Program}{w:World}{h:Heap}{a:WP}{f:eN->Option WF}(m:h.MapOf (bQ prog w) a f):∃g:Option eN->Option WF,h.MapOf (wN prog w) a g/\g none=none:=by
 revert m;refine yE3 λo c p=>yA5 λq r s j t=>?_;refine⟨_,⟨o,c,p,q,r,s,λe d=>?_,λk=>rfl⟩,?_⟩
 ·obtain⟨k,b,l⟩:=j e d;exact⟨some k,b,l⟩
 ·show findBy nIs c none=none;unfold findBy;have:c.find? (λe=>nIs none e.key)=none:=by
   rw[Array.find?_eq_none];intro e d z;obtain⟨k,b,l⟩:=j e d;rcases cQ z with⟨_,i⟩|⟨_,i,_⟩
   ·rw[i]at b;have n:lT k .none=true:=b;rw[qC]at n;cases n
   ·cases i
  rw[this];rfl
section
variable {X:Cx}
def aAT(c:Bool):R2:=λx y H Q=>mR y λa=>match x with
 | .non=>(∃b,H a=some (.dK b))/\Q (.bl c) H
 | .str z=>∃b,H a=some (.dK b)/\Q (.bl (if c then !(dN b (Sum.inr z)).isSome else (dN b (Sum.inr z)).isSome)) H
 | _=>False
def aAU(b:Bool)(f:X.A.units+1<cLine):OpR X (compareOp (if b then .NotIn else .In)) (aAT b):=by
 intro r s A H x y v u Q I c n h;unfold aAT at h;rw[bS]at h;obtain⟨a,rfl,h⟩:=h;cases n
 cases x with
 | non=>
  obtain⟨⟨m,e⟩,q⟩:=h;cases c;obtain⟨z,i,w,t,o⟩:=Nf I.hok e;obtain⟨g,j,l⟩:=Pf o.mapOf;cases b
  ·refine wpAny_in_of (knd:=wN X.prog X.w) (k:=none) rfl i j ⟨.bl _,H,I.tok _,rfl,?_⟩;rw[l];exact q
  ·refine wpAny_notIn_of (knd:=wN X.prog X.w) (k:=none) rfl i j ⟨.bl _,H,I.tok _,rfl,?_⟩;rw[l];exact q
 | str z=>
  obtain⟨m,e,q⟩:=h;cases b
  ·exact aDt f I (DGet.k (k:=Sum.inr z) e) c λp d=>⟨.bl _,H,d,rfl,q⟩
  ·exact Tr f I (DGet.k (k:=Sum.inr z) e) c λp d=>⟨.bl _,H,d,rfl,q⟩
 | _=>exact h.elim
def R.fz(a:X.A.units+1<cLine):jG X (compareOp .In) (aAT false):=⟨aAU false a⟩
end
def Pc(H:Hp)(y:V):Prop:=(cF y=true/\∀z,y=.str z->z.length<=1000)∨(∃a b,y=.ref a/\(H a=some (.lst b)∨H a=some (.tup b)))∨∃a c,y=.ref a/\H a=some (.dK c)
def Tg(H:Hp)(x:V):Prop:=Pc H x/\∀a b,x=.ref a->H a=some (.tup b)->b.length<=1000/\∀y∈b,Pc H y
def Pc.same(s:Same H b)(h:Pc H y):Pc b y:=by
 rcases h with h|⟨a,d,e,h⟩|⟨a,c,e,h⟩
 ·exact .inl h
 ·exact .inr (.inl ⟨a,d,e,h.imp (s _ _) (s _ _)⟩)
 ·exact .inr (.inr ⟨a,c,e,s _ _ h⟩)
def Tg.same(s:Same H c)(h:Tg H x):Tg c x:=by
 refine⟨h.1.same s,λa m e g=>?_⟩;subst e;rcases h.1 with⟨d,_⟩|⟨f,n,e,b⟩|⟨f,l,e,b⟩
 ·cases d
 ·cases e;rcases b with b|b
  ·have:=s _ _ b;rw[g]at this;cases this
  ·have:=s _ _ b;rw[g]at this;cases this;obtain⟨i,j⟩:=h.2 a _ rfl b;exact⟨i,λy k=>(j y k).same s⟩
 ·cases e;have:=s _ _ b;rw[g]at this;cases this
def Pc.kd(h:Pc H y):∃k,Kof H y k:=by
 rcases h with⟨h,_⟩|⟨a,b,rfl,h|h⟩|⟨a,c,rfl,h⟩
 ·cases y with
  | non=>exact⟨.non,trivial⟩
  | bl _=>exact⟨.bl,trivial⟩
  | int _=>exact⟨.int,trivial⟩
  | str _=>exact⟨.str,trivial⟩
  | _=>exact T7 (show false=true from h) Y1
 ·exact⟨.lst,.inl ⟨b,h⟩⟩
 ·exact⟨.tup,⟨b,h⟩⟩
 ·exact⟨.dct,⟨c,h⟩⟩
def Pc.pt(h:Pc H y):Pt H y:=by
 obtain⟨k,a⟩:=h.kd;refine⟨k,a,λz e=>?_⟩;subst e;rcases h with⟨_,h⟩|⟨_,_,e,_⟩|⟨_,_,e,_⟩
 ·exact h z rfl
 ·cases e
 ·cases e
def Pc.int:Pc H (.int n):=.inl ⟨rfl,λ_ e=>nomatch e⟩
def Pc.str(h:z.length<=1000):Pc H (.str z):=.inl ⟨rfl,λ_ e=>by injection e with e;rw[<- e];exact h⟩
def Pc.tup(h:H a=some (.tup b)):Pc H (.ref a):=.inr (.inl ⟨a,b,rfl,.inr h⟩)
def Tg.flat(h:Pc H x)(no:∀a xs,x=.ref a->H a=some (.tup xs)->False):Tg H x:=⟨h,λa xs e g=>(no a xs e g).elim⟩
def Tg.tup(h:H a=some (.tup xs))(c:xs.length<=1000)(d:∀y∈xs,Pc H y):Tg H (.ref a):=
 ⟨.tup h,λb f e g=>by cases e;rw[h]at g;cases g;exact⟨c,d⟩⟩
def bA(H:Hp)(x:V):Option (List V):=match x with|.ref a=>(match H a with|some (.tup b)=>some b|_=>none)|_=>none
def kK(xs:List V):V:=match xs with|.str u::_=>.str u|_=>.non
def cR(H:Hp)(x:V):V:=match bA H x with|some a=>kK a|none=>.non
def cD(h:H a=some (.tup xs)):bA H (.ref a)=some xs:=by unfold bA;dsimp only;rw[h]
def iZ(wd:Str)(n:Int):List (Str×List (Int×Int)):=
 if wd="pass" then [] else if wd="move" then [("is",[(0,1000000000000-n),(n,1000000000000)]),("short",[(0,n-1)]),("full",[(1000000000000-n+1,1000000000000)])]
 else if wd="take"∨wd="send" then [("is",[(0,1000000000000-n)]),("short",[(0,n-1)])] else [("is",[(n,1000000000000)]),("full",[(1000000000000-n+1,1000000000000)])]
def bK(xs:List V)(bs:List (Int×Int)):Bool:=decide (xs.length=bs.length)&&(xs.zip bs).all λq=>aQ q.2.1 q.2.2 q.1
def cI(wd:Str)(hs:List Str)(n:Int)(xs:List V):Bool:=match xs with
 | .str u::r=>
  if u="no" then (match r with|[y]=>oY y hs|_=>false)
  else if u="ok" then decide (wd="pass")&&r.isEmpty
  else match (iZ wd n).lookup u with|some bs=>bK r bs|none=>false
 | _=>false
def iF(H:Hp)(wd:Str)(hs:List Str)(n:Int)(x:V):Bool:=match bA H x with|some a=>cI wd hs n a|none=>false
abbrev B2:=Addr×Int×Int
def BAt(H:Hp)(bs:List B2):Prop:=∀z∈bs,H z.1=some (.tup [.int z.2.1,.int z.2.2])
def yL(bs:List B2):List V:=bs.map λz=>V.ref z.1
def Bd(H:Hp)(o:Option (List (Int×Int)))(v:Option V):Prop:=match o with
 | some bs=>∃t a,v=some (.ref t)/\H t=some (.tup (yL a))/\BAt H a/\a.map (·.2)=bs
 | none=>v=none
def BAt.same{bs:List B2}(s:Same H a)(h:BAt H bs):BAt a bs:=λz b=>s _ _ (h z b)
structure DWN(wd:Str)(n:Int)(xs:List V)(as:List (Str×List V)):Prop where
 ex:∃one other nm cs,DW one other nm n wd xs cs as
 nm:∀q∈as,isNm q.1
def DWN.dwx{wd:Str}(h:DWN wd n xs a):∃cs,DWX wd xs cs a:=by
 refine yE0 h.ex (yE4 λone b nm cs c=>?_);exact⟨cs,one,b,nm,n,c⟩
def qD:Sp:=λa H Q _=>∃x,a=[x]/\Tg H x/\Q (cR H x) H
def qE(xs:List V):Bool:=match xs with|[_,y]=>dR y|_=>false
def Ec:Sp:=λd H Q _=>∃a b,d=[.ref a]/\H a=some (.tup b)/\(∀y∈b,Pc H y)/\∀c,Same H c->Q (.bl (qE b)) c
def Be:Sp:=λe H Q _=>∃p wd n c f,e=[.ref p]/\H p=some (.tup c)/\DWN wd n c f/\∀d b a,Same H a->a d=some (.dK b)->(∀u:Str,Bd a ((iZ wd n).lookup u) (dN b (Sum.inr u)))->Q (.ref d) a
def Bf:Sp:=λd H Q _=>∃a t b bs,d=[.ref a,.ref t]/\H a=some (.tup b)/\b.length<=1000/\(∀y∈b,Pc H y)/\H t=some (.tup (yL bs))/\BAt H bs/\∀c,Same H c->Q (.bl (bK b (bs.map (·.2)))) c
def qF:Sp:=λd H Q _=>∃p wd n a b x,d=[.ref p,x]/\H p=some (.tup a)/\DWN wd n a b/\Tg H x/\∀c,Same H c->Q (.bl (iF H wd (b.map (·.1)) n x)) c
section
variable {X:Cx}{o:Expr}{to:TE}{p pos apos cpos:Pos}
def aDI:List V->Hp->VK->Prop:=λc H Q=>match c with
 | [.ref a]=>∃b,H a=some (.dK b)/\∀p,H p=none->Q (.ref p) (aH H p (.dK b))
 | _=>False
def yM:V->List V->Hp->VK->Prop:=λx b H Q=>match x,b with
 | .ref l,[.str z]=>∃a:List Str,H l=some (.lst (a.map V.str))/\z∈a/\∀j:Nat,a[j]?=some z->Q (.int j) H
 | _,_=>False
theorem Bg{z:Str}:∀ {a:List Str},z∈a->∃j:Nat,a[j]?=some z/\∀m,m<j->a[m]?≠some z
 | [],h=>nomatch h
 | y::r,h=>by
  by_cases e:y=z
  ·subst e;exact⟨0,rfl,λm b=>T7 b (Nat.not_lt_zero _)⟩
  ·rcases mem_cons.mp h with c|h
   ·exact T7 c.symm e
   ·obtain⟨j,d,b⟩:=Bg h;refine⟨j+1,by simpa using d,λm f=>?_⟩
    cases m with
    | zero=>simp;exact e
    | succ m=>simpa using b m Zo
def Ke:Ma X "list.index" yM:=by
 intro K s O H x L v M Q I t d h;unfold yM at h;split at h
 ·rename_i l z;obtain⟨b,w,A,q⟩:=h;cases t;obtain⟨u,rfl,f,rfl⟩:=d.one;obtain⟨a,n,r,i,B⟩:=I.lst w;obtain⟨j,g,C⟩:=Bg A;have D:=r.length;rw[aX]at D;have N:j<b.length:=(Zgs.mp g).1;have E:(b.map V.str).all cF=true:=by simp[cF]
  have k:∀(m:Nat)(e:m<a.length),rC (.str z) a[m]=decide (b[m]?=some z):=λm e=>by
   have c:m<b.length:=by omega
   have d:RelV (V.str b[m]) (a.getD m Value.none):=wI m r (by rw[aX];exact c) _ (by rw[jF,kO c];rfl);have F:a.getD m Value.none=a[m]:=by rw[List.getD_eq_getElem?_getD,kO e];rfl
   rw[F]at d;rw[xU d rfl,kO c];show decide (b[m]=z)=_;simp
  refine call_meets PySem.F.slot_list_index ⟨_,i,rfl⟩ PySem.F.entry_list_index (PySem.F.args_list_index_2 _ _)
   (SeqAt.list_indexAt l a.toArray n none #[] (.str z f) (rC (.str z)) j (by simp;omega) (by rw[sizeLine_eq,aX]at B;omega) ?_ ?_) ⟨i,λy G=>eX (x:=.str z) (show RelV (V.str z) (Value.str z f) from⟨f,rfl⟩) rfl r E y (by simpa using G),⟨.int j,H,I.tok _,⟨_,rfl⟩,q j g⟩⟩
  ·have:=k j Zo;simp only [getElem_toArray];rw[this];exact X2 g
  ·intro m e J;have c:m<a.length:=by simpa using e
   have:=k m c;simp only [getElem_toArray];rw[this];exact XV (C m J)
 ·exact h.elim
def R.gc:XM X "list.index" yM:=⟨Ke⟩
end
section
variable {X:Cx}
def Pg(i j:Int):Prop:=0<j/\j<2^64
def Uq:OpR X (binaryOp .FloorDiv) (m2 Pg λi j=>.int (i / j)):=(opI (C:=Pg) (g:=λi j=>i / j) λi j _ _ s Q E a q=>by
 have b:i.fdiv j=i/j:=Int.fdiv_eq_ediv_of_nonneg _ (by have:=a.1;omega);refine floordiv_int (by have:=a.1;omega) (by rw[b];exact q) (.inl (PyProof.noPylong_of_log2 ?_));have c:j.natAbs<2^64:=by have:=a.1;have:=a.2;omega
 exact TD (Nat.log2_lt (by have:=a.1;omega) |>.mpr c) Zd).imp yC
def R.fe:jG X (binaryOp .FloorDiv) (m2 Pg λi j=>.int (i/j)):=⟨Uq⟩
end
def PenAt(H:Hp)(p:WP):Prop:=∃i j:Int,H p=some (.lst [.int i,.int j])/\0<=i/\0<=j/\j<2147483629
def K1(p:WP)(H a:Hp):Prop:=∀c o,H c=some o->c≠p->a c=some o
def K1.trans(a:K1 p H d)(b:K1 p d f):K1 p H f:=λc o e n=>b c o (a c o e n) n
def K1.of(a:Same H b):K1 p H b:=λc o e _=>a c o e
def PenAt.same(s:Same H a)(h:PenAt H p):PenAt a p:=by
 obtain⟨i,j,g,r⟩:=h;exact⟨i,j,s _ _ g,r⟩
def PenAt.ne(h:PenAt H p)(a:H l=none):l≠p:=λz=>by
 obtain⟨i,j,g,r⟩:=h;rw[z,g]at a;cases a
def Xo:Sp:=λb H Q _=>∃c k:Int,b=[.int c,.int k]/\∀p a,H p=none->Same H a->PenAt a p->Q (.ref p) a
def fT:Sp:=λb H Q _=>∃(p:WP)(m:Int),b=[.ref p,.int m]/\PenAt H p/\0<m/\m<=10000000000000/\∀r a,0<=r->r<m->PenAt a p->K1 p H a->Q (.int r) a
def Ph(K:W.Frag):Sp:=λb H Q _=>∃(a:WP)(d:List Int)(k:Nat),b=[.ref a,.int k]/\SqL K H a (d.map V.int)/\∀c:Int,Q (.int c) H
def kW:Sp:=λc H Q _=>∃(p:WP)(lo a:Int),c=[.ref p,.int lo,.int a]/\PenAt H p/\lo<=a/\a-lo<10000000000000/\∀n b,lo<=n->n<=a->PenAt b p->K1 p H b->Q (.int n) b
def K1.free(k:K1 p H a)(pn:PenAt a p)(h:a l=none):H l=none:=by
 cases e:H l with
 | none=>rfl
 | some o=>rw[k _ _ e (pn.ne h)]at h;cases h
def qG(cs:List Nat)(i:Int):Nat:=cs.getD i.toNat 0
def yN{cs:List Nat}{i:Int}(b:0<=i)(c:i<cs.length):eK cs i=some (qG cs i)/\qG cs i∈cs:=by
 obtain⟨j,rfl⟩:=qX b;have a:j<cs.length:=by omega
 have e:qG cs (j:Int)=cs[j]:=by unfold qG;simp[a]
 rw[e];exact⟨aL (kO a),getElem_mem a⟩
def Xp{zs:List Str}(a:Nat)(c:Nat->Nat)(h:∀j z,zs[j]?=some z->z.cps.toList[a]?=some (c j))(inj:∀j b,j<b->b<zs.length->c j≠c b):zs.Nodup:=by
 refine List.pairwise_iff_getElem.mpr λi j g d k e=>?_;have f:=h i _ (kO g);have l:=h j _ (kO d);rw[e,l]at f;exact inj i j k d (Option.some.inj f).symm
def oZ(l:List Nat):(tx l).cps.toList=l:=by simp
def wO:Sp:=λc H Q _=>∃(p:WP)(m:Nat),c=[.ref p,.int m]/\PenAt H p/\m<=6/\∀(l:WP)(a:List Str)(b:Hp),a.length=m->(∀z∈a,isNm z)->a.Nodup->H l=none->b l=some (.lst (a.map V.str))->PenAt b p->K1 p H b->Q (.ref l) b
def Pi:∀i,i<26->LET.getD i 0=97+i:=by decide +kernel
def Pj(s:Int):Prop:=s=1∨s=3∨s=5∨s=7∨s=9∨s=11
def Ur{b s:Int}(hs:Pj s){j a:Nat}(h:j<a)(h':a<10):qG LET ((b+s*(j:Int))%26)≠qG LET ((b+s*(a:Int))%26):=λe=>by
 unfold qG at e;have c:=Int.emod_nonneg (b+s*(j:Int)) (show(26:Int)≠0 by decide);have d:=Int.emod_lt_of_pos (b+s*(j:Int)) (show(0:Int)<26 by decide);have f:=Int.emod_nonneg (b+s*(a:Int)) (show(26:Int)≠0 by decide);have g:=Int.emod_lt_of_pos (b+s*(a:Int)) (show(0:Int)<26 by decide);rw[Pi _ Zo,Pi _ Zo]at e;rcases hs with rfl|rfl|rfl|rfl|rfl|rfl<;>omega
def KLET:List Nat:=LET++oH
def yO:(("abcdefghijklmnopqrstuvwxyz0123456789":Str)).cps.toList=KLET:=by decide +kernel
def isKy(z:Str):Prop:=1<=z.length/\z.length<=12/\∀c∈z.cps.toList,c∈KLET
def Bh:Sp:=λc H Q _=>∃(p:WP)(m:Nat),c=[.ref p,.int m]/\PenAt H p/\m<=10/\∀(l:WP)(a:List Str)(b:Hp),a.length=m->(∀z∈a,isKy z)->a.Nodup->H l=none->b l=some (.lst (a.map V.str))->PenAt b p->K1 p H b->Q (.ref l) b
def Us:∀i,i<36->∀j,j<36->KLET.getD i 0=KLET.getD j 0->i=j:=by decide +kernel
def Hd(s:Int):Prop:=s=1∨s=5∨s=7∨s=11∨s=13∨s=17
def Pk{b s:Int}(hs:Hd s){j a:Nat}(h:j<a)(h':a<12):qG KLET ((b+s*(j:Int))%36)≠qG KLET ((b+s*(a:Int))%36):=λe=>by
 unfold qG at e;have c:=Int.emod_nonneg (b+s*(j:Int)) (show(36:Int)≠0 by decide);have d:=Int.emod_lt_of_pos (b+s*(j:Int)) (show(0:Int)<36 by decide);have f:=Int.emod_nonneg (b+s*(a:Int)) (show(36:Int)≠0 by decide);have g:=Int.emod_lt_of_pos (b+s*(a:Int)) (show(0:Int)<36 by decide);have:=Us _ Zo _ Zo e;rcases hs with rfl|rfl|rfl|rfl|rfl|rfl<;>omega
def RowsOk(H:Hp)(a:List (WP×List Int)):Prop:=∀q∈a,H q.1=some (.lst (q.2.map V.int))/\1<=q.2.length/\q.2.length<=12/\∀x∈q.2,0<=x/\x<36
def rW(q:WP×List Int):Str:=tx (q.2.map (qG KLET))
def RowsOk.same(h:RowsOk H b)(s:Same H a):RowsOk a b:=λq c=>⟨s _ _ (h q c).1,(h q c).2⟩
def RowsOk.k1(h:RowsOk H a)(k:K1 p H c)(d:∀q∈a,q.1≠p):RowsOk c a:=λq b=>⟨k _ _ (h q b).1 (d q b),(h q b).2⟩
def RowsOk.ky(h:RowsOk H a):∀q∈a,isKy (rW q):=λq f=>by
 obtain⟨_,g,j,b⟩:=h q f;unfold rW;refine⟨by rw[dC,aX];exact g,by rw[dC,aX];exact j,λc d=>?_⟩;rw[oZ]at d;obtain⟨i,e,rfl⟩:=Zmm.mp d;exact(yN (cs:=KLET) (b i e).1 (show i<36 from(b i e).2)).2
def Ite(K:W.Frag)(a:WP):It:=
  ⟨λi H=>∃b x,SqL K H a b/\b[i]?=some x,
   λi H v c=>∃t x,H t=none/\v=.ref t/\c=aH H t (.tup [.int i,x])/\∀b,SqL K H a b->b[i]?=some x,
   λi H=>∃b,SqL K H a b/\b.length<=i⟩
structure ESt(h:Heap)(e it a:WP)(i:Nat):Prop where
 e:∃old,IsEnum h e it i old
 i:h.IsListIter it a i
def Kf{P:Program}{w:World}{K:W.Frag}{O:List Expr}{n:Nat}{pos:Pos}{e it a:WP}(F:e≠it)(QY:a≠e)(hia:a≠it) :
  xK P w K (.Tuple O n pos) (Ite K a) [e,it] e (λi h=>ESt h e it a i) where
 mem:=by simp
 obj:=λi h st b c=>by
  obtain⟨f,d⟩:=st.e;obtain⟨j,k,_,Q⟩:=st.i;simp only [mem_cons,QZZ,or_false]at c;rcases c with rfl|rfl
  ·exact⟨_,d,λv q=>by have R:Data.fields _=Data.cell v:=q;cases R⟩
  ·exact⟨_,k,λv q=>by rw[Q]at q;cases q⟩
 keep:=λi h h' st g=>by
  obtain⟨f,d⟩:=st.e;obtain⟨j,k,a0⟩:=st.i;exact⟨⟨f,g e Zs _ d⟩,⟨j,g it Zs _ k,a0⟩⟩
 item:=by
  intro X r t y G i M s σ H a1 I m st z;subst r t y;obtain⟨S,x,o,J⟩:=z;obtain⟨N,A,p,_⟩:=I.list o;obtain⟨u,T,U⟩:=A.get J;obtain⟨f,d⟩:=st.e;refine wpAny_pyNext_enum_item d st.i p.isList (by simpa using T) F λV k Y Z z1 k1=>?_;refine⟨_,rfl,?_⟩;refine wpAny_letOwnedTupleGo_enum k λh2 e2 B=>?_;have E:e<s.heap.objs.size:=Heap.lt_size d;have t2:h2.get? s.heap.objs.size=some {cls:=.type "tuple",data:=.seq #[.int i s.toks,u] }:=B.extBut _ _ (ne_of_gt E) Z;refine⟨.ref s.heap.objs.size,aH H s.heap.objs.size (.tup [.int i,x]),I.turnLaid (t':=s.toks+1) m (λb a2 c C=>?_) (cE _) ⟨by show 2<=sizeLine;decide,[.int i s.toks,u],.cons ⟨_,rfl⟩ (.cons U .nil),⟨_,t2,rfl,_,rfl⟩⟩,rfl,?_,?_,λb c=>?_⟩
  ·have l:b≠e/\b≠it:=by simpa using c
   exact B.extBut _ _ l.1 (k1 b a2 l.1 l.2 C)
  ·exact⟨s.heap.objs.size,x,I.hok.fresh (cE _),rfl,rfl,λzs hz=>by rw[I.list_inj hz o];exact J⟩
  ·obtain⟨j,D,L⟩:=Y;exact⟨⟨_,by simpa using e2⟩,⟨j,B.extBut _ _ F.symm D,L⟩⟩
  ·have C9:b<s.heap.objs.size:=by
    obtain⟨j,D,L⟩:=st.i;simp only [mem_cons,QZZ,or_false]at c;rcases c with rfl|rfl
    ·exact E
    ·exact Heap.lt_size D
   rw[aJ (ne_of_lt C9)];exact(m b c).1
 done:=by
  intro X r t y G i M s σ H a1 I m st z;subst r t y;obtain⟨S,o,hl⟩:=z;obtain⟨N,A,p,_⟩:=I.list o;obtain⟨f,d⟩:=st.e;have l1:=A.length;refine wpAny_pyNext_enum_end (I.ok.hd G) d st.i p.isList (by simp;omega) λV k1=>?_;refine⟨rfl,I.turnL (t':=s.toks) m λb u c C=>?_⟩;have l:b≠e/\b≠it:=by simpa using c
  exact k1 b u l.2 C
 self:=λ_ _ _ _ _ st h=>by
  obtain⟨f,d⟩:=st.e;exact wpAny_pyIter_enum d h
section
variable {X:Cx}{a b:Expr}{ta tb:TE}{p pos vb:Pos}{es:List Expr}{n:Nat}
def Xq(K:W.Frag)(ta:TE):TI:=λe H R=>ta e H λx c=>mR x λa=>∃d,SqL K c a d/\R (Ite K a) c
def Ut(C:Gl X "enumerate")(D:X.mg "enumerate"=none)(E:PE X a ta)(i:aO a=true):PI X (.Tuple es n vb) (.Call (.Name "enumerate" p) [a] [] pos) (Xq X.K ta):=by
 intro g s B H R I h;have F:starEach [a] X.env=[(false,eval a X.env)]:=by rw[bD i];rfl
 have G:PA X [a] (lN ta vD):=yD E xO i;refine Call_ (qY I C D boot_enumerate (PyProof.Rows.callWith_type1 (bY (G pos g s B H (λj l=>match j with|[x]=>(mR x λe=>∃m,SqL X.K l e m/\R (Ite X.K e) l)|_=>False) I ?_) ?_) (by rw[F];rfl) rfl))
 ·exact h
 ·refine λQ c=>yE2 λj t=>yA3 λf J d=>?_;(try dsimp only at d);split at d
  rotate_left
  ·exact d.elim
  rename_i x;rw[bS]at d;obtain⟨e,rfl,m,K,q⟩:=d
  cases J with
  | cons r L=>
   cases L;cases r;obtain⟨P,S,u,_⟩:=f.list K;refine call_enumerate_list u.isList λv w M T k=>?_;have N:Inv X g B t {c with heap:=v }:=f.kept (t':=c.toks) k;have y:e<c.heap.objs.size:=by
    obtain⟨o,O,_⟩:=u.isList;exact Heap.lt_size O
   refine wpAny_pyIter_enum (s:={c with heap:=v }) w ?_;refine⟨c.heap.objs.size+1,_,_,_,t,rfl,N,Kf (ne_of_gt (lt_succ_self _)) (ne_of_lt (Nat.lt_succ_of_lt y)) (ne_of_lt y),⟨⟨_,w⟩,M⟩,λb z=>?_,q⟩;have A:c.heap.objs.size<=b:=by
    simp only [mem_cons,QZZ,or_false]at z;rcases z with rfl|rfl
    ·exact le_add_right _ 1
    ·exact cE _
   exact f.fpOk A (f.hok.fresh A)
def R.eg{K:W.Frag}(c:Gl X "enumerate")(d:X.mg "enumerate"=none)(e:XE X a ta)(f:X.K=K:=by rfl)(g:aO a=true:=by rfl):XI X (.Tuple es n vb) (.Call (.Name "enumerate" p) [a] [] pos) (Xq K ta):=
 f▸⟨Ut c d e.h g⟩
end
def uM{K:W.Frag}{a:WP}{xs:List V}{g:TG}{j:TS}{D:sN}{b:St}{H:Hp}(Pv:Nat->St->Hp->Prop)(o:∀i b H,Pv i b H->SqL K H a xs)(q:Pv 0 b H)(hs:∀(i:Nat)(x:V) b H t,xs[i]?=some x->Pv i b H->H t=none->g (.ref t) b (aH H t (.tup [.int i,x])) λd f=>j {D with nx:=Pv (i+1),ct:=Pv (i+1),bk:=D.nx } d f)(r:∀ b H,Pv xs.length b H->D.nx b H) :
  ∃W:Nat->Nat->St->Hp->Prop,(∃m,W 0 m b H)/\∀i m b H,W i m b H →
   ((Ite K a).stop i H/\D.nx b H)∨((Ite K a).go i H/\∃N:St->Hp->Prop,(∀ e c,N e c->∃k,k<m/\W (i+1) k e c)/\∀x c,(Ite K a).yld i H x c->g x b c λd f=>j {D with nx:=N,ct:=N,bk:=D.nx } d f):=by
 refine⟨λi m b H=>m=xs.length-i/\i<=xs.length/\Pv i b H,⟨_,rfl,zero_le _,q⟩,?_⟩;rintro i m b H ⟨rfl,w,p⟩;have h:=o i b H p;by_cases l:i<xs.length
 ·refine .inr ⟨⟨xs,xs[i],h,kO l⟩,Pv (i+1),λe c n=>⟨xs.length-(i+1),Zo,rfl,l,n⟩,?_⟩;refine λv c=>yE2 λt x=>yA4 λs ζ η u=>?_;subst ζ η;exact hs i x b H t (u xs h) p s
 ·have:i=xs.length:=by omega
  subst this;exact .inl ⟨⟨xs,h,cE _⟩,r b H p⟩
section
variable {X:Cx}{pins:ZB}{σ:St}{H:Hp}{s:UV}{A:Around}{E:Y5}
def Ed{k:Kd}{sl:Array (Option WF)}(I:Inv X pins σ H s)(g:RelV x u)(hk:Kof H x k)(c:s.heap.get? t=some ⟨.type "tuple",dd,.seq m.toArray n,sl⟩)(e:W.kitAny X.K (.type (Jt k)) m=some b)(h:∀tk,Q (.bool b) {s with toks:=tk }) :
  wpAny (model X.prog X.w) A (call (.builtin "isinstance") [u,.ref t]) Q E s:=by
 cases x with
 | non=>cases k<;>first|exact hk.elim|(cases(show u=Value.none from g);exact W.kia_tup W.kitx_none I.kIn True.intro c e nofun h)
 | bl y=>cases k<;>first|exact hk.elim|(cases(show u=Value.bool y from g);exact W.kia_tup W.kitx_bool I.kIn True.intro c e nofun h)
 | int i=>cases k<;>first|exact hk.elim|(obtain⟨t,q⟩:=(show ∃t,u=Value.int i t from g);cases q;exact W.kia_tup W.kitx_int I.kIn True.intro c e nofun h)
 | str y=>cases k<;>first|exact hk.elim|(obtain⟨t,q⟩:=(show ∃t,u=Value.str y t from g);cases q;exact W.kia_tup W.kitx_str I.kIn True.intro c e nofun h)
 | ref a=>
  cases(show u=Value.ref a from g)
  cases k with
  | lst=>
   rcases hk with⟨j,d⟩|⟨v,j,d⟩
   ·obtain⟨_,_,n,_,f⟩:=(show ObjOk X.prog X.w H s.heap a (.lst j) from I.hok a _ d);exact W.kia_tup W.kitx_list I.kIn ⟨_,f,rfl⟩ c e nofun h
   ·obtain⟨_,_,_,n,_,f⟩:=(show ObjOk X.prog X.w H s.heap a (.frz v (.lst j)) from I.hok a _ d);exact W.kia_tup W.kitx_list I.kIn ⟨_,f,rfl⟩ c e nofun h
  | tup=>
   obtain⟨j,d⟩:=hk;obtain⟨_,_,_,p⟩:=(show ObjOk X.prog X.w H s.heap a (.tup j) from I.hok a _ d);obtain⟨o,f,l,_⟩:=p;exact W.kia_tup W.kitx_tuple I.kIn ⟨o,f,l⟩ c e nofun h
  | dct=>
   obtain⟨r,d⟩:=hk;obtain⟨_,_,w,_,p⟩:=(show ObjOk X.prog X.w H s.heap a (.dK r) from I.hok a _ d);revert p;refine yE3 λo z B=>yA3 λf l _=>?_;exact W.kia_tup W.kitx_dict I.kIn ⟨o,f,l.1⟩ c e nofun h
  | _=>exact hk.elim
 | _=>cases k<;>exact hk.elim
def Pl:List V->Hp->VK->Prop:=λa H Q=>match a with
 | [x,.ref t]=>H t=some (.tup [.ty "list",.ty "tuple"])/\∃k,Kof H x k/\Q (.bl (Au .lst k||Au .tup k)) H
 | _=>False
def aAV(K:W.Frag)(k:Kd):W.kitAny K (.type (Jt k)) [.type "list",.type "tuple"]=some (Au .lst k||Au .tup k):=by
  unfold W.kitAny;rw[show W.kitOne K (.type (Jt k)) (.type "list")=some (Au .lst k) from Go K .lst k];cases k<;>first
    | rfl
    | (show W.kitAny K _ [.type "tuple"]=_
       unfold W.kitAny;first
         | rw[show W.kitOne K (.type (Jt .tup)) (.type "tuple")=some true from Go K .tup .tup];rfl
         | (rw[show W.kitOne K _ (.type "tuple")=some false from Go K .tup _];rfl))
def aAW:CallR X (.builtin "isinstance") Pl:=by
 intro pins s σ H v w Q I r h;unfold Pl at h;split at h
 ·rename_i x t;obtain⟨e,k,f,q⟩:=h
  cases r with
  | cons g b=>
   cases b with
   | cons i j=>
    cases j;cases i;obtain⟨_,p,a,⟨l,m,c,n,d⟩⟩:=(show ObjOk X.prog X.w H s.heap t (.tup [.ty "list",.ty "tuple"]) from I.hok t _ e);obtain⟨y,z,u,sl⟩:=l;dsimp only at c d;subst c d;cases a with
    | cons o a=>
     cases a with
     | cons b a=>
      cases a;cases(show _=Value.type "list" from o);cases(show _=Value.type "tuple" from b);exact Ed I g f m (aAV _ k) λtk=>⟨.bl _,H,I.tok _,rfl,q⟩
 ·exact h.elim
def R.gf:XC X (.builtin "isinstance") Pl:=⟨aAW⟩
end
def Uu:Nat->TV->Prop
 | n+1,.tp a=>a.length<=1000/\∀t∈a,Uu n t
 | n+1,.ls a=>a.length<=1000/\∀t∈a,Uu n t
 | _,.sc (.bl _)=>False
 | _,_=>True
def yP(n:Nat):Sp:=λb H Q _=>∃x y t,b=[x,y]/\Rep H n t x/\Rep H n t y/\Uu n t/\∀a,Same H a->Q (.bl true) a
def RoomH(k:Nat)(A:Around):Prop:=A.depth+3*k+5<recursionLimit/\A.units+16*k+200<cLine
def Room.toH{k:Nat}(r:Room k A):RoomH k A:=⟨r.dp,r.un⟩
abbrev Cx.uncalm(X:Cx):Cx:={X with calm:=false,xe:=λ_ _=>False }
structure Pn(P:Program)(w:World)(K:W.Frag)(mg:Y4)(base:Heap)(k:Nat)(f:WP)(fd:FuncData)(ps:List Str)(sp:Sp):Prop where
 len:∀vs H Q E,sp vs H Q E->vs.length=ps.length
 run:∀(A:Around)(outer:List Env)(s:UV)(H:Hp)(args:Args)(us:List WF)(vs:List V)(Q:VK),RoomH k A->Env0 P w K mg base A outer s H->BindsTo s fd args (ps.zip us)->Vals vs us->sp vs H Q E0 →
  codeAny (model P w) A (.call (.ref f) args) (CR sZ outer P w H s Q E0) s
structure qH(P:Program)(w:World)(K:W.Frag)(mg:Y4)(base:Heap)(n:Nat)(x:Str)(ps:List Str)(sp:Sp):Prop where
 ex:∃f fd,mg x=some (.ref f)/\W.keepIn K (.ref f)=true/\Pn P w K mg base n f fd ps sp/\Binds K fd ps []
section
variable {P:Program}{w:World}{K:W.Frag}{mg:Y4}{base:Heap}
def Fun.goH{x h:Str}{st:Stmt}{N ps:List Str}{k:Nat}{sp:Sp}{f:WP}{z:FuncData}(F:Fun K x h st f z)(S:aI N ps (aE st))(len:∀vs H Q E,sp vs H Q E->vs.length=ps.length)(I:∀(d:WF)(A:Around)(outer:List Env)(s:UV)(H:Hp)(vs:List V)(Q:VK),RoomH k (A.deeper (envOfC h (aE st) s.heap.objs.size f d))->sp vs H Q E0 →
   ∃t,XB (cV sZ P w K mg base N h (aE st) f d A outer s H E0).uncalm (bB st) t/\t {nx:=λ_ g=>Q .non g,rt:=Q } (start N vs) H):Pn P w K mg base (k+1) f z ps sp:=by
 refine yE0 F.ex (yE9 λoc od kV doc pm an d ct osl=>yA3 λζ lk L=>?_);subst ζ;refine⟨len,λA outer s H args M vs Q l c O a0 B=>?_⟩;have R:=len _ _ _ _ B;have C:K.In s.heap:=c.mod.kin.keeps λb o e=>(c.bs b o e).1
 have G:s.heap.NoLimit:=c.mod.nolimit.keeps λb o e=>(c.bs b o e).1
 have T:∀y∈ps.zip M,(aE st).names.lookup y.1=some .local∨((aE st).names.lookup y.1=some .cell/\((cellsFrom (s.heap.objs.size+1) (aE st).names []).lookup y.1).isSome=true):=λ⟨a1,v⟩ U=>by
  rcases S.par a1 (of_mem_zip U).1 with q|q
  ·exact .inl q
  ·exact .inr ⟨q,W.cellsFrom_some _ _ _ (.inl q)⟩
 have X:A.depth<recursionLimit:=by have:=l.1;omega
 refine codeAny_call_function X (C _ _ lk) rfl S.co S.gen rfl (W.codeRec_of C L) (O _ _ _ _ ?_);refine wpAny_newFunctionEnv_cells S.kind T λenv Y m D=>?_;subst Y;refine⟨G.keeps D.toInCall.keep,codeAny_func ?_⟩;have Z:RoomH k (A.deeper (envOfC h (aE st) s.heap.objs.size f d)):=⟨by have:=l.1;show A.depth+1+3*k+5<_;omega,by have:=l.2;show A.units+3+16*k+200<_;omega⟩;obtain⟨t,ht,hq⟩:=I d A outer s H vs Q Z B;have e1:Env0 P w K mg base {A with handled:=none } outer s H:=⟨c.frames,c.mod,c.bs,c.bsz,c.funs,c.frf,c.hok,c.bare⟩;have a:Inv (cV sZ P w K mg base N h (aE st) f d {A with handled:=none } outer s H E0) [] (start N vs) H m:=vW S rfl e1 R a0 D;have a2:Inv (cV sZ P w K mg base N h (aE st) f d A outer s H E0).uncalm [] (start N vs) H m:=
  ⟨⟨a.ok.mod,a.ok.kind,a.ok.glob,a.ok.blt,a.ok.above,a.ok.inj,a.ok.has,a.ok.cab,nofun,a.ok.frames,a.ok.stk,a.ok.exf,a.ok.bs,a.ok.bsz,a.ok.noex,a.ok.exfs,a.ok.funs,a.ok.frf⟩,a.os,a.bare,a.base,a.loc,a.cell,a.free,a.freeC,a.pin,a.hok,a.len⟩
 refine wpAny_mono (ht.h [] m (start N vs) H _ a2 hq) (λfl n i=>?_) λe n i=>i.elim;have r:∀ {j:St}{g:Hp}{v:V}{u:WF},Inv (cV sZ P w K mg base N h (aE st) f d A outer s H E0).uncalm [] j g n->RelV v u->Q v g->CE outer P w H s Q u n:=
  λ{j g v u} J p q=>⟨v,g,J.os,J.bare,J.base,J.hok,p,q⟩
 cases fl with
 | ret u=>
  revert i;refine yE3 λv j g=>yA3 λJ p q=>?_;exact r J p q
 | next=>
  obtain⟨j,g,J,q⟩:=i;exact r (v:=V.non) (u:=Value.none) J rfl q
 | brk=>
  obtain⟨_,_,_,q⟩:=i;exact False.elim q
 | cont=>
  obtain⟨_,_,_,q⟩:=i;exact False.elim q
def DefAt.goH{x:Str}{st:Stmt}{N ps:List Str}{k:Nat}{sp:Sp}(D:DefAt K mg x st ps)(S:aI N ps (aE st))(len:∀vs H Q E,sp vs H Q E->vs.length=ps.length)(b:∀(f:WP)(a:WF)(A:Around)(outer:List Env)(s:UV)(H:Hp)(vs:List V)(Q:VK),RoomH k (A.deeper (envOfC x (aE st) s.heap.objs.size f a))->sp vs H Q E0 →
   ∃t,XB (cV sZ P w K mg base N x (aE st) f a A outer s H E0).uncalm (bB st) t/\t {nx:=λ_ c=>Q .non c,rt:=Q } (start N vs) H):qH P w K mg base (k+1) x ps sp:=by
 obtain⟨f,d,F,e,g⟩:=D.ex;exact⟨f,d,e,F.kp,F.goH S len (b f),g⟩
end
section
variable {X:Cx}{x:Str}{n:Nat}{ps:List Str}{sp:Sp}{e:Expr}{es:List Expr}{t:TA}{p pos:Pos}
def aAX(c:qH X.prog X.w X.K X.mg X.base n x ps sp)(k:RoomH n X.A)(l:Gl X x)(m:PA X (e::es) t)(hs:aO e=true)(o:es.all aO=true)(v:(x==("__debug__":Str))=false) :
  PE X (.Call (.Name x p) (e::es) [] pos) (Xg sp t):=by
 refine yE0 c.ex (yE2 λf J=>yA4 λw y F z=>?_);intro j s G H Q I h;refine wpAny_Call_Name_kw (gB I l w ?_ v);refine W.callWith_K (h₀:=X.base) I.ok.mod.kin y (bY (m pos j s G H _ I h) λb g ⟨A,B,d,r,q⟩=>⟨d.kIn,?_⟩) (bD hs) (dW o);have C:b.length=ps.length:=by rw[<- r.length];exact F.len _ _ _ _ q
 have i:=z g b d.kIn (by rw[append_nil];exact C);rw[append_nil]at i;refine wpAny_call (codeAny_mono (F.run X.A X.stack g B ⟨b,[]⟩ b A Q k d.env0 i r q) λD K a=>?_)
 cases D with
 | error L=>exact a.elim
 | ok E=>
  cases E with
  | ret u=>exact d.after a
  | next=>exact False.elim a
  | brk=>exact False.elim a
  | cont=>exact False.elim a
end
section
variable {X:Cx}{e o:Expr}{es:List Expr}{m x:Str}{p pos apos:Pos}{ta:TE}{t:TA}{C:WP}{n:Nat}{ps:List Str}{sp:Sp}{Ex:St->WF->Option WP->Hp->Prop}
def yQ:V->List V->Hp->VK->Prop:=λx a H Q=>match x,a with
 | .ref l,[.bl b]=>∃bs:List Bool,H l=some (.lst (bs.map V.bl))/\Q (.int (bs.count b:Nat)) H
 | _,_=>False
def yR:V->List V->Hp->VK->Prop:=λx a H Q=>match x,a with
 | .ref l,[.bl b]=>∃(bs:List Bool)(j:Nat),H l=some (.lst (bs.map V.bl))/\bs[j]?=some b/\(∀m,m<j->bs[m]?≠some b)/\Q (.int j) H
 | _,_=>False
theorem pA:∀ {bs:List Bool}{us:List WF},Vals (bs.map V.bl) us->us=bs.map Value.bool
 | [],[],_=>rfl
 | b::bs,u::us,.cons r a=>by
  cases r;rw[pA a];rfl
def Bi(b c:Bool):rC (.bl b) (.bool c)=(c==b):=by cases b<;>cases c<;>rfl
def Kg:Ma X "list.count" yQ:=by
 intro w s E H x A v B Q I d f h;unfold yQ at h;split at h
 ·rename_i l b;obtain⟨bs,g,q⟩:=h;cases d;obtain⟨u,rfl,rfl⟩:=f.one;obtain⟨z,n,r,a,D⟩:=I.lst g;obtain rfl:=pA r;have i:(bs.map V.bl).all cF=true:=by simp[cF]
  have j:((bs.map Value.bool).toArray.toList.countP (rC (.bl b)))=bs.count b:=by
   show((bs.map Value.bool).countP (rC (.bl b)))=bs.count b;rw[List.countP_map];unfold List.count;have:(rC (.bl b)∘Value.bool)=(· == b):=by
    funext c
    exact Bi b c
   rw[this]
  refine call_meets PySem.F.slot_list_count ⟨_,a,rfl⟩ PySem.F.entry_list_count (PySem.F.args_list_count_2 _ _)
   (SeqAt.list_countAt l (bs.map Value.bool).toArray n none #[] (.bool b) (rC (.bl b))) ⟨a,λy k=>eX (x:=.bl b) (show RelV (V.bl b) (Value.bool b) from rfl) rfl r i y (by simpa using k),?_⟩
  rw[j];exact⟨.int (bs.count b:Nat),H,I.tok _,⟨_,rfl⟩,q⟩
 ·exact h.elim
def Kh:Ma X "list.index" yR:=by
 intro J s N H x L v M Q I k w h;unfold yR at h;split at h
 ·rename_i l b;revert h;refine yE2 λbs j=>yA4 λz f A q=>?_;cases k;obtain⟨u,rfl,rfl⟩:=w.one;obtain⟨K,n,r,g,B⟩:=I.lst z;obtain rfl:=pA r;have D:(bs.map V.bl).all cF=true:=by simp[cF]
  have E:j<bs.length:=(Zgs.mp f).1;have i:∀(m:Nat)(a:m<(bs.map Value.bool).length),rC (.bl b) (bs.map Value.bool)[m]=decide (bs[m]?=some b):=λm a=>by
   have d:m<bs.length:=by simpa using a
   rw[List.getElem_map,Bi,kO d];generalize bs[m]=c;cases c<;>cases b<;>rfl
  refine call_meets PySem.F.slot_list_index ⟨_,g,rfl⟩ PySem.F.entry_list_index (PySem.F.args_list_index_2 _ _)
   (SeqAt.list_indexAt l (bs.map Value.bool).toArray n none #[] (.bool b) (rC (.bl b)) j (by simp;omega) (by rw[sizeLine_eq,aX]at B;omega) ?_ ?_) ⟨g,λy F=>eX (x:=.bl b) (show RelV (V.bl b) (Value.bool b) from rfl) rfl r D y (by simpa using F),⟨.int j,H,I.tok _,⟨_,rfl⟩,q⟩⟩
  ·have:=i j (by simpa using E);simp only [getElem_toArray];rw[this];exact X2 f
  ·intro m a G;have d:m<(bs.map Value.bool).length:=by simpa using a
   have:=i m d;simp only [getElem_toArray];rw[this];exact XV (A m G)
 ·exact h.elim
namespace R
def ji(c:qH X.prog X.w X.K X.mg X.base n x ps sp)(a:RoomH n X.A)(b:Gl X x)(d:XA X (e::es) t)(hs:aO e=true:=by rfl)(f:es.all aO=true:=by rfl)(g:(x==("__debug__":Str))=false:=by decide) :
  XE X (.Call (.Name x p) (e::es) [] pos) (Xg sp t):=⟨aAX c a b d.h hs f g⟩
def jt:XM X "list.count" yQ:=⟨Kg⟩
def ju:XM X "list.index" yR:=⟨Kh⟩
end R
end
section
variable {P:Program}{w:World}{K:W.Frag}{mg:Y4}{base:Heap}{N:List Str}{qual:Str}{scope:Scope}{f:WP}{cd:WF}{A:Around}{outer:List Env}{s:UV}{H:Hp}{E:XK}
def Ee(m:(envOfC qual scope s.heap.objs.size f cd).frame=some (envOfC qual scope s.heap.objs.size f cd).locals:=by rfl) :
  wJ (cV (rJ P w) P w K mg base N qual scope f cd A outer s H E) (λ_ cls od g=>E cls od g):=by
 intro D L n l e o d h;revert h;refine yE4 λa cls od g=>yA3 λζ F p=>?_;subst ζ;show wpAny (model P w) (A.deeper (envOfC qual scope s.heap.objs.size f cd)) (leaving (envOfC qual scope s.heap.objs.size f cd) (.ref a)) (λ_ i=>rJ P w outer H s E (.ref a) i) (λq i=>rJ P w outer H s E q i) o;unfold leaving;refine Y3 (pZ d F d.ok.frames rfl m λG r=>?_);refine iX d r λI b=>?_;have j:=b.inv d;have t:Un (lM outer) [] H n s.heap l.heap:=d.base;have k:∀ {c:WP},l.heap.get? c=none->s.heap.get? c=none:=λ{c} u=>by
  cases z:s.heap.get? c with
  | none=>rfl
  | some v=>
   obtain⟨J,y⟩:=t.there c v z Zs;rw[u]at y;cases y
 obtain⟨T,x,B,C⟩:=b.tr;exact⟨a,cls,od,g,rfl,⟨k b.na,j.os,j.bare,j.base,b.hok,b.ha,⟨T,x,k B,C⟩,b.dd⟩,p⟩
def Ki:PassesOwn (model P w) (cV (rJ P w) P w K mg base N qual scope f cd A outer s H E).A (cV (rJ P w) P w K mg base N qual scope f cd A outer s H E).env (cV (rJ P w) P w K mg base N qual scope f cd A outer s H E).xe:=by
 unfold cV;dsimp only;passes_own
end
def yS{K:W.Frag}{H b:Hp}{a:WP}{xs:List V}(h:SqL K H a xs)(k:∀o,H a=some o->b a=some o):SqL K b a xs:=by
 rcases h with h|h
 ·rcases h with h|⟨c,h⟩
  ·exact .inl (.inl (k _ h))
  ·exact .inl (.inr ⟨c,k _ h⟩)
 ·exact .inr h
section
variable {prog:Program}{w:World}{A:Around}{E:Y5}{h:Heap}{g:Array GenState}{d:Drawn}{t:Nat}{os:OsState}
variable {nm q:Str}{C N:WP}{bs bm BC:List WF}{hdct:Bool}{sn:List Str}{sub:List WF}{ab:Bool}{col:Option Bool}{dd:Option WP}{k0 k1 k2 k3 k5:Option WF}{B newId Z7:String}
abbrev fU(C t:WP):Obj:={cls:=.ref C,data:=.fields #[.ref t,.none,.none,.none,.bool false,.none] }
abbrev lO(h:Heap)(C:WP)(rest:List WF):Heap:=(h.push {cls:=.type "tuple",data:=.seq rest.toArray }).push (fU C h.objs.size)
def jA(e:h.get? b=some o):(lO h C rest).get? b=some o:=hV _ (hV _ e)
def Bj:(lO h C rest).get? (h.objs.size+1)=some (fU C h.objs.size):=by
 have:=W1 (h.push {cls:=.type "tuple",data:=.seq rest.toArray }) (o:=fU C h.objs.size) rfl
 rwa [Heap.size_push]at this
def Bk(F:ExcBaseFacts B newId Z7 BC)(T:OwnTail h BC bm)(a:h.get? C=some (excClassObj nm q C N bs bm hdct sn sub ab col dd k0 k1 k2 k3 k5 newId))(i:h.Ns N mN)(j:mN "__init__"=some (.ref fI))(k:h.get? fI=some oI)(l:oI.cls=.type "function")(go:wpAny (model prog w) A (call (.ref fI) (.ref (h.objs.size+1)::rest)) (λr c=>r=.none/\Q (.done (.ret (.ref (h.objs.size+1)))) c) E ⟨lO h C rest,g,d,t,os⟩)(m:rest.length<=sizeLine) :
  wpAny (model prog w) A (Builtin.«type.__call__» ⟨.ref C::rest,[]⟩) Q E ⟨h,g,d,t,os⟩:=by
 repeat (first|with_reducible refine wpAny_loadPart_at a ?_|with_reducible refine wpAny_madeBy_exc a ?_|wp_step)
 refine codeAny_call_builtin_code (Code.quiet_builtin _ F.quiet) (wpAny_check_new_subT F T a (codeAny_exc_new_subT F T a ?_ m));show wpAny _ _ _ _ _ _;have f:(lO h C rest).get? C=_:=jA a;have n:(lO h C rest).get? fI=_:=jA k;have p:(lO h C rest).Ns N mN:=let ⟨o,s,u,e,r⟩:=i;⟨o,s,u,jA e,r⟩;have v:(lO h C rest).get? (h.objs.size+1)=some (fU C h.objs.size):=Bj;have y:(Value.ref C::bm).contains (.ref C)=true:=by simp
 have tx:=T.keeps (h':=lO h C rest) λb o e=>jA e;unfold isInstance
 repeat (first|with_reducible refine wpAny_loadPart_at v ?_|(with_reducible refine wpAny_isSubtype_exc f ?_;rw[y])|wp_step)
 show wpAny _ _ (typeLookup (.ref C) _) _ _ _;refine wpAny_typeLookup_tail f p tx F.mroIs F.init.lookup ?_;rw[j];refine wpAny_holding (Y3 ?_);unfold bindSpecial;refine Y3 (wpAny_typeOf (T:="function") ⟨_,n,l⟩ ?_);rw[UF Zd];refine Y2 (Y3 (wpAny_mono go (λr c z=>?_) λ_ _ x=>x));obtain⟨rfl,D⟩:=z
 wp_walk;exact D
def Ef(F:ExcBaseFacts B newId Z7 BC)(T:OwnTail h BC bm)(a:h.get? C=some (excClassObj nm q C N bs bm hdct sn sub ab col dd k0 k1 k2 k3 k5 newId))(b:h.Ns N mN)(c:mN "__init__"=some (.ref fI))(e:h.get? fI=some oI)(f:oI.cls=.type "function")(go:wpAny (model prog w) (A.under (.builtin "type.__call__" ⟨.ref C::rest,[]⟩)) (call (.ref fI) (.ref (h.objs.size+1)::rest)) (λr i=>r=.none/\Q (.ref (h.objs.size+1)) i) E ⟨lO h C rest,g,d,t,os⟩)(j:rest.length<=sizeLine) :
  wpAny (model prog w) A (call (.ref C) rest) Q E ⟨h,g,d,t,os⟩:=by
 have f1:=tc_lookup;have f2:=tc_bind (.ref C);have k:(⟨h,g,d,t,os⟩:UV).TypeIs (.ref C) "type":=⟨_,a,rfl⟩;refine wpAny_call (codeAny_of_tree ?_);show wpAny _ _ (callAny (.ref C) _) _ _ _
 repeat (any_goals (first|assumption|with_reducible refine wpAny_loadPart_at a ?_|wp_step))
 refine⟨rfl,codeAny_call_builtin_at (Code.quiet_builtin _ Zk) entry_typeCall (wpAny_check_type_call_sub a (Bk F T a b c e f ?_ j))⟩;exact go
end
def Eg:List Value → Bool
 | []=>false
 | v::r=>match v with|.ref _=>Eg r|_=>(v::r) == [.type "ValueError",.type "Exception",.type "BaseException",.type "object"]
theorem oJ(v:WF):∀ {l:List WF},Eg l=true → refuseLoop v "__setattr__" l=pure () ∧ l.contains (.type "object")=true
 | [],h=>nomatch h
 | u::r,h=>by
  cases u with
  | ref a=>
   have:=oJ v (l:=r) h;exact⟨by rw[refuseLoop_ref];exact this.1,by rw[List.contains_cons,this.2,Bool.or_true]⟩
  | _=>rw[show _::r=_ from eq_of_beq h];exact⟨PySem.F.store_ValueError.passes v,Zd⟩
def yT(K:W.Frag)(C:WP):Bool:=(W.clsIn K C).any λa=>Eg a.mro&&a.hasDict
section
variable {prog:Program}{w:World}{A:Around}{E:Y5}{s:UV}{K:W.Frag}{C x t:WP}{name:Str}{v:WF}
def aDJ(X:K.In s.heap)(d:s.heap.get? x=some (fU C t))(hs:W.findIn K (.ref C) "__setattr__"=some (some (.builtin "object.__setattr__")))(u:yT K C=true)(z:W.takerIn K C name=some none)(h:∀h' B,h'.get? x=some {fU C t with dict:=some s.heap.objs.size }->(∀b o,b≠x->s.heap.get? b=some o->h'.get? b=some o)->h'.Ns1 s.heap.objs.size (λy=>if y=name then some v else none)->Q () {s with heap:=h',toks:=B }) :
  wpAny (model prog w) A (setAttr (.ref x) name v) Q E s:=by
 have J:W.InstAt s.heap x (fU C t) C none:=⟨d,rfl,rfl,True.intro⟩;obtain⟨f,g,i⟩:=W.any_some u;obtain⟨i,D⟩:=Bool.and_eq_true _ _▸i;refine W.set_plain X J hs ?_;have c:=PySem.F.store_object;obtain⟨F,j⟩:=oJ (.ref x) i;have ne:f.mro.isEmpty=false:=by cases q:f.mro with|nil=>(rw[q]at j;cases j)|cons _ _=>rfl
 have sub:W.Looks (model prog w) s.heap (isInstance (.ref x) (.type "object")) true:=J.type.andThen (W.looks_mroIn X (by unfold W.mroIn;rw[g,Option.bind_some,T8 (by rw[ne];decide),j]));have G:W.Looks (model prog w) s.heap (mroOf (.ref C)) f.mro:=(W.looks_clsIn X g).andThen .now;obtain⟨l,H,m⟩:=Option.bind_eq_some_iff.mp z;have I:W.Looks (model prog w) s.heap (Builtin.ObjectAttr.storeTaker? l) none:=by
  cases l with
  | none=>cases m;exact .now
  | some a=>
   obtain⟨b,k,e⟩:=Option.map_eq_some_iff.mp m;refine(W.looks_takesIn X k).andThen ?_
   cases b with
   | true=>cases e
   | false=>exact .now
 refine codeAny_call_builtin c.slot.plain c.entry (@W.check_slot (model prog w) _ _ {s with toks:=s.toks+1 } "object.__setattr__" "object" "__setattr__" (.ref x) [.str name s.toks,v] [] _ c.kind c.split sub (c.args (.ref x) (.str name s.toks) v) ?_);rw[W.osa_eq,refuse_eq];refine Y3 (Y3 (W.Looks.here (s:={s with toks:=s.toks+1 }) J.type (Y3 (W.Looks.here (s:={s with toks:=s.toks+1 }) G ?_))));rw[F];refine Y2 (Y3 (W.Looks.here (s:={s with toks:=s.toks+1 }) J.type (Y3 (W.Looks.here (s:={s with toks:=s.toks+1 }) (W.looks_findIn X H) (Y3 (W.Looks.here (s:={s with toks:=s.toks+1 }) I ?_))))));refine Y3 (Y2 (Y3 (Y3 (wpAny_loadPart (s:={s with toks:=s.toks+1 }) d (Y3 (W.Looks.here (s:={s with toks:=s.toks+1 }) (W.looks_clsIn X g) ?_))))));rw[D];have n:x≠s.heap.objs.size:=ne_of_lt (Heap.lt_size d);have g1:(s.heap.push {cls:=.type "dict",data:=.dict #[] }).get? x=some (fU C t):=hV _ d;refine Y3 (wpAny_alloc' ?_);refine Y3 (wpAny_update' g1 ?_);have L:((s.heap.push {cls:=.type "dict",data:=.dict #[] }).update x λo=>{o with dict:=some s.heap.objs.size }).get? s.heap.objs.size=some {cls:=.type "dict",data:=.dict #[] }:=(Heap.get?_update_ne _ _ _ _ n.symm).trans (Heap.get?_push_at rfl rfl);have M:((s.heap.push {cls:=.type "dict",data:=.dict #[] }).update x λo=>{o with dict:=some s.heap.objs.size }).Ns s.heap.objs.size (λ_=>none):=⟨_,#[],_,L,rfl,λe N=>T7 N Zs,λ_=>rfl⟩;refine Y2 ?_;show wpAny _ _ (Builtin.ObjectAttr.storeInDict s.heap.objs.size (.str name s.toks) name v) _ _ _;unfold Builtin.ObjectAttr.storeInDict Builtin.ObjectAttr.newKeyGuard;refine Y3 (Y2 (Y3 (wpAny_nsSet1 (Heap.Ns1.of_empty M) λh' p r=>?_)));refine yE0 (p.count (Within.cons name v Within.nil)) (yE3 λS T U=>yA3 λO P R=>?_);refine Y3 (wpAny_lookBehind O (by rw[P];exact pastItsLine_dict (iB R (by rw[eJ,length_nil,sizeLine_eq];omega))) (Y2 ?_));refine h h' _ ((r.2 x n).trans (Heap.get?_update_self _ g1 rfl)) (λb o k e=>?_) p;exact(r.2 b (ne_of_lt (Heap.lt_size e))).trans ((Heap.get?_update_ne _ _ _ _ k).trans (hV _ e))
end
def XN(e C t:WP):Heap->Prop:=λh=>h.get? e=some (fU C t)
def XE'(e C t a:WP):Heap->Prop:=λh=>h.get? e=some {fU C t with dict:=some a }
structure aCG(K:W.Frag)(C:WP)(f:Str):Prop where
 sa:W.findIn K (.ref C) "__setattr__"=some (some (.builtin "object.__setattr__"))
 ov:yT K C=true
 tk:W.takerIn K C f=some none
section
variable {X:Cx}{pins:ZB}{σ:St}{H:Hp}{s:UV}{a e C t:WP}{φ:Heap->Prop}
def aCH(g:h.get? e=some (fU C t)):ObjOk P w H h e (.ext (XN e C t)):=⟨g,⟨_,g⟩,λ_ _ q k=>k _ q⟩
def aCI(g:h.get? e=some {fU C t with dict:=some b }):ObjOk P w H h e (.ext (XE' e C t b)):=⟨g,⟨_,g⟩,λ_ _ q k=>k _ q⟩
def Inv.drop(I:Inv X pins σ (aH H a (.ext φ)) s)(j:H a=none):Inv X pins σ H s:=by
 have d:∀b u,(aH H a (.ext φ)) b=some u->(∀ y,u≠.ext y)->H b=some u:=λb u q n=>by
  by_cases z:b=a
  ·rw[z,aD]at q;cases q;exact T7 rfl (n φ)
  ·rw[aJ z]at q;exact q
 have f:∀b,(aH H a (.ext φ)) b=none->H b=none:=λb q=>by
  by_cases z:b=a
  ·rw[z,aD]at q;cases q
  ·rw[aJ z]at q;exact q
 refine⟨I.ok,I.os,I.bare,⟨I.base.keep,I.base.slot,λb g q n k=>f _ (I.base.free b g q n k),I.base.there,λb i q=>d _ _ (I.base.tups b i q) (λ_ z=>nomatch z),λb g u q=>d _ _ (I.base.frzs b g u q) (λ_ z=>nomatch z),λb ps q=>?_⟩,I.loc,I.cell,f _ I.free,λx c h=>f _ (I.freeC x c h),λp l=>?_,λb u q=>?_,I.len⟩
 ·obtain⟨more,z⟩:=I.base.tbls b ps q;exact⟨more,d _ _ z (λ_ z=>nomatch z)⟩
 ·obtain⟨m,o,r⟩:=I.pin p l;exact⟨m,f _ o,r⟩
 ·have w:b≠a:=aF q j;exact(I.hok b u (by rw[aJ w];exact q)).stay (λc v _ h=>h) (λc h=>d _ _ h (λ_ z=>nomatch z)) λc i h=>d _ _ h (λ_ z=>nomatch z)
variable {o value:Expr}{f:Str}{pos pos':Pos}{ta tv:TE}{K:W.Frag}
def Po(K:W.Frag)(ta tv:TE)(f:Str):TS:=λD σ H=>tv σ H λy d=>ta σ d λx c=>mR x λe=>∃C t,c e=some (.ext (XN e C t))/\aCG K C f/\∀b,c b=none->b≠e->D.nx σ (aH (aH c b (.xd [(f,y)])) e (.ext (XE' e C t b)))
def Pp(B:PE X o ta)(E:PE X value tv)(hs:swapsWith value (some (.Attribute o f pos')) pos.line X.env=pure false):PS X (.Assign [.Attribute o f pos'] value pos) (Po X.K ta tv f):=by
 intro pins s σ H D I h;refine plainObj_wpAny_Assign_Attribute (bY (E pins s σ H _ I h) λu F ⟨y,G,J,L,q⟩=>bY (B pins F σ G _ J q) ?_) hs;refine λM d=>yE2 λx n=>yA3 λj N l=>?_;(try dsimp only at l);rw[bS]at l;obtain⟨a,rfl,C,t,m,c,O⟩:=l;obtain rfl:M=Value.ref a:=N;have P:d.heap.get? a=some (fU C t):=(show ObjOk X.prog X.w n d.heap a (.ext (XN a C t)) from j.hok a _ m).1;refine aDJ j.kIn P c.sa c.ov c.tk λh' p g1 k Q=>?_;have r:n d.heap.objs.size=none:=j.hok.fresh (cE _);have v:d.heap.objs.size≠a:=(aF m r).symm;obtain⟨i,R,S,w,T⟩:=id Q;have A:(d.heap.push i).get? d.heap.objs.size=some i:=W1 _ (Heap.get?_some_iff.mp w).2;have U:=j.laid (a:=d.heap.objs.size) (o:=.xd [(f,y)]) (t':=p) (h':=d.heap.push i) (λb u q=>hV _ q) (cE _) ⟨_,⟨i,R,S,A,T⟩,λg=>?_⟩
 ·have V:=U.write (x:=a) (e:=a) (o:=.ext (XE' a C t d.heap.objs.size)) (t':=p) (h':=h') (by rw[aJ v.symm,m];exact True.intro) (.inl rfl) (λb u W q=>?_) ⟨_,g1⟩ (aCI g1)
  ·exact⟨σ,_,V,O _ r v⟩
  ·by_cases z:b=d.heap.objs.size
   ·rw[z,show(d.heap.push i).get? d.heap.objs.size=some i from A]at q;cases q;rw[z];exact w
   ·refine k b u W ?_;have lt:b<(d.heap.push i).objs.size:=Heap.lt_size q;rw[Heap.size_push]at lt;rw[Heap.get?_push_ne]at q
    ·exact q
    ·omega
 ·show RelO (List.lookup g [(f,y)]) (if g=f then some u else none);by_cases z:g=f
  ·rw[z,UF rfl,lookup_cons,beq_self_eq_true];exact L
  ·rw[T8 z,lookup_cons,beq_eq_false_iff_ne.mpr z];exact trivial
def R.gh(b:XE X o ta)(c:XE X value tv)(d:X.K=K:=by rfl)(hs:swapsWith value (some (.Attribute o f pos')) pos.line X.env=pure false:=by rfl):XS X (.Assign [.Attribute o f pos'] value pos) (Po K ta tv f):=d▸⟨Pp b.h c.h hs⟩
end
def Eh(K:W.Frag)(C fI:WP)(b:List WF)(newId:String):Bool:=match K.lookup C with
 | some ⟨.type "type",_,.cls a,sl⟩=>(match a.mro,sl.toList with
  | .ref c::bm,[_,_,_,_,some (.builtin n),_]=>c==C&&n==newId&&!a.hasDel&&W.tailIn K b bm&&W.nsOkIn K a.ns&&(match W.nsIn K a.ns "__init__" with|some (some (.ref f))=>f==fI|_=>false)
  | _,_=>false)
 | _=>false
structure XClsI(K:W.Frag)(mg:Y4)(x:Str)(C fI:WP):Prop where
 at_:mg x=some (.ref C)
 ok:Eh K C fI Hb "ValueError.__new__"=true
def Ei{K:W.Frag}{h:Heap}{N:WP}{mg:Y4}{n:Str}{v:WF}(X:K.In h)(G:h.Ns N mg)(e:W.nsIn K N n=some (some v)):mg n=some v:=by
 revert G;refine yE3 λo i j=>yA4 λa b _ f=>?_;unfold W.nsIn at e;split at e
 ·rename_i c d k l sl q;have z:=X _ _ q;rw[a]at z;cases z;cases b;split at e
  ·rename_i m g;cases e;rw[<- f];unfold nsFind findBy;rw[<- Array.find?_toList,g];rfl
  ·split at e<;>cases e
 ·cases e
def XClsI.obj{K:W.Frag}{mg:Y4}{x:Str}{C fI:WP}{h:Heap}(c:XClsI K mg x C fI)(X:K.In h) :
  ∃bm N nm q bs hdct sn sub ab col dd k0 k1 k2 k3 k5 mN,h.get? C=some (excClassObj nm q C N bs bm hdct sn sub ab col dd k0 k1 k2 k3 k5 "ValueError.__new__")/\h.Ns N mN/\mN "__init__"=some (.ref fI)/\OwnTail h Hb bm:=by
 have q:=c.ok;unfold Eh at q;split at q
 ·rename_i dd i sl j;split at q
  ·rename_i y bm k0 k1 k2 k3 n k5 d e;simp only [Bool.and_eq_true,beq_iff_eq,Bool.not_eq_true']at q;obtain⟨⟨⟨⟨⟨k,m⟩,g⟩,o⟩,b⟩,a⟩:=q;subst k m;obtain⟨nm,bs,v,p,r,s,sn,sub,ab,col,w⟩:=i;dsimp only at d g b a;subst d g;have t:sl=#[k0,k1,k2,k3,some (.builtin "ValueError.__new__"),k5]:=by
    obtain⟨l⟩:=sl;simp only at e;rw[e]
   subst t;refine⟨bm,p,nm,r,bs,s,sn,sub,ab,col,dd,k0,k1,k2,k3,k5,_,X _ _ j,.of_isNs (W.isNs_of_in X b),?_,W.tail_of_in X o⟩;split at a
   ·rename_i f u;rw[<- eq_of_beq a];exact Ei X (.of_isNs (W.isNs_of_in X b)) u
   ·cases a
  ·cases q
 ·cases q
def aAZ(C:WP)(f:Str):Sp:=λb H Q _=>∃(e t:WP)(v:V),b=[.ref e,v]/\H e=some (.ext (XN e C t))/\∀a,H a=none->a≠e->Q .non (aH (aH H a (.xd [(f,v)])) e (.ext (XE' e C t a)))
section
variable {prog:Program}{w:World}{A:Around}{E:Y5}{s:UV}{K:W.Frag}{x D:WP}
def Pq{v:WF}(X:K.In s.heap)(J:W.InstAt s.heap x i D (some od))(k:qA K D)(l:W.hasDictIn K D=true)(m:W.findIn K (.ref D) f=some none)(n:W.lookIn f od=some (some v))(o:W.handedIn v=true)(h:Q v {s with toks:=s.toks+1 }):wpAny (model prog w) A (getAttr (.ref x) f b) Q E s:=by
 obtain⟨j,g,d,t,os⟩:=s;have c:OfCls x D j:=⟨i,J.at_,J.cls⟩;have e:=c.type (M:=model prog w);have p:=W.looks_findIn (M:=model prog w) X k.ga;have L2:=W.looks_findIn (M:=model prog w) X k.gx;have q:=W.looks_find (M:=model prog w) X J (W.findObj_own l m rfl n);have r:W.Looks (model prog w) j (isInstance (.ref x) (.type "BaseException")) true:=e.andThen (W.looks_mroIn X k.mb);unfold getAttr getAttrBy;refine Y3 (wpAny_mkText (wpAny_holding (Y3 (e.at (Y3 (p.at ?_))))));dsimp only;have u:(Value.builtin "BaseException.__getattribute__"==Value.builtin "object.__getattribute__")=false:=by decide +kernel
 have y:(onTheHeap (Value.ref D)&&Value.builtin "BaseException.__getattribute__"==Value.builtin "object.__getattribute__")=false:=by rw[u];rfl
 rw[T8 (by rw[y];exact Y1)];unfold getAttrByItsOwn hookBefore;rw[UF (show onTheHeap (Value.ref D)=true from rfl)];refine Y3 (L2.at ?_);refine Y3 (wpAny_attempt (wpAny_holding ?_));unfold callGetattribute;rw[T8 (by cases b<;>decide)];unfold boundAndCalled;refine Y3 (wpAny_of_eq (F.excAttr_ValueError.ga.bind _) ?_);show wpAny _ _ (call (.builtin "BaseException.__getattribute__") [.ref x,.str f t]) _ _ _;refine wpAny_call (codeAny_call_builtin F.excAttr_ValueError.ga.plain F.entry_bexc_ga (wK r ?_));unfold Builtin.«object.__getattribute__»;refine Y3 (wpAny_of_eq (a:=(Value.ref x,[Value.str f t])) rfl ?_);dsimp only;refine Y3 (Y2 (Y3 (e.at (Y3 (q.at ?_)))));dsimp only;refine Y2 ?_;show wpAny _ _ (handedOut v) _ _ _;rw[W.handedOut_of o];exact Y2 h
end
def mXF(K:W.Frag)(d:TE)(f:Str):TE:=λe H Q=>d e H λx b=>∃a D c fs v,x=.ref a/\b a=some (.ext (sP a (.ref D) (some c)))/\b c=some (.xd fs)/\qA K D/\W.hasDictIn K D=true/\W.findIn K (.ref D) f=some none/\fs.lookup f=some v/\Q v b
section
variable {X:Cx}{e:Expr}{te:TE}{f:Str}{pos:Pos}{K:W.Frag}
def aA0(p:PE X e te)(t:attributeBase e f X.env (eval e X.env)=eval e X.env):PE X (.Attribute e f pos) (mXF X.K te f):=by
 intro n s P H Q I h;refine Gb t (bY (p n s P H _ I h) ?_);refine λu g=>yE2 λx d=>yA3 λb w y=>?_;revert y;refine yE5 λa D c fs v=>yA8 λζ z A k B C E q=>?_;subst ζ;cases w;obtain⟨⟨o,U,F,i,j,G⟩,_⟩:=(show ObjOk X.prog X.w d g.heap a (.ext (sP a (.ref D) (some c))) from b.hok a _ z);obtain⟨J,L,r⟩:=(show ObjOk X.prog X.w d g.heap c (.xd fs) from b.hok c _ A);obtain⟨V,M,N⟩:=vQ L;obtain⟨u,O,l⟩:=RelO.some_of (v:=v) (o:=J f) (by rw[<- E];exact r f);obtain⟨W,R,S,T⟩:=o;have m:=G c rfl;dsimp only at i j m;subst i j m;exact Pq b.kIn ⟨F,rfl,rfl,M⟩ k B C (by rw[N,O]) (vR l) ⟨v,d,b.tok _,l,q⟩
end
namespace R
def jx{X:Cx}{e:Expr}{a:TE}{f:Str}{pos:Pos}{K:W.Frag}(b:XE X e a)(c:X.K=K:=by rfl)(d:attributeBase e f X.env (eval e X.env)=eval e X.env:=by rfl):XE X (.Attribute e f pos) (mXF K a f):=c▸⟨aA0 b.h d⟩
end R
structure InitAt(K:W.Frag)(fI:WP)(qual:Str)(st:Stmt)(ps:List Str):Prop where
 ex:∃fd,Fun K "__init__" qual st fI fd/\Binds K fd ps []
 fn:W.isFn K (.ref fI)=true
def WLT(K:W.Frag)(a:WP)(R:It->Hp->Prop)(H:Hp):Prop:=((∃b,SqL K H a b)/\R (Itl K a) H)∨((∃b,SqT K H a b)/\R (Itt K a) H)
def iLT(K:W.Frag)(b:TE):TI:=λd H R=>b d H λx c=>∃a,x=.ref a/\WLT K a R c
def aA1{K:W.Frag}{H:Hp}{t:WP}{xs:List V}{R:It->Hp->Prop}(a:H t=some (.lst xs)∨H t=some (.tup xs))(c:∀(J:It)(W:Hp->Prop),Av J xs W->(∀b,b t=H t->W b)->R J H):WLT K t R H:=by
 rcases a with a|a
 ·exact .inl ⟨⟨_,QYX a⟩,c _ _ (dX K t xs) λb e=>QYX (e.trans a)⟩
 ·exact .inr ⟨⟨_,QYY a⟩,c _ _ (iI K t xs) λb e=>QYY (e.trans a)⟩
def aCJ{tg l:Expr}(r:PE X l j):PI X tg l (iLT X.K j):=by
 intro n s z H R I h;refine bY (r n s z H _ I h) ?_;rintro v c ⟨x,k,d,m,t⟩
 obtain⟨a,e,⟨⟨u,f⟩,q⟩|⟨⟨u,f⟩,q⟩⟩:=t
 ·subst e;cases m;obtain⟨i,w,p,y⟩:=d.list f;refine wpAny_pyIter_list p.isList ?_;refine⟨c.heap.objs.size,[c.heap.objs.size],_,_,k,rfl,d.kept (t':=c.toks) λb o e=>hV _ e,vO a _,⟨_,W1 _ rfl,rfl,rfl⟩,λb g=>?_,q⟩;obtain rfl:b=c.heap.objs.size:=by simpa using g
  exact d.fpOk (cE _) (d.hok.fresh (cE _))
 ·subst e;cases m;obtain⟨i,w,p,y⟩:=d.tuple f;refine wpAny_pyIter_tuple (show c.heap.IsTuple a i.toArray from p) ?_;refine⟨c.heap.objs.size,[c.heap.objs.size],_,_,k,rfl,d.kept (t':=c.toks) λb o e=>hV _ e,tS a _,⟨_,W1 _ rfl,rfl,rfl⟩,λb g=>?_,q⟩;obtain rfl:b=c.heap.objs.size:=by simpa using g
  exact d.fpOk (cE _) (d.hok.fresh (cE _))
def R.gi{X:Cx}{tg e:Expr}{a:TE}{K:W.Frag}(b:XE X e a)(c:X.K=K:=by rfl):XI X tg e (iLT K a):=c▸⟨aCJ b.h⟩
def rL:fillsNumberSlot (.type "tuple") "mul"=pure false:=
 PySem.fillsNumberSlot_seq (id:="tuple.__mul__") (r:=some (.builtin "tuple.__rmul__")) PySem.F.slot_tuple_mul.lookup Zk PySem.F.slot_tuple_rmul.lookup Zk
def Ej:seqRepeat? (.type "tuple")=pure (some (.builtin "tuple.__mul__")):=by
 unfold seqRepeat?;rw[PySem.seqSlot_of (T:="tuple") (name:="__mul__") (id:="tuple.__mul__") PySem.F.slot_tuple_mul.lookup Zk,PySem.seqSlot_of (T:="tuple") (name:="__rmul__") (id:="tuple.__rmul__") PySem.F.slot_tuple_rmul.lookup Zk];rfl
def Pr(a:Int)(t:Tok)(l:WP)(b:Array Value)(n:Nat)(dd:Option WP)(sl:Array (Option WF)) :
  Meets (Builtin.«int.__rmul__» ⟨[.int a t,.ref l],[]⟩) (λ_ R s=>s.heap.get? l=some {cls:=.type "tuple",dict:=dd,data:=.seq b n,slots:=sl }/\R (.ok (.ret Value.notImplemented)) s):=
 .of_wp λc w A R s h=>by obtain⟨e,g,d,tk,os⟩:=s;obtain⟨f,h⟩:=h;wp_walk;exact⟨_,rfl,h⟩
def Ps(t:Tok)(l:WP)(a:Array Value)(n:Nat)(dd:Option WP)(sl:Array (Option WF)) :
  Meets (Builtin.«tuple.__mul__» ⟨[.ref l,.int 1 t],[]⟩) (λ_ R s=>s.heap.get? l=some {cls:=.type "tuple",dict:=dd,data:=.seq a n,slots:=sl }/\R (.ok (.ret (Value.ref l))) s):=
 .of_wp λc w A R s h=>by
  obtain⟨e,g,d,tk,os⟩:=s;obtain⟨b,h⟩:=h;have f1:=AutoSeq1.idx_int;have f2:=AutoSeq1.sub_tuple_tuple;have f:(a.isEmpty||(1:Int)==1)=true:=by simp
  wp_walk using wpAny_loadPart' b
  exact⟨_,rfl,h⟩
def Pu(t:Tok)(l:WP)(a:Array Value)(n:Nat)(dd:Option WP)(sl:Array (Option WF))(b:a.isEmpty=false) :
  Meets (Builtin.«tuple.__mul__» ⟨[.ref l,.int 0 t],[]⟩) (λ_ R s=>s.heap.get? l=some {cls:=.type "tuple",dict:=dd,data:=.seq a n,slots:=sl }/\R (.ok (.ret (Value.ref s.heap.objs.size))) {s with heap:=s.heap.push {cls:=Value.type "tuple",data:=Data.seq #[] },toks:=s.toks }):=
 .of_wp λe w A R s h=>by
  obtain⟨f,g,d,tk,os⟩:=s;obtain⟨c,h⟩:=h;have f1:=AutoSeq1.idx_int;have f2:=AutoSeq1.sub_tuple_tuple;have i:¬ (a.isEmpty||(0:Int)==1)=true:=by simp[b]
  wp_walk using wpAny_loadPart' c
  exact⟨_,rfl,h⟩
section
variable {X:Cx}
def Pw:R2:=λx y H Q=>mR x λa=>mI y λk=>∃b,H a=some (.tup b)/\b≠[]/\(k=0∨k=1)/\∀p c,Same H c->c p=some (.tup (if k=1 then b else []))->Q (.ref p) c
def Uv:OpR X (binaryOp .Mult) Pw:=by
 intro D s J H x y v u Q I j l h;unfold Pw at h;rw[bS]at h;obtain⟨a,rfl,h⟩:=h;rw[lZ]at h;obtain⟨k,rfl,m,f,p,w,q⟩:=h;cases j;obtain⟨t,rfl⟩:=l;obtain⟨d,z,A,_⟩:=I.tuple (QYY f);obtain⟨⟨F,e,E,sl⟩,c,g,n,i⟩:=id A;simp only at g i;subst g i;have B:d.toArray.isEmpty=false:=by
  cases d with
  | nil=>have:=z.length;cases m with|nil=>exact T7 rfl p|cons _ _=>simp at this
  | cons b r=>simp
 refine wpAny_binaryOp_repeat_ref (T:="tuple") (U:="int") Zd ⟨_,c,rfl⟩ (λC=>typeIs_int C k t) rL PySem.F.fills_int_mul PySem.F.slot_int_rmul Ej PySem.F.slot_int_index.lookup
  (call_meets PySem.F.slot_int_rmul (typeIs_int s k t) PySem.F.entry_int_rmul (PySem.F.args_int_rmul_2 _ _) (Pr k t a d.toArray n e sl)
   ⟨c,rfl,⟨_,c,rfl⟩,?_⟩)
 rcases w with rfl|rfl
 ·refine call_meets PySem.F.slot_tuple_mul ⟨_,c,rfl⟩ PySem.F.entry_tuple_mul (PySem.F.args_tuple_mul_2 _ _) (Pu t a d.toArray n e sl B) ⟨c,?_⟩;exact⟨.ref _,_,I.laid (t':=s.toks) (o:=.tup []) (λb G q=>hV _ q) (cE _) ⟨zero_le _,[],.nil,IsTup.new _ _⟩,rfl,q _ _ (aA I.fresh) aD⟩
 ·refine call_meets PySem.F.slot_tuple_mul ⟨_,c,rfl⟩ PySem.F.entry_tuple_mul (PySem.F.args_tuple_mul_2 _ _) (Ps t a d.toArray n e sl) ⟨c,?_⟩;exact⟨.ref a,H,I,rfl,q a H (Same.refl H) f⟩
def R.gj:jG X (binaryOp .Mult) Pw:=⟨Uv⟩
def qI(xs:List a)(k:Nat)(x:a):List a:=xs.take k++[x]++xs.drop k
def He:V->List V->Hp->VK->Prop:=λx b H Q=>∃(l:WP)(a:List V)(k:Nat)(y:V),x=.ref l/\b=[.int (k:Int),y]/\H l=some (.lst a)/\k<=a.length/\a.length<1000/\Q .non (aH H l (.lst (qI a k y)))
def Px{k:Nat}(h:k<1000):¬ (!Builtin.List.listFitsIndex (k:Int))=true:=by
 have a:-(2^63)<=(k:Int):=by omega
 have b:(k:Int)<2^63:=by omega
 rw[fitsIndex_both a b];exact Y1
def wP:∀ {xs:List V}{a:List WF} (k:Nat),Vals xs a->Vals (xs.take k) (a.take k)
 | _,_,0,_=>by simp;exact .nil
 | _,_,k+1,.nil=>by simp;exact .nil
 | _,_,k+1,.cons h t=>by rw[List.take_succ_cons,List.take_succ_cons];exact .cons h (wP k t)
def wQ:∀ {xs:List V}{a:List WF} (k:Nat),Vals xs a->Vals (xs.drop k) (a.drop k)
 | _,_,0,h=>by simpa using h
 | _,_,k+1,.nil=>by simp;exact .nil
 | _,_,k+1,.cons h t=>by rw[List.drop_succ_cons,List.drop_succ_cons];exact wQ k t
def aA2{s:UV}{A:Around}{E:Y5}{prog:Program}{w:World}{l:WP}{a:List WF}{n:Nat}{k:Int}{t:Tok}{b:WF}{Q:Y5}(e:s.heap.get? l=some {cls:=.type "list",data:=.seq a.toArray n })(f1:¬ (!Builtin.List.listFitsIndex k)=true)(f2:a.toArray.size<=sizeLine)(q:Q .none {s with heap:=s.heap.update l (Obj.mapSeq λxs=>have k:=if k<0 then (k+(xs.size:Int)).toNat else min k.toNat xs.size;(xs.extract 0 k).push b++xs.extract k),toks:=s.toks }) :
  wpAny (model prog w) A (call (.builtin "list.insert") [.ref l,.int k t,b]) Q E s:=by
 have M:=AutoSeq1.list_insert_list_int_val_1 l a.toArray n k t b f1 f2;exact call_meets PySem.F.slot_list_insert ⟨_,e,rfl⟩ PySem.F.entry_list_insert (PySem.F.args_list_insert_3 _ _ _) M ⟨e,q⟩
def Kj:MtM X "list.insert" He:=by
 intro D s J H x E v F Q I j m h;revert h;refine yE4 λl a k y=>yA6 λζ η c o p q=>?_;subst ζ η;cases j;obtain⟨G,d,rfl,u,w⟩:=m.two;obtain⟨t,rfl⟩:=u;obtain⟨z,b,n,r,f,e⟩:=I.lstM c;have g:(qI a k y).length=a.length+1:=by unfold qI;simp;omega
 have A:Vals (qI a k y) (qI b k d):=by
  unfold qI;exact((wP k r).append (.cons w .nil)).append (wQ k r)
 have i:(qI a k y).length<=sizeLine:=dD (by rw[g];omega);refine aA2 e (Px (Ly o p)) (by rw[iA,<- f];exact z) ?_;refine⟨.non,_,I.lset (its':=qI b k d) c e ?_ A i,rfl,q⟩;have B:¬ ((k:Int)<0):=by omega
 have C:min (k:Int).toNat b.toArray.size=k:=by rw[iA,<- f];simp;omega
 simp only [B,if_false,C];unfold qI;simp;exact qU Zs
def R.gk:XM X "list.insert" He:=⟨Kj⟩
def uN:V->List V->Hp->VK->Prop:=λx a H Q=>∃z y:Str,x=.str z/\a=[.str y]/\(y.length==0)=false/\z.length<=1000/\∀p,H p=none->Q (.ref p) (aH H p (.tup [.str (Txt.partition z y).1,.str (Txt.partition z y).2.1,.str (Txt.partition z y).2.2]))
def yU:Ma X "str.partition" uN:=by
 intro l s A H x B v C Q I m n h;revert h;refine yE2 λz y=>yA5 λζ η p w q=>?_;subst ζ η;obtain⟨t,rfl⟩:=m;obtain⟨D,rfl,u,rfl⟩:=n.one;refine call_meets PySem.F.slot_str_partition (typeIs_str _ _ _) PySem.F.entry_str_partition (PySem.F.args_str_partition_2 _ _) (meets_str_partition z y t u p (dD w)) ?_;have d:∀(a b c:Str)(f g j:Tok)(k:Nat),Txt.partition z y=(a,b,c)->EP X l A Q (.ref s.heap.objs.size) {s with heap:=s.heap.push {cls:=.type "tuple",data:=.seq [.str a f,.str b g,.str c j].toArray },toks:=k }:=λa b c f g j k e=>by
  refine⟨.ref _,_,I.laid (t':=k) (o:=.tup [.str a,.str b,.str c]) (λb E q=>hV _ q) (cE _) ⟨by show 3<=sizeLine;decide,_,.cons ⟨_,rfl⟩ (.cons ⟨_,rfl⟩ (.cons ⟨_,rfl⟩ .nil)),IsTup.new _ _⟩,rfl,?_⟩;have:=q _ I.fresh;rw[e]at this;exact this
 have e:Txt.partition z y=match PySem.Builtin.Str.occurrences z y 0 z.length 1 with
  | i::_=>(PySem.Builtin.Str.strSub z 0 i,y,PySem.Builtin.Str.strSub z (i+y.length) z.length)
  | []=>(z,Str.empty,Str.empty):=rfl
 revert e
 cases PySem.Builtin.Str.occurrences z y 0 z.length 1 with
 | nil=>intro e;exact d _ _ _ _ _ _ _ e
 | cons i r=>intro e;exact d _ _ _ _ _ _ _ e
def R.gm:XM X "str.partition" uN:=⟨yU⟩
end
def TabT(K:W.Frag)(P:Params):List DictEntry->List (Str×List V)->Prop
 | [],[]=>True
 | e::r,(x,c)::q=>(∃t,e.key=.str x t)/\e.hash=PyData.keyHash P x/\(∃(b:WP)(d:Option WP)(a:List WF)(n:Nat)(sl:Array (Option WF)),e.val=.ref b/\K.lookup b=some ⟨.type "tuple",d,.seq (toArray a) n,sl⟩/\Vals c a)/\c.length<=1000/\TabT K P r q
 | _,_=>False
def TabT.keys{K:W.Frag}{P:Params}:∀ {a:List DictEntry}{ws:List (Str×List V)},TabT K P a ws->W.KeysLit P a
 | [],[],_=>trivial
 | e::r,(x,i)::q,h=>⟨let ⟨t,b⟩:=h.1;⟨x,t,b,h.2.1⟩,TabT.keys h.2.2.2.2⟩
 | [],_::_,h=>h.elim
 | _::_,[],h=>h.elim
def LookT(K:W.Frag)(o:Option (List V))(f:Option WF):Prop:=match o with|some a=>∃b,f=some (.ref b)/\∀H,SqT K H b a|none=>f=none
theorem TabT.find{K:W.Frag}{P:Params}(z:Str):∀ {a:List DictEntry}{ws:List (Str×List V)},TabT K P a ws->LookT K (ws.lookup z) ((a.find? λe=>Value.isStrOf z e.key).map (·.val))
 | [],[],_=>rfl
 | [],_::_,h=>h.elim
 | _::_,[],h=>h.elim
 | e::r,(x,o)::q,h=>by
  obtain⟨⟨t,d⟩,p,⟨b,s,m,n,sl,f,g,c⟩,i,j⟩:=h;have k:=TabT.find z j;rw[lookup_cons,find?_cons];have l:Value.isStrOf z e.key=(z==x):=by
   rw[d];show(x==z)=(z==x);exact Bool.beq_comm
  rw[l];cases u:z==x with
  | true=>exact⟨b,by rw[<- f];rfl,λH=>.inr ⟨_,_,_,g,rfl,rfl,by rw[iA,<- c.length];exact dD i,c⟩⟩
  | false=>exact k
structure KTabT(K:W.Frag)(P:Params)(a:WP)(ws:List (Str×List V)):Prop where
 ex:∃es n,K.lookup a=some ⟨.type "dict",none,.dict (toArray es) n,#[]⟩/\TabT K P es ws/\(a==sysModules)=false
def KTabT.map{K:W.Frag}{prog:Program}{w:World}{a:WP}{ws:List (Str×List V)}{h:Heap}(T:KTabT K w.params a ws)(X:K.In h) :
  ∃f:Str->Option WF,h.MapOf (strKind prog w) a f/\(a==sysModules)=false/\∀z,LookT K (ws.lookup z) (f z):=by
 refine yE0 T.ex (yE2 λd n=>yA3 λc b lo=>?_);refine⟨_,W.mapOf_K (prog:=prog) X c b.keys,lo,λz=>?_⟩;have:=b.find z;unfold findBy;rw[List.find?_toArray];exact this
def LookT.some{K:W.Frag}{f:Option WF}{o:Option (List V)}(h:LookT K o f):f.isSome=o.isSome:=by
 cases o with
 | none=>rw[show f=none from h];rfl
 | some i=>obtain⟨t,h,_⟩:=h;rw[h];rfl
section
variable {X:Cx}
def Bl(K:W.Frag)(P:Params)(c:Bool):R2:=λx y H Q=>mS x λz=>mR y λa=>∃b,KTabT K P a b/\Q (.bl (if c then !(b.lookup z).isSome else (b.lookup z).isSome)) H
def Py:OpR X (compareOp .In) (Bl X.K X.w.params false):=by
 intro i s j H x y v u Q I b c h;unfold Bl at h;rw[iG]at h;obtain⟨z,rfl,h⟩:=h;rw[bS]at h;obtain⟨a,rfl,d,T,h⟩:=h;obtain⟨t,rfl⟩:=b;cases c;obtain⟨f,e,lo,g⟩:=T.map (prog:=X.prog) I.kIn;exact wpAny_in_of (strKind_is X.prog X.w z t) lo e ⟨.bl (d.lookup z).isSome,H,I.tok _,by rw[(g z).some];rfl,h⟩
def Kk:OpR X (compareOp .NotIn) (Bl X.K X.w.params true):=by
 intro i s j H x y v u Q I b c h;unfold Bl at h;rw[iG]at h;obtain⟨z,rfl,h⟩:=h;rw[bS]at h;obtain⟨a,rfl,d,T,h⟩:=h;obtain⟨t,rfl⟩:=b;cases c;obtain⟨f,e,lo,g⟩:=T.map (prog:=X.prog) I.kIn;exact wpAny_notIn_of (strKind_is X.prog X.w z t) lo e ⟨.bl (!(d.lookup z).isSome),H,I.tok _,by rw[(g z).some];rfl,h⟩
def Pz(K:W.Frag)(P:Params):R2:=λx y H Q=>mR x λa=>mS y λz=>∃c d,KTabT K P a c/\c.lookup z=some d/\∀b,(∀H,SqT K H b d)->Q (.ref b) H
def aDK:IxR X (Pz X.K X.w.params):=by
 intro m slice n s q H x y v u Q I e g h i;unfold Pz at h;rw[bS]at h;obtain⟨a,rfl,h⟩:=h;rw[iG]at h;obtain⟨z,rfl,o,p,T,j,h⟩:=h;obtain⟨t,rfl⟩:=g;cases e;obtain⟨f,d,lo,k⟩:=T.map (prog:=X.prog) I.kIn;have c:=k z;rw[j]at c;obtain⟨b,c,l⟩:=c;exact tail_any d.typeIs slot_dict_getitem.lookup (wpAny_getItem_of (strKind_is X.prog X.w z t) d c ⟨.ref b,H,I.tok _,rfl,h b l⟩) i
def Qa(K:W.Frag)(P:Params)(g ty tx:TE):TE:=λd H Q=>g d H λx h=>mR x λa=>∃c,KTabT K P a c/\ty d h λy i=>tx d i λv e=>mS y λz=>
 (∀f b,c.lookup z=some f->(∀H,SqT K H b f)->Q (.ref b) e)/\(c.lookup z=none->Q v e)
def Qb{o e f:Expr}{u w:Pos}{A ty tx:TE}(F:PE X o A)(G:PE X e ty)(J:PE X f tx)(m:M2 X o "get" u e f w):PE X (.Call (.Attribute o "get" u) [e,f] [] w) (Qa X.K X.w.params A ty tx):=by
 intro p s j H Q I h;refine wpAny_Call_method m.base m.few m.line PySem.F.plainAttrs_dict PySem.F.slot_dict_get PySem.F.type_dict_get (bY (F p s j H _ I h) ?_);refine λa2 K=>yE2 λx B=>yA3 λC L c=>?_;replace c:mR x λa=>∃g,KTabT X.K X.w.params a g/\ty j B λy q=>tx j q λv i=>mS y λz=>(∀k b,g.lookup z=some k->(∀H,SqT X.K H b k)->Q (.ref b) i)/\(g.lookup z=none->Q v i):=c
 rw[bS]at c;obtain⟨a,rfl,g,T,c⟩:=c;cases L;obtain⟨a3,D,lo,hg⟩:=T.map (prog:=X.prog) C.kIn;refine⟨D.typeIs,?_,?_⟩
 ·intro b a0;cases a0;revert D;refine yE3 λM _ _=>yA3 λg1 g2 _=>?_;exact⟨M,g1,g2.2.1⟩
 rw[m.trees];refine Calls.callWith_builtin rfl (Calls.evalArgs_plain (Calls.spliced_cons (bY (G p K j B _ C c) λiv N ⟨y,q,O,P,R⟩=>
  Calls.spliced_cons (bY (J p N j q _ O R) λS s3 ⟨z,i,r,U,t⟩=>Calls.spliced_nil ?_))))
 dsimp only at t;rw[iG]at t;obtain⟨l,rfl,V,W⟩:=t;obtain⟨a1,rfl⟩:=P;obtain⟨g3,E,_,Y⟩:=T.map (prog:=X.prog) r.kIn;refine call_meetsIn PySem.F.slot_dict_get E.typeIs PySem.F.entry_dict_get (PySem.F.args_dict_get_3 _ _ _) (meets_dict_get_default (strKind X.prog X.w) a (strKind_is X.prog X.w l a1) lo S) ⟨_,E,?_⟩;have d:=Y l
 cases n:g.lookup l with
 | none=>
  rw[n]at d;rw[show g3 l=none from d];exact⟨z,i,r.tok _,U,W n⟩
 | some k=>
  rw[n]at d;obtain⟨b,d,Z⟩:=d;rw[d];exact⟨.ref b,i,r.tok _,rfl,V k b n Z⟩
def R.gy{K:W.Frag}{P:Params}{o e f:Expr}{b a:Pos}{c ty tx:TE}(d:XE X o c)(g:XE X e ty)(h:XE X f tx)(i:X.K=K:=by rfl)(j:X.w.params=P:=by rfl)(k:attributeBase o "get" X.env (eval o X.env)=eval o X.env:=by rfl)(l:(b.endLine == a.line)=true:=by rfl)(m:((backTo a (starEach [e,f] X.env)).all (λx=>!x.1)&&(backToKw a (keywordEach [] X.env)).all (λx=>x.1.isSome)
  && decide (([e,f]:List Expr).length+([]:List Keyword).length+(if ([]:List Keyword).isEmpty then 0 else 1)<30))=true:=by rfl)(n:backTo a (starEach [e,f] X.env)=[(false,eval e X.env),(false,eval f X.env)]:=by rfl):XE X (.Call (.Attribute o "get" b) [e,f] [] a) (Qa K P c ty tx):=i ▸ j ▸ ⟨Qb d.h g.h h.h ⟨k,m,l,n⟩⟩
def R.fg{K:W.Frag}{P:Params}(a:X.K=K:=by rfl)(b:X.w.params=P:=by rfl):jG X (compareOp .In) (Bl K P false):=a▸b▸⟨Py⟩
def R.dj{K:W.Frag}{P:Params}(a:X.K=K:=by rfl)(b:X.w.params=P:=by rfl):Xi X (Pz K P):=a▸b▸⟨aDK⟩
def aCK(e:Bool):R2:=λx y H Q=>mR x λa=>mR y λb=>∃c d,H a=some (.lst c)/\H b=some (.lst d)/\c.length=d.length/\(∀(j:Nat)(u v:V),c[j]?=some u->d[j]?=some v->cF u=true/\cF v=true)/\Q (.bl (if e then !iY c d else iY c d)) H
def aA3(i:Bool)(O:X.A.units+64<cLine):OpR X (compareOp (if i then .NotEq else .Eq)) (aCK i):=by
 intro N s P H x y v u Q I D E h;unfold aCK at h;rw[bS]at h;obtain⟨a,rfl,h⟩:=h;rw[bS]at h;obtain⟨b,rfl,c,d,g1,g2,n,F,q⟩:=h;cases D;cases E;obtain⟨f,o,p,_⟩:=I.list (QYX g1);obtain⟨g,r,t,_⟩:=I.list (QYX g2);have w:f.length=c.length:=o.length.symm;have G:g.length=d.length:=r.length.symm;have m:∀j (k:j<f.toArray.size) (l:j<g.toArray.size),SeqAt.EqAt X.A.in1 s f.toArray[j] g.toArray[j] (xT (c.getD j .non) (d.getD j .non)):=λj k l=>by
  rw[iA]at k l;obtain⟨z,J⟩:=Paired.get' (j:=j) o k;obtain⟨B,K⟩:=Paired.get' (j:=j) r l;obtain⟨f1,f2⟩:=F j c[j] d[j] (kO z) (kO B);have L:c.getD j .non=c[j]:=by simp[List.getD,z]
  have M:d.getD j .non=d[j]:=by simp[List.getD,B]
  rw[L,M];simpa using tX J K f1 f2
 have C:f.toArray.size=g.toArray.size:=by rw[iA,iA,w,G,n]
 have e:((List.range f.toArray.size).all (λj=>xT (c.getD j .non) (d.getD j .non)))=iY c d:=by
  unfold iY;rw[iA,w,<- n,Nat.min_self,beq_self_eq_true,Bool.and_true]
 cases i with
 | true=>
  have key:=SeqAt.RcNeAt.lists (A:=X.A) (s:=s) p.isList t.isList C Zo m;rw[e]at key;exact key _ _ _ _ ⟨.bl _,H,I,rfl,q⟩
 | false=>
  have key:=SeqAt.RcAt.lists (A:=X.A) (s:=s) p.isList t.isList C Zo m;rw[e]at key;exact key _ _ _ _ ⟨.bl _,H,I,rfl,q⟩
def Xr(K:W.Frag)(C:WP)(c:(St->WF->Option WP->Hp->Prop)->TS)(th:TS):TS:=λD e H=>
 c (λa b f d=>W.exmOne K b (.ref C)=some true/\th D a d) D e H
def Uw{i k:List Stmt}{p v pos:Pos}{th:TS}(w:X.stack=X.env::X.outer)(x:X.env.frame=some X.env.locals)(y:Gl X c)(A:X.mg c=some (.ref C))(B:(c==("__debug__":Str))=false)(E:∀pn n,PSs (X.trying pn n) i (m n))(hs:∀a,PSs (X.handling a) (l::k) th) :
  PS X (.Try i [.ExceptHandler (some (.Name c p)) none (l::k) v] [] [] pos) (Xr X.K C m th):=by
 intro e s V H D I h;refine wpAny_Try_except (wpAny_mono (E (X.pn++e) _ [] s V H D I.pnIn.trying h) (λf o q=>?_) λa1 o q=>?_)
 ·have d:=q.tried I.ok
  cases f with
  | next=>exact wpAny_execs_nil d
  | brk=>exact d
  | cont=>exact d
  | ret a2=>exact d
 ·revert q;refine yE3 λu r sc=>yA2 λG=>yE4 λa j J K=>yA4 λζ F L M=>?_;subst ζ;have b:Inv X e u r sc:=G.pnOut I.ok;have N:Fly X.prog X.w X.stack r sc K a j J .none o:=F;refine pZ b N I.ok.frames w x λY O=>?_;refine iX b O λP g=>?_;have t:=g.inv b;refine wpAny_handleBy_cons (codeAny_handlers_test ?_) (by intro q;cases q);refine gB (X:=X.handling a) (t.handling (a:=a)) y A ?_ B;obtain⟨a3,⟨Z,vs,a0,oT,ts,Q,R,_⟩,_⟩:=g.tr;have LT:W.Looks (model X.prog X.w) P.heap (typeOf (.ref a)) j:=R▸(W.Looks.ld Q).andThen .now;refine(W.exm_one t.kIn LT L).here ?_;show codeAny _ _ _ _ _;refine codeAny_handlers_suite ?_;refine iX b g λS T=>?_;have U:=T.inv b;refine wpAny_mono (hs a e S _ _ _ (U.handling (a:=a)) M) (λf s6 q=>?_) (λ_ _ z=>False.elim z);exact q.handled I.ok
def R.ia{K:W.Frag}{C:WP}{c:Str}{d e:List Stmt}{f:Stmt}{p h pos:Pos}{g:(St->WF->Option WP->Hp->Prop)->TS}{th:TS}(i:X.mg c=some (.ref C))(j:Gl X c)(k:∀pn b,XB (X.trying pn b) d (g b))(hs:∀a,XB (X.handling a) (f::e) th)(l:X.K=K:=by rfl)(m:X.stack=X.env::X.outer:=by rfl)(n:X.env.frame=some X.env.locals:=by rfl)(o:(c==("__debug__":Str))=false:=by decide +kernel) :
  XS X (.Try d [.ExceptHandler (some (.Name c p)) none (f::e) h] [] [] pos) (Xr K C g th):=l▸⟨Uw m n j i o (λpn b=>(k pn b).h) λa=>(hs a).h⟩
end
def wR(l:List Nat)(i j:Nat):PySem.Builtin.Str.strSub (tx l) i j=tx ((l.drop i).take (j-i)):=by
 unfold PySem.Builtin.Str.strSub tx;congr 1;simp[List.extract_eq_drop_take]
def PTS:List (Str×List V):=[("next",[.str "next",.str "turn"]),("has",[.str "name",.str "amount"]),("kept",[.str "number",.str "turn",.str "name",.str "key",.str "deed",.str "answer"]),("came",[.str "number",.str "turn",.str "name",.str "key",.str "deed"]),("asked",[.str "number"]),("done",[.str "number",.str "turn",.str "answer"])]
def BDS:List (Str×List V):=[("next",[.int 1,.int 1000000]),("number",[.int 1,.int 999999]),("turn",[.int 0,.int 1000000000000]),("amount",[.int 1,.int 1000000000000])]
inductive RP where
 | sc (v:V)
 | tp (xs:List V)
def PAt(H:Hp):RP->V->Prop
 | .sc v,x=>x=v
 | .tp a,x=>∃b,x=.ref b/\H b=some (.tup a)
def PAt.same{H a:Hp}(s:Same H a):∀ {p:RP}{x:V},PAt H p x->PAt a p x
 | .sc _,_,h=>h
 | .tp _,_,⟨b,e,g⟩=>⟨b,e,s _ _ g⟩
def RowAt(H:Hp)(a:WP)(ps:List RP):Prop:=∃b,H a=some (.tup b)/\Paired (PAt H) ps b
def RowAt.same{ps:List RP}(s:Same H b)(h:RowAt H a ps):RowAt b a ps:=let ⟨c,e,p⟩:=h;⟨c,s _ _ e,Paired.map' (λ_ _=>PAt.same s) p⟩
def FlatW(v:V):Prop:=(∃z,v=.str z/\z.length<=12/\32∉z.cps.toList/\61∉z.cps.toList/\10∉z.cps.toList)∨∃m:Nat,v=.int (m:Int)/\m<=1000000000000
structure DeedG(xs:List V):Prop where
 ok:bC xs=true
 shape:∃ns m,Xk xs ns m
 dwn:∃wd n as,DWN wd n xs as
 flat:∀y∈xs,FlatW y
 len:3<=xs.length/\xs.length<=5
inductive AnsIs:List V->Prop
 | no (h:Str):isNm h->AnsIs [.str "no",.str h]
 | nums (u:Str) (ms:List Nat):(u="ok"∨u="is"∨u="short"∨u="full")->ms.length<=2->(∀m∈ms,m<=1000000000000)->AnsIs (.str u::ms.map λm:Nat=>V.int (m:Int))
def WID:List (Str×Int×List V):=[("add",1,[.str "add",.str "a",.int 1]),("take",1,[.str "take",.str "a",.int 1]),("move",1,[.str "move",.str "a",.str "b",.int 1]),("move",1000000000000,[.str "move",.str "a",.str "b",.int 1000000000000]),("pass",1,[.str "pass",.str "a",.str "b",.str "c",.int 1])]
def uO(w:Str):List Str:=if w="pass" then ["a","b"] else []
def bI(xs:List V):Bool:=if kK xs=.str "no" then qE xs else WID.any λq=>cI q.1 (uO q.1) q.2.1 xs
def gT(H:Hp)(x:V):Bool:=match bA H x with|some a=>bI a|none=>false
structure Ek(xs ys:List V):Prop where
 is:AnsIs ys
 some:bI ys=true
 of:∃wd n as,DWN wd n xs as/\cI wd (as.map (·.1)) n ys=true
inductive RowIs:List RP->Prop
 | next (n t:Nat):1<=n->n<=1000000->t<=1000000000000->RowIs [.sc (.str "next"),.sc (.int n),.sc (.int t)]
 | has (a:Str) (m:Nat):isNm a->1<=m->m<=1000000000000->RowIs [.sc (.str "has"),.sc (.str a),.sc (.int m)]
 | asked (n:Nat):1<=n->n<=999999->RowIs [.sc (.str "asked"),.sc (.int n)]
 | done (n t:Nat) (xs ys:List V):1<=n->n<=999999->t<=1000000000000->Ek xs ys->RowIs [.sc (.str "done"),.sc (.int n),.sc (.int t),.tp ys]
 | came (n t:Nat) (a k:Str) (xs:List V):1<=n->n<=999999->t<=1000000000000->isNm a->isKy k->DeedG xs->RowIs [.sc (.str "came"),.sc (.int n),.sc (.int t),.sc (.str a),.sc (.str k),.tp xs]
 | kept (n t:Nat) (a k:Str) (xs ys:List V):1<=n->n<=999999->t<=1000000000000->isNm a->isKy k->DeedG xs->Ek xs ys->RowIs [.sc (.str "kept"),.sc (.int n),.sc (.int t),.sc (.str a),.sc (.str k),.tp xs,.tp ys]
def mK(s:Same H b)(h:Pc H x):bA b x=bA H x:=by
 rcases h with⟨h,_⟩|⟨a,d,rfl,h|h⟩|⟨a,c,rfl,h⟩
 ·cases x<;>first|rfl|cases h
 ·unfold bA;dsimp only;rw[h,s _ _ h]
 ·unfold bA;dsimp only;rw[h,s _ _ h]
 ·unfold bA;dsimp only;rw[h,s _ _ h]
def pB(s:Same H b)(h:Pc H x):cH b x=cH H x:=by
 rcases h with⟨h,_⟩|⟨a,d,rfl,h|h⟩|⟨a,c,rfl,h⟩
 ·cases x<;>first|rfl|cases h
 ·unfold cH;dsimp only;rw[h,s _ _ h]
 ·unfold cH;dsimp only;rw[h,s _ _ h]
 ·unfold cH;dsimp only;rw[h,s _ _ h]
def uP(s:Same H a)(h:Pc H x):gT a x=gT H x:=by unfold gT;rw[mK s h]
def nG{wd:Str}(s:Same H a)(h:Pc H x):iF a wd hs n x=iF H wd hs n x:=by unfold iF;rw[mK s h]
def Tg.th(h:Tg H x):Th H x/\∀a xs,x=.ref a->H a=some (.tup xs)->xs.length<=1000:=⟨⟨h.1.pt,λa xs e g y b=>((h.2 a xs e g).2 y b).pt⟩,λa xs e g=>(h.2 a xs e g).1⟩
def bJ(H:Hp)(kd:Str)(x:V):Bool:=match BDS.lookup kd with
 | some [.int lo,.int a]=>aQ lo a x
 | some _=>false
 | none=>if kd="name" then dR x else if kd="key" then bM x (LET++oH) 12 else if kd="deed" then cH H x else gT H x
theorem dY{a:Type}{z:Str}:∀ {l:List (Str×a)}{i:a},l.lookup z=some i->(z,i)∈l
 | [],i,h=>by cases h
 | (x,j)::l,i,h=>by
  rw[lookup_cons]at h;cases e:z==x with
  | true=>rw[e]at h;injection h with h;rw[<- h,eq_of_beq e];exact iV
  | false=>rw[e]at h;exact fN _ (dY h)
def yV{kd:Str}(h:BDS.lookup kd=some xs):∃lo a:Int,xs=[.int lo,.int a]:=by
 have m:=dY h;unfold BDS at m;simp only [mem_cons,QZZ,or_false,Prod.mk.injEq]at m;rcases m with⟨_,rfl⟩|⟨_,rfl⟩|⟨_,rfl⟩|⟨_,rfl⟩<;>exact⟨_,_,rfl⟩
def yW:Sp:=λb H Q _=>∃x,b=[x]/\Tg H x/\∀a,Same H a->Q (.bl (gT H x)) a
def Qc:Sp:=λb H Q _=>∃kd x,b=[.str kd,x]/\Tg H x/\∀a,Same H a->Q (.bl (bJ H kd x)) a
def Qd:∀q∈WID,∃b,DWN q.1 q.2.1 q.2.2 b/\b.map (·.1)=uO q.1:=by
 have c:isNm "a":=⟨Zk,Zk,Zk⟩;have d:isNm "b":=⟨Zk,Zk,Zk⟩;intro q a;unfold WID at a;simp only [mem_cons,QZZ,or_false]at a;rcases a with rfl|rfl|rfl|rfl|rfl
 ·exact⟨[],⟨⟨"a","a","a",_,.add⟩,λ_ h=>nomatch h⟩,Zk⟩
 ·exact⟨[],⟨⟨"a","a","a",_,.take⟩,λ_ h=>nomatch h⟩,Zk⟩
 ·exact⟨[],⟨⟨"a","b","a",_,.move⟩,λ_ h=>nomatch h⟩,Zk⟩
 ·exact⟨[],⟨⟨"a","b","a",_,.move⟩,λ_ h=>nomatch h⟩,Zk⟩
 ·exact⟨_,⟨⟨"a","b","c",_,.pass⟩,Zfm.mpr ⟨c,Zfm.mpr ⟨d,λ_ h=>nomatch h⟩⟩⟩,Zk⟩
def Qe(H:Hp)(x:V):gT H x=if cR H x=.str "no" then (match bA H x with|some xs=>qE xs|none=>false) else WID.any λq=>iF H q.1 (uO q.1) q.2.1 x:=by
 unfold gT cR iF;cases bA H x with
 | none=>
  rw[T8 (λe=>nomatch e)]
  symm
  rw[any_eq_false];intro q _;exact Y1
 | some xs=>rfl
def PartOk(kd:Str)(p:RP):Prop:=∀H x,PAt H p x->Tg H x/\bJ H kd x=true
def Tg.int:Tg H (.int n):=.flat .int λ_ _ e=>nomatch e
def Tg.str(h:z.length<=1000):Tg H (.str z):=.flat (.str h) λ_ _ e=>nomatch e
def PartOk.num{kd:Str}{lo a:Int}{m:Nat}(h:BDS.lookup kd=some [.int lo,.int a])(b:lo<=m)(c:(m:Int)<=a):PartOk kd (.sc (.int (m:Int))):=λH x e=>by
 cases e;refine⟨.int,?_⟩;unfold bJ;rw[h];show(decide (lo<=(m:Int))&&decide ((m:Int)<=a))=true;rw[X2 b,X2 c];rfl
def PartOk.name(h:isNm a):PartOk "name" (.sc (.str a)):=λH x e=>by
 cases e;refine⟨.str h.len,?_⟩;unfold bJ;rw[show BDS.lookup ("name":Str)=none by decide +kernel];dsimp only;rw[UF rfl];exact fS h
def isKy.len(h:isKy z):z.length<=1000:=iB h.2.1 Zd
def aA4(h:isKy z):bM (.str z) (LET++oH) 12=true:=by
 rw[cC,X2 (by have:=h.1;omega),X2 (by have:=h.2.1;omega)];have e:(z.cps.toList.all λc=>decide (c∈LET++oH))=true:=all_eq_true.mpr λc a=>X2 (h.2.2 c a)
 rw[e];rfl
def PartOk.key(h:isKy a):PartOk "key" (.sc (.str a)):=λH x e=>by
 cases e;refine⟨.str h.len,?_⟩;unfold bJ;rw[show BDS.lookup ("key":Str)=none by decide +kernel];dsimp only;rw[T8 Zk,UF rfl];exact aA4 h
def FlatW.pc(h:FlatW y):Pc H y:=by
 rcases h with⟨z,rfl,h,_⟩|⟨m,rfl,_⟩
 ·exact .str (iB h Zd)
 ·exact .int
def PartOk.deed(h:DeedG xs):PartOk "deed" (.tp xs):=λH x e=>by
 obtain⟨b,rfl,g⟩:=e;refine⟨.tup g (iB h.len.2 Zd) λy a=>(h.flat y a).pc,?_⟩;unfold bJ;rw[show BDS.lookup ("deed":Str)=none by decide +kernel];dsimp only;rw[T8 Zk,T8 Zk,UF rfl];unfold cH;dsimp only;rw[g];exact h.ok
def Hf(h:isNm z):32∉z.cps.toList/\61∉z.cps.toList/\10∉z.cps.toList:=⟨λm=>T7 (h.2.2 32 m) Zd,λm=>T7 (h.2.2 61 m) Zd,λm=>T7 (h.2.2 10 m) Zd⟩
def Ux(h:isKy z):32∉z.cps.toList/\61∉z.cps.toList/\10∉z.cps.toList:=⟨λm=>T7 (h.2.2 32 m) Zd,λm=>T7 (h.2.2 61 m) Zd,λm=>T7 (h.2.2 10 m) Zd⟩
def FlatW.nm(h:isNm z):FlatW (.str z):=.inl ⟨z,rfl,iB h.2.1 Zd,Hf h⟩
def FlatW.ky(h:isKy z):FlatW (.str z):=.inl ⟨z,rfl,h.2.1,Ux h⟩
def FlatW.num{m:Nat}(h:m<=1000000000000):FlatW (.int (m:Int)):=.inr ⟨m,rfl,h⟩
def aA5:List Str:=["next","has","kept","came","asked","done","no","ok","is","short","full","="]
def Uy:∀z∈aA5,z≠"="->isNm z:=by
 intro z a b;unfold aA5 at a;simp only [mem_cons,QZZ,or_false]at a;rcases a with rfl|rfl|rfl|rfl|rfl|rfl|rfl|rfl|rfl|rfl|rfl|rfl<;>first|exact⟨Zk,Zk,Zk⟩|exact T7 rfl b
def FlatW.wd(h:z∈aA5)(a:z≠"="):FlatW (.str z):=.nm (Uy z h a)
def AnsIs.flat{a:List V}(h:AnsIs a):(1<=a.length/\a.length<=3)/\∀y∈a,FlatW y:=by
 cases h with
 | no h b=>exact⟨Zs,Zfm.mpr ⟨.wd Zk Zk,Zfm.mpr ⟨.nm b,λ_ h=>nomatch h⟩⟩⟩
 | nums u g c i d=>
  refine⟨by simp;omega,Zfm.mpr ⟨?_,λy e=>?_⟩⟩
  ·rcases c with rfl|rfl|rfl|rfl<;>exact .wd Zk Zk
  ·obtain⟨m,f,rfl⟩:=Zmm.mp e;exact .num (d m f)
def PartOk.ans(h:AnsIs a)(hs:bI a=true):PartOk "answer" (.tp a):=λH x e=>by
 obtain⟨b,rfl,g⟩:=e;refine⟨.tup g (iB h.flat.1.2 Zd) λy c=>(h.flat.2 y c).pc,?_⟩;unfold bJ;rw[show BDS.lookup ("answer":Str)=none by decide +kernel];dsimp only;rw[T8 Zk,T8 Zk,T8 Zk];unfold gT;rw[cD g];exact hs
def RowIs.kinds{ps:List RP}(h:RowIs ps):∃wd l rest,ps=.sc (.str wd)::rest/\PTS.lookup wd=some (l.map V.str)/\Paired PartOk l rest:=by
 have q:BDS.lookup ("next":Str)=some [.int 1,.int 1000000]:=rfl;have e:BDS.lookup ("number":Str)=some [.int 1,.int 999999]:=rfl;have f:BDS.lookup ("turn":Str)=some [.int 0,.int 1000000000000]:=rfl;have r:BDS.lookup ("amount":Str)=some [.int 1,.int 1000000000000]:=rfl
 cases h with
 | next n t b d g=>exact⟨"next",["next","turn"],_,rfl,rfl,.cons (.num q Zo Zo) (.cons (.num f Zo Zo) .nil)⟩
 | has a m b d g=>exact⟨"has",["name","amount"],_,rfl,rfl,.cons (.name b) (.cons (.num r Zo Zo) .nil)⟩
 | asked n b d=>exact⟨"asked",["number"],_,rfl,rfl,.cons (.num e Zo Zo) .nil⟩
 | done n t o s b d g c=>exact⟨"done",["number","turn","answer"],_,rfl,rfl,.cons (.num e Zo Zo) (.cons (.num f Zo Zo) (.cons (.ans c.is c.some) .nil))⟩
 | came n t a k o b d g c i j=>exact⟨"came",["number","turn","name","key","deed"],_,rfl,rfl,.cons (.num e Zo Zo) (.cons (.num f Zo Zo) (.cons (.name c) (.cons (.key i) (.cons (.deed j) .nil))))⟩
 | kept n t a k o s b d g c i j p=>exact⟨"kept",["number","turn","name","key","deed","answer"],_,rfl,rfl,.cons (.num e Zo Zo) (.cons (.num f Zo Zo) (.cons (.name c) (.cons (.key i) (.cons (.deed j) (.cons (.ans p.is p.some) .nil)))))⟩
def RowAt.tg{ps:List RP}(h:RowAt H a ps)(i:RowIs ps):∃wd b rest x vs,ps=.sc (.str wd)::rest/\PTS.lookup wd=some (b.map V.str)/\H a=some (.tup (.str wd::vs))/\x=V.str wd/\Paired (PAt H) rest vs/\Paired PartOk b rest/\b.length=vs.length/\vs.length<=6/\Tg H (.ref a)/\cR H (.ref a)=.str wd:=by
 refine yE0 i.kinds (yE3 λwd b rest=>yA3 λζ g d=>?_);subst ζ;obtain⟨vs,e,p⟩:=h
 cases p with
 | cons f p=>
  rename_i y vs;have:y=V.str wd:=f;subst this;have r:b.length=rest.length:=d.length;have s:rest.length=vs.length:=p.length;have k:b.length<=6/\wd.length<=1000:=by
   have m:=dY g;unfold PTS at m;simp only [mem_cons,QZZ,or_false,Prod.mk.injEq]at m;have:(b.map V.str).length=b.length:=aX _;rcases m with⟨rfl,c⟩|⟨rfl,c⟩|⟨rfl,c⟩|⟨rfl,c⟩|⟨rfl,c⟩|⟨rfl,c⟩<;>rw[c]at this<;>refine⟨by simp at this;omega,Zk⟩
  have tp:∀y∈vs,Pc H y:=λy l=>by
   obtain⟨j,n,e⟩:=List.mem_iff_getElem.mp l;obtain⟨f,o⟩:=Paired.get' (j:=j) p n;obtain⟨t,q⟩:=Paired.get' (j:=j) d f;rw[<- e];exact(q H _ o).1.1
  refine⟨wd,b,rest,_,vs,rfl,g,e,rfl,p,d,Zo,Zo,.tup e (by simp;omega) (Zfm.mpr ⟨.str k.2,tp⟩),?_⟩;unfold cR;rw[cD e];rfl
def RowIs.kept_of{ps rest:List RP}{wd:Str}(h:RowIs ps)(e:ps=.sc (.str wd)::rest)(d:wd="kept"):∃(n t:Nat)(a k:Str)(xs c:List V),rest=[.sc (.int n),.sc (.int t),.sc (.str a),.sc (.str k),.tp xs,.tp c]/\DeedG xs/\Ek xs c:=by
 cases h with
 | kept n t a k xs c i j l m o f g=>exact⟨n,t,a,k,xs,c,(List.cons.inj e).2.symm,f,g⟩
 | _=>
  have b:=(List.cons.inj e).1;injection b with b
  injection b with b
  rw[d]at b;exact T7 b Zk
theorem yX{c:Nat}:∀(ps a:List (List Nat)),ps≠[]->a≠[]->jn c (ps++a)=jn c ps++c::jn c a
 | [],_,h,_=>T7 rfl h
 | [p],[],_,h=>T7 rfl h
 | [p],q::r,_,_=>rfl
 | p::b::r,a,_,h=>by
  have:=yX (c:=c) (b::r) a Zs h;show p++c::jn c ((b::r)++a)=(p++c::jn c (b::r))++c::jn c a;rw[this];simp
theorem Hg{c:Nat}:∀(e:List (List (List Nat))),(∀p∈e,p≠[])->jn c (e.map (jn c))=jn c e.flatten
 | [],_=>rfl
 | [p],_=>by simp[jn]
 | p::d::r,h=>by
  have f:=Hg (c:=c) (d::r) λq g=>h q (fN _ g)
  have i:=h p iV;have j:(d::r).flatten≠[]:=by
   have:=h d Zs
   cases d with
   | nil=>exact T7 rfl this
   | cons a b=>simp
  show jn c p++c::jn c ((d::r).map (jn c))=jn c (p++(d::r).flatten);rw[f,yX _ _ i j]
def Qg{c d:Nat}(a:d≠c):∀(ps:List (List Nat)),(∀p∈ps,d∉p)->d∉jn c ps
 | [],_=>by simp[jn]
 | [p],h=>by simpa [jn]using h p Zs
 | p::q::r,h=>by
  have b:=Qg a (q::r) λx e=>h x (fN _ e)
  show d∉p++c::jn c (q::r);simp only [Zma,mem_cons,not_or];exact⟨h p Zs,a,b⟩
def jw(ws:List Str):Str:=Txt.join (tx [32]) ws
def oK(ws:List Str):jw ws=tx (jn 32 (ws.map λp=>p.cps.toList)):=by
 unfold jw;rw[<- pY,lY]
def El(ws:List Str):(jw ws).cps.toList=jn 32 (ws.map λp=>p.cps.toList):=by
 unfold jw;rw[pY]
def Uz(a:List (List Str))(h:∀ws∈a,ws≠[]):jw (a.map jw)=jw a.flatten:=by
 rw[oK,oK,map_map];have e:(a.map ((λp=>p.cps.toList)∘jw))=(a.map λws=>ws.map λp=>p.cps.toList).map (jn 32):=by
  rw[map_map];exact map_congr_left λws _=>El ws
 rw[e,Hg _ (λp b=>by
  obtain⟨ws,c,rfl⟩:=Zmm.mp b;have:=h ws c;simpa using this),List.map_flatten]
def mL(a:ws≠[])(h:∀p∈ws,32∉p.cps.toList):Txt.split (jw ws) (tx [32])=ws:=rV a h
theorem Qh{c k:Nat}:∀(ps:List (List Nat)),(∀p∈ps,p.length<=k)->(jn c ps).length<=(k+1)*ps.length
 | [],_=>by simp[jn]
 | [p],h=>by have:=h p Zs;simp[jn];omega
 | p::q::r,h=>by
  have b:=Qh (c:=c) (k:=k) (q::r) λx a=>h x (fN _ a)
  have d:=h p Zs;show(p++c::jn c (q::r)).length<=(k+1)*(p::q::r).length;rw[gQ,eJ];have e:(k+1)*(p::q::r).length=(k+1)*(q::r).length+(k+1):=by rw[eJ,Nat.mul_add];simp
  omega
def Qi{k:Nat}(h:∀p∈ws,p.length<=k):(jw ws).length<=(k+1)*ws.length:=by
 rw[oK,dC];have:=Qh (c:=32) (k:=k) (ws.map λp=>p.cps.toList) λp a=>by
  obtain⟨z,b,rfl⟩:=Zmm.mp a;have:=h z b;simpa [Str.length]using this
 simpa using this
def FlatW.txt{v:V}(h:FlatW v):(cW v).length<=13/\32∉(cW v).cps.toList/\61∉(cW v).cps.toList:=by
 rcases h with⟨z,rfl,a,b,c,_⟩|⟨m,rfl,h⟩
 ·exact⟨iB a Zd,b,c⟩
 ·rw[Ba];exact⟨Gu (k:=12) (Ly h Zd),Op m,λh=>T7 (mF m 61 h) Zo⟩
def FlatW.no10{v:V}(h:FlatW v):10∉(cW v).cps.toList:=by
 rcases h with⟨z,rfl,_,_,_,h⟩|⟨m,rfl,h⟩
 ·exact h
 ·rw[Ba];exact λh=>T7 (mF m 10 h) Zo
def pC:RP->List Str
 | .sc v=>[cW v]
 | .tp a=>a.map cW
def Mc:List RP->List RP
 | [a,b,c,d,e,.tp f,.tp g]=>[a,b,c,d,e,.tp f,.sc (.str "="),.tp g]
 | ps=>ps
def jH(ps:List RP):List Str:=((Mc ps).map pC).flatten
def cG(ps:List RP):Str:=jw (jH ps)
def qW:Nat->List (List V)->List Str
 | _,[]=>[]
 | k,t::r=>replicate k ("=":Str)++t.map cW++qW (k+1) r
theorem Bm(t:List V):∀(k:Nat)(a:List (List V)),qW k (a++[t])=qW k a++(replicate (k+a.length) ("=":Str)++t.map cW)
 | k,[]=>by simp[qW]
 | k,s::r=>by
  have:=Bm t (k+1) r;show replicate k ("=":Str)++s.map cW++qW (k+1) (r++[t])=_;rw[this];have e:k+1+r.length=k+(s::r).length:=by rw[eJ];omega
  rw[e];simp[qW]
structure RowS(ps:List RP)(scs:List V)(tts:List (List V)):Prop where
 eq:ps=scs.map RP.sc++tts.map RP.tp
 l2:tts.length<=2
 l5:2<=scs.length/\scs.length<=5
 fl:∀v∈scs,FlatW v
 ft:∀t∈tts,(1<=t.length/\t.length<=5)/\∀y∈t,FlatW y
 ln:jH ps=scs.map cW++qW 0 tts
def AnsIs.ft(h:AnsIs a):(1<=a.length/\a.length<=5)/\∀y∈a,FlatW y:=⟨⟨h.flat.1.1,iB h.flat.1.2 Zd⟩,h.flat.2⟩
def DeedG.ft(h:DeedG xs):(1<=xs.length/\xs.length<=5)/\∀y∈xs,FlatW y:=⟨⟨iB Zd h.len.1,h.len.2⟩,h.flat⟩
def RowIs.split{ps:List RP}(h:RowIs ps):∃scs l,RowS ps scs l:=by
 have p:∀ {P:V->Prop},∀v∈([]:List V),P v:=λ_ h=>nomatch h
 cases h with
 | next n t b c e=>
  refine⟨[.str "next",.int n,.int t],[],rfl,Zd,Zs,?_,(λ_ h=>nomatch h),rfl⟩;exact Zfm.mpr ⟨.wd Zk Zk,Zfm.mpr ⟨.num Zo,Zfm.mpr ⟨.num Zo,λ_ h=>nomatch h⟩⟩⟩
 | has a m b c e=>
  refine⟨[.str "has",.str a,.int m],[],rfl,Zd,Zs,?_,(λ_ h=>nomatch h),rfl⟩;exact Zfm.mpr ⟨.wd Zk Zk,Zfm.mpr ⟨.nm b,Zfm.mpr ⟨.num Zo,λ_ h=>nomatch h⟩⟩⟩
 | asked n b c=>
  refine⟨[.str "asked",.int n],[],rfl,Zd,Zs,?_,(λ_ h=>nomatch h),rfl⟩;exact Zfm.mpr ⟨.wd Zk Zk,Zfm.mpr ⟨.num Zo,λ_ h=>nomatch h⟩⟩
 | done n t f g b c e d=>
  refine⟨[.str "done",.int n,.int t],[g],rfl,Zs,Zs,?_,Zfm.mpr ⟨d.is.ft,λ_ h=>nomatch h⟩,?_⟩
  ·exact Zfm.mpr ⟨.wd Zk Zk,Zfm.mpr ⟨.num Zo,Zfm.mpr ⟨.num Zo,λ_ h=>nomatch h⟩⟩⟩
  ·simp[jH,Mc,pC,qW]
 | came n t a k f b c e d i j=>
  refine⟨[.str "came",.int n,.int t,.str a,.str k],[f],rfl,Zs,Zs,?_,Zfm.mpr ⟨j.ft,λ_ h=>nomatch h⟩,?_⟩
  ·exact Zfm.mpr ⟨.wd Zk Zk,Zfm.mpr ⟨.num Zo,Zfm.mpr ⟨.num Zo,Zfm.mpr ⟨.nm d,Zfm.mpr ⟨.ky i,λ_ h=>nomatch h⟩⟩⟩⟩⟩
  ·simp[jH,Mc,pC,qW]
 | kept n t a k f g b c e d i j o=>
  refine⟨[.str "kept",.int n,.int t,.str a,.str k],[f,g],rfl,Zs,Zs,?_,Zfm.mpr ⟨j.ft,Zfm.mpr ⟨o.is.ft,λ_ h=>nomatch h⟩⟩,?_⟩
  ·exact Zfm.mpr ⟨.wd Zk Zk,Zfm.mpr ⟨.num Zo,Zfm.mpr ⟨.num Zo,Zfm.mpr ⟨.nm d,Zfm.mpr ⟨.ky i,λ_ h=>nomatch h⟩⟩⟩⟩⟩
  ·simp[jH,Mc,pC,qW];rfl
theorem Bn:∀(k:Nat)(d:List (List V)),(∀t∈d,∀y∈t,FlatW y)->∀p∈qW k d,p.length<=13/\32∉p.cps.toList/\10∉p.cps.toList
 | k,[],_,p,a=>nomatch a
 | k,t::r,h,p,a=>by
  have f:p∈replicate k ("=":Str)++t.map cW++qW (k+1) r:=a;rcases Zma.mp f with b|b
  ·rcases Zma.mp b with c|c
   ·rw[List.eq_of_mem_replicate c];exact⟨Zk,Zk,Zk⟩
   ·obtain⟨y,e,rfl⟩:=Zmm.mp c;have:=(h t iV y e).txt;exact⟨this.1,this.2.1,(h t iV y e).no10⟩
  ·exact Bn (k+1) r (λs g=>h s (fN _ g)) p b
def RowS.fine{ps:List RP}{scs:List V}(S:RowS ps scs a):(2<=(jH ps).length/\(jH ps).length<=16)/\∀p∈jH ps,p.length<=13/\32∉p.cps.toList/\10∉p.cps.toList:=by
 rw[S.ln];refine⟨?_,λp c=>?_⟩
 ·have f:=S.l5;have d:=S.l2;have ft:=S.ft;rw[gQ,aX];have:(qW 0 a).length<=11:=by
   match a,d,ft with
   | [],_,_=>simp[qW]
   | [t],_,ft=>have:=(ft t Zs).1.2;simp[qW];omega
   | [t,u],_,ft=>have:=(ft t Zs).1.2;have:=(ft u Zs).1.2;simp[qW];omega
  omega
 ·rcases Zma.mp c with h|h
  ·obtain⟨y,b,rfl⟩:=Zmm.mp h;have:=(S.fl y b).txt;exact⟨this.1,this.2.1,(S.fl y b).no10⟩
  ·exact Bn 0 a (λt e=>(S.ft t e).2) p h
def RowS.len{ps:List RP}{scs:List V}(S:RowS ps scs a):(cG ps).length<=250:=by
 have:=Qi (ws:=jH ps) (k:=13) λp b=>(S.fine.2 p b).1
 have h:=S.fine.1;unfold cG;omega
def RowS.no10{ps:List RP}{scs:List V}(S:RowS ps scs a):10∉(cG ps).cps.toList:=by
 unfold cG;rw[El];exact Qg Zd _ λp b=>by
  obtain⟨z,c,rfl⟩:=Zmm.mp b;exact(S.fine.2 z c).2.2
end L2
namespace L2
open PySem PySem.Spec PyProof.Rows PySem.Builtin PySem.Builtin.Str
section
variable {X:Cx}
def yY:V->List V->Hp->VK->Prop:=λx a H Q=>mS x λz=>match a with
 | [.str y]=>(y.length==0)=false/\z.length<=100000/\∀l,H l=none->Q (.ref l) (aH H l (.lst ((Txt.split z y).map V.str)))
 | _=>False
def Kl:Ma X "str.split" yY:=by
 intro f s i H x w v A Q I j m h;unfold yY at h;rw[iG]at h;obtain⟨z,rfl,h⟩:=h;split at h
 ·rename_i y;obtain⟨g,n,q⟩:=h;obtain⟨t,rfl⟩:=j;obtain⟨B,rfl,u,rfl⟩:=m.one;have d:∀(l:List (Str×Tok))(k:Nat),l.map (·.1)=Txt.split z y->EP X f i Q (.ref s.heap.objs.size) {s with heap:=s.heap.push {cls:=.type "list",data:=.seq (strValues l).toArray },toks:=k }:=λl k e=>by
   refine⟨.ref s.heap.objs.size,_,I.laid (t':=k) (o:=.lst ((Txt.split z y).map V.str)) (λb C q=>hV _ q) (cE _) ?_,rfl,q _ (I.hok.fresh (cE _))⟩;refine⟨?_,strValues l,0,by rw[<- e];exact Gx l,W1 _ rfl⟩;rw[aX];have:=split_le z y;exact iB this (iB (show z.length+2<=100002 by omega) Zd)
  have p:z.length<=sizeLine:=iB n Zd;have r:(partsBetween z (occurrences z y 0 z.length (z.length+1)) y.length).length<=sizeLine:=by
   rw[length_partsBetween];have:=StrLaws.occ_length_le z y 0 z.length (z.length+1);exact iB (show _<=100002 by omega) Zd
  cases a:(decide (z.length<y.length)||decide (strKind z<strKind y))
  ·cases c:(occurrences z y 0 z.length (z.length+1)).isEmpty
   ·refine call_meets F.slot_str_split (typeIs_str _ _ _) F.entry_str_split (F.args_str_split_2 _ _) (meets_str_split_sep z y t u a g c p r) ?_;show wants (EP X f i Q) X.xe _ {s with toks:=_,heap:=s.heap.push {cls:=.type "list",data:=.seq (strsFrom s.toks (partsBetween z (occurrences z y 0 z.length (z.length+1)) y.length)).toArray } };rw[strsFrom_eq];exact d (numbered s.toks _) _ ((numbered_texts _ _).trans ((T8 (ne_true_of_eq_false a)).trans (T8 (ne_true_of_eq_false c))).symm)
   ·exact call_meets F.slot_str_split (typeIs_str _ _ _) F.entry_str_split (F.args_str_split_2 _ _) (meets_str_split_not_found z y t u a g c)
     (d [(z,t)] s.toks ((T8 (ne_true_of_eq_false a)).trans (UF c)).symm)
  ·exact call_meets F.slot_str_split (typeIs_str _ _ _) F.entry_str_split (F.args_str_split_2 _ _) (meets_str_split_cannot_occur z y t u a)
    (d [(z,t)] s.toks (UF a).symm)
 ·exact h.elim
def R.cz:XM X "str.split" yY:=⟨Kl⟩
end
open PySem PySem.Spec PyProof.Rows
def Bo:∀ws:List Str,(Txt.join (tx []) ws).cps.toList=(ws.map λp=>p.cps.toList).flatten:=by
 intro ws;have e:Txt.join (tx []) ws=PySem.Str.join (tx []) ws:=StrLaws.glued_eq_join _ ws;rw[e];induction ws with
 | nil=>rfl
 | cons p r a=>
  cases r with
  | nil=>show p.cps.toList=_;simp
  | cons q r=>
   show((p++tx [])++PySem.Str.join (tx []) (q::r)).cps.toList=_;rw[gC,gC,a (by exact StrLaws.glued_eq_join _ _)];simp
theorem aA6{c:Nat}:∀ls:List (List Nat),jn c (ls++[[]])=(ls.map λl=>l++[c]).flatten
 | []=>rfl
 | [l]=>by simp[jn]
 | l::m::r=>by
  have a:=aA6 (c:=c) (m::r);show l++c::jn c ((m::r)++[[]])=_;rw[a];simp
def Hh:("\n":Str)=tx [10]:=by decide +kernel
def Hi(a:List (List RP)):Str:=Txt.join (tx []) (a.map λps=>cG ps++tx [10])
def RowV(H:Hp)(ps:List RP)(v:V):Prop:=∃a,v=.ref a/\RowAt H a ps
def RowsV(H:Hp)(a:List (List RP))(vs:List V):Prop:=Paired (RowV H) a vs/\∀ps∈a,RowIs ps
def RowV.same{ps:List RP}{v:V}(s:Same H b)(h:RowV H ps v):RowV b ps v:=let ⟨a,e,r⟩:=h;⟨a,e,r.same s⟩
def RowsV.same(s:Same H a)(h:RowsV H b vs):RowsV a b vs:=⟨Paired.map' (λ_ _=>RowV.same s) h.1,h.2⟩
def RowAt.tk{ps:List RP}(s:TK H c)(h:RowAt H a ps):RowAt c a ps:=by
 obtain⟨f,e,p⟩:=h;refine⟨f,s _ _ e,Paired.map' (λq x d=>?_) p⟩
 cases q with
 | sc v=>exact d
 | tp i=>obtain⟨b,e,g⟩:=d;exact⟨b,e,s _ _ g⟩
def RowV.tk{ps:List RP}{v:V}(s:TK H b)(h:RowV H ps v):RowV b ps v:=let ⟨a,e,r⟩:=h;⟨a,e,r.tk s⟩
def RowsV.tk(s:TK H a)(h:RowsV H b vs):RowsV a b vs:=⟨Paired.map' (λ_ _=>RowV.tk s) h.1,h.2⟩
theorem Hj{c:Nat}(q:List Nat):∀ls:List (List Nat),jn c (ls++[q])=(ls.map λl=>l++[c]).flatten++q
 | []=>rfl
 | [l]=>by simp[jn]
 | l::m::r=>by
  have a:=Hj (c:=c) q (m::r);show l++c::jn c ((m::r)++[q])=_;rw[a];simp
def Km{prog:Program}{w:World}{h:Heap}{a:WP}{f:Y4}(m:h.MapOf (strKind prog w) a f):∃g:Option eN->Option WF,h.MapOf (wN prog w) a g/\g none=none:=by
 revert m;refine yE3 λo c p=>yA5 λq r s j t=>?_;refine⟨_,⟨o,c,p,q,r,s,λe d=>?_,λk=>rfl⟩,?_⟩
 ·obtain⟨k,b,l⟩:=j e d;exact⟨some (Sum.inr k),b,l⟩
 ·show findBy nIs c none=none;unfold findBy;have:c.find? (λe=>nIs none e.key)=none:=by
   rw[Array.find?_eq_none];intro e d z;obtain⟨k,b,l⟩:=j e d;rcases cQ z with⟨_,i⟩|⟨_,i,_⟩
   ·rw[i]at b;have n:lT (Sum.inr k) .none=true:=b;rw[qC]at n;cases n
   ·cases i
  rw[this];rfl
section
variable {X:Cx}
def Qj(K:W.Frag)(P:Params)(c:Bool):R2:=λx y H Q=>mR y λa=>∃b,KTabT K P a b/\match x with
 | .non=>Q (.bl c) H
 | .str z=>Q (.bl (if c then !(b.lookup z).isSome else (b.lookup z).isSome)) H
 | _=>False
def Va(b:Bool):OpR X (compareOp (if b then .NotIn else .In)) (Qj X.K X.w.params b):=by
 intro e s m H x y v u Q I c d h;unfold Qj at h;rw[bS]at h;obtain⟨a,rfl,i,T,h⟩:=h
 cases x with
 | non=>
  cases c;cases d;obtain⟨f,n,lo,o⟩:=T.map (prog:=X.prog) I.kIn;obtain⟨g,j,l⟩:=Km n;cases b
  ·refine wpAny_in_of (knd:=wN X.prog X.w) (k:=none) rfl lo j ⟨.bl _,H,I.tok _,rfl,?_⟩;rw[l];exact h
  ·refine wpAny_notIn_of (knd:=wN X.prog X.w) (k:=none) rfl lo j ⟨.bl _,H,I.tok _,rfl,?_⟩;rw[l];exact h
 | str z=>
  cases b
  ·exact Py e s m H (.str z) (.ref a) v u Q I c d ⟨i,T,h⟩
  ·exact Kk e s m H (.str z) (.ref a) v u Q I c d ⟨i,T,h⟩
 | _=>exact h.elim
def R.ib{K:W.Frag}{P:Params}(a:X.K=K:=by rfl)(b:X.w.params=P:=by rfl):jG X (compareOp .NotIn) (Qj K P true):=a▸b▸⟨Va true⟩
end
def pE(h:WS.lookup z=some i):(z="add"/\i=1)∨(z="take"/\i=1)∨(z="move"/\i=2)∨(z="send"/\i=2)∨(z="fetch"/\i=2)∨(z="pass"/\i=3):=by
 have m:=dY h;unfold WS at m;simp only [mem_cons,QZZ,or_false,Prod.mk.injEq]at m;exact m
def cO(h:dR x=true):∃z,x=.str z/\isNm z:=by
 unfold dR at h;cases x with
 | str z=>
  rw[cC,Bool.and_eq_true,Bool.and_eq_true]at h;obtain⟨⟨a,b⟩,d⟩:=h;have a:=X4 a;have b:=X4 b;exact⟨z,rfl,Zo,Zo,λc e=>X4 (all_eq_true.mp d c e)⟩
 | _=>cases h
def mM{lo a:Int}{x:V}(h:aQ lo a x=true):∃n,x=.int n/\lo<=n/\n<=a:=by
 cases x with
 | int n=>
  have b:(decide (lo<=n)&&decide (n<=a))=true:=h;rw[Bool.and_eq_true]at b;exact⟨n,rfl,X4 b.1,X4 b.2⟩
 | _=>cases h
def iU(h:bO x ns=true):∃z i,x=.str z/\WS.lookup z=some i/\(ns.length:Int)=i/\(∀y∈ns,dR y=true)/\(cX (.str z) UW=true->eK ns 0≠eK ns 1):=by
 cases x with
 | str z=>
  unfold bO at h;dsimp only at h
  cases a:WS.lookup z with
  | none=>rw[a]at h;cases h
  | some i=>
   rw[a]at h;dsimp only at h;rw[Bool.and_eq_true,Bool.and_eq_true]at h;refine⟨z,i,rfl,a,X4 h.1.1,all_eq_true.mp h.1.2,λc e=>?_⟩;have b:=h.2;rw[c,X2 e]at b;cases b
 | _=>cases h
def Kn{xs:List V}(h:bC xs=true):∃wd n B,DWN wd n xs B:=by
 unfold bC at h;rw[Bool.and_eq_true,Bool.and_eq_true]at h;obtain⟨⟨t,C⟩,D⟩:=h;have t:=X4 t;refine yE0 (iU C) (yE2 λz i=>yA5 λw u l k _=>?_);obtain⟨n,x,_,_⟩:=mM D;have v:=kT t
 match xs,t with
 | [m,d,f],_=>
  have o:m=.str z:=w;have p:f=.int n:=x;obtain⟨a,q,s⟩:=cO (k d (by show d∈[d];simp));subst o q p;have g:i=1:=by rw[<- l,v];rfl
  rcases pE u with⟨rfl,_⟩|⟨rfl,_⟩|⟨_,e⟩|⟨_,e⟩|⟨_,e⟩|⟨_,e⟩
  ·exact⟨_,_,_,⟨⟨a,a,a,_,.add⟩,λ_ h=>nomatch h⟩⟩
  ·exact⟨_,_,_,⟨⟨a,a,a,_,.take⟩,λ_ h=>nomatch h⟩⟩
  all_goals (rw[g]at e;exact T7 e Zd)
 | [m,d,f,j],_=>
  have o:m=.str z:=w;have y:j=.int n:=x;obtain⟨a,q,s⟩:=cO (k d (by show d∈[d,f];simp));obtain⟨b,p,A⟩:=cO (k f (by show f∈[d,f];simp));subst o q p y;have g:i=2:=by rw[<- l,v];rfl
  rcases pE u with⟨_,e⟩|⟨_,e⟩|⟨rfl,_⟩|⟨rfl,_⟩|⟨rfl,_⟩|⟨_,e⟩
  ·rw[g]at e;exact T7 e Zd
  ·rw[g]at e;exact T7 e Zd
  ·exact⟨_,_,_,⟨⟨a,b,a,_,.move⟩,λ_ h=>nomatch h⟩⟩
  ·exact⟨_,_,_,⟨⟨a,a,b,_,.send⟩,Zfm.mpr ⟨s,λ_ h=>nomatch h⟩⟩⟩
  ·exact⟨_,_,_,⟨⟨a,a,b,_,.fetch⟩,Zfm.mpr ⟨s,λ_ h=>nomatch h⟩⟩⟩
  ·rw[g]at e;exact T7 e Zd
 | [m,d,f,j,E],_=>
  have o:m=.str z:=w;have F:E=.int n:=x;obtain⟨a,q,s⟩:=cO (k d (by show d∈[d,f,j];simp));obtain⟨b,p,A⟩:=cO (k f (by show f∈[d,f,j];simp));obtain⟨c,y,G⟩:=cO (k j (by show j∈[d,f,j];simp));subst o q p y F;have g:i=3:=by rw[<- l,v];rfl
  rcases pE u with⟨_,e⟩|⟨_,e⟩|⟨_,e⟩|⟨_,e⟩|⟨_,e⟩|⟨rfl,_⟩
  ·rw[g]at e;exact T7 e Zd
  ·rw[g]at e;exact T7 e Zd
  ·rw[g]at e;exact T7 e Zd
  ·rw[g]at e;exact T7 e Zd
  ·rw[g]at e;exact T7 e Zd
  ·exact⟨_,_,_,⟨⟨a,b,c,_,.pass⟩,Zfm.mpr ⟨s,Zfm.mpr ⟨A,λ_ h=>nomatch h⟩⟩⟩⟩
 | _::_::_::_::_::_::r,_=>
  have:=uJ u;rw[v]at l;simp at l;omega
section
variable {X:Cx}
def yZ:V->List V->Hp->VK->Prop:=λx b H Q=>match x,b with
 | .ref l,[.str z]=>∃a:List Str,H l=some (.lst (a.map V.str))/\Q (.int (a.count z:Nat)) H
 | _,_=>False
theorem wU(z:Str):∀ {zs:List Str}{us:List WF},Vals (zs.map V.str) us->us.countP (rC (.str z))=zs.count z
 | [],[],_=>rfl
 | y::zs,u::us,.cons r a=>by
  rw[List.countP_cons,List.count_cons,wU z a,xU r rfl];rfl
def Ko:Ma X "list.count" yZ:=by
 intro k s t H x m v o Q I d e h;unfold yZ at h;split at h
 ·rename_i l z;obtain⟨a,f,q⟩:=h;cases d;obtain⟨u,rfl,g⟩:=e.one;obtain⟨b,n,r,c,p⟩:=I.lst f;have i:(a.map V.str).all cF=true:=by simp[cF]
  refine call_meets PySem.F.slot_list_count ⟨_,c,rfl⟩ PySem.F.entry_list_count (PySem.F.args_list_count_2 _ _)
   (SeqAt.list_countAt l b.toArray n none #[] u (rC (.str z))) ⟨c,λy j=>eX (x:=.str z) g rfl r i y (by simpa using j),?_⟩
  rw[show b.toArray.toList.countP (rC (.str z))=a.count z from wU z r];exact⟨.int (a.count z:Nat),H,I.tok _,⟨_,rfl⟩,q⟩
 ·exact h.elim
def R.ic:XM X "list.count" yZ:=⟨Ko⟩
end
section
open MeetsSeq SeqAt
def jI(b:Str)(u:Tok)(l:WP)(c:Array DictEntry)(n:Nat)(dd:Option WP)(sl:Array (Option WF)) :
  Meets (Builtin.«str.__eq__» ⟨[.str b u,.ref l],[]⟩) (λ_ R s=>s.heap.get? l=some {cls:=.type "dict",dict:=dd,data:=.dict c n,slots:=sl }/\R (.ok (.ret .notImplemented)) s):=
 .of_wp λe w A R s h=>by obtain⟨f,g,d,tk,os⟩:=s;obtain⟨a,h⟩:=h;wp_walk using AutoSeq1.wpAny_loadPart' a,wpAny_load a;exact⟨_,rfl,h⟩
def oB(l b:WP)(a:Array Value)(c:Array DictEntry)(n e:Nat)(dd f:Option WP)(sl i:Array (Option WF)) :
  Meets (Builtin.«tuple.__eq__» ⟨[.ref l,.ref b],[]⟩) (λ_ R s=>s.heap.get? l=some {cls:=.type "tuple",dict:=dd,data:=.seq a n,slots:=sl }/\s.heap.get? b=some {cls:=.type "dict",dict:=f,data:=.dict c e,slots:=i }/\R (.ok (.ret .notImplemented)) s):=
 .of_wp λm w A R s h=>by obtain⟨o,g,d,tk,os⟩:=s;obtain⟨j,k,h⟩:=h;have f1:=F.sub_dict_tuple;wp_walk using AutoSeq1.wpAny_loadPart' j,AutoSeq1.wpAny_loadPart' k;exact⟨_,rfl,h⟩
variable {prog:Program}{w:World}{A:Around}{E:Y5}{s:UV}
def jX(sl:Slot "dict" r "dict.__eq__")(b:s.TypeIs (.ref a) "dict")(c:s.TypeIs y T)(hs:isSubtype (.type T) (.type "dict")=pure false)(Q:Y5)(h:Q .notImplemented s):wpAny (model prog w) A (call (.builtin "dict.__eq__") [.ref a,y]) Q E s:=by
 refine wpAny_call_entry sl b PySem.F.entry_dict_eq ?_ (PySem.F.args_dict_eq_2 _ _);show wpAny _ _ (Builtin.Dict.dictSlotArgs "__eq__" ⟨[.ref a,y],[]⟩>>=_) _ _ s;refine Y3 ?_;unfold Builtin.Dict.dictSlotArgs;refine Y3 (wpAny_notOrdered_dict b ?_);show wpAny _ _ (pure (Value.ref a,y)) _ _ s;refine Y2 ?_;refine Y3 (wpAny_isInstance (T:=T) c hs ?_);simp only [Bool.not_false,if_true];refine Y3 (wpAny_rule ?_);exact Y2 ⟨_,rfl,h⟩
def Bp(s:UV)(a:WP):Prop:=∃b n c sl,s.heap.get? a=some {cls:=.type "dict",dict:=c,data:=.dict b n,slots:=sl }
def rX(b:Str)(u:Tok)(h:Bp s a)(f:A.units<cLine):RcAt A s (.ref a) (.str b u) false:=λprog w E Q c=>by
 revert h;refine yE4 λg n i sl d=>?_;have e:s.TypeIs (.ref a) "dict":=⟨_,d,rfl⟩;exact rc_eq_decline_or (k:=false) e (typeIs_str s b u) Zd F.sub_str_dict F.slot_dict_eq F.slot_str_eq_refl
  (λ_ c=>jX F.slot_dict_eq e (typeIs_str s b u) F.sub_str_dict _ c)
  (λ_ c=>call_meets F.slot_str_eq_refl (typeIs_str s b u) F.entry_str_eq (F.args_str_eq_2 _ _) (jI b u a g n i sl) ⟨d,c⟩)
  (λ_ c=>wpAny_of_eq (rfl:isSame (.ref a) (.str b u)=pure false) c) (.inr f) c
def Bq(b:Str)(u:Tok)(h:Bp s a)(c:A.units<cLine):EqAt A s (.ref a) (.str b u) false:=λprog w E Q d=>by
 unfold eqBool;refine wpAny_holding ?_;refine wpAny_ite_split (λe=>T7 (eq_of_beq e) nofun) (λ_=>?_);exact Y3 (rX b u h c prog w E _ (wpAny_truthy_bool d))
def Br(b:Str)(u:Tok)(h:Bp s a)(f:A.units<cLine):RcAt A s (.str b u) (.ref a) false:=λprog w E Q c=>by
 revert h;refine yE4 λg n i sl d=>?_;have e:s.TypeIs (.ref a) "dict":=⟨_,d,rfl⟩;exact rc_eq_decline_or (k:=false) (typeIs_str s b u) e Zd F.sub_dict_str F.slot_str_eq F.slot_dict_eq_refl
  (λ_ c=>call_meets F.slot_str_eq (typeIs_str s b u) F.entry_str_eq (F.args_str_eq_2 _ _) (jI b u a g n i sl) ⟨d,c⟩)
  (λ_ c=>jX F.slot_dict_eq_refl e (typeIs_str s b u) F.sub_str_dict _ c)
  (λ_ c=>wpAny_of_eq (rfl:isSame (.str b u) (.ref a)=pure false) c) (.inr f) c
def Bs(b:Str)(u:Tok)(h:Bp s a)(c:A.units<cLine):EqAt A s (.str b u) (.ref a) false:=λprog w E Q d=>by
 unfold eqBool;refine wpAny_holding ?_;refine wpAny_ite_split (λe=>T7 (eq_of_beq e) nofun) (λ_=>?_);exact Y3 (Br b u h c prog w E _ (wpAny_truthy_bool d))
def oM(d:s.heap.IsTuple l c)(f:Bp s b):l≠b:=λe=>by
 subst e;obtain⟨o,g,h,_⟩:=d;obtain⟨i,n,j,sl,a⟩:=f;rw[g]at a;cases a;exact T7 h Zs
def vH(f:s.heap.IsTuple l e)(g:Bp s b)(o:A.units<cLine):RcAt A s (.ref l) (.ref b) false:=λprog w E Q h=>by
 have p:l≠b:=oM f g;obtain⟨⟨y,q,x,sl⟩,a,i,n,j⟩:=id f;refine yE0 (id g) (yE4 λr t u v d=>?_);simp only at i j;subst i j;have m:s.TypeIs (.ref b) "dict":=⟨_,d,rfl⟩;exact(rc_eq_decline_or (k:=false) ⟨_,a,rfl⟩ m Zd F.sub_dict_tuple F.slot_tuple_eq F.slot_dict_eq_refl
  (λ_ c=>call_meets F.slot_tuple_eq ⟨_,a,rfl⟩ F.entry_tuple_eq (F.args_tuple_eq_2 _ _) (oB l b e r n t q u sl v) ⟨a,d,c⟩)
  (λ_ c=>jX F.slot_dict_eq_refl m (T:="tuple") (show s.TypeIs (.ref l) "tuple" from⟨_,a,rfl⟩) F.sub_tuple_dict _ c)
  (λ_ c=>wpAny_isSame_ref_other' p a d Zs c) (.inr o) h)
def vI(a:s.heap.IsTuple l d)(c:Bp s b)(e:A.units<cLine):EqAt A s (.ref l) (.ref b) false:=.of_refs (oM a c) (vH a c e)
end
def cU:V->V->Bool
 | .str u,.str z=>decide (u=z)
 | _,_=>false
def bP:List V->List V->Bool
 | [],[]=>true
 | x::a,y::b=>cU x y&&bP a b
 | _,_=>false
def qJ(H:Hp)(x:V)(a:List V):Bool:=match bA H x with|some b=>bP b a|none=>false
def zA(a:List V):Prop:=∀y∈a,∃z,y=V.str z
def Qk(h:cF x=true):xT x (.str z)=cU x (.str z):=by
 cases x with
 | str u=>show(u==z)=decide (u=z);rw[Bool.eq_iff_iff];simp
 | _=>first|rfl|cases h
def Ql(x y:V):cU x y=cU y x:=by
 cases x with
 | str u=>cases y with
  | str z=>show decide (u=z)=decide (z=u);rw[decide_eq_decide];exact⟨Eq.symm,Eq.symm⟩
  | _=>rfl
 | _=>cases y<;>rfl
theorem pF:∀xs a:List V,((List.range (min xs.length a.length)).all (λj=>cU (xs.getD j .non) (a.getD j .non))&&xs.length==a.length)=bP xs a
 | [],[]=>rfl
 | [],_::_=>rfl
 | _::_,[]=>rfl
 | x::xs,y::a=>by
  have b:=pF xs a;show _=(cU x y&&bP xs a);rw[<- b,eJ,eJ,Nat.succ_min_succ,List.range_succ_eq_map,all_cons,all_map];have e:(xs.length+1==a.length+1)=(xs.length==a.length):=by rw[Bool.eq_iff_iff];simp
  rw[e,Bool.and_assoc];rfl
theorem wV:∀xs a:List V,bP xs a=bP a xs
 | [],[]=>rfl
 | [],_::_=>rfl
 | _::_,[]=>rfl
 | x::xs,y::a=>by show(_&&_)=(_&&_);rw[Ql x y,wV xs a]
theorem wW:∀ {a:List V},zA a->bP a a=true
 | [],_=>rfl
 | y::a,h=>by
  obtain⟨z,rfl⟩:=h y iV;show(decide (z=z)&&bP a a)=true;rw[wW λy b=>h y (fN _ b),X2 rfl];rfl
section
variable {X:Cx}
def tF(I:Inv X g m H s)(h:H a=some (.dK i)):Bp s a:=by
 obtain⟨z,b,q,o,j⟩:=Nf I.hok h;obtain⟨⟨p,d,n,sl⟩,r,t,k,l,b,_⟩:=j.mapOf;obtain⟨c,e,f⟩:=l;simp only at c e f b;subst c e f b;exact⟨_,_,_,_,k⟩
def aA7{v:WF}(I:Inv X f i H s)(c:A.units<cLine)(h:Pc H x)(b:RelV x v):SeqAt.EqAt A s v (.str z t) (cU x (.str z)):=by
 rcases h with⟨e,_⟩|⟨a,k,rfl,h|h⟩|⟨a,j,rfl,h⟩
 ·rw[<- Qk e];exact tX b ⟨t,rfl⟩ e rfl
 ·cases b;obtain⟨g,_,d,_⟩:=I.list (QYX h);exact SeqAt.EqAt.list_str z t d.isList c
 ·cases b;obtain⟨g,_,d,_⟩:=I.tuple (QYY h);exact SeqAt.EqAt.tuple_str z t d c
 ·cases b;exact Bq z t (tF I h) c
def Vb{v:WF}(I:Inv X g j H s)(c:A.units<cLine)(h:Pc H x)(b:RelV x v):SeqAt.EqAt A s (.str z t) v (cU (.str z) x):=by
 rcases h with⟨f,_⟩|⟨a,l,rfl,h|h⟩|⟨a,k,rfl,h⟩
 ·have e:cU (.str z) x=xT (.str z) x:=by
   cases x with
   | str u=>show decide (z=u)=(z==u);rw[Bool.eq_iff_iff];simp
   | _=>first|rfl|cases f
  rw[e];exact tX ⟨t,rfl⟩ b rfl f
 ·cases b;obtain⟨i,_,d,_⟩:=I.list (QYX h);exact SeqAt.EqAt.str_list z t d.isList c
 ·cases b;obtain⟨i,_,d,_⟩:=I.tuple (QYY h);exact SeqAt.EqAt.str_tuple z t d c
 ·cases b;exact Bs z t (tF I h) c
def Hk:R2:=λx y H Q=>mS y λz=>Pc H x/\Q (.bl (cU x (.str z))) H
def Vc(l:X.A.units+64<cLine):OpR X (compareOp .Eq) Hk:=by
 intro f s j H x y v u Q I c d h;unfold Hk at h;rw[iG]at h;obtain⟨z,rfl,b,q⟩:=h;rcases b with⟨i,_⟩|⟨a,m,rfl,b|b⟩|⟨a,k,rfl,b⟩
 ·refine aCb f s j H x (.str z) v u Q I c d ?_;cases x<;>first|exact q|cases i
 ·cases c;obtain⟨t,rfl⟩:=d;obtain⟨g,_,e,_⟩:=I.list (QYX b);exact SeqAt.RcAt.list_str z t e.isList Zo _ _ _ _ ⟨.bl _,H,I,rfl,q⟩
 ·cases c;obtain⟨t,rfl⟩:=d;obtain⟨g,_,e,_⟩:=I.tuple (QYY b);exact SeqAt.RcAt.tuple_str z t e Zo _ _ _ _ ⟨.bl _,H,I,rfl,q⟩
 ·cases c;obtain⟨t,rfl⟩:=d;exact rX z t (tF I b) Zo _ _ _ _ ⟨.bl _,H,I,rfl,q⟩
def R.dh(a:X.A.units+64<cLine):jG X (compareOp .Eq) Hk:=⟨Vc a⟩
def Qm:R2:=λx y H Q=>mR x λa=>mR y λb=>∃c d,H a=some (.tup c)/\H b=some (.tup d)/\zA d/\(∀y∈c,Pc H y)/\Q (.bl (bP c d)) H
def Vd(R:X.A.units+64<cLine):OpR X (compareOp .Eq) Qm:=by
 intro P s S H x y v u Q I w B h;unfold Qm at h;rw[bS]at h;obtain⟨a,rfl,h⟩:=h;rw[bS]at h;obtain⟨b,rfl,d,c,g1,g2,C,D,q⟩:=h;cases w;cases B;obtain⟨g,l,E,_⟩:=I.tuple (QYY g1);obtain⟨f,m,F,_⟩:=I.tuple (QYY g2);have G:g.length=d.length:=l.length.symm;have J:f.length=c.length:=m.length.symm;have r:∀j (i:j<g.toArray.size) (k:j<f.toArray.size),SeqAt.EqAt X.A.in1 s g.toArray[j] f.toArray[j] (cU (d.getD j .non) (c.getD j .non)):=λj i k=>by
  rw[iA]at i k;obtain⟨n,K⟩:=Paired.get' (j:=j) l i;obtain⟨o,p⟩:=Paired.get' (j:=j) m k;have L:d.getD j .non=d[j]:=by simp[List.getD,n]
  have M:c.getD j .non=c[j]:=by simp[List.getD,o]
  rw[L,M];obtain⟨z,N⟩:=C c[j] (getElem_mem o);rw[N]at p ⊢;obtain⟨t,O⟩:=p;rw[show f.toArray[j]=f[j] by simp,O];simpa using aA7 (z:=z) (t:=t) (A:=X.A.in1) I (by rw[nF];omega) (D _ (getElem_mem n)) K
 have e:((List.range (min g.toArray.size f.toArray.size)).all (λj=>cU (d.getD j .non) (c.getD j .non))&&g.toArray.size==f.toArray.size)=bP d c:=by
  rw[iA,iA,G,J];exact pF d c
 have key:=SeqAt.RcAt.tuples (A:=X.A) (s:=s) E F Zo r;rw[e]at key;exact key _ _ _ _ ⟨.bl _,H,I,rfl,q⟩
def R.ie(a:X.A.units+64<cLine):jG X (compareOp .Eq) Qm:=⟨Vd a⟩
def Qn:R2:=λx y H Q=>mR y λp=>∃a:List (WP×List V),H p=some (.lst (a.map λq=>V.ref q.1))/\(∀q∈a,H q.1=some (.tup q.2)/\zA q.2)/\Tg H x/\Q (.bl (a.any λq=>qJ H x q.2)) H
def eIn(H:Hp)(x:V):WF->Bool
 | .ref b=>(match H b with|some (.tup a)=>qJ H x a|_=>false)
 | _=>false
def aA8{v:WF}(I:Inv X D S H s)(U:A.units+8<cLine)(tg:Tg H x)(f:RelV x v)(g:H b=some (.tup c))(p:zA c):SeqAt.EqAt A s (.ref b) v (eIn H x (.ref b)):=by
 have F:eIn H x (.ref b)=qJ H x c:=by unfold eIn;dsimp only;rw[g]
 rw[F];obtain⟨i,q,k,_⟩:=I.tuple (QYY g);rcases tg.1 with⟨r,_⟩|⟨a,d,rfl,h|h⟩|⟨a,T,rfl,h⟩
 ·have e:qJ H x c=false:=by cases x<;>first|rfl|cases r
  rw[e];cases x with
  | non=>cases f;exact SeqAt.EqAt.tuple_none k Zo
  | bl n=>cases f;exact SeqAt.EqAt.tuple_bool n k Zo
  | int n=>obtain⟨t,rfl⟩:=f;exact SeqAt.EqAt.tuple_int n t k Zo
  | str n=>obtain⟨t,rfl⟩:=f;exact SeqAt.EqAt.tuple_str n t k Zo
  | _=>cases r
 ·cases f;have e:qJ H (.ref a) c=false:=by unfold qJ bA;dsimp only;rw[h]
  rw[e];obtain⟨l,_,G,_⟩:=I.list (QYX h);exact SeqAt.EqAt.tuple_list k G.isList Zo
 ·cases f;have e:qJ H (.ref a) c=bP c d:=by unfold qJ;rw[cD h];exact wV d c
  rw[e];have J:=(tg.2 a d rfl h).2;by_cases u:b=a
  ·subst u;rw[g]at h;cases h;rw[wW p];exact SeqAt.EqAt.same _
  obtain⟨l,w,K,_⟩:=I.tuple (QYY h);have L:l.length=d.length:=w.length.symm;have M:i.length=c.length:=q.length.symm;have E:∀j (m:j<i.toArray.size) (o:j<l.toArray.size),SeqAt.EqAt A.in1 s i.toArray[j] l.toArray[j] (cU (c.getD j .non) (d.getD j .non)):=λj m o=>by
   rw[iA]at m o;obtain⟨y,B⟩:=Paired.get' (j:=j) q m;obtain⟨C,N⟩:=Paired.get' (j:=j) w o;have O:c.getD j .non=c[j]:=by simp[List.getD,y]
   have P:d.getD j .non=d[j]:=by simp[List.getD,C]
   rw[O,P];obtain⟨z,Q⟩:=p c[j] (getElem_mem y);rw[Q]at B ⊢;obtain⟨t,R⟩:=B;rw[show i.toArray[j]=i[j] by simp,R];simpa using Vb (z:=z) (t:=t) (A:=A.in1) I (by rw[nF];omega) (J _ (getElem_mem C)) N
  have e:((List.range (min i.toArray.size l.toArray.size)).all (λj=>cU (c.getD j .non) (d.getD j .non))&&i.toArray.size==l.toArray.size)=bP c d:=by
   rw[iA,iA,L,M];exact pF c d
  have key:=SeqAt.RcAt.tuples (A:=A) (s:=s) k K Zo E;rw[e]at key;exact SeqAt.EqAt.of_refs u key
 ·cases f;have e:qJ H (.ref a) c=false:=by unfold qJ bA;dsimp only;rw[h]
  rw[e];exact vI k (tF I h) Zo
def Ve(F:X.A.units+64<cLine):OpR X (compareOp .In) Qn:=by
 intro E s G H x y v u Q I l m h;unfold Qn at h;rw[bS]at h;obtain⟨p,rfl,a,g,b,tg,q⟩:=h;cases m;obtain⟨c,r,d,j⟩:=I.list (QYX g);have f:c=a.map λq=>Value.ref q.1:=by
  clear q b g d j;induction a generalizing c with
  | nil=>cases r;rfl
  | cons z a i=>cases r with
   | cons r t=>cases r;rw[i _ t];rfl
 refine SeqAt.in_listAt (eIn H x) d.isList (λw k=>?_) ⟨.bl _,H,I,rfl,?_⟩
 ·rw[f]at k;have n:w∈a.map λq=>Value.ref q.1:=by simpa using k
  obtain⟨z,o,rfl⟩:=Zmm.mp n;obtain⟨A,B⟩:=b z o;exact aA8 I (by rw[nF];omega) tg l A B
 ·have e:c.toArray.any (eIn H x)=a.any λq=>qJ H x q.2:=by
   rw[f,List.any_toArray,any_map];clear q f r d j g;induction a with
   | nil=>rfl
   | cons z a i=>
    rw[any_cons,any_cons,i λq C=>b q (fN _ C)]
    congr 1
    show(match H z.1 with|some (.tup D)=>qJ H x D|_=>false)=_;rw[(b z iV).1]
  rw[e];exact q
def R.ig(a:X.A.units+64<cLine):jG X (compareOp .In) Qn:=⟨Ve a⟩
end
def Tz(H:Hp)(x:V):Prop:=Pc H x/\∀a b,x=.ref a->H a=some (.tup b)->b.length<=1000/\∀y∈b,Tg H y
def Tz.tg(h:Tz H x):Tg H x:=⟨h.1,λa b e g=>⟨(h.2 a b e g).1,λy c=>((h.2 a b e g).2 y c).1⟩⟩
def dnW(xs:List V):Str:=match xs with|.str u::_=>u|_=>""
def dnN(xs:List V):Int:=match eK xs (-1) with|some (.int n)=>n|_=>0
def Vf(xs:List V):List Str:=match xs with
 | [.str u,.str h,.str _,.int _]=>if u="move" then [] else [h]
 | [.str _,.str h,.str g,.str _,.int _]=>[h,g]
 | _=>[]
def DWN.dn{wd:Str}(h:DWN wd n xs a):dnW xs=wd/\dnN xs=n/\Vf xs=a.map (·.1):=by
 refine yE0 h.ex (yE4 λone c nm d b=>?_)
 cases b with
 | add=>exact⟨rfl,rfl,rfl⟩
 | take=>exact⟨rfl,rfl,rfl⟩
 | move=>exact⟨rfl,rfl,show(if ("move":Str)="move" then ([]:List Str) else [one])=[] from UF rfl⟩
 | send=>exact⟨rfl,rfl,show(if ("send":Str)="move" then ([]:List Str) else [one])=[one] from T8 Zk⟩
 | fetch=>exact⟨rfl,rfl,show(if ("fetch":Str)="move" then ([]:List Str) else [one])=[one] from T8 Zk⟩
 | pass=>exact⟨rfl,rfl,rfl⟩
def oC(H:Hp)(x y:V):Bool:=match bA H x with|some a=>iF H (dnW a) (Vf a) (dnN a) y|none=>false
def iH(H:Hp)(k x:V):Bool:=match k with|.str kd=>bJ H kd x|_=>false
def zB(H:Hp)(xs:List V):Bool:=match xs with
 | .str wd::r=>(match PTS.lookup wd with
  | some a=>decide (r.length=a.length)&&(a.zip r).all (λq=>iH H q.1 q.2)&&(!decide (wd="kept")||oC H (r.getD 4 .non) (r.getD 5 .non))
  | none=>false)
 | _=>false
def sQ(H:Hp)(x:V):Bool:=match bA H x with|some a=>zB H a|none=>false
def mO:Sp:=λb H Q _=>∃x,b=[x]/\Tz H x/\∀a,Same H a->Q (.bl (sQ H x)) a
def Em{kd:Str}(s:Same H a)(h:Pc H x):bJ a kd x=bJ H kd x:=by unfold bJ;rw[pB s h,uP s h]
def Qo(b:bA H x=some xs):∃a,x=.ref a/\H a=some (.tup xs):=by
 unfold bA at b;split at b
 ·rename_i a;refine⟨a,rfl,?_⟩;split at b
  ·rename_i c e;rw[e,Option.some.inj b]
  ·cases b
 ·cases b
def En(H:Hp)(x:V):(cR H x=.non/\sQ H x=false)∨∃u r a,cR H x=.str u/\bA H x=some (.str u::r)/\x=.ref a/\H a=some (.tup (.str u::r)):=by
 cases b:bA H x with
 | none=>left;unfold cR sQ;rw[b];exact⟨rfl,rfl⟩
 | some c=>
  obtain⟨a,rfl,g⟩:=Qo b
  cases c with
  | nil=>left;unfold cR sQ;rw[b];exact⟨rfl,rfl⟩
  | cons y r=>
   cases y with
   | str u=>exact .inr ⟨u,r,a,by unfold cR;rw[b];rfl,rfl,rfl,g⟩
   | _=>left;unfold cR sQ;rw[b];exact⟨rfl,rfl⟩
def wX{wd:Str}(h:PTS.lookup wd=some b):zA b/\1<=b.length/\b.length<=6/\(wd="kept"->b=[.str "number",.str "turn",.str "name",.str "key",.str "deed",.str "answer"]):=by
 have m:=dY h;unfold PTS at m;simp only [mem_cons,QZZ,or_false,Prod.mk.injEq]at m;have a:∀c:List Str,zA (c.map V.str):=λc y d=>by obtain⟨z,_,e⟩:=Zmm.mp d;exact⟨z,e.symm⟩
 rcases m with⟨rfl,rfl⟩|⟨rfl,rfl⟩|⟨rfl,rfl⟩|⟨rfl,rfl⟩|⟨rfl,rfl⟩|⟨rfl,rfl⟩
 ·exact⟨a ["next","turn"],Zs,Zs,λe=>T7 e Zk⟩
 ·exact⟨a ["name","amount"],Zs,Zs,λe=>T7 e Zk⟩
 ·exact⟨a ["number","turn","name","key","deed","answer"],Zs,Zs,λ_=>rfl⟩
 ·exact⟨a ["number","turn","name","key","deed"],Zs,Zs,λe=>T7 e Zk⟩
 ·exact⟨a ["number"],Zs,Zs,λe=>T7 e Zk⟩
 ·exact⟨a ["number","turn","answer"],Zs,Zs,λe=>T7 e Zk⟩
def pG(H:Hp)(x:V):bJ H "deed" x=cH H x:=by
 unfold bJ;rw[show BDS.lookup ("deed":Str)=none by decide +kernel];dsimp only;rw[T8 Zk,T8 Zk,UF rfl]
def qK(H:Hp)(x:V):bJ H "answer" x=gT H x:=by
 unfold bJ;rw[show BDS.lookup ("answer":Str)=none by decide +kernel];dsimp only;rw[T8 Zk,T8 Zk,T8 Zk]
def pH(H:Hp)(x:V):bJ H "name" x=dR x:=by
 unfold bJ;rw[show BDS.lookup ("name":Str)=none by decide +kernel];dsimp only;rw[UF rfl]
def wY(H:Hp)(x:V):bJ H "key" x=bM x (LET++oH) 12:=by
 unfold bJ;rw[show BDS.lookup ("key":Str)=none by decide +kernel];dsimp only;rw[T8 Zk,UF rfl]
def iM(H:Hp)(x:V):bJ H "number" x=aQ 1 999999 x:=rfl
def Eo(H:Hp)(x:V):bJ H "next" x=aQ 1 1000000 x:=rfl
def kX(H:Hp)(x:V):bJ H "turn" x=aQ 0 1000000000000 x:=rfl
def zC(H:Hp)(x:V):bJ H "amount" x=aQ 1 1000000000000 x:=rfl
def uQ(h:cH H x=true):∃a xs wd n b,x=.ref a/\H a=some (.tup xs)/\bC xs=true/\DWN wd n xs b:=by
 unfold cH at h;split at h
 ·rename_i a;split at h
  ·rename_i xs e;refine yE0 (Kn h) (yE3 λwd n b c=>?_);exact⟨a,xs,wd,n,b,rfl,e,h,c⟩
  ·cases h
 ·cases h
def zD{wd:Str}(g:H a=some (.tup xs))(h:DWN wd n xs b):oC H (.ref a) y=iF H wd (b.map (·.1)) n y:=by
 unfold oC;rw[cD g];obtain⟨c,d,e⟩:=h.dn;show iF H (dnW xs) (Vf xs) (dnN xs) y=_;rw[c,d,e]
theorem Qp:∀l:List Nat,∃ps:List (List Nat),ps≠[]/\(∀p∈ps,32∉p)/\l=jn 32 ps
 | []=>⟨[[]],Zs,Zs,rfl⟩
 | c::l=>by
  obtain⟨ps,d,a,e⟩:=Qp l
  cases ps with
  | nil=>exact T7 rfl d
  | cons p r=>
   by_cases b:c=32
   ·refine⟨[]::p::r,Zs,Zfm.mpr ⟨Zs,a⟩,?_⟩;show c::l=[]++32::jn 32 (p::r);rw[<- e,b];rfl
   ·refine⟨(c::p)::r,Zs,Zfm.mpr ⟨?_,(Zfm.mp a).2⟩,?_⟩
    ·simp only [mem_cons,not_or];exact⟨λe=>b e.symm,(Zfm.mp a).1⟩
    ·rw[e];cases r with
     | nil=>rfl
     | cons q r=>rfl
def Qq(z:Str):∃ws:List Str,ws≠[]/\(∀p∈ws,32∉p.cps.toList)/\z=jw ws:=by
 obtain⟨ps,a,b,e⟩:=Qp z.cps.toList;refine⟨ps.map tx,by simpa using a,λp h=>?_,?_⟩
 ·obtain⟨q,c,rfl⟩:=Zmm.mp h;simpa [tx]using b q c
 ·rw[oK,map_map];have:ps.map ((λp:Str=>p.cps.toList)∘tx)=ps:=by
   have h:∀p:List Nat,((λp:Str=>p.cps.toList)∘tx) p=p:=λp=>by simp[tx]
   rw[show((λp:Str=>p.cps.toList)∘tx)=_root_.id from funext h,map_id]
  rw[this,<- e,lY]
def Occ(l:List Nat)(i:Nat):Prop:=(l.drop i).take 3=[32,61,32]
def zE(h:Occ l i):l[i]?=some 32:=by
 have e:=congrArg (λl=>l[0]?) h;simpa [List.getElem?_take,List.getElem?_drop]using e
theorem Ep:∀(ps:List (List Nat)),(∀p∈ps,32∉p)->∀i,Occ (jn 32 ps) i->∃A B,A≠[]/\B≠[]/\ps=A++[61]::B/\i=(jn 32 A).length
 | [],_,i,h=>by have:=zE h;simp[jn]at this
 | [p],f,i,h=>by
  have:=zE h;exact T7 (sW this) (f p Zs)
 | p::q::r,f,i,h=>by
  have l:=f p Zs;have g:=f q Zs;rcases Nat.lt_trichotomy i p.length with hi|hi|hi
  ·have:=zE h;rw[show jn 32 (p::q::r)=p++32::jn 32 (q::r) from rfl,getElem?_append_left hi]at this;exact T7 (sW this) l
  ·subst hi;unfold Occ at h;rw[show jn 32 (p::q::r)=p++32::jn 32 (q::r) from rfl,drop_left' rfl]at h;have b:(jn 32 (q::r)).take 2=[61,32]:=by
    rw[List.take_succ_cons]at h;exact(List.cons.inj h).2
   cases r with
   | nil=>
    have:32∈q:=mem_of_mem_take (show 32∈q.take 2 by rw[show q.take 2=[61,32] from b];simp);exact T7 this g
   | cons j k=>
    rw[show jn 32 (q::j::k)=q++32::jn 32 (j::k) from rfl]at b;match q,g,b with
    | [],_,b=>simp at b
    | [c],_,b=>
     have:c=61:=by simpa using b
     subst this;exact⟨[p],j::k,Zs,Zs,rfl,rfl⟩
    | c::d::u,g,b=>
     have:d=32:=by simp at b;exact b.2
     subst this;exact T7 Zs g
  ·have m:Occ (jn 32 (q::r)) (i-p.length-1):=by
    unfold Occ at h ⊢;rw[show jn 32 (p::q::r)=p++32::jn 32 (q::r) from rfl]at h;have:i=p.length+((i-p.length-1)+1):=by omega
    rw[this,<- List.drop_drop,drop_left' rfl,List.drop_succ_cons]at h;exact h
   refine yE0 (Ep (q::r) (λx t=>f x (fN _ t)) _ m) (yE2 λA B=>yA4 λn o e s=>?_);refine⟨p::A,B,Zs,o,by rw[e];rfl,?_⟩
   cases A with
   | nil=>exact T7 rfl n
   | cons a A=>
    show i=(p++32::jn 32 (a::A)).length;rw[gQ,eJ,<- s];omega
def Vg(A B:List Nat)(d:∀i,i<A.length->¬ Occ (A++32::61::32::B) i):Txt.partition (tx (A++32::61::32::B)) (tx [32,61,32])=(tx A,tx [32,61,32],tx B):=by
 have a:(tx (A++32::61::32::B)).length=A.length+(B.length+3):=by rw[dC];simp
 have b:∀i,PySem.StrLaws.At (tx (A++32::61::32::B)) (tx [32,61,32]) (tx (A++32::61::32::B)).length i↔(i+3<=A.length+(B.length+3)/\((A++32::61::32::B).drop i).take 3=[32,61,32]):=λi=>by
  unfold PySem.StrLaws.At;rw[a,dC];have e:PySem.Builtin.Str.subAt (tx (A++32::61::32::B)) (tx [32,61,32]) i=decide (((A++32::61::32::B).drop i).take 3=[32,61,32]):=by
   unfold PySem.Builtin.Str.subAt tx;rw[Bool.eq_iff_iff,decide_eq_true_iff,beq_iff_eq];simp[Str.length,List.extract_eq_drop_take]
  rw[e,decide_eq_true_iff];exact Iff.rfl
 have c:PySem.StrLaws.At (tx (A++32::61::32::B)) (tx [32,61,32]) (tx (A++32::61::32::B)).length A.length:=by
  rw[b];refine⟨Zo,?_⟩;simp
 rcases PySem.StrLaws.occ_head (tx (A++32::61::32::B)) (tx [32,61,32]) 1 (cE _) with⟨_,h⟩|⟨i,r,e,f,g⟩
 ·exact T7 c (h _)
 ·have:i=A.length:=by
   rcases Nat.lt_trichotomy i A.length with h|h|h
   ·exact T7 ((b i).mp f).2 (d i h)
   ·exact h
   ·exact T7 c (g _ h)
  subst this;unfold Txt.partition;rw[e];dsimp only;rw[wR,wR,a];simp[dC];exact qU Zo
def Vh(l:List Nat)(h:∀i,¬ Occ l i):Txt.partition (tx l) (tx [32,61,32])=(tx l,Str.empty,Str.empty):=by
 rcases PySem.StrLaws.occ_head (tx l) (tx [32,61,32]) 1 (cE _) with⟨e,_⟩|⟨i,r,e,a,b⟩
 ·unfold Txt.partition;rw[e]
 ·exfalso;refine h i ?_;unfold PySem.StrLaws.At at a;have e:PySem.Builtin.Str.subAt (tx l) (tx [32,61,32]) i=decide ((l.drop i).take 3=[32,61,32]):=by
   unfold PySem.Builtin.Str.subAt tx;rw[Bool.eq_iff_iff,decide_eq_true_iff,beq_iff_eq];simp[Str.length,List.extract_eq_drop_take]
  rw[e,decide_eq_true_iff]at a;exact a.2
def brk:List Str->Option (List Str×List Str)
 | []=>none
 | z::r=>if z="="/\r≠[] then some ([],r) else (brk r).map λq=>(z::q.1,q.2)
theorem mP:∀ {r A B:List Str},brk r=some (A,B)->r=A++("=":Str)::B/\B≠[]/\∀z∈A,z≠"="
 | [],A,B,h=>by cases h
 | z::r,A,B,h=>by
  unfold brk at h;by_cases a:z="="/\r≠[]
  ·rw[UF a]at h;cases h;exact⟨by rw[a.1];rfl,a.2,λ_ h=>nomatch h⟩
  ·rw[T8 a]at h;cases e:brk r with
   | none=>rw[e]at h;cases h
   | some q=>
    rw[e]at h;obtain⟨g,i⟩:=q;cases h;obtain⟨b,c,d⟩:=mP e;refine⟨by rw[b];rfl,c,Zfm.mpr ⟨λf=>a ⟨f,?_⟩,d⟩⟩;rw[b];simp
theorem uR:∀ {r:List Str},brk r=none->∀A B,r=A++("=":Str)::B->B=[]
 | [],_,A,B,e=>by simp at e
 | z::r,h,A,B,e=>by
  unfold brk at h;by_cases b:z="="/\r≠[]
  ·rw[UF b]at h;cases h
  ·rw[T8 b]at h;have c:brk r=none:=by
    cases e:brk r with
    | none=>rfl
    | some q=>rw[e]at h;cases h
   cases A with
   | nil=>
    obtain⟨rfl,rfl⟩:=List.cons.inj e;exact Classical.byContradiction λh=>b ⟨rfl,h⟩
   | cons a A=>
    exact uR c A B (List.cons.inj e).2
def aBb:("=":Str).cps.toList=[61]:=by decide +kernel
def Xs{p:Str}(h:p.cps.toList=[61]):p="=":=by
 have:p=tx p.cps.toList:=(lY p).symm;rw[this,h];decide +kernel
def Vi(A C:List (List Nat)):(jn c A).length<=(jn c (A++C)).length:=by
 cases C with
 | nil=>simp
 | cons x C=>
  cases A with
  | nil=>simp[jn]
  | cons a A=>rw[yX _ _ Zs Zs,gQ];omega
def uS(m:∀p∈z0::r,32∉p.cps.toList)(h:brk r=some (A,B)):Txt.partition (jw (z0::r)) (tx [32,61,32])=(jw (z0::A),tx [32,61,32],jw B):=by
 obtain⟨g,n,o⟩:=mP h;have e:jw (z0::r)=tx (jn 32 ((z0::A).map λp=>p.cps.toList)++32::61::32::jn 32 (B.map λp=>p.cps.toList)):=by
  rw[oK,g,show z0::(A++("=":Str)::B)=(z0::A)++("=":Str)::B from rfl,hX,yX _ _ Zs Zs]
  congr 2
  rw[map_cons,aBb];cases B with
  | nil=>exact T7 rfl n
  | cons b r=>rfl
 rw[e,Vg,<- oK,<- oK];intro i I k;have q:jn 32 ((z0::A).map λp=>p.cps.toList)++32::61::32::jn 32 (B.map λp=>p.cps.toList)=jn 32 ((z0::r).map λp=>p.cps.toList):=by
  have:=congrArg (λs:Str=>s.cps.toList) e;rw[El]at this;simpa [tx]using this.symm
 rw[q]at k;obtain⟨d,t,u,J,l,v⟩:=Ep _ (λp w=>by obtain⟨z,x,rfl⟩:=Zmm.mp w;exact m z x) i k;have:((z0::A).map λp=>p.cps.toList).length<=d.length:=by
  refine Classical.byContradiction λy=>?_;have j:d.length<(z0::A).length:=by rw[aX]at y;omega
  have g1:((z0::r).map λp=>p.cps.toList)[d.length]?=some [61]:=by rw[l];simp
  have g2:((z0::r).map λp=>p.cps.toList)[d.length]?=some ((z0::A)[d.length].cps.toList):=by
   rw[g,show z0::(A++("=":Str)::B)=(z0::A)++("=":Str)::B from rfl,hX,getElem?_append_left (by simpa using j),jF,kO j];rfl
  rw[g1]at g2;have g3:(z0::A)[d.length]="=":=Xs (Option.some.inj g2).symm
  cases d with
  | nil=>exact T7 rfl u
  | cons a d=>
   have D:d.length<A.length:=by simpa using j
   have E:A[d.length]="=":=by simpa using g3
   exact o _ (getElem_mem D) E
 have F:∃C,d=((z0::A).map λp=>p.cps.toList)++C:=by
  have G:((z0::A).map λp=>p.cps.toList)++((("=":Str)::B).map λp=>p.cps.toList)=d++[61]::t:=by
   rw[<- hX,<- l,g];rfl
  rcases List.append_eq_append_iff.mp G with⟨C,f,_⟩|⟨C,f,_⟩
  ·exact⟨C,f⟩
  ·have:C=[]:=by
    have:=congrArg length f;rw[gQ]at this;exact List.length_eq_zero_iff.mp Zo
   exact⟨[],by rw[f,this];simp⟩
 obtain⟨C,H⟩:=F;have:=Vi (c:=32) ((z0::A).map λp=>p.cps.toList) C;rw[<- H,<- v]at this;omega
def uT{z0:Str}{r:List Str}(d:∀p∈z0::r,32∉p.cps.toList)(h:brk r=none):Txt.partition (jw (z0::r)) (tx [32,61,32])=(jw (z0::r),Str.empty,Str.empty):=by
 rw[oK];refine Vh _ λi e=>?_
 obtain⟨b,f,g,j,k,v⟩:=Ep _ (λp l=>by obtain⟨z,m,rfl⟩:=Zmm.mp l;exact d z m) i e
 cases b with
 | nil=>exact g rfl
 | cons a b=>
  have n:r.map (λp=>p.cps.toList)=b++[61]::f:=(List.cons.inj k).2;obtain⟨A,R,o,w,s⟩:=List.map_eq_append_iff.mp n;obtain⟨q,B,t,u,c⟩:=List.map_eq_cons_iff.mp s;have:B=[]:=uR h A B (by rw[o,t,Xs u]);rw[this]at c;exact j c.symm
section
variable {X:Cx}
def Qr:R2:=λx y H Q=>mR x λa=>mR y λb=>∃c d,H a=some (.lst c)/\H b=some (.lst d)/\(∀(j:Nat)(u v:V),c[j]?=some u->d[j]?=some v->cF u=true/\cF v=true)/\Q (.bl (iY c d)) H
def Vj(l:X.A.units+64<cLine):OpR X (compareOp .Eq) Qr:=by
 intro j s A H x y v u Q I g i h;unfold Qr at h;rw[bS]at h;obtain⟨a,rfl,h⟩:=h;rw[bS]at h;obtain⟨b,rfl,c,d,g1,g2,m,q⟩:=h;by_cases f:c.length=d.length
 ·exact aA3 false l j s A H (.ref a) (.ref b) v u Q I g i ⟨c,d,g1,g2,f,m,q⟩
 ·cases g;cases i;obtain⟨k,n,o,_⟩:=I.list (QYX g1);obtain⟨p,r,t,_⟩:=I.list (QYX g2);have w:k.length=c.length:=n.length.symm;have z:p.length=d.length:=r.length.symm;have e:iY c d=false:=by unfold iY;rw[beq_eq_false_iff_ne.mpr f,Bool.and_false]
  rw[e]at q;exact SeqAt.RcAt.lists_lengths o.isList t.isList (by rw[iA,iA,w,z];simpa using f) Zo _ _ _ _ ⟨.bl _,H,I,rfl,q⟩
def R.ii(a:X.A.units+64<cLine):jG X (compareOp .Eq) Qr:=⟨Vj a⟩
end
theorem Qs{c:Nat}:∀(ps:List (List Nat)),ps≠[]->(jn c ps).length+1=(ps.map length).sum+ps.length
 | [],h=>T7 rfl h
 | [p],_=>by simp[jn]
 | p::q::r,_=>by
  have a:=Qs (c:=c) (q::r) Zs;show(p++c::jn c (q::r)).length+1=_;rw[gQ,eJ,map_cons,sum_cons,eJ];omega
def jY(h:ws≠[]):(jw ws).length+1=(ws.map Str.length).sum+ws.length:=by
 rw[oK,dC];have:=Qs (c:=32) (ws.map λp=>p.cps.toList) (by simpa using h);rw[map_map,aX]at this;have e:ws.map (length∘λp:Str=>p.cps.toList)=ws.map Str.length:=map_congr_left λp _=>by simp[Str.length]
 rw[e]at this;exact this
def tG{ws:List Str}{p:Str}(h:p∈ws):p.length<=(ws.map Str.length).sum:=by
 induction ws with
 | nil=>cases h
 | cons w ws a=>
  rw[map_cons,sum_cons];rcases mem_cons.mp h with rfl|h
  ·omega
  ·have:=a h;omega
def Hl(a b:List Str):((a++b).map Str.length).sum=(a.map Str.length).sum+(b.map Str.length).sum:=by rw[hX,List.sum_append]
section
variable {prog:Program}{w:World}{A:Around}{E:Y5}{s:UV}{env:Env}
def vJ:entryFor table "proto.unchain"=some Builtin.«proto.unchain»:=entryFor_of_tree (by kernel_rfl)
def Kp(f:A.handled=some (.ref a))(ne:a≠e)(g:s.heap.get? a=some oa)(h:oa.data=.fields va)(j:va[2]?=some .none)(k:s.heap.get? e=some b)(l:b.data=.fields c)(m:2<c.size)(n:E (.ref e) {s with heap:=s.heap.update e (Obj.mapFields (·.setIfInBounds 2 (.ref a))) }):wpAny (model prog w) A (raiseNew (.ref e):Sem d) Q E s:=by
 unfold raiseNew;refine Y3 (wpAny_handled ?_);rw[f];dsimp only;have:(Value.ref a != Value.ref e)=true:=by simpa using ne
 rw[UF this];refine Y3 (wpAny_holding (wpAny_runValue (codeAny_builtin vJ ?_)));unfold Builtin.«proto.unchain»;dsimp only;refine Y3 (wpAny_field g h j ?_);rw[UF Zd];refine Y3 (Y2 (Y2 ?_));show wpAny _ _ _ _ _ _;refine Y3 (wpAny_setField (i:=2) (x:=.ref a) k l m ?_);exact wpAny_throw n
variable {nm q:Str}{C N:WP}{bs bm BC:List WF}{hdct:Bool}{sn:List Str}{sub:List WF}{ab:Bool}{col:Option Bool}{dd:Option WP}{k0 k1 k2 k3 k5:Option WF}{B newId Z7:String}
def Er(i:bm.contains (.type "BaseException")=true)(p:A.handled=some (.ref a))(r:∀ {f:UV}{l:Y5},l .none f->wpAny (model prog w) A c l E f)(h:wpAny (model prog w) A x (λv f=>∃e t j sl oa va,v=.ref e/\f.heap.get? C=some (excClassObj nm q C N bs bm hdct sn sub ab col dd k0 k1 k2 k3 k5 newId)/\e≠C/\a≠e/\f.heap.get? a=some oa/\oa.data=.fields va/\va[2]?=some .none ∧
   f.heap.get? e=some {cls:=.ref C,dict:=j,data:=.fields #[.ref t,.none,.none,.none,.bool false,.none],slots:=sl } ∧
   ∀h',h'.get? e=some {cls:=.ref C,dict:=j,data:=.fields #[.ref t,.none,.ref a,.none,.bool true,.none],slots:=sl }->(∀b,b≠e->h'.get? b=f.heap.get? b)->E (.ref e) {f with heap:=h' }) E s):wpAny (model prog w) A (raiseStmt env (some x) (some c)) Q E s:=by
 have u:(Value.ref C::bm).contains (.type "BaseException")=true:=by rw[List.contains_cons,i,Bool.or_true]
 unfold raiseStmt;refine Y3 (wpAny_mono h (λv f y=>?_) λ_ _ x=>x);revert y;refine yE6 λe t j sl oa va=>yA9 λζ m J k z D F n G=>?_;subst ζ;refine Y3 (wpAny_holding (r (Y3 (Y2 ?_))));dsimp only;obtain⟨K,g,d,tk,os⟩:=f;refine Y3 (wpAny_holding ?_)
 repeat (first|with_reducible refine wpAny_loadPart_at n ?_|with_reducible refine wpAny_loadPart_at m ?_|(with_reducible refine wpAny_isSubtype_exc m ?_;rw[u])|wp_step)
 have H:=Heap.get?_update_self (Obj.mapFields (·.setIfInBounds 3 Value.none)) n (Obj.isFreed_of_fields (Obj.data_mapFields rfl _));have o:=Heap.get?_update_self (Obj.mapFields (·.setIfInBounds 4 (Value.bool true))) H (Obj.isFreed_of_fields (Obj.data_mapFields rfl _));have I:=Heap.get?_update_self (Obj.mapFields (·.setIfInBounds 2 (Value.ref a))) o (Obj.isFreed_of_fields (Obj.data_mapFields rfl _));refine Kp p k (oa:=oa) (va:=va) ?_ D F o rfl Zs (G _ I λb i=>?_)
 ·exact(Heap.get?_update_other _ _ k.symm).trans ((Heap.get?_update_other _ _ k.symm).trans z)
 ·exact(Heap.get?_update_other _ _ i.symm).trans ((Heap.get?_update_other _ _ i.symm).trans (Heap.get?_update_other _ _ i.symm))
def Bt(F:ExcBaseFacts B newId Z7 BC){p k pos D:Pos}(H:bm.contains (.type "BaseException")=true)(I:A.handled=some (.ref a))(J:(backTo k (starEach l env)).any (·.1)=false)(K:mN "__init__"=some (.ref fI))(L:oI.cls=.type "function")(h:wpAny (model prog w) A (eval (.Name x p) env) (λf m=>f=.ref C/\wpAny (model prog w) A (evalArgs (.ref C) true (backTo k (starEach l env)) [])
   (λe c=>e.kw=[]/\e.pos.length<=sizeLine/\c.heap.get? C=some (excClassObj nm q C N bs bm hdct sn sub ab col dd k0 k1 k2 k3 k5 newId)/\c.heap.Ns N mN/\OwnTail c.heap BC bm/\c.heap.get? fI=some oI ∧
    wpAny (model prog w) (A.under (.builtin "type.__call__" ⟨.ref C::e.pos,[]⟩)) (call (.ref fI) (.ref (c.heap.objs.size+1)::e.pos)) (λr i=>r=.none/\∃t j sl oa va,i.heap.get? C=some (excClassObj nm q C N bs bm hdct sn sub ab col dd k0 k1 k2 k3 k5 newId)/\c.heap.objs.size+1≠C/\a≠c.heap.objs.size+1/\i.heap.get? a=some oa/\oa.data=.fields va/\va[2]?=some .none ∧
     i.heap.get? (c.heap.objs.size+1)=some {cls:=.ref C,dict:=j,data:=.fields #[.ref t,.none,.none,.none,.bool false,.none],slots:=sl } ∧
     ∀h',h'.get? (c.heap.objs.size+1)=some {cls:=.ref C,dict:=j,data:=.fields #[.ref t,.none,.ref a,.none,.bool true,.none],slots:=sl }->(∀b,b≠c.heap.objs.size+1->h'.get? b=i.heap.get? b)->E (.ref (c.heap.objs.size+1)) {i with heap:=h' }) E {c with heap:=lO c.heap C e.pos }) E m) E s) :
  wpAny (model prog w) A (exec (.Raise (some (.Call (.Name x p) l [] k)) (some (.Constant .none G D)) pos) env) Q E s:=by
 rw[arm_exec_Raise];simp only [evalOpt,Option.map];refine Y3 (wpAny_standAt (Er (C:=C) (nm:=nm) (q:=q) (N:=N) (bs:=bs) (bm:=bm) (hdct:=hdct) (sn:=sn) (sub:=sub) (ab:=ab) (col:=col) (dd:=dd) (k0:=k0) (k1:=k1) (k2:=k2) (k3:=k3) (k5:=k5) (newId:=newId) (a:=a) H I ?_ (Y3 (wpAny_mono (wpAny_Call_ofName (wpAny_mono h (λf m n=>?_) λ_ _ x=>x)) (λv V M=>Y3 (wpAny_standAt (Y2 M))) λ_ _ x=>x))))
 ·intro m W O;wp_walk;exact O
 obtain⟨rfl,n⟩:=n;unfold callWith;refine Y3 (wpAny_holding (wpAny_mono n (λe c o=>Y3 (wpAny_standAt ?_)) λ_ _ x=>x));obtain⟨X,P⟩:=e;revert o;refine yA7 λR z u S T U o=>?_;obtain rfl:P=[]:=R;obtain⟨Y,g,d,tk,os⟩:=c;simp only [J];refine Y3 (wpAny_keeperOf_exc u (Y3 (Ef F T u S K U L (wpAny_mono o (λr i y=>⟨y.1,Y3 (wpAny_holding (wpAny_point (Y2 ?_)))⟩) λ_ _ x=>x) z)));refine yE0 y.2 (yE5 λt j sl oa va=>yA2 λg1 g2=>?_);exact⟨_,t,j,sl,oa,va,rfl,g1,g2⟩
end
def Kq(a:WP):Heap->Prop:=λh=>∃o b,h.get? a=some o/\o.data=.fields b/\b[2]?=some .none
abbrev Cx.handlingX(X:Cx)(a:WP):Cx:={X with A:=X.A.mark (some (.ref a)),calm:=false }
section
variable {X:Cx}{pins pn:ZB}{σ:St}{H:Hp}{s:UV}{Ex:St->WF->Option WP->Hp->Prop}{a:WP}
def Cx.Ok.handlingX(ok:X.Ok):(X.handlingX a).Ok:=⟨ok.mod,ok.kind,ok.glob,ok.blt,ok.above,ok.inj,ok.has,ok.cab,nofun,ok.frames,ok.stk,ok.exf,ok.bs,ok.bsz,ok.noex,ok.exfs,ok.funs,ok.frf⟩
def Inv.handlingX(I:Inv X pins σ H s):Inv (X.handlingX a) pins σ H s:=⟨I.ok.handlingX,I.os,I.bare,I.base,I.loc,I.cell,I.free,I.freeC,I.pin,I.hok,I.len⟩
def Inv.handledX(I:Inv (X.handlingX a) pins σ H s)(ok:X.Ok):Inv X pins σ H s:=⟨ok,I.os,I.bare,I.base,I.loc,I.cell,I.free,I.freeC,I.pin,I.hok,I.len⟩
def SP.handledX(h:SP (X.handlingX a) pins D f s)(ok:X.Ok):SP X pins D f s:=by
 cases f with
 | next=>obtain⟨b,c,I,q⟩:=h;exact⟨b,c,I.handledX ok,q⟩
 | brk=>obtain⟨b,c,I,q⟩:=h;exact⟨b,c,I.handledX ok,q⟩
 | cont=>obtain⟨b,c,I,q⟩:=h;exact⟨b,c,I.handledX ok,q⟩
 | ret u=>obtain⟨v,b,c,I,r,q⟩:=h;exact⟨v,b,c,I.handledX ok,r,q⟩
def Inv.excC(I:Inv X pins σ H s)(g:Inv X pins e f b)(hex:X.ex=[])(h:b.heap.get? a=none)(i:H a=none)(c:Kq a s.heap):Inv X pins σ (aH H a (.ext (Kq a))) s:=
 I.extA g hex h i c (let ⟨o,_,j,_⟩:=c;⟨o,j⟩) λ_ _ ⟨d,l,m,n⟩ k=>⟨d,l,k d m,n⟩
def Xt(K:W.Frag)(C:WP)(e:(St->WF->Option WP->Hp->Prop)->TS)(th:WP->TS):TS:=λD σ H=>
 e (λc d f b=>W.exmOne K d (.ref C)=some true/\f=none/\∀a,b a=none->th a D c (aH b a (.ext (Kq a)))) D σ H
def Vk{k:Stmt}{th:WP->TS}(u:X.stack=X.env::X.outer)(v:X.env.frame=some X.env.locals)(hex:X.ex=[])(w:Gl X c)(x:X.mg c=some (.ref C))(y:(c==("__debug__":Str))=false)(z:∀pn Ex,PSs (X.trying pn Ex) h (l Ex))(hs:X.Ok->∀a,PSs (X.handlingX a) (k::j) (th a))(A:∀a,PassesOwnAt (model X.prog X.w) (X.A.mark (some (.ref a))) X.A X.env X.xe) :
  PS X (.Try h [.ExceptHandler (some (.Name c p)) none (k::j) t] [] [] pos) (Xt X.K C l th):=by
 intro pins s σ H a1 I a2;refine wpAny_Try_except (wpAny_mono (z (X.pn++pins) _ [] s σ H a1 I.pnIn.trying a2) (λf m q=>?_) λa4 m q=>?_)
 ·have e:=q.tried I.ok
  cases f with
  | next=>exact wpAny_execs_nil e
  | brk=>exact e
  | cont=>exact e
  | ret a5=>exact e
 ·revert q;refine yE3 λr n sc=>yA2 λB=>yE4 λa i D E=>yA5 λζ F G J K=>?_;subst ζ;have b:Inv X pins r n sc:=B.pnOut I.ok;have L:Fly X.prog X.w X.stack n sc E a i D .none m:=F;refine pZ b L I.ok.frames u v λs2 M=>?_;refine iX b M λN g=>?_;have o:=g.inv b;refine wpAny_handleBy_cons (codeAny_handlers_test ?_) (by intro q;cases q);refine gB (X:=X.handlingX a) (o.handlingX (a:=a)) w x ?_ y;obtain⟨a6,⟨oe,vs,a0,oT,ts,O,P,_⟩,_⟩:=g.tr;have LT:W.Looks (model X.prog X.w) N.heap (typeOf (.ref a)) i:=P▸(W.Looks.ld O).andThen .now;refine(W.exm_one o.kIn LT G).here ?_;show codeAny _ _ _ _ _;refine codeAny_handlers_suite ?_;refine iX b g λQ d=>?_;have R:=d.inv b;refine yE0 d.dd (yE2 λS T=>yA4 λU V _ Y=>?_);have Z:=R.excC b hex d.na d.ha ⟨S,T,U,V,Y J⟩;refine wpAny_mono (hs I.ok a pins Q _ _ _ (Z.handlingX (a:=a)) (K a d.ha)) (λf s6 q=>?_) (λe' s' a3=>A a e' s' a3);exact q.handledX I.ok
def R.ij{K:W.Frag}{C:WP}{c:Str}{b d:List Stmt}{e:Stmt}{p g pos:Pos}{f:(St->WF->Option WP->Hp->Prop)->TS}{th:WP->TS}(h:X.mg c=some (.ref C))(i:Gl X c)(j:∀a,PassesOwnAt (model X.prog X.w) (X.A.mark (some (.ref a))) X.A X.env X.xe)(k:∀pn Ex,XB (X.trying pn Ex) b (f Ex))(hs:X.Ok->∀a,XB (X.handlingX a) (e::d) (th a))(l:X.K=K:=by rfl)(m:X.stack=X.env::X.outer:=by rfl)(n:X.env.frame=some X.env.locals:=by rfl)(hex:X.ex=[]:=by rfl)(o:(c==("__debug__":Str))=false:=by decide +kernel) :
  XS X (.Try b [.ExceptHandler (some (.Name c p)) none (e::d) g] [] [] pos) (Xt K C f th):=l▸⟨Vk m n hex i h o (λpn Ex=>(k pn Ex).h) (λok a=>(hs ok a).h) j⟩
end
section
variable {P:Program}{w:World}{K:W.Frag}{mg:Y4}{base:Heap}{N:List Str}{qual:Str}{scope:Scope}{f:WP}{cd:WF}{A:Around}{outer:List Env}{s:UV}{H:Hp}{E:XK}
def Bu(a:WP):PassesOwnAt (model P w) ((cV (rJ P w) P w K mg base N qual scope f cd A outer s H E).A.mark (some (.ref a))) (cV (rJ P w) P w K mg base N qual scope f cd A outer s H E).A (cV (rJ P w) P w K mg base N qual scope f cd A outer s H E).env (cV (rJ P w) P w K mg base N qual scope f cd A outer s H E).xe:=by
 unfold cV;dsimp only;passes_own
def zF(X:Cx)(E:XK):Prop:=∀(c:ZB)(g i:St)(h H:Hp)(s a:UV)(e t d:WP)(cls:WF)(b:Array Value),Inv X c g h s->s.heap.get? e=none->H e=none->Inv X c i H a->a.heap.get? e=some {cls:=cls,dict:=some d,data:=.fields b }->b[0]?=some (.ref t)->b[1]?=some .none->E cls (some d) H->X.xe (.ref e) a
def Kr(a:WP)(ok:(cV (rJ P w) P w K mg base N qual scope f cd A outer s H E).Ok)(b:(envOfC qual scope s.heap.objs.size f cd).frame=some (envOfC qual scope s.heap.objs.size f cd).locals:=by rfl):zF ((cV (rJ P w) P w K mg base N qual scope f cd A outer s H E).handlingX a) E:=
 λk l x n o p r e t u m v c d g I h i j q=>Bb (c.handledX ok) d g (I.handledX ok) b h i j nofun q
end
section
variable {P:Program}{w:World}{K:W.Frag}{mg:Y4}{base:Heap}
structure rM(P:Program)(w:World)(K:W.Frag)(mg:Y4)(base:Heap)(n:Nat)(C fI:WP)(fl:Str):Prop where
 ex:∃fd ps,Pn P w K mg base n fI fd ps (aAZ C fl)/\Binds K fd ps []
 fn:W.isFn K (.ref fI)=true
def InitAt.goH{a fl:Str}{st:Stmt}{N ps:List Str}{k:Nat}{C fI:WP}(D:InitAt K fI a st ps)(S:aI N ps (aE st))(len:ps.length=2)(c:∀(b:WF)(A:Around)(outer:List Env)(s:UV)(H:Hp)(vs:List V)(Q:VK),RoomH k (A.deeper (envOfC a (aE st) s.heap.objs.size fI b))->aAZ C fl vs H Q E0 →
   ∃t,XB (cV sZ P w K mg base N a (aE st) fI b A outer s H E0).uncalm (bB st) t/\t {nx:=λ_ d=>Q .non d,rt:=Q } (start N vs) H):rM P w K mg base (k+1) C fI fl:=by
 obtain⟨f,F,g⟩:=D.ex;exact⟨⟨f,ps,F.goH S (λvs H Q E h=>by obtain⟨e,t,v,rfl,_⟩:=h;rw[len];rfl) c,g⟩,D.fn⟩
def RoomH.make{k:Nat}(r:RoomH (k+1) A)(C:WP)(us:List WF)(a:List (Str×WF)):RoomH k (A.under (.builtin "type.__call__" ⟨.ref C::us,a⟩)):=by
 have h:Room (k+1) {A with handled:=none }:=⟨rfl,r.1,r.2⟩;have q:=h.make C us a;exact⟨q.dp,q.un⟩
end
section
variable {X:Cx}{x fl:Str}{C fI a:WP}{E:XK}{e:Expr}{t:TA}{np cpos pos kp:Pos}{kk:Nat}{n:Nat}
def XEG(e C t b a:WP):Heap->Prop:=λh=>h.get? e=some {cls:=.ref C,dict:=some b,data:=.fields #[.ref t,.none,.ref a,.none,.bool true,.none] }
def Hm(C:WP)(fl:Str)(a:WP)(E:XK)(t:TA):TS:=λ_ f H=>t f H λd b=>∃v,d=[v]/\b a=some (.ext (Kq a))/\∀c,b c=none->E (.ref C) (some c) (aH b c (.xd [(fl,v)]))
def Ks(c:XClsI X.K X.mg x C fI)(Y:rM X.prog X.w X.K X.mg X.base n C fI fl)(Z:RoomH (n+1) X.A)(hl:zF X E)(hc:X.A.handled=some (.ref a))(hg:Gl X x)(ha:PA X [e] t)(hs:aO e=true)(u4:(x==("__debug__":Str))=false) :
  PS X (.Raise (some (.Call (.Name x np) [e] [] cpos)) (some (.Constant .none kk kp)) pos) (Hm C fl a E t):=by
 intro w a0 s a4 a6 I a5;refine yE0 (c.obj I.mod.kin) (yE9 λtl N nm q bs hdct sn sub ab=>yE8 λcol dd k0 k1 k2 k3 k5 mN=>yA4 λy hN xx T=>?_);obtain⟨⟨fd,ps,F,A⟩,nk⟩:=Y;have J:starEach [e] X.env=[(false,eval e X.env)]:=by rw[bD hs];rfl
 have HY:=beq_iff_eq.mp nk;obtain⟨oI,WQ,JU⟩:∃oI,X.base.get? fI=some oI/\oI.cls=.type "function":=by
  obtain⟨oI,ho,K⟩:=Option.map_eq_some_iff.mp (show(X.K.lookup fI).map (·.cls)=some (.type "function") from HY);exact⟨oI,I.mod.kin _ _ ho,K⟩
 refine Bt (C:=C) (nm:=nm) (q:=q) (N:=N) (bs:=bs) (bm:=tl) (hdct:=hdct) (sn:=sn) (sub:=sub) (ab:=ab) (col:=col) (dd:=dd) (k0:=k0) (k1:=k1) (k2:=k2) (k3:=k3) (k5:=k5) (fI:=fI) (oI:=oI) (a:=a)
  PySem.F.excBase_ValueError (mN:=mN) (T.hasType PySem.F.excBase_ValueError.hasBase) hc (by rw[J];rfl) xx JU (gB I hg c.at_ ⟨rfl,?_⟩ u4)
 have L:=ha cpos w a0 s a4 _ I a5;rw[J]at L ⊢;refine Calls.evalArgs_plain (bY L ?_);refine λg d=>yE2 λvs h=>yA3 λi r=>yE1 λv=>yA3 λB j q=>?_;subst B;have M:g.length=1:=r.length.symm;refine⟨rfl,by rw[M];decide,i.bk _ _ y,hN.keeps i.bk,T.keeps i.bk,i.bk _ _ WQ,?_⟩;have D:=i.laid (a:=d.heap.objs.size+1) (o:=.ext (XN (d.heap.objs.size+1) C d.heap.objs.size)) (t':=d.toks) (h':=lO d.heap C g) (λb u q=>jA q) (le_succ _) (aCH Bj);have O:h (d.heap.objs.size+1)=none:=i.hok.fresh (le_succ _);have HX:a≠d.heap.objs.size+1:=λz=>by rw[z,O]at j;cases j
 have DA:d.heap.objs.size+1≠C:=λz=>by
  have P:C<d.heap.objs.size:=Heap.lt_size (i.bk _ _ y);rw[<- z]at P;exact lt_irrefl _ (Nat.lt_of_succ_lt P)
 have Q:aAZ C fl (.ref (d.heap.objs.size+1)::[v]) (aH h (d.heap.objs.size+1) (.ext (XN (d.heap.objs.size+1) C d.heap.objs.size))) (λu H2=>u=.non/\∃f,h f=none/\f≠d.heap.objs.size+1/\H2=aH (aH h f (.xd [(fl,v)])) (d.heap.objs.size+1) (.ext (XE' (d.heap.objs.size+1) C d.heap.objs.size f))) E0:=by
  refine⟨_,_,v,rfl,aD,λf R m=>⟨rfl,f,by rw[aJ m]at R;exact R,m,?_⟩⟩
  funext b
  unfold aH;by_cases z:b=d.heap.objs.size+1
  ·rw[UF z,UF z]
  ·simp only [T8 z]
 have U5:(Value.ref (d.heap.objs.size+1)::g).length=ps.length:=by
  have e1:=F.len _ _ _ _ Q;rw[eJ,M,<- e1];rfl
 have S:=A {d with heap:=lO d.heap C g } (Value.ref (d.heap.objs.size+1)::g) D.kIn (by rw[append_nil];exact U5);rw[append_nil]at S;refine wpAny_call (codeAny_mono (F.run _ X.stack _ _ ⟨Value.ref (d.heap.objs.size+1)::g,[]⟩ (Value.ref (d.heap.objs.size+1)::g) (.ref (d.heap.objs.size+1)::[v]) _ (Z.make C g []) (D.env0.make C g []) S (.cons rfl r) Q) λrs p l=>?_)
 cases rs with
 | error K=>exact False.elim l
 | ok fl=>
  cases fl with
  | ret u=>
   refine yE0 (D.after l) (yE2 λv' H'=>yA4 λG rv B=>yE1 λf=>yA3 λU m eH=>?_);subst B eH;have gx:=(show ObjOk X.prog X.w _ p.heap _ (.ext (XE' (d.heap.objs.size+1) C d.heap.objs.size f)) from G.hok _ _ aD).1;have H:(aH h f (.xd [(fl,v)])) (d.heap.objs.size+1)=none:=by rw[aJ m.symm];exact O
   have WR:a≠f:=λz=>by rw[z,U]at j;cases j
   have V:=G.drop H;have ga:=(show ObjOk X.prog X.w _ p.heap a (.ext (Kq a)) from V.hok a _ (by rw[aJ WR];exact j)).1;revert ga;refine yE2 λoa va=>yA3 λa1 a2 a3=>?_;refine⟨rv,d.heap.objs.size,some f,#[],oa,va,V.bk _ _ y,DA,HX,a1,a2,a3,gx,λh' g1 k=>?_⟩;have W:=G.write (x:=d.heap.objs.size+1) (e:=d.heap.objs.size+1) (o:=.ext (XEG (d.heap.objs.size+1) C d.heap.objs.size f a)) (t':=p.toks) (h':=h') (by rw[aD];exact True.intro) (.inl rfl) (λb u A q=>(k b A).trans q) ⟨_,g1⟩ ⟨g1,⟨_,g1⟩,λ_ _ q k=>k _ q⟩;have I6:Inv X w s (aH (aH h f (.xd [(fl,v)])) (d.heap.objs.size+1) (.ext (XEG (d.heap.objs.size+1) C d.heap.objs.size f a))) {p with heap:=h' }:=by
    have e:aH (aH (aH h f (.xd [(fl,v)])) (d.heap.objs.size+1) (.ext (XE' (d.heap.objs.size+1) C d.heap.objs.size f))) (d.heap.objs.size+1) (.ext (XEG (d.heap.objs.size+1) C d.heap.objs.size f a))=aH (aH h f (.xd [(fl,v)])) (d.heap.objs.size+1) (.ext (XEG (d.heap.objs.size+1) C d.heap.objs.size f a)):=by
     funext b
     unfold aH;by_cases z:b=d.heap.objs.size+1
     ·rw[UF z,UF z]
     ·simp only [T8 z]
    rw[e]at W;exact W
   have I7:=I6.drop H;exact hl w s s h _ d _ _ _ _ _ _ i (Heap.get?_none_of_le (le_succ _)) H I7 g1 rfl rfl (q f U)
  | next=>exact False.elim l
  | brk=>exact False.elim l
  | cont=>exact False.elim l
def R.ik(c:XClsI X.K X.mg x C fI)(b:rM X.prog X.w X.K X.mg X.base n C fI fl)(d:RoomH (n+1) X.A)(f:zF X E)(g:Gl X x:=by rfl)(h:XA X [e] t)(i:X.A.handled=some (.ref a):=by rfl)(hs:aO e=true:=by rfl)(j:(x==("__debug__":Str))=false:=by decide) :
  XS X (.Raise (some (.Call (.Name x np) [e] [] cpos)) (some (.Constant .none kk kp)) pos) (Hm C fl a E t):=⟨Ks c b d f i g h.h hs j⟩
end
structure Qt(P:Program)(w:World)(K:W.Frag)(mg:Y4)(base:Heap)(n:Nat)(x:Str)(C:WP)(ps:List Str)(dvs:List V)(sp:Sp):Prop where
 ex:∃f fd ds,mg x=some (.ref C)/\Mk K C f/\oS P w K mg base (rJ P w) n f fd ps sp/\Binds K fd ps ds/\Vals dvs ds
def ClsAt.goX{P:Program}{w:World}{K:W.Frag}{mg:Y4}{base:Heap}{x c:Str}{C:WP}{st:Stmt}{N ps:List Str}{k:Nat}{sp:Sp}{dvs:List (List V)}(D:ClsAt K mg x C c st ps dvs)(S:aI N ps (aE st))(len:∀vs H Q E,sp vs H Q E->vs.length=ps.length)(g:∀(f:WP)(a:WF)(A:Around)(outer:List Env)(s:UV)(H:Hp)(vs:List V)(Q:VK)(E:XK),Room k (A.deeper (envOfC c (aE st) s.heap.objs.size f a))->sp vs H Q E →
   ∃t,XB (cV (rJ P w) P w K mg base N c (aE st) f a A outer s H E) (bB st) t/\t {nx:=λ_ i=>Q .non i,rt:=Q } (start N vs) H):∀d∈dvs,Qt P w K mg base (k+1) x C ps d sp:=by
 intro d j;refine yE0 D.ex (yE3 λf l z=>yA4 λe F M m=>?_);obtain⟨n,b,v⟩:=m d j;refine⟨f,l,n,e,M,?_,b,v⟩;refine yE0 F.ex (yE9 λB G kV u I J a L y=>yA3 λζ lk o=>?_);subst ζ;refine Mw lk o S len λA outer s H vs Q E p r=>?_;obtain⟨t,h,q⟩:=g f a A outer s H vs Q E p r;exact⟨t,h.h,q⟩
def Qu(C:WP)(sp:Sp)(dvs:List V)(e:St->WF->Option WP->Hp->Prop)(t:TA):TE:=λc H Q=>t c H λf b=>∀x a,b x=none->b a=none->a≠x →
 sp (.ref x::(f++dvs)) (aH (aH b a (.own x)) x (.ins C a [])) (λv g=>v=.non/\Q (.ref x) g) (λd h i=>e c d h i)
section
variable {X:Cx}{e:Expr}{es:List Expr}{x:Str}{p pos:Pos}{t:TA}{C:WP}{n:Nat}{ps:List Str}{sp:Sp}{dvs:List V}{Ex:St->WF->Option WP->Hp->Prop}
def Qv(c:Qt X.prog X.w X.K X.mg X.base n x C ps dvs sp)(o:Room (n+1) X.A)(q:Gl X x)(w:wJ X Ex)(y:PA X (e::es) t)(z:(x==("__debug__":Str))=false)(hs:aO e=true)(A:es.all aO=true) :
  PE X (.Call (.Name x p) (e::es) [] pos) (Qu C sp dvs Ex t):=by
 refine yE0 c.ex (yE3 λf Z g=>yA5 λB M F D E=>?_);intro j G m J Q i K;refine wpAny_Call_Name_kw (gB i q B ?_ z);refine W.callWith_K (h₀:=X.base) i.ok.mod.kin M.kp (bY (y pos j G m J _ i K) λa s ⟨L,H,I,r,h⟩=>⟨I.kIn,?_⟩) (bD hs) (dW A);have k:=h (s.heap.objs.size+1) s.heap.objs.size (I.hok.fresh (le_succ _)) (I.hok.fresh (cE _)) (ne_of_lt (lt_succ_self _));have d:=Inv.made (C:=C) I;have l:Vals (V.ref (s.heap.objs.size+1)::(L++dvs)) (Value.ref (s.heap.objs.size+1)::(a++g)):=.cons rfl (r.append E);have N:(Value.ref (s.heap.objs.size+1)::a++g).length=ps.length:=by
  have e:=l.length;rw[F.len _ _ _ _ k]at e;exact e.symm
 refine wpAny_call (Mu (f:=f) I.kIn M.makes M.init (beq_iff_eq.mp M.fn) (codeAny_mono (F.run _ X.stack _ _ ⟨Value.ref (s.heap.objs.size+1)::a,[]⟩ (Value.ref (s.heap.objs.size+1)::(a++g)) _ _ _ (o.make C a [])
  (d.env0.make C a []) (D _ (Value.ref (s.heap.objs.size+1)::a) d.kIn N) l k) λr O b=>?_))
 cases r with
 | error e=>exact w j m _ _ e O d b
 | ok P=>
  cases P with
  | ret u=>
   refine yE0 (d.after b) (yE2 λv R=>yA4 λS T U Y=>?_);subst U;exact⟨T,⟨V.ref (s.heap.objs.size+1),R,S,rfl,Y⟩⟩
  | next=>exact False.elim b
  | brk=>exact False.elim b
  | cont=>exact False.elim b
def R.im(c:Qt X.prog X.w X.K X.mg X.base n x C ps dvs sp)(a:Room (n+1) X.A)(b:Gl X x)(d:wJ X Ex)(f:XA X (e::es) t)(g:(x==("__debug__":Str))=false:=by decide)(hs:aO e=true:=by rfl)(h:es.all aO=true:=by rfl) :
  XE X (.Call (.Name x p) (e::es) [] pos) (Qu C sp dvs Ex t):=⟨Qv c a b d f.h g hs h⟩
end
def zG:Option WP->V|none=>.non|some a=>.ref a
def Sr:Option WP->Value|none=>.none|some a=>.ref a
def eqN:WF->Bool|.none=>true|_=>false
def Qw(z:Option WP):eqN (Sr z)=decide (z=none):=by cases z<;>rfl
def Hn{zs:List (Option WP)}:∀ {us:List WF},Vals (zs.map zG) us->us=zs.map Sr:=by
 induction zs with
 | nil=>intro us r;cases r;rfl
 | cons z zs a=>intro us r;cases r with|cons r t=>rw[a t];cases z<;>(cases r;rfl)
def Bv(H:Hp)(zs:List (Option WP)):Prop:=∀a,some a∈zs->∃b,H a=some (.tup b)
section
variable {X:Cx}
def Bw(I:Inv X b h H s)(c:A.units<cLine)(d:Bv H zs)(e:z∈zs):SeqAt.EqAt A s (Sr z) .none (eqN (Sr z)):=by
 cases z with
 | none=>exact SeqAt.EqAt.same _
 | some a=>
  obtain⟨j,g⟩:=d a e;obtain⟨i,k,f,_⟩:=I.tuple (QYY g);exact SeqAt.EqAt.tuple_none f c
def aCM:R2:=λx y H Q=>match x with|.non=>mR y λp=>∃a:List (Option WP),H p=some (.lst (a.map zG))/\Bv H a/\Q (.bl (decide (none∈a))) H|_=>False
def aBd(o:X.A.units+64<cLine):OpR X (compareOp .In) aCM:=by
 intro n s t H x y v u Q I g i h;cases x with
 | non=>
  have h:mR y λp=>∃a:List (Option WP),H p=some (.lst (a.map zG))/\Bv H a/\Q (.bl (decide (none∈a))) H:=h
  rw[bS]at h;obtain⟨p,rfl,a,g2,j,q⟩:=h;cases g;cases i;obtain⟨d,r,k,_⟩:=I.list (QYX g2);have f:=Hn r;have l:∀w,w∈d.toArray->SeqAt.EqAt X.A.in1 s w .none (eqN w):=λw c=>by
   have c:w∈d:=by simpa using c
   rw[f]at c;obtain⟨z,b,rfl⟩:=Zmm.mp c;exact Bw I (by rw[nF];omega) j b
  have m:d.toArray.any eqN=decide (none∈a):=by
   rw[f,List.any_toArray,any_map,Bool.eq_iff_iff,any_eq_true,decide_eq_true_iff];constructor
   ·rintro⟨z,b,e⟩;have e:eqN (Sr z)=true:=e;rw[Qw]at e;rw[<- X4 e];exact b
   ·exact λb=>⟨none,b,rfl⟩
  refine SeqAt.in_listAt _ k.isList l ⟨.bl _,H,I,rfl,?_⟩;rw[m];exact q
 | _=>exact h.elim
def R.ir(a:X.A.units+64<cLine):jG X (compareOp .In) aCM:=⟨aBd a⟩
def zH:V->List V->Hp->VK->Prop:=λx b H Q=>match x,b with
 | .ref l,[.non]=>∃(a:List (Option WP))(j:Nat),H l=some (.lst (a.map zG))/\Bv H a/\a[j]?=some none/\(∀m,m<j->a[m]?≠some none)/\Q (.int j) H
 | _,_=>False
def Kt(E:X.A.units+64<cLine):Ma X "list.index" zH:=by
 intro C s J H x F v G Q I g i h;unfold zH at h;split at h
 ·rename_i l;revert h;refine yE2 λa j=>yA5 λk o d p q=>?_;cases g;obtain⟨u,rfl,rfl⟩:=i.one;obtain⟨D,n,r,e,t⟩:=I.lst k;obtain rfl:=Hn r;have w:j<a.length:=(Zgs.mp d).1;have f:∀(m:Nat)(b:m<(a.map Sr).length),eqN (a.map Sr)[m]=decide (a[m]?=some none):=λm b=>by
   have c:m<a.length:=by simpa using b
   rw[List.getElem_map,Qw,kO c];simp
  refine call_meets PySem.F.slot_list_index ⟨_,e,rfl⟩ PySem.F.entry_list_index (PySem.F.args_list_index_2 _ _)
   (SeqAt.list_indexAt l (a.map Sr).toArray n none #[] .none eqN j (by simp;omega) (by rw[sizeLine_eq,aX]at t;omega) ?_ ?_) ⟨e,λy A=>?_,⟨.int j,H,I.tok _,⟨_,rfl⟩,q⟩⟩
  ·have:=f j (by simpa using w);simp only [getElem_toArray];rw[this];exact X2 d
  ·intro m b B;have c:m<(a.map Sr).length:=by simpa using b
   have:=f m c;simp only [getElem_toArray];rw[this];exact XV (p m B)
  ·obtain⟨z,b,rfl⟩:=Zmm.mp (show y∈a.map Sr by simpa using A);exact Bw I (by first|omega|(simp only [Around.under];omega)|(show X.A.units+1<cLine;omega)) o b
 ·exact h.elim
def R.iu(a:X.A.units+64<cLine):XM X "list.index" zH:=⟨Kt a⟩
end
end L2
namespace KL
open PySem L2
def f8:=@R.aa
def lf:=@R.v
def li:=@R.ac
def mh:=@R.int
def mm:=@R.ad
def mn:=@R.ae
def mq:=@R.af
def mr:=@R.ag
def mv:=@R.fn
def nw:=@R.op
def o0:=@R.ah
def pr:=@R.ai
def qa:=@R.aj
def qb:=@R.al
def qc:=@R.am
def qd:=@R.ao
def qe:=@R.it
def qf:=@R.eq
def qg:=@R.ix
def qh:=@R.ps
def qi:=@R.gn
def qk:=@R.aq
def ql:=@R.sl
def qm:=@R.ar
def re:=@R.pn
def sw:=@R.au
def sy:=@R.av
def tf:=@R.tw
def tj:=@R.aw
def tm:=@R.gR
def tq:=@R.ax
def tu:=@R.bl
def ua:=@R.ay
def ub:=@R.az
def uc:=@R.ba
def ud:=@R.kiL
def ue:=@R.il
def uf:=@R.bb
def ug:=@R.bc
def ul:=@R.bd
def ut:=@R.be
def u8:=@R.bg
def v4:=@R.bh
def wg:=@R.bj
def wj:=@R.bn
def wk:=@R.bp
def wl:=@R.bq
def wo:=@R.bo
def wp:=@R.br
def wq:=@R.ne
def wt:=@R.bt
def wu:=@R.bu
def wv:=@R.bv
def ww:=@R.bw
def wx:=@R.bx
def wy:=@R.bz
def wz:=@R.cf
def xz:=@R.sT
def AC:=@R.kiT
def AE:=@R.cg
def AF:=@R.le
def AT:=@R.cj
def BZ:=@R.ck
def EQ:=@R.gI
def FM:=@R.cm
def FS:=@R.sS
def IN:=@R.cq
def K3:=@R.cr
def NE:=@R.cu
def PP:=@R.cv
def S6:=@R.cy
def fB(i:Nat):Stmt:=PySem.Challenge.pw_oncedoor_k35_journals_made_of_texts.main.body.getD i (.Pass ⟨0,0,0,0⟩)
abbrev bF:Stmt:=nC (fB 17) 0
abbrev nH:Stmt:=fB 28
abbrev qL:Stmt:=fB 29
abbrev jJ:Stmt:=fB 30
abbrev dA:Stmt:=fB 31
abbrev kY:Stmt:=fB 32
abbrev fE:Stmt:=fB 33
abbrev nI:Stmt:=fB 37
abbrev gU:Stmt:=fB 38
abbrev jK:Stmt:=fB 39
abbrev nJ:Stmt:=fB 40
abbrev gV:Stmt:=fB 42
abbrev cS:Stmt:=fB 43
abbrev gW:Stmt:=fB 44
abbrev nK:Stmt:=fB 45
abbrev tH:Stmt:=fB 46
abbrev jL:Stmt:=fB 47
abbrev fF:Stmt:=fB 48
abbrev mQ:Stmt:=fB 52
abbrev nM:Stmt:=fB 53
abbrev jM:Stmt:=fB 54
abbrev jB:Stmt:=fB 55
abbrev iN:Stmt:=fB 56
abbrev nN:Stmt:=fB 57
abbrev bR:Stmt:=nC (fB 59) 0
abbrev eG:Stmt:=nC (fB 59) 1
abbrev fG:Stmt:=nC (fB 59) 4
abbrev dI:Stmt:=nC (fB 59) 5
abbrev fH:Stmt:=nC (fB 59) 6
abbrev nO:Stmt:=fB 60
abbrev nP:Stmt:=fB 61
abbrev nQ:Stmt:=fB 63
abbrev kZ:Stmt:=fB 64
abbrev gH:Stmt:=fB 65
abbrev jN:Stmt:=fB 66
abbrev eP:Stmt:=fB 67
abbrev eL:Stmt:=fB 68
abbrev iO:Stmt:=fB 69
abbrev lC:Stmt:=fB 70
abbrev iP:Stmt:=fB 71
abbrev nR:Stmt:=fB 72
abbrev eM:Stmt:=fB 73
abbrev jO:Stmt:=fB 74
abbrev dZ:Stmt:=fB 75
abbrev gK:Stmt:=fB 76
abbrev eE:Stmt:=fB 77
abbrev eI:Stmt:=fB 78
abbrev cK:Stmt:=fB 79
abbrev iQ:Stmt:=fB 80
abbrev gX:Stmt:=fB 81
abbrev jP:Stmt:=fB 82
abbrev lD:Stmt:=fB 83
abbrev fV:Stmt:=fB 84
abbrev jC:Stmt:=fB 85
abbrev jD:Stmt:=fB 86
abbrev lE:Stmt:=fB 87
abbrev lF:Stmt:=fB 88
abbrev lG:Stmt:=fB 89
abbrev mU:Stmt:=fB 90
def fJ(a:sc.kind=.function:=by rfl)(b:sc.isCoroutine=false:=by rfl)(c:sc.isGenerator=false:=by rfl)(d:N.Nodup:=by decide +kernel)(e:N.take P.length=P:=by rfl)(f:∀x∈P,sc.names.lookup x=some .local∨sc.names.lookup x=some .cell:=by decide +kernel)(g:∀y∈sc.names,y.2≠.free:=by decide +kernel):aI N P sc:=⟨a,b,c,d,e,f,g⟩
def lR:aI QZt QZt (aE bF):=fJ
def Es:aI QZX QZX (aE nH):=fJ
def Ku:aI QZX QZX (aE qL):=fJ
def zI:aI QZW QZW (aE jJ):=fJ
def mV:aI QZO QZO (aE dA):=fJ
def Bx:aI QZI QZI (aE kY):=fJ
def vK:aI QZN QZN (aE fE):=fJ
def Et:aI QZX QZX (aE nI):=fJ
def zJ:aI QZE QZE (aE gU):=fJ
def lH:aI ["text","parts","deed"] QZW (aE jK):=fJ
def pI:aI ["deed","add","take"] QZM (aE nJ):=fJ
def lI:aI ["deed","thing","word","bounds"] QZH (aE gV):=fJ
def jQ:aI ["thing","widest"] QZX (aE cS):=fJ
def zK:aI QZR QZR (aE gW):=fJ
def Eu:aI QZX QZX (aE nK):=fJ
def Qx:aI QZD QZD (aE tH):=fJ
def dO:aI ["deed","n","left","come","short","full"] QZM (aE jL):=fJ
def vL:aI QZC QZC (aE fF):=fJ
def wZ:aI ["thing","word"] QZX (aE mQ):=fJ
def Ev:aI QZx QZx (aE nM):=fJ
def qM:aI ["row","parts"] QZQ (aE jM):=fJ
def gY:aI QZa QZW (aE jB):=fJ
def gL:aI ["text","words","sides"] QZW (aE iN):=fJ
def Ew:aI QZR QZR (aE nN):=fJ
def oE:aI QZB QZB (aE bR):=fJ
def rN:aI QZw QZw (aE eG):=fJ
def sR:aI QZU QZU (aE fG):=fJ
def sU:aI QZU QZU (aE dI):=fJ
def sV:aI QZU QZU (aE fH):=fJ
def Ey:aI QZQ QZQ (aE nO):=fJ
def lJ:aI ["text","rows","place","line"] QZW (aE nP):=fJ
def Ez:aI QZv QZv (aE nQ):=fJ
def eQ:aI ["_law_pen_here","_law_most","_law_found","_law_turn","_law_mixed"] QZT (aE kZ):=fJ
def uU:aI QZu QZu (aE gH):=fJ
def lK:aI ["_law_pen_here","_law_many","_law_words_here","_law_turn"] QZS (aE jN):=fJ
def bT:aI QZf QZS (aE eP):=fJ
def bX:aI QZs QZS (aE eL):=fJ
def oN:aI ["_law_pen_here","_law_least","_law_most","_law_way"] QZA (aE iO):=fJ
def eR:aI ["_law_pen_here","_law_names_here","_law_word","_law_one","_law_other","_law_name","_law_n"] QZr (aE lC):=fJ
def bU:aI ["_law_pen_here","_law_deed_here","_law_word","_law_n","_law_short","_law_full","_law_less","_law_more","_law_some"] QZq (aE iP):=fJ
def dJ:aI ["_law_pen_here","_law_names_here","_law_keys_here","_law_word","_law_number_here","_law_turn","_law_deed_here","_law_answer_here","_law_asker","_law_key"] QZp (aE nR):=fJ
def gZ:aI QZo QZG (aE eM):=fJ
def zL:aI QZL QZL (aE jO):=fJ
def uV:aI QZF QZF (aE dZ):=fJ
def uW:aI QZV QZV (aE gK):=fJ
def mW:aI ["_law_thing","_law_size"] QZV (aE eE):=fJ
def dP:aI ["_law_deed_here","_law_thing","_law_word","_law_n","_law_most"] QZn (aE eI):=fJ
def fO:aI ["_law_thing","_law_word"] QZV (aE cK):=fJ
def oO:aI ["_law_thing","_law_word"] QZV (aE iQ):=fJ
def zM:aI QZz QZz (aE gX):=fJ
def iR:aI ["_law_words_here","_law_parts_here","_law_word","_law_number_here"] QZm (aE jP):=fJ
def dL:aI ["_law_text","_law_words_here","_law_found","_law_at"] QZK (aE lD):=fJ
def rY:aI QZP QZP (aE fV):=fJ
def dM:aI ["_law_error","_law_marks"] QZl (aE jC):=fJ
def jR:aI QYZ QZk (aE jD):=fJ
def hJ:aI ["_law_pen_here","_law_line_here","_law_at","_law_sign","_law_some"] QZJ (aE lE):=fJ
def rZ:aI ["_law_pen_here","_law_line_here","_law_some"] QZJ (aE lF):=fJ
def eS:aI ["_law_text","_law_found","e"] QZK (aE lG):=fJ
def fK:aI QZe QZj (aE mU):=fJ
structure Txt(K:W.Frag)(mg:Y4):Prop where
 b_ValueError:mg "ValueError"=none
 b_all:mg "all"=none
 b_any:mg "any"=none
 b_bool:mg "bool"=none
 b_enumerate:mg "enumerate"=none
 b_int:mg "int"=none
 b_isinstance:mg "isinstance"=none
 b_len:mg "len"=none
 b_list:mg "list"=none
 b_max:mg "max"=none
 b_min:mg "min"=none
 b_range:mg "range"=none
 b_str:mg "str"=none
 b_tuple:mg "tuple"=none
 b_zip:mg "zip"=none
 g_LETTERS:∃t,mg "LETTERS"=some (.str ("abcdefghijklmnopqrstuvwxyz") t)
 g_FIGURES:∃t,mg "FIGURES"=some (.str ("0123456789") t)
 g_LONGEST_NAME:∃t,mg "LONGEST_NAME"=some (.int (8) t)
 g_LONGEST_KEY:∃t,mg "LONGEST_KEY"=some (.int (12) t)
 g_LONGEST_NUMBER:∃t,mg "LONGEST_NUMBER"=some (.int (13) t)
 g_MOST:∃t,mg "MOST"=some (.int (1000000000000) t)
structure Top(Pm:Params)(K:W.Frag)(mg:Y4):Prop where
 g_NAME_COUNTS:∃a,mg "NAME_COUNTS"=some (.ref a)/\KTab K Pm a (WS)
 g_UNLIKE_WORDS:∃a,mg "UNLIKE_WORDS"=some (.ref a)/\∀H,SqT K H a (UW)
 g_PARTS:∃a,mg "PARTS"=some (.ref a)/\KTabT K Pm a (PTS)
 g_BOUNDS:∃a,mg "BOUNDS"=some (.ref a)/\KTabT K Pm a (BDS)
section
variable {P:Program}{w:World}{K:W.Frag}{mg:Y4}{base:Heap}
def aBe(T:Txt K mg)(D:DefAt K mg "_law_pen" nQ QZv):Callee P w K mg base 1 "_law_pen" QZv Xo:=by
 refine D.gg Ez (λf d A b s H e Q E g h=>?_)
 ·obtain⟨c,k,rfl,q⟩:=h;refine⟨_,(mq (mr (qk (f8 (qd (R.fh rfl) rfl T.b_max Dv (f8 mh (f8 (nw v4 (lf 0) (nw wp mh mh)) li))) (f8 (nw AE (nw tj (nw tj (nw BZ (nw AE (lf 0) mh) mh) (nw BZ mh (lf 1))) mh) mh) li))))),?_⟩;refine⟨⟨Zd,Zd,Zd⟩,?_⟩;refine⟨by show(0:Int)<_;decide,.inr ⟨Zd,Zd⟩,.inl ⟨Zd,Zd⟩,by show(0:Int)<_;decide,eY rfl,λp a=>?_⟩;refine q p _ a (aA a) ⟨_,_,aD,?_,Int.emod_nonneg _ Zd,Int.emod_lt_of_pos _ Zd⟩;split<;>omega
def Vl(T:Txt K mg)(D:DefAt K mg "_law_take" kZ QZT):Callee P w K mg base 1 "_law_take" QZT fT:=by
 refine D.gg eQ (λf L A J s H O a0 a1 Q h=>?_)
 ·revert h;refine yE2 λp m=>yA5 λζ η b S q=>?_;subst ζ;obtain⟨i,j,g,y,z,B⟩:=η;refine⟨_,(mm (qa (pr R.gt (ue K 0) mh) (mm (o0 (i:=2) eQ.nd (nw AE (ue K 0) (lf 1))) (mm (R.eh (nw R.fe (ue K 0) (lf 1)) (R.eo (lf 0) mh R.eu)) (mq (mr (lf 2))))) qb) (mm (o0 (i:=2) eQ.nd mh) (mm (IN PassesOwn.never rfl (R.db rfl T.b_range (f8 (nw tj mh (wg R.df rfl T.b_int iD (f8 (ub R.gt (lf 1) (nw wp mh mh)) li))) li)) (qi (i:=3) eQ.nd) (mm (R.eh (nw AE (nw tj (nw tj (nw BZ (ue K 0) (ue K 0)) (nw BZ mh (ue K 0))) mh) mh) (R.eo (lf 0) mh R.eu)) (mm (o0 (i:=4) eQ.nd (nw AE (nw tj (nw BZ (ue K 0) mh) mh) mh)) (mq (o0 (i:=2) eQ.nd (nw tj (nw BZ (lf 2) mh) (nw AE (nw BZ (lf 4) (lf 4)) mh))))))) (mq (mr (nw AE (nw R.fe (lf 2) mh) (lf 1))))))),?_⟩;refine⟨_,QYX g,_,rfl,?_⟩;refine aV (λh=>?_) (λh=>?_)
  ·have U:0<i:=X4 h;refine⟨_,QYX g,_,rfl,b,_,QYX g,_,rfl,⟨b,Zo⟩,p,_,_,_,rfl,rfl,g,rfl,?_⟩;exact q _ _ (Int.emod_nonneg _ Zo) (Int.emod_lt_of_pos _ b) ⟨_,_,aD,Int.ediv_nonneg y Zo,z,B⟩ λc o e n=>by rw[aJ n];exact e
  ·refine⟨⟨Zd,Zd,Zd⟩,?_⟩;refine⟨_,rfl,by split<;>decide,by split<;>decide,?_⟩;refine pW (fR 0 _) (λ_ u d=>∃(f:Int)(l r:Option V),u=[some (.ref p),some (.int m),some (.int f),l,r]/\0<=f/\PenAt d p/\K1 p H d) (λ_ _ _ _=>trivial) ⟨0,_,_,rfl,Zd,⟨i,j,g,y,z,B⟩,λc o e _=>e⟩ ?_ ?_
   ·refine λ_ v u d W=>yE3 λf l r=>yA4 λζ E η t=>?_;subst ζ;obtain⟨X,a,k,F,M,N⟩:=η;refine⟨_,QYX k,_,rfl,_,QYX k,_,rfl,.inl ⟨Zo,Zo⟩,_,QYX k,_,rfl,.inl ⟨Zd,Zd⟩,by show(0:Int)<_;decide,p,_,_,_,rfl,rfl,k,rfl,?_⟩;have G:=Int.emod_nonneg (a*a+48271*a+11) (show(2147483629:Int)≠0 by decide);have I:=Int.emod_lt_of_pos (a*a+48271*a+11) (show(0:Int)<2147483629 by decide);refine⟨_,QYX aD,_,rfl,.inr ⟨Zd,Zd⟩,by show(0:Int)<_;decide,?_⟩;dsimp only [aK];generalize C:((a*a+48271*a+11)%2147483629*40692+5)%2147483399=x;have Y:0<=x:=by rw[<- C];exact Int.emod_nonneg _ Zd
    have Z:x<2147483399:=by rw[<- C];exact Int.emod_lt_of_pos _ Zd
    refine⟨.inr ⟨Zd,Zd⟩,.inl ⟨Zo,Zo⟩,by show(0:Int)<_;decide,_,_,_,rfl,?_,⟨_,_,aD,F,G,I⟩,λc o e n=>by rw[aJ n];exact t c o e n⟩;have:=Int.emod_nonneg (x*x) (show(998244353:Int)≠0 by decide);omega
   ·refine λu d=>yE3 λf l r=>yA4 λζ E pn t=>?_;subst ζ;exact⟨⟨Zd,Zd⟩,b,q _ _ (Int.emod_nonneg _ Zo) (Int.emod_lt_of_pos _ b) pn t⟩
def Vm(T:Txt K mg)(D:DefAt K mg "_law_cell_at" gH QZu):Callee P w K mg base 1 "_law_cell_at" QZu (Ph K):=by
 refine D.gg uU (λf g A e s H i Q E j h=>?_)
 ·revert h;refine yE3 λa c k=>yA3 λζ b q=>?_;subst ζ;refine⟨_,(mm (qa (pr R.lt (lf 1) (qd (sy (K:=K)) rfl T.b_len aZ (f8 (lf 0) li))) (mq (mr (qg (ud (K:=K)) (lf 0) (lf 1)))) qb) (mq (mr mh))),?_⟩;refine⟨_,.inl b,?_⟩;refine aV (λh=>?_) (λh=>q 0);have d:k<c.length:=by
   have:=X4 h;rw[aX]at this;omega
  exact⟨_,b,_,aL (by rw[jF,kO d];rfl),q _⟩
def By(T:Txt K mg)(e:Callee P w K mg base 1 "_law_take" QZT fT)(D:DefAt K mg "_law_number" iO QZA):Callee P w K mg base 2 "_law_number" QZA kW:=by
 refine D.gg oN (λf u A t s H v Q E g h=>?_)
 ·revert h;refine yE3 λp lo x=>yA5 λζ pn j y q=>?_;subst ζ;refine⟨_,(mm (o0 (i:=3) oN.nd (mv e g rfl (f8 (lf 0) (f8 mh li)))) (mm (qa (pr R.lt (lf 3) mh) (mq (mr (qg (ud (K:=K)) (qk (f8 (lf 1) (f8 (lf 2) li))) (lf 3)))) qb) (mm (qa (pr qf (lf 3) mh) (mq (mr (qd (R.fw rfl) rfl T.b_min aAB (f8 (lf 2) (f8 (nw tj (lf 1) (mv e g rfl (f8 (lf 0) (f8 mh li)))) li))))) qb) (mm (qa (pr qf (lf 3) mh) (mq (mr (qd (R.fh rfl) rfl T.b_max Dv (f8 (lf 1) (f8 (nw v4 (lf 2) (mv e g rfl (f8 (lf 0) (f8 mh li)))) li))))) qb) (mq (mr (nw tj (lf 1) (mv e g rfl (f8 (lf 0) (f8 (nw tj (nw v4 (lf 2) (lf 1)) mh) li)))))))))),?_⟩;refine⟨p,5,rfl,pn,Zd,Zd,λr z B C a k1=>?_⟩;dsimp only [aK];rcases(by omega:r=0∨r=1∨r=2∨r=3∨r=4) with rfl|rfl|rfl|rfl|rfl
  ·refine⟨eY rfl,λl b=>⟨_,QYX aD,_,rfl,q _ _ (Int.le_refl _) j (a.same (aA b)) (k1.trans (.of (aA b)))⟩⟩
  ·refine⟨eY rfl,λl b=>⟨_,QYX aD,_,rfl,q _ _ j (Int.le_refl _) (a.same (aA b)) (k1.trans (.of (aA b)))⟩⟩
  ·refine⟨p,9,rfl,a,Zd,Zd,λk m n o c d=>q _ _ ?_ ?_ c (k1.trans d)⟩<;>split<;>omega
  ·refine⟨p,9,rfl,a,Zd,Zd,λk m n o c d=>q _ _ ?_ ?_ c (k1.trans d)⟩<;>split<;>omega
  ·exact⟨p,_,rfl,a,Zo,Zo,λk m n o c d=>q _ _ Zo Zo c (k1.trans d)⟩
def Vn(T:Txt K mg)(D:DefAt K mg "is_made_of" fE QZN):Callee P w K mg base 1 "is_made_of" QZN oX:=by
 refine D.gg vK (λf J A F s H L Q E M h=>?_)
 ·revert h;refine yE4 λx a n k=>yA4 λζ b r q=>?_;subst ζ;refine⟨_,(mm (qa (tf (uc (sw (qm (tq .str (lf 0) rfl T.b_isinstance rfl T.b_str iC))) (ul (sw (R.fi AF AF mh (qd R.dk rfl T.b_len aZ (f8 (lf 0) li)) (lf 2)))))) (mq (mr tu)) qb) (mq (mr (qd (R.dl (K:=K) rfl) rfl T.b_all uF (f8 (uf rfl (js:=[none,some 1]) (N:=["sign","signs"]) (CompScope.by (aE fE) QZN rfl rfl Zk) (aY rfl) (R.wS (lf 0)) (λC G I O=>⟨(qi (i:=0) (show(["sign","signs"]:List Str).Nodup by decide +kernel)),ug,(ub R.jk (lf 0) (lf 1))⟩)) li))))),?_⟩;have no:Au .str k=false->bM x a.cps.toList n=false:=λe=>by
   cases x<;>first|rfl|(cases k<;>first|exact b.elim|cases e)
  refine⟨k,b,?_⟩
  cases x with
  | str z=>
   cases k<;>first|exact b.elim|skip
   have m:=r z rfl;refine⟨dD m,?_⟩;refine aV (λd=>?_) (λd=>?_)
   ·refine aV (λg=>?_) (λg=>?_)
    ·have e:bM (.str z) a.cps.toList n=false:=by
      rw[cC];have j:decide ((z.length:Int)<=n)=false:=by simpa using g
      rw[j];simp
     have h:=q H (Same.refl H);rw[e]at h;exact h
    ·refine⟨z,rfl,rG (Gp z) (by simp[pV,Str.length]at m ⊢;omega) (λ_=>true) (λv=>match v with|.str y=>.bl (decide (y.cps.toList.headD 0∈a.cps.toList))|_=>.non) trivial (λv S N t u U=>?_) ?_⟩
     ·obtain⟨c,V,rfl⟩:=Zmm.mp t;exact⟨c,rfl,u rfl⟩
     ·intro p B;refine⟨p,z.cps.toList.map (λc=>decide (c∈a.cps.toList)),rfl,QYX (by rw[aD,List.filter_eq_self.mpr (λ_ _=>rfl)];unfold pV;rw[map_map,map_map];rfl),?_⟩;have e:bM (.str z) a.cps.toList n=List.all (z.cps.toList.map (λc=>decide (c∈a.cps.toList))) id:=by
       rw[cC];have j:decide ((z.length:Int)<=n)=true:=by simpa using g
       have l:decide (1<=(z.length:Int))=true:=d;rw[j,l,all_map];simp[Function.comp_def]
      rw[<- e];exact q _ (λc o e=>by rw[aJ (aF e B)];exact e)
   ·have e:bM (.str z) a.cps.toList n=false:=by
     rw[cC];have l:decide (1<=(z.length:Int))=false:=d;rw[l];simp
    have h:=q H (Same.refl H);rw[e]at h;exact h
  | _=>
   cases k<;>first|exact b.elim|exact q H (Same.refl H)
def Fa(T:Txt K mg)(a:Callee P w K mg base 1 "is_made_of" QZN oX)(D:DefAt K mg "is_name" nH QZX):Callee P w K mg base 2 "is_name" QZX (jW LET 8):=by
 refine D.gg Es (λf j A i s H l Q E b h=>?_)
 ·revert h;refine yE2 λx k=>yA4 λζ c d q=>?_;subst ζ;refine⟨_,(mq (mr (mv a b rfl (f8 (lf 0) (f8 (R.gS rfl T.g_LETTERS) (f8 (EQ rfl T.g_LONGEST_NAME) li)))))),?_⟩;refine⟨x,_,8,k,rfl,c,d,λe g=>?_⟩;rw[yF];exact q e g
def Kv(T:Txt K mg)(a:Callee P w K mg base 1 "is_made_of" QZN oX)(D:DefAt K mg "is_key" qL QZX):Callee P w K mg base 2 "is_key" QZX (jW (LET++oH) 12):=by
 refine D.gg Ku (λf j A i s H l Q E b h=>?_)
 ·revert h;refine yE2 λx k=>yA4 λζ c d q=>?_;subst ζ;refine⟨_,(mq (mr (mv a b rfl (f8 (lf 0) (f8 (nw wx (R.gS rfl T.g_LETTERS) (R.gS rfl T.g_FIGURES)) (f8 (EQ rfl T.g_LONGEST_KEY) li)))))),?_⟩;refine⟨Zk,x,_,12,k,rfl,c,d,λe g=>?_⟩;rw[gC,yF,Dx];exact q e g
def Qy(T:Txt K mg)(D:DefAt K mg "is_whole" kY QZI):Callee P w K mg base 1 "is_whole" QZI gF:=by
 refine D.gg Bx (λf i A g s H j Q E l h=>?_)
 ·obtain⟨x,lo,d,rfl,⟨k,a,m⟩,q⟩:=h;refine⟨_,(mm (qa (tf (uc (sw (qm (tq .int (lf 0) rfl T.b_isinstance rfl T.b_int iD))) (ul (qm (tq .bl (lf 0) rfl T.b_isinstance rfl T.b_bool yE))))) (mq (mr tu)) qb) (mq (mr (R.iw AF AF (lf 1) (lf 0) (lf 2))))),?_⟩;have h:=q H (Same.refl H);refine⟨k,a,?_⟩
  cases x with
  | int n=>
   cases k<;>first|exact a.elim|skip
   refine⟨.int,trivial,?_⟩;show if decide (lo<=n)=true then _ else _
   have e:aQ lo d (.int n)=(decide (lo<=n)&&decide (n<=d)):=rfl;refine aV (λc=>?_) (λc=>?_)
   ·rw[e,c,Bool.true_and]at h;exact h
   ·rw[e,c,Bool.false_and]at h;exact h
  | bl b=>
   cases k<;>first|exact a.elim|skip
   exact⟨.bl,trivial,h⟩
  | _=>cases k<;>first|exact a.elim|exact h
def Vo(T:Txt K mg)(U:Top w.params K mg)(Q:Callee P w K mg base 2 "is_name" QZX (jW LET 8))(D:DefAt K mg "fits_word" gU QZE):Callee P w K mg base 3 "fits_word" QZE Om:=by
 refine D.gg zJ (λa1 cdv a2 outer a3 H vs a4 a5 S h=>?_)
 ·revert h;refine yE3 λa0 a b=>yA6 λζ η g GP W q=>?_;subst ζ;obtain⟨k,t,hz⟩:=η;obtain⟨aN,C,E⟩:=U.g_NAME_COUNTS;obtain⟨X,Y,Z⟩:=U.g_UNLIKE_WORDS;refine⟨_,(mm (qa (tf (uc (sw (qm (tq .str (lf 0) rfl T.b_isinstance rfl T.b_str iC))) (ul (pr (R.jl (K:=K) (P:=w.params)) (lf 0) (tm rfl C))))) (mq (mr tu)) qb) (mm (qa (tf (uc (pr wq (qd (sy (K:=K)) rfl T.b_len aZ (f8 (lf 1) li)) (qg (R.jm (K:=K) (P:=w.params)) (tm rfl C) (lf 0))) (ul (sw (qm (qd (R.dl (K:=K) rfl) rfl T.b_all uF (f8 (uf rfl (js:=[none]) (N:=["name"]) (CompScope.by (aE gU) QZE rfl rfl Zk) (aY rfl) (R.dg (K:=K) (lf 1)) (λa6 s₂ H₂ fp=>⟨(qi (i:=0) (show(["name"]:List Str).Nodup by decide +kernel)),ug,(mv Q S rfl (f8 (lf 0) li))⟩)) li))))))) (mq (mr tu)) qb) (mq (mr (R.or (ub (R.iy (K:=K)) (lf 0) (tm rfl Y)) (wl (ub wq (qe K 1) (qe K 1)))))))),?_⟩;have h:=q H (Same.refl H);refine⟨k,t,?_⟩
  cases a0 with
  | str z=>
   cases k<;>first|exact t.elim|skip
   refine⟨WS,E,?_⟩;show if (!(WS.lookup z).isSome)=true then _ else _
   cases e:WS.lookup z with
   | none=>
    have l:bO (.str z) b=false:=by unfold bO;simp only [e]
    rw[l]at h;exact h
   | some i=>
    have l:bO (.str z) b=(decide ((b.length:Int)=i)&&b.all dR&&(!cX (.str z) UW||!decide (eK b 0=eK b 1))):=by unfold bO;simp only [e]
    refine⟨b,.inr (QYY g),WS,i,E,e,?_⟩;refine aV (λu=>?_) (λu=>?_)
    ·have m:decide ((b.length:Int)=i)=false:=by simpa using u
     rw[l,m]at h;exact h
    ·have m:decide ((b.length:Int)=i)=true:=by simpa using u
     refine⟨a,rfl,⟨_,QYY g⟩,?_⟩;refine bN (iI K a b) Zo (λj n o=>n=(b.take j).map (λy=>V.bl (dR y))/\Same H o) (λj n o ⟨d,f⟩=>⟨QYY (f _ _ g),by rw[d,aX,fM];omega⟩) ⟨rfl,Same.refl H⟩ (?_) (?_)
     ·rintro j y n o F ⟨d,f⟩;obtain⟨ky,qu,NI⟩:=(W y (sW F)).same f;refine⟨y,ky,rfl,qu,NI,λni S7=>⟨?_,f.trans S7⟩⟩;rw[Dc,F,hX,d];rfl
     ·rintro n o ⟨d,f⟩;intro p IA;rw[qU (cE _)]at d;have v:Same H (aH o p (.lst n)):=f.trans (aA IA);refine⟨p,b.map dR,rfl,QYX (by rw[aD,d,map_map];rfl),?_⟩;have e4:List.all (b.map dR) id=b.all dR:=by rw[all_map];rfl
      have c:=q _ v;dsimp only;rw[e4];cases s:b.all dR with
      | false=>
       rw[l,m,s]at c;exact c
      | true=>
       rw[l,m,s]at c;refine⟨X,UW,rfl,.inr (Z _),rfl,rfl,?_⟩;show if (!cX (.str z) UW)=true then _ else _
       cases x:cX (.str z) UW with
       | false=>
        rw[x]at c;exact c
       | true=>
        rw[x]at c;have i2:=Xj e x;have hl:(b.length:Int)=i:=X4 m;obtain⟨A,G,m0⟩:=fA (xs:=b) (i:=0) Zd Zo;obtain⟨B,I,m1⟩:=fA (xs:=b) (i:=1) Zd Zo;have J:=all_eq_true.mp s A m0;have L:=all_eq_true.mp s B m1;refine⟨b,QYY (v _ _ g),A,G,b,QYY (v _ _ g),B,I,?_⟩;rw[G,I]at c;cases A<;>first|(unfold dR bM at J;exact T7 J Y1)|skip
        cases B<;>first|(unfold dR bM at L;exact T7 L Y1)|skip
        rename_i M O;have e7:decide (some (V.str M)=some (V.str O))=decide (M=O):=by
         rw[decide_eq_decide];constructor
         ·intro r;injection r with r;injection r
         ·intro r;rw[r]
        rw[e7]at c;exact c
  | _=>cases k<;>first|exact t.elim|exact h
def Fb(T:Txt K mg)(og:Callee P w K mg base 3 "fits_word" QZE Om)(v7:Callee P w K mg base 1 "is_whole" QZI gF)(D:DefAt K mg "is_deed" nI QZX):Callee P w K mg base 4 "is_deed" QZX mG:=by
 refine D.gg Et (λf cdv A outer s H vs Q E hr h=>?_)
 ·obtain⟨x,rfl,⟨⟨k,hk,hz⟩,hp⟩,hlen,q⟩:=h;refine⟨_,(mm (qa (tf (uc (sw (qm (tq .tup (lf 0) rfl T.b_isinstance rfl T.b_tuple bW))) (ul (pr R.lt (qd (sy (K:=K)) rfl T.b_len aZ (f8 (lf 0) li)) mh)))) (mq (mr tu)) qb) (mq (mr (wk (mv og hr rfl (f8 (qe K 0) (f8 (ql xz (lf 0) (qh mh) (qh (wt mh))) li))) (wl (mv v7 hr rfl (f8 (qg (AC (K:=K)) (lf 0) (wt mh)) (f8 mh (f8 (EQ rfl T.g_MOST) li))))))))),?_⟩;have h:=q H (Same.refl H);refine⟨k,hk,?_⟩
  cases x with
  | ref a=>
   cases k<;>first|exact hk.elim|skip
   case tup=>
    obtain⟨xs,hx⟩:=hk;have DQ:=hp a xs rfl hx;have WU:=hlen a xs rfl hx;have eV:cH H (.ref a)=bC xs:=by unfold cH;simp only [hx]
    refine⟨xs,.inr (QYY hx),?_⟩;refine aV (λh1=>?_) (λh1=>?_)
    ·have B0:((xs.length:Int)<3):=X4 h1;have e1:bC xs=false:=by
      unfold bC;rw[XV Zo];rfl
     rw[eV,e1]at h;exact h
    ·have B0:¬ ((xs.length:Int)<3):=X3 h1;have h3:3<=xs.length:=by omega
     obtain⟨y0,DP,m0⟩:=fA (xs:=xs) (i:=0) Zd Zo;refine⟨xs,QYY hx,y0,DP,xs,hx,λp H1 s1 g1=>?_⟩;refine⟨y0,p,_,rfl,(DQ y0 m0).same s1,g1,?_,λy hy=>(DQ y (Gw h3 hy)).same s1,λH2 s2=>?_⟩
     ·have:=kT h3;unfold iE at this;omega
     have e2:bC xs=(bO y0 (iE xs)&&aQ 1 1000000000000 ((eK xs (-1)).getD .non)):=by
      unfold bC;rw[X2 h3,DP];rfl
     have hs:=s1.trans s2;have h5:=q H2 hs;show if bO y0 (iE xs)=true then _ else _
     cases e3:bO y0 (iE xs) with
     | false=>
      rw[eV,e2,e3]at h5;exact h5
     | true=>
      rw[eV,e2,e3]at h5;obtain⟨yl,IB,ml⟩:∃v,eK xs (-1)=some v/\v∈xs:=by
       have hj:xs.length-1<xs.length:=by omega
       refine⟨xs[xs.length-1],?_,getElem_mem hj⟩;unfold eK Jj;rw[T8 Zd,UF Zo];have:((-1:Int)+(xs.length:Int)).toNat=xs.length-1:=by omega
       simp[this,hj]
      refine⟨xs,QYY (hs _ _ hx),yl,IB,?_⟩;refine⟨yl,1,1000000000000,rfl,(DQ yl ml).same hs,λH3 s3=>?_⟩;have h6:=q H3 (hs.trans s3);rw[eV,e2,e3,IB]at h6;exact h6
   all_goals
    have e1:cH H (.ref a)=false:=by
     unfold cH;first
      | (rcases hk with⟨xs,e⟩|⟨o,xs,e⟩<;>simp only [e])
      | (obtain⟨kvs,e⟩:=hk;simp only [e])
    rw[e1]at h;exact h
  | _=>cases k<;>first|exact hk.elim|exact h
def jS:("0":Str)=tx [48]:=by decide +kernel
def Kw(T:Txt K mg)(u:Callee P w K mg base 1 "is_made_of" QZN oX)(D:DefAt K mg "number_of" jJ QZW):Callee P w K mg base 2 "number_of" QZW uI:=by
 refine D.gg zI (λf J A I s H L Q E v h=>?_)
 ·obtain⟨z,rfl,x,q⟩:=h;refine⟨_,(mm (qa (sw (qm (mv u v rfl (f8 (lf 0) (f8 (R.gS rfl T.g_FIGURES) (f8 (EQ rfl T.g_LONGEST_NUMBER) li)))))) (mq (mr wv)) qb) (mm (qa (tf (ww (pr qf (qg R.iS (lf 0) mh) mn) (wy (pr wq (lf 0) mn)))) (mq (mr wv)) qb) (mq (mr (wg R.iz rfl T.b_int iD (f8 (lf 0) li)))))),?_⟩;refine⟨.str z,_,13,.str,rfl,trivial,λy e=>by injection e with e;subst e;exact x,λo B=>?_⟩;rw[Dx];have b:=q o B;refine aV (λl=>?_) (λl=>?_)
  ·have d:bM (.str z) oH 13=false:=by simpa using l
   have e:aM z=none:=by unfold aM;rw[T8 (by rw[d];exact Y1)]
   rw[e]at b;exact b
  ·have d:bM (.str z) oH 13=true:=by simpa using l
   have p:=d;rw[cC,Bool.and_eq_true,Bool.and_eq_true]at p;obtain⟨⟨C,F⟩,G⟩:=p;have M:1<=(z.length:Int):=X4 C;have N:(z.length:Int)<=13:=X4 F;have t:z.cps.toList.length=z.length:=by simp[Str.length]
   obtain⟨c,r,k⟩:∃c r,z.cps.toList=c::r:=by
    cases e:z.cps.toList with
    | nil=>rw[e]at t;simp at t;omega
    | cons c r=>exact⟨c,r,rfl⟩
   have n:¬ (z.cps.toList.head?=some 48/\z≠tx [48])->NumText.AllDigits z.cps.toList/\z.cps.toList≠[]/\z.length<=640/\Q (.int (NumText.digitsVal z.cps.toList:Nat)) o:=λg=>by
    have e:aM z=some (NumText.digitsVal z.cps.toList):=by unfold aM;rw[UF d,T8 g]
    rw[e]at b;exact⟨Ax G,by rw[k];simp,Zo,b⟩
   refine⟨dD Zo,c,by rw[k];exact aL (j:=0) rfl,?_⟩;refine aV (λm=>?_) (λm=>?_)
   ·refine aV (λg=>?_) (λg=>?_)
    ·have a:tx [c]=("0":Str):=X4 m;rw[jS,yB]at a;have i:¬ z=("0":Str):=by simpa using g
     rw[jS]at i;have e:aM z=none:=by
      unfold aM;rw[UF d,UF];exact⟨by rw[k];injection a with a;rw[a];rfl,i⟩
     rw[e]at b;exact b
    ·have i:z=("0":Str):=by simpa using g
     rw[jS]at i;exact n λ⟨_,h⟩=>h i
   ·have a:¬ tx [c]=("0":Str):=X3 m;rw[jS,yB]at a;refine n λ⟨h,_⟩=>a ?_
    rw[k]at h;have:c=48:=by simpa using h
    rw[this]
def Callee.no{x:Str}{st:Stmt}{N ps:List Str}{k:Nat}(D:DefAt K mg x st ps)(S:aI N ps (aE st)):Callee P w K mg base (k+1) x ps (λ_ _ _ _=>False):=
 D.go S (λ_ _ _ _ h=>h.elim) (λ_ _ _ _ _ _ _ _ _ _ h=>h.elim)
def qN(T:Txt K mg)(D:DefAt K mg "_law_same" fV QZP){k:Nat}{sp:Sp}(M0:Callee P w K mg base (k+1) "_law_same" QZP sp)(n:Nat)(Y7:∀m t,n=m+1->Uu m t->∀x y H Q E,Rep H m t x->Rep H m t y->(∀g,Same H g->Q (.bl true) g)->sp [x,y] H Q E):Callee P w K mg base (k+2) "_law_same" QZP (yP n):=by
 refine D.gg rY (λa3 cdv a4 outer a5 H vs Q E hr h=>?_)
 ·revert h;refine yE3 λx y t=>yA5 λζ A M L q=>?_;subst ζ;have DR:=hr;refine⟨_,(mm (qa (qm (qd R.gf rfl T.b_isinstance aR (f8 (lf 1) (f8 (qc (f8 (R.dz rfl T.b_list nE) (f8 (R.dz rfl T.b_tuple bW) li))) li)))) (mm (qa (tf (uc (pr wq (tq .lst (lf 0) rfl T.b_isinstance rfl T.b_list nE) (tq .lst (lf 1) rfl T.b_isinstance rfl T.b_list nE)) (ul (pr wq (tq .tup (lf 0) rfl T.b_isinstance rfl T.b_tuple bW) (tq .tup (lf 1) rfl T.b_isinstance rfl T.b_tuple bW))))) (mq (mr tu)) qb) (mq (mr (wk (ub qf (qd (sy (K:=K)) rfl T.b_len aZ (f8 (lf 0) li)) (qd (sy (K:=K)) rfl T.b_len aZ (f8 (lf 1) li))) (wl (qd (R.dl (K:=K) rfl) rfl T.b_all uF (f8 (uf rfl (js:=[none,none]) (N:=QZd) (CompScope.by (aE fV) QZP rfl rfl Zk) (lX (cN rfl (cN rfl kG))) (R.di (K:=K) rfl T.b_zip (lf 0) (lf 1)) (λa6 s₂ H₂ fp=>⟨(K3 (K:=K) (n:=2) rfl (wu (qi (i:=0) (show(QZd:List Str).Nodup by decide +kernel)) (wu (qi (i:=1) (show(QZd:List Str).Nodup by decide +kernel)) NE))),ug,(mv (hk:=cE _) M0 DR rfl (f8 (lf 0) (f8 (lf 1) li)))⟩)) li))))))) qb) (mm (qa (pr R.fj (lf 1) wv) (mq (mr (ub R.fj (lf 0) wv))) qb) (mm (qa (qm (tq .str (lf 1) rfl T.b_isinstance rfl T.b_str iC)) (mq (mr (wk (tq .str (lf 0) rfl T.b_isinstance rfl T.b_str iC) (wl (ub qf (lf 0) (lf 1)))))) qb) (mq (mr (wk (tq .int (lf 0) rfl T.b_isinstance rfl T.b_int iD) (wk (R.ja (tq .bl (lf 0) rfl T.b_isinstance rfl T.b_bool yE)) (wl (ub qf (lf 0) (lf 1)))))))))),?_⟩;refine⟨Zs,λp1 J a g1=>⟨g1,?_⟩⟩
  cases t with
  | sc v=>
   have ex:x=v/\isSc v=true:=by cases n<;>exact A
   have ey:y=v/\isSc v=true:=by cases n<;>exact M
   obtain⟨rfl,r⟩:=ex;obtain⟨rfl,_⟩:=ey
   cases y with
   | non=>exact⟨.non,trivial,q _ a⟩
   | str z=>
    refine⟨.str,trivial,.str,trivial,.str,trivial,?_⟩;show Q (.bl (decide (z=z))) J;rw[X2 rfl];exact q _ a
   | int z=>
    refine⟨.int,trivial,.int,trivial,.int,trivial,.int,trivial,?_⟩;show Q (.bl (decide (z=z))) J;rw[X2 rfl];exact q _ a
   | bl z=>cases n<;>exact L.elim
   | _=>cases r
  | tp O=>
   cases n with
   | zero=>exact A.elim
   | succ n=>
    revert A;refine yE2 λa1 b=>yA3 λζ S B=>?_;subst ζ;revert M;refine yE2 λa2 c=>yA3 λζ U C=>?_;subst ζ;obtain⟨hl,W⟩:=L;have lx:=B.length;have ly:=C.length;have l:=a _ _ S;have d:=a _ _ U;refine⟨.tup,⟨_,d⟩,.tup,⟨_,l⟩,.tup,⟨_,d⟩,.tup,⟨_,l⟩,.tup,⟨_,d⟩,?_⟩;refine⟨b,.inr (QYY l),c,.inr (QYY d),?_⟩;show if decide ((b.length:Int)=(c.length:Int))=true then _ else _
    refine aV (λ_=>?_) (λh=>T7 (show(b.length:Int)=(c.length:Int) by omega) (X3 h));refine⟨false,false,b,c,QYY l,QYY d,?_⟩;refine mH Zo (λi p g=>p=(replicate i true).map V.bl/\Same J g) (λi p g ⟨e,f⟩=>⟨QYY (f _ _ l),QYY (f _ _ d),by rw[e,aX,length_replicate];exact cE _⟩) ⟨rfl,Same.refl _⟩ (?_) (?_)
    ·rintro i u v p g X F r ⟨e,f⟩ Y;have s:=f.trans (aA (o:=.tup [u,v]) Y);have Z:i<b.length:=(Zgs.mp F).1;have NL:i<c.length:=(Zgs.mp r).1;obtain⟨h1,G⟩:=Paired.get' (j:=i) B Z;obtain⟨h2,I⟩:=Paired.get' (j:=i) C NL;rw[(Zgs.mp F).2]at G;rw[(Zgs.mp r).2]at I;refine⟨X,_,rfl,QYY aD,rfl,_,_,rfl,_,_,rfl,rfl,Y7 n O[i] rfl (W _ (getElem_mem h1)) u v _ _ _ ((G.same a).same s) ((I.same a).same s) λni S7=>⟨?_,s.trans S7⟩⟩;rw[e,List.replicate_succ',hX];rfl
    ·rintro p g ⟨e,f⟩;intro a0 u9;refine⟨a0,_,rfl,QYX (by rw[aD,e]),?_⟩;rw[show(replicate (min b.length c.length) true).all id=true by simp];exact q _ ((a.trans f).trans (aA u9))
  | ls O=>
   cases n with
   | zero=>exact A.elim
   | succ n=>
    revert A;refine yE2 λa1 b=>yA3 λζ S B=>?_;subst ζ;revert M;refine yE2 λa2 c=>yA3 λζ U C=>?_;subst ζ;obtain⟨hl,W⟩:=L;have lx:=B.length;have ly:=C.length;have l:=a _ _ S;have d:=a _ _ U;refine⟨.lst,.inl ⟨_,d⟩,.lst,.inl ⟨_,l⟩,.lst,.inl ⟨_,d⟩,.lst,.inl ⟨_,l⟩,.lst,.inl ⟨_,d⟩,?_⟩;refine⟨b,.inl (QYX l),c,.inl (QYX d),?_⟩;show if decide ((b.length:Int)=(c.length:Int))=true then _ else _
    refine aV (λ_=>?_) (λh=>T7 (show(b.length:Int)=(c.length:Int) by omega) (X3 h));refine⟨true,true,b,c,QYX l,QYX d,?_⟩;refine mH Zo (λi p g=>p=(replicate i true).map V.bl/\Same J g) (λi p g ⟨e,f⟩=>⟨QYX (f _ _ l),QYX (f _ _ d),by rw[e,aX,length_replicate];exact cE _⟩) ⟨rfl,Same.refl _⟩ (?_) (?_)
    ·rintro i u v p g X F r ⟨e,f⟩ Y;have s:=f.trans (aA (o:=.tup [u,v]) Y);have Z:i<b.length:=(Zgs.mp F).1;have NL:i<c.length:=(Zgs.mp r).1;obtain⟨h1,G⟩:=Paired.get' (j:=i) B Z;obtain⟨h2,I⟩:=Paired.get' (j:=i) C NL;rw[(Zgs.mp F).2]at G;rw[(Zgs.mp r).2]at I;refine⟨X,_,rfl,QYY aD,rfl,_,_,rfl,_,_,rfl,rfl,Y7 n O[i] rfl (W _ (getElem_mem h1)) u v _ _ _ ((G.same a).same s) ((I.same a).same s) λni S7=>⟨?_,s.trans S7⟩⟩;rw[e,List.replicate_succ',hX];rfl
    ·rintro p g ⟨e,f⟩;intro a0 u9;refine⟨a0,_,rfl,QYX (by rw[aD,e]),?_⟩;rw[show(replicate (min b.length c.length) true).all id=true by simp];exact q _ ((a.trans f).trans (aA u9))
theorem Ho(T:Txt K mg)(D:DefAt K mg "_law_same" fV QZP):∀n,Callee P w K mg base (n+2) "_law_same" QZP (yP n)
 | 0=>qN T D (Callee.no D rY (k:=0)) 0 (λ_ _ e=>nomatch e)
 | n+1=>qN T D (Ho T D n) (n+1) (λm t e a x y H Q E r b k=>by
   injection e with e
   subst e;exact⟨x,y,t,rfl,r,b,a,k⟩)
inductive lP(zs:List Str):List V->Prop
 | one (z a:Str) (n:Int):(z="add"∨z="take")->a∈zs->1<=n->n<=1000000000000->lP zs [.str z,.str a,.int n]
 | move (a b:Str) (n:Int):a∈zs->b∈zs->a≠b->1<=n->n<=1000000000000->lP zs [.str "move",.str a,.str b,.int n]
 | two (z a b:Str) (n:Int):(z="send"∨z="fetch")->a∈zs->b∈zs->1<=n->n<=1000000000000->lP zs [.str z,.str a,.str b,.int n]
 | pass (a b c:Str) (n:Int):a∈zs->b∈zs->c∈zs->a≠b->1<=n->n<=1000000000000->lP zs [.str "pass",.str a,.str b,.str c,.int n]
def PenAt.neS(h:PenAt H p)(a:H l=some (.lst (zs.map V.str)))(b:zs≠[]):l≠p:=λe=>by
 obtain⟨i,j,g,_⟩:=h;rw[e,g]at a;cases zs with
 | nil=>exact b rfl
 | cons z r=>cases a
def PenAt.tup(h:PenAt H p)(e:H t=some (.tup xs)):t≠p:=λz=>by
 obtain⟨i,j,g,_⟩:=h;rw[z,g]at e;cases e
def Bz:Sp:=λe H Q _=>∃(p c:WP)(a:List Str),e=[.ref p,.ref c]/\PenAt H p/\H c=some (.lst (a.map V.str))/\a.Nodup/\2<=a.length/\a.length<=100/\∀t d b,lP a d->b t=some (.tup d)->PenAt b p->K1 p H b->Q (.ref t) b
def Kx(T:Txt K mg)(E:Callee P w K mg base 1 "_law_take" QZT fT)(Y:Callee P w K mg base 2 "_law_number" QZA kW)(D:DefAt K mg "_law_deed" lC QZr):Callee P w K mg base 3 "_law_deed" QZr Bz:=by
 refine D.gg eR (λf cdv a7 outer a8 a2 vs a3 a9 x h=>?_)
 ·revert h;refine yE3 λp Z a=>yA7 λζ pn r FV M WV a4=>?_;subst ζ;refine⟨_,(mm (o0 (i:=2) eR.nd (qg (ud (K:=K)) (qk (f8 mn (f8 mn (f8 mn (f8 mn (f8 mn (f8 mn li))))))) (mv E x rfl (f8 (lf 0) (f8 mh li))))) (mm (o0 (i:=3) eR.nd (mv E x rfl (f8 (lf 0) (f8 (qd (sy (K:=K)) rfl T.b_len aZ (f8 (lf 1) li)) li)))) (mm (o0 (i:=4) eR.nd (qg (ud (K:=K)) (lf 1) (nw AE (nw tj (nw tj (lf 3) mh) (mv E x rfl (f8 (lf 0) (f8 (nw v4 (qd (sy (K:=K)) rfl T.b_len aZ (f8 (lf 1) li)) mh) li)))) (qd (sy (K:=K)) rfl T.b_len aZ (f8 (lf 1) li))))) (mm (o0 (i:=5) eR.nd (qg (ud (K:=K)) (lf 1) (mv E x rfl (f8 (lf 0) (f8 (qd (sy (K:=K)) rfl T.b_len aZ (f8 (lf 1) li)) li))))) (mm (o0 (i:=6) eR.nd (mv Y x rfl (f8 (lf 0) (f8 mh (f8 (nw wp mh mh) li))))) (mm (qa (pr (wz (K:=K)) (lf 2) (qc (f8 mn (f8 mn li)))) (mq (mr (qc (f8 (lf 2) (f8 (lf 5) (f8 (lf 6) li)))))) qb) (mm (qa (pr qf (lf 2) mn) (mq (mr (qc (f8 (lf 2) (f8 (qg (ud (K:=K)) (lf 1) (lf 3)) (f8 (lf 4) (f8 (lf 6) li))))))) qb) (mm (qa (pr qf (lf 2) mn) (mq (mr (qc (f8 (lf 2) (f8 (qg (ud (K:=K)) (lf 1) (lf 3)) (f8 (lf 4) (f8 (lf 5) (f8 (lf 6) li)))))))) qb) (mq (mr (qc (f8 (lf 2) (f8 (lf 4) (f8 (lf 5) (f8 (lf 6) li))))))))))))))),?_⟩;have IC:a≠[]:=λe=>by rw[e]at M;exact T7 M Zd
  have y:=PenAt.neS pn r IC;have Z8:(10:Int)^(12:Int).toNat=1000000000000:=by decide
  refine⟨eY rfl,λl0 G=>⟨p,6,rfl,pn.same (aA G),Zd,Zd,λa5 G1 r0 r1 vj k1=>⟨_,QYX (k1 _ _ aD (pn.ne G)),?_⟩⟩⟩;obtain⟨wd,DS,uq⟩:∃wd:Str,(wd="add"∨wd="take"∨wd="move"∨wd="send"∨wd="fetch"∨wd="pass")/\eK [V.str "add",.str "take",.str "move",.str "send",.str "fetch",.str "pass"] a5=some (.str wd):=by
   rcases six r0 r1 with rfl|rfl|rfl|rfl|rfl|rfl
   ·exact⟨_,.inl rfl,rfl⟩
   ·exact⟨_,.inr (.inl rfl),rfl⟩
   ·exact⟨_,.inr (.inr (.inl rfl)),rfl⟩
   ·exact⟨_,.inr (.inr (.inr (.inl rfl))),rfl⟩
   ·exact⟨_,.inr (.inr (.inr (.inr (.inl rfl)))),rfl⟩
   ·exact⟨_,.inr (.inr (.inr (.inr (.inr rfl)))),rfl⟩
  refine⟨_,uq,?_⟩;dsimp only [aK];have N:K1 p a2 G1:=(K1.of (aA G)).trans k1;have g1:=N _ _ r y;refine⟨_,.inl (QYX g1),p,_,rfl,vj,by rw[aX];omega,by rw[aX];omega,λr' G2 a0 a1 rf k2=>?_⟩;obtain⟨j,rfl⟩:=qX a0;rw[aX]at a1;have z:j<a.length:=by omega
  have O:=N.trans k2;have g2:=O _ _ r y;refine⟨_,.inl (QYX g2),p,_,rfl,rf,by rw[aX];omega,by rw[aX];omega,λr2 G3 b0 b1 BG k3=>?_⟩;obtain⟨m,rfl⟩:=qX b0;rw[aX]at b1;have Q:=O.trans k3;have g3:=Q _ _ r y;have P7:0<a.length:=by omega
  obtain⟨k,H⟩:∃k,k=(j+1+m)%a.length:=⟨_,rfl⟩;have I:k<a.length:=by rw[H];exact mod_lt _ P7
  have ek:((j:Int)+1+(m:Int))%((a.map V.str).length:Int)=(k:Int):=by
   rw[aX,H];have e:(j:Int)+1+(m:Int)=((j+1+m:Nat):Int):=by omega
   rw[e];exact(Int.natCast_emod _ _).symm
  have R:a[j]≠a[k]:=λe=>by
   have:=pN FV (kO z) (by rw[kO I,e]);rw[H]at this;by_cases hb:j+1+m<a.length
   ·rw[Nat.mod_eq_of_lt hb]at this;omega
   ·have h3:(j+1+m)%a.length=j+1+m-a.length:=by
     rw[Nat.mod_eq_sub_mod Zo,Nat.mod_eq_of_lt Zo]
    rw[h3]at this;omega
  refine⟨_,.inl (QYX g3),(show(0:Int)<((a.map V.str).length:Int) by rw[aX];omega),?_⟩;dsimp only;rw[ek];refine⟨_,QYX g3,.str a[k],aL (by rw[jF,kO I];rfl),?_⟩;refine⟨_,.inl (QYX g3),p,_,rfl,BG,by rw[aX];omega,by rw[aX];omega,λr3 G4 c0 c1 vk k4=>?_⟩;obtain⟨J,rfl⟩:=qX c0;rw[aX]at c1;have S:J<a.length:=by omega
  have U:=Q.trans k4;have g4:=U _ _ r y;refine⟨_,QYX g4,.str a[J],aL (by rw[jF,kO S];rfl),?_⟩;refine⟨⟨Zd,Zd,Zd⟩,p,1,_,rfl,vk,Zd,Zd,λa6 F s n1 qv k5=>?_⟩;dsimp only [aK];have u:a6<=1000000000000:=by rw[<- Z8];exact n1
  have W:=U.trans k5;have L:=W _ _ r y;have X:a[j]∈a:=getElem_mem z;have mk:a[k]∈a:=getElem_mem I;have A:a[J]∈a:=getElem_mem S;have one:∀ {f:V->Hp->Prop},f (.str a[j]) F->∃B,SqL K F Z B/\∃v,eK B (j:Int)=some v/\f v F:=λh=>⟨_,QYX L,.str a[j],aL (by rw[jF,kO z];rfl),h⟩
  have q:∀ {B:List V},lP a B->∀t b,Same F b->b t=some (.tup B)->a3 (.ref t) b:=λh t b c d=>a4 t _ b h d (qv.same c) (W.trans (K1.of c))
  rcases DS with rfl|rfl|rfl|rfl|rfl|rfl
  ·refine⟨Zs,λl C g n=>⟨l,_,rfl,.inr (QYY n),rfl,rfl,?_⟩⟩;have o:cX (.str "add") [V.str "add",.str "take"]=true:=rfl;dsimp only;rw[o];exact⟨Zs,λt b c d=>q (.one _ _ _ (.inl rfl) A s u) t b (g.trans c) d⟩
  ·refine⟨Zs,λl C g n=>⟨l,_,rfl,.inr (QYY n),rfl,rfl,?_⟩⟩;have o:cX (.str "take") [V.str "add",.str "take"]=true:=rfl;dsimp only;rw[o];exact⟨Zs,λt b c d=>q (.one _ _ _ (.inr rfl) A s u) t b (g.trans c) d⟩
  ·refine⟨Zs,λl C g n=>⟨l,_,rfl,.inr (QYY n),rfl,rfl,?_⟩⟩;have o:cX (.str "move") [V.str "add",.str "take"]=false:=rfl;dsimp only;rw[o];exact⟨_,QYX (g _ _ L),.str a[j],aL (by rw[jF,kO z];rfl),Zs,λt b c d=>q (.move _ _ _ X mk R s u) t b (g.trans c) d⟩
  ·refine⟨Zs,λl C g n=>⟨l,_,rfl,.inr (QYY n),rfl,rfl,?_⟩⟩;have o:cX (.str "send") [V.str "add",.str "take"]=false:=rfl;dsimp only;rw[o];exact⟨Zs,λt b c d=>q (.two _ _ _ _ (.inl rfl) mk A s u) t b (g.trans c) d⟩
  ·refine⟨Zs,λl C g n=>⟨l,_,rfl,.inr (QYY n),rfl,rfl,?_⟩⟩;have o:cX (.str "fetch") [V.str "add",.str "take"]=false:=rfl;dsimp only;rw[o];exact⟨Zs,λt b c d=>q (.two _ _ _ _ (.inr rfl) mk A s u) t b (g.trans c) d⟩
  ·refine⟨Zs,λl C g n=>⟨l,_,rfl,.inr (QYY n),rfl,rfl,?_⟩⟩;have o:cX (.str "pass") [V.str "add",.str "take"]=false:=rfl;dsimp only;rw[o];exact⟨_,QYX (g _ _ L),.str a[j],aL (by rw[jF,kO z];rfl),Zs,λt b c d=>q (.pass _ _ _ _ X mk A R s u) t b (g.trans c) d⟩
inductive jZ:List V->Str->Int->List Str->Prop
 | one (z a:Str) (n:Int):(z="add"∨z="take")->jZ [.str z,.str a,.int n] z n []
 | move (a b:Str) (n:Int):jZ [.str "move",.str a,.str b,.int n] "move" n []
 | two (z a b:Str) (n:Int):(z="send"∨z="fetch")->jZ [.str z,.str a,.str b,.int n] z n [a]
 | pass (a b c:Str) (n:Int):jZ [.str "pass",.str a,.str b,.str c,.int n] "pass" n [a,b]
inductive qO(w:Str)(n:Int)(hs:List Str):List V->Prop
 | short (a:Int):(w="take"∨w="send"∨w="move")->0<=a->a<=n-1->qO w n hs [.str "short",.int a]
 | full (a:Int):(w="add"∨w="fetch"∨w="move")->1000000000000-n+1<=a->a<=1000000000000->qO w n hs [.str "full",.int a]
 | more (a:Int):(w="add"∨w="fetch")->n<=a->a<=1000000000000->qO w n hs [.str "is",.int a]
 | less (a:Int):(w="take"∨w="send")->0<=a->a<=1000000000000-n->qO w n hs [.str "is",.int a]
 | both (a b:Int):w="move"->0<=a->a<=1000000000000-n->n<=b->b<=1000000000000->qO w n hs [.str "is",.int a,.int b]
 | no (h:Str):(w="send"∨w="fetch"∨w="pass")->h∈hs->qO w n hs [.str "no",.str h]
 | ok:w="pass"->qO w n hs [.str "ok"]
def uX:Sp:=λf H Q _=>∃(p d:WP)(g:List Str)(b:List V),f=[.ref p,.ref d]/\PenAt H p/\H d=some (.tup b)/\lP g b/\∀t c a w n e,jZ b w n e->qO w n e c->a t=some (.tup c)->PenAt a p->K1 p H a->Q (.ref t) a
def Ca(T:Txt K mg)(b9:Callee P w K mg base 1 "_law_take" QZT fT)(m6:Callee P w K mg base 2 "_law_number" QZA kW)(D:DefAt K mg "_law_answer" iP QZq):Callee P w K mg base 3 "_law_answer" QZq uX:=by
 refine D.gg bU (λa9 cdv b0 outer b1 a8 vs a7 b2 hr h=>?_)
 ·revert h;refine yE4 λp b3 zs xs=>yA5 λζ pn hd hD q=>?_;subst ζ;refine⟨_,(mm (o0 (i:=2) bU.nd (qe K 1)) (mm (o0 (i:=3) bU.nd (qg (AC (K:=K)) (lf 1) (wt mh))) (mm (o0 (i:=4) bU.nd (qc (f8 mn (f8 (mv m6 hr rfl (f8 (lf 0) (f8 mh (f8 (nw v4 (lf 3) mh) li)))) li)))) (mm (o0 (i:=5) bU.nd (qc (f8 mn (f8 (mv m6 hr rfl (f8 (lf 0) (f8 (nw tj (nw v4 (nw wp mh mh) (lf 3)) mh) (f8 (nw wp mh mh) li)))) li)))) (mm (o0 (i:=6) bU.nd (mv m6 hr rfl (f8 (lf 0) (f8 mh (f8 (nw v4 (nw wp mh mh) (lf 3)) li))))) (mm (o0 (i:=7) bU.nd (mv m6 hr rfl (f8 (lf 0) (f8 (lf 3) (f8 (nw wp mh mh) li))))) (mm (qa (pr qf (lf 2) mn) (mq (mr (qg (ud (K:=K)) (qk (f8 (qc (f8 mn li)) (f8 (qc (f8 mn (f8 (qe K 1) li))) (f8 (qc (f8 mn (f8 (qe K 1) li))) li)))) (mv b9 hr rfl (f8 (lf 0) (f8 mh li)))))) qb) (mm (qa (pr qf (lf 2) mn) (mq (mr (qg (ud (K:=K)) (qk (f8 (lf 4) (f8 (lf 5) (f8 (qc (f8 mn (f8 (lf 6) (f8 (lf 7) li)))) li)))) (mv b9 hr rfl (f8 (lf 0) (f8 mh li)))))) qb) (mm (o0 (i:=8) bU.nd (qk (f8 (qc (f8 mn (f8 (lf 7) li))) (f8 (lf 5) li)))) (mm (qa (pr (wz (K:=K)) (lf 2) (qc (f8 mn (f8 mn li)))) (mq (o0 (i:=8) bU.nd (qk (f8 (qc (f8 mn (f8 (lf 6) li))) (f8 (lf 4) li))))) qb) (mm (qa (pr (wz (K:=K)) (lf 2) (qc (f8 mn (f8 mn li)))) (mq (AT (ua (K:=K) PySem.F.plainAttrs_list PySem.F.slot_list_append PySem.F.type_list_append PP (lf 8) (f8 (qc (f8 mn (f8 (qe K 1) li))) li)))) qb) (mq (mr (qg (ud (K:=K)) (lf 8) (mv b9 hr rfl (f8 (lf 0) (f8 (qd (sy (K:=K)) rfl T.b_len aZ (f8 (lf 8) li)) li))))))))))))))))),?_⟩;have Z8:(10:Int)^(12:Int).toNat=1000000000000:=by decide
  obtain⟨wd,n,hs,hS,n0,n1,hw,c⟩:∃wd n hs,jZ xs wd n hs/\1<=n/\n<=1000000000000/\eK xs 0=some (.str wd)/\eK xs (-1)=some (.int n):=by
   cases hD with
   | one a0 a n h _ Y m=>exact⟨_,_,_,.one a0 a n h,Y,m,rfl,rfl⟩
   | move a b n _ _ _ Y m=>exact⟨_,_,_,.move a b n,Y,m,rfl,rfl⟩
   | two a0 a b n h _ _ Y m=>exact⟨_,_,_,.two a0 a b n h,Y,m,rfl,rfl⟩
   | pass a b a5 n _ _ _ _ Y m=>exact⟨_,_,_,.pass a b a5 n,Y,m,rfl,rfl⟩
  have pw:((0:Int)<=12/\(12:Int)<100):=⟨Zd,Zd⟩;refine⟨_,QYY hd,_,hw,?_⟩;refine⟨_,QYY hd,_,c,?_⟩;refine⟨p,0,n-1,rfl,pn,Zo,Zo,λa1 G1 a10 a11 vj k1=>⟨Zs,λA G2 s2 g2=>?_⟩⟩;dsimp only [aK];have rf:=vj.same s2;refine⟨⟨Zd,Zd,Zd⟩,⟨Zd,Zd,Zd⟩,p,_,_,rfl,rf,Zo,Zo,λa2 G3 KQ KR BG k3=>⟨Zs,λf G4 s4 g4=>?_⟩⟩;dsimp only [aK];have vk:=BG.same s4;refine⟨⟨Zd,Zd,Zd⟩,p,0,_,rfl,vk,Zo,Zo,λa3 G5 NM KS qv k5=>?_⟩;refine⟨⟨Zd,Zd,Zd⟩,p,n,_,rfl,qv,Zo,Zo,λa4 S NN KU u k6=>?_⟩;dsimp only [aK];rw[Z8]at KQ KR KS KU;have FX:K1 p a8 S:=(((k1.trans (K1.of s2)).trans k3).trans (K1.of s4)).trans (k5.trans k6);have KW:=FX _ _ hd (PenAt.tup pn hd);have NO:S A=some (.tup [.str "short",.int a1]):=k6 _ _ (k5 _ _ (s4 _ _ (k3 _ _ g2 (PenAt.tup rf g2))) (PenAt.tup vk (s4 _ _ (k3 _ _ g2 (PenAt.tup rf g2))))) (PenAt.tup qv (k5 _ _ (s4 _ _ (k3 _ _ g2 (PenAt.tup rf g2))) (PenAt.tup vk (s4 _ _ (k3 _ _ g2 (PenAt.tup rf g2))))));have NP:S f=some (.tup [.str "full",.int a2]):=k6 _ _ (k5 _ _ g4 (PenAt.tup vk g4)) (PenAt.tup qv (k5 _ _ g4 (PenAt.tup vk g4)));have Z:∀ {G:Hp}{y:List V}{t:WP},K1 p S G->PenAt G p->G t=some (.tup y)->qO wd n hs y->a7 (.ref t) G:=λk vm a6 h=>q _ _ _ _ _ _ hS h a6 vm (FX.trans k)
  have tk:∀ {G x:Hp}{t:WP}{y:List V},PenAt G p->K1 p G x->G t=some (.tup y)->x t=some (.tup y):=λvm k a6=>k _ _ a6 (PenAt.tup vm a6)
  have last:∀ {G:Hp} (l:WP) (ts:List (WP×List V)),K1 p S G->PenAt G p->l≠p->G l=some (.lst (ts.map λq=>V.ref q.1))->(∀q∈ts,G q.1=some (.tup q.2)/\qO wd n hs q.2)->0<ts.length->ts.length<=10 →
    ∃y,(SqL K G l y∨SqT K G l y)/\fT [.ref p,.int y.length] G (λr x=>Dt K (.ref l) r x a7) E0:=λ{G} l ts k vm N E ht Y ng=>by
   refine⟨_,.inl (QYX E),p,_,rfl,vm,by rw[aX];omega,by rw[aX];omega,λr x r0 r1 U B=>?_⟩;obtain⟨v,hv,hm⟩:=fA r0 r1;obtain⟨qq,F,rfl⟩:=Zmm.mp hm;exact⟨_,QYX (B _ _ E N),_,hv,Z (k.trans B) U (tk vm B (ht qq F).1) (ht qq F).2⟩
  have app:∀ {G:Hp}{h:Str} (l:WP) (H I:WP×List V),S l=none->Same S G->l≠p->G l=some (.lst [.ref H.1,.ref I.1])->(G H.1=some (.tup H.2)/\qO wd n hs H.2)->(G I.1=some (.tup I.2)/\qO wd n hs I.2)->qO wd n hs [.str "no",.str h] →
    ∀t x,Same G x->x t=some (.tup [.str "no",.str h])->∃y,(SqL K (aH x l (.lst [.ref H.1,.ref I.1,.ref t])) l y∨SqT K (aH x l (.lst [.ref H.1,.ref I.1,.ref t])) l y)/\fT [.ref p,.int y.length] (aH x l (.lst [.ref H.1,.ref I.1,.ref t])) (λr x=>Dt K (.ref l) r x a7) E0:=λ{G h} l H I fr sG N E m O hz t x s' g'=>by
   have WW:=s' _ _ E;have kt:∀ {a5:WP}{y:List V},x a5=some (.tup y)->(aH x l (.lst [.ref H.1,.ref I.1,.ref t])) a5=some (.tup y):=λe=>by rw[aJ (aBF e WW nofun)];exact e
   have NQ:=u;obtain⟨i0,j0,gp,rp⟩:=NQ;have WX:PenAt (aH x l (.lst [.ref H.1,.ref I.1,.ref t])) p:=⟨i0,j0,by rw[aJ N.symm];exact s' _ _ (sG _ _ gp),rp⟩;refine last l [H,I,(t,[.str "no",.str h])] (λa o e _=>by rw[aJ (λa0=>by rw[a0,fr]at e;cases e)];exact s' _ _ (sG _ _ e)) WX N aD (λq F=>?_) Zs Zs;simp only [mem_cons,QZZ,or_false]at F;rcases F with rfl|rfl|rfl
   ·exact⟨kt (s' _ _ m.1),m.2⟩
   ·exact⟨kt (s' _ _ O.1),O.2⟩
   ·exact⟨kt g',hz⟩
  cases hS with
  | pass a b a5 n=>
   refine⟨Zs,λd z j f1=>⟨_,QYY (j _ _ KW),_,rfl,Zs,λs F2 e2 f2=>⟨_,QYY (e2 _ _ (j _ _ KW)),_,rfl,Zs,λu3 F3 g J=>⟨eY rfl,λl c=>⟨p,3,rfl,((((u.same j).same e2).same g).same (aA c)),Zd,Zd,λr Q r0 r1 U B=>⟨_,QYX (B _ _ aD (((((u.same j).same e2).same g).ne c))),?_⟩⟩⟩⟩⟩⟩;have DU:=((((u.same j).same e2).same g).same (aA (o:=.lst [.ref d,.ref s,.ref u3]) c));have sL:=((j.trans e2).trans g).trans (aA (o:=.lst [.ref d,.ref s,.ref u3]) c);have k:=(K1.of (p:=p) sL).trans B;have h3:r=0∨r=1∨r=2:=by omega
   rcases h3 with rfl|rfl|rfl
   ·exact⟨_,rfl,Z k U (tk DU B (aA c _ _ (g _ _ (e2 _ _ f1)))) (.ok rfl)⟩
   ·exact⟨_,rfl,Z k U (tk DU B (aA c _ _ (g _ _ f2))) (.no _ (.inr (.inr rfl)) Zs)⟩
   ·exact⟨_,rfl,Z k U (tk DU B (aA c _ _ J)) (.no _ (.inr (.inr rfl)) Zs)⟩
  | move a b n=>
   refine⟨Zs,λu3 F3 g J=>⟨eY rfl,λl c=>⟨p,3,rfl,((u.same g).same (aA c)),Zd,Zd,λr Q r0 r1 U B=>⟨_,QYX (B _ _ aD ((u.same g).ne c)),?_⟩⟩⟩⟩;have DU:=((u.same g).same (aA (o:=.lst [.ref A,.ref f,.ref u3]) c));have k:=(K1.of (p:=p) (g.trans (aA (o:=.lst [.ref A,.ref f,.ref u3]) c))).trans B;have h3:r=0∨r=1∨r=2:=by omega
   rcases h3 with rfl|rfl|rfl
   ·exact⟨_,rfl,Z k U (tk DU B (aA c _ _ (g _ _ NO))) (.short _ (.inr (.inr rfl)) a10 a11)⟩
   ·exact⟨_,rfl,Z k U (tk DU B (aA c _ _ (g _ _ NP))) (.full _ (.inr (.inr rfl)) KQ KR)⟩
   ·exact⟨_,rfl,Z k U (tk DU B (aA c _ _ J)) (.both _ _ rfl NM KS NN KU)⟩
  | one a0 a n h=>
   rcases h with rfl|rfl
   ·refine⟨Zs,λd z j f1=>⟨eY rfl,λl c=>?_⟩⟩;dsimp only [aK];have DV:=(u.same j).same (aA (o:=.lst [.ref d,.ref f]) c);have sl:=j.trans (aA (o:=.lst [.ref d,.ref f]) c);have E:(aH z l (.lst [.ref d,.ref f])) l=some (.lst [.ref d,.ref f]):=aD;have N:l≠p:=(u.same j).ne c;have W:(aH z l (.lst [.ref d,.ref f])) d=some (.tup [.str "is",.int a4]):=aA c _ _ f1;generalize aH z l (.lst [.ref d,.ref f])=F2 at DV sl E W ⊢;refine⟨Zs,λw1 F3 g J=>⟨w1,_,rfl,.inr (QYY J),rfl,rfl,?_⟩⟩;have m:cX (.str "add") [V.str "take",.str "send"]=false:=rfl;dsimp only;rw[m];refine⟨Zs,λw2 Q e4 f4=>⟨w2,_,rfl,.inr (QYY f4),rfl,rfl,?_⟩⟩;have O:cX (.str "add") [V.str "send",.str "fetch"]=false:=rfl;dsimp only;rw[O];have R:=(sl.trans g).trans e4;refine last l [(d,[.str "is",.int a4]),(f,[.str "full",.int a2])] (K1.of R) (u.same R) N (e4 _ _ (g _ _ E)) (λq F=>?_) Zs Zs;simp only [mem_cons,QZZ,or_false]at F;rcases F with rfl|rfl
    ·exact⟨e4 _ _ (g _ _ W),.more _ (.inl rfl) NN KU⟩
    ·exact⟨R _ _ NP,.full _ (.inl rfl) KQ KR⟩
   ·refine⟨Zs,λd z j f1=>⟨eY rfl,λl c=>?_⟩⟩;dsimp only [aK];have DV:=(u.same j).same (aA (o:=.lst [.ref d,.ref f]) c);have sl:=j.trans (aA (o:=.lst [.ref d,.ref f]) c);have E:(aH z l (.lst [.ref d,.ref f])) l=some (.lst [.ref d,.ref f]):=aD;have N:l≠p:=(u.same j).ne c;have W:(aH z l (.lst [.ref d,.ref f])) d=some (.tup [.str "is",.int a4]):=aA c _ _ f1;generalize aH z l (.lst [.ref d,.ref f])=F2 at DV sl E W ⊢;refine⟨Zs,λw1 F3 g J=>⟨w1,_,rfl,.inr (QYY J),rfl,rfl,?_⟩⟩;have m:cX (.str "take") [V.str "take",.str "send"]=true:=rfl;dsimp only;rw[m];refine⟨Zs,λs Q e4 f4=>⟨eY rfl,λC X=>?_⟩⟩;dsimp only [aK];have R:=(sl.trans g).trans e4;have IF:=R.trans (aA (o:=.lst [.ref s,.ref A]) X);have S9:(aH Q C (.lst [.ref s,.ref A])) C=some (.lst [.ref s,.ref A]):=aD;have NR:C≠p:=(u.same R).ne X;have IG:(aH Q C (.lst [.ref s,.ref A])) s=some (.tup [.str "is",.int a3]):=aA X _ _ f4;generalize aH Q C (.lst [.ref s,.ref A])=F5 at IF S9 IG ⊢;refine⟨Zs,λw2 F6 L f6=>⟨w2,_,rfl,.inr (QYY f6),rfl,rfl,?_⟩⟩;have O:cX (.str "take") [V.str "send",.str "fetch"]=false:=rfl;dsimp only;rw[O];have M:=IF.trans L;refine last C [(s,[.str "is",.int a3]),(A,[.str "short",.int a1])] (K1.of M) (u.same M) NR (L _ _ S9) (λq F=>?_) Zs Zs;simp only [mem_cons,QZZ,or_false]at F;rcases F with rfl|rfl
    ·exact⟨L _ _ IG,.less _ (.inl rfl) NM KS⟩
    ·exact⟨M _ _ NO,.short _ (.inl rfl) a10 a11⟩
  | two a0 a b n h=>
   rcases h with rfl|rfl
   ·refine⟨Zs,λd z j f1=>⟨eY rfl,λl c=>?_⟩⟩;dsimp only [aK];have sl:=j.trans (aA (o:=.lst [.ref d,.ref f]) c);have E:(aH z l (.lst [.ref d,.ref f])) l=some (.lst [.ref d,.ref f]):=aD;have N:l≠p:=(u.same j).ne c;have W:(aH z l (.lst [.ref d,.ref f])) d=some (.tup [.str "is",.int a4]):=aA c _ _ f1;generalize aH z l (.lst [.ref d,.ref f])=F2 at sl E W ⊢;refine⟨Zs,λw1 F3 g J=>⟨w1,_,rfl,.inr (QYY J),rfl,rfl,?_⟩⟩;have m:cX (.str "send") [V.str "take",.str "send"]=true:=rfl;dsimp only;rw[m];refine⟨Zs,λs Q e4 f4=>⟨eY rfl,λC X=>?_⟩⟩;dsimp only [aK];have R:=(sl.trans g).trans e4;have IF:=R.trans (aA (o:=.lst [.ref s,.ref A]) X);have S9:(aH Q C (.lst [.ref s,.ref A])) C=some (.lst [.ref s,.ref A]):=aD;have NR:C≠p:=(u.same R).ne X;have IG:(aH Q C (.lst [.ref s,.ref A])) s=some (.tup [.str "is",.int a3]):=aA X _ _ f4;generalize aH Q C (.lst [.ref s,.ref A])=F5 at IF S9 IG ⊢;refine⟨Zs,λw2 F6 L f6=>⟨w2,_,rfl,.inr (QYY f6),rfl,rfl,?_⟩⟩;have O:cX (.str "send") [V.str "send",.str "fetch"]=true:=rfl;dsimp only;rw[O];have M:=IF.trans L;have DX:=L _ _ S9;exact⟨.inl ⟨rfl,_,QYX DX⟩,_,QYY (M _ _ KW),_,rfl,Zs,λt F7 e7 f7=>⟨C,_,_,rfl,rfl,e7 _ _ DX,by show 2<sizeLine;decide,app C (s,[.str "is",.int a3]) (A,[.str "short",.int a1]) (by cases e:S C with|none=>rfl|some o=>(rw[R _ _ e]at X;cases X)) M NR DX ⟨L _ _ IG,.less _ (.inr rfl) NM KS⟩ ⟨M _ _ NO,.short _ (.inr (.inl rfl)) a10 a11⟩ (.no _ (.inl rfl) iV) t F7 e7 f7⟩⟩
   ·refine⟨Zs,λd z j f1=>⟨eY rfl,λl c=>?_⟩⟩;dsimp only [aK];have sl:=j.trans (aA (o:=.lst [.ref d,.ref f]) c);have E:(aH z l (.lst [.ref d,.ref f])) l=some (.lst [.ref d,.ref f]):=aD;have N:l≠p:=(u.same j).ne c;have W:(aH z l (.lst [.ref d,.ref f])) d=some (.tup [.str "is",.int a4]):=aA c _ _ f1;generalize aH z l (.lst [.ref d,.ref f])=F2 at sl E W ⊢;refine⟨Zs,λw1 F3 g J=>⟨w1,_,rfl,.inr (QYY J),rfl,rfl,?_⟩⟩;have m:cX (.str "fetch") [V.str "take",.str "send"]=false:=rfl;dsimp only;rw[m];refine⟨Zs,λw2 F6 L f6=>⟨w2,_,rfl,.inr (QYY f6),rfl,rfl,?_⟩⟩;have O:cX (.str "fetch") [V.str "send",.str "fetch"]=true:=rfl;dsimp only;rw[O];have M:=(sl.trans g).trans L;have DX:=L _ _ (g _ _ E);exact⟨.inl ⟨rfl,_,QYX DX⟩,_,QYY (M _ _ KW),_,rfl,Zs,λt F7 e7 f7=>⟨l,_,_,rfl,rfl,e7 _ _ DX,by show 2<sizeLine;decide,app l (d,[.str "is",.int a4]) (f,[.str "full",.int a2]) (by cases e:S l with|none=>rfl|some o=>(rw[j _ _ e]at c;cases c)) M N DX ⟨L _ _ (g _ _ W),.more _ (.inr rfl) NN KU⟩ ⟨M _ _ NP,.full _ (.inr (.inl rfl)) KQ KR⟩ (.no _ (.inr (.inl rfl)) iV) t F7 e7 f7⟩⟩
def Vp(T:Txt K mg)(D:DefAt K mg "asks_of" nJ QZM):Callee P w K mg base 1 "asks_of" QZM Oy:=by
 refine D.gg pI (λf cdv A outer s H vs Q E hr h=>?_)
 ·revert h;refine yE5 λp wd xs cs as=>yA4 λζ hp η q=>?_;subst ζ;obtain⟨one,other,nm,n,hd⟩:=η;refine⟨_,(mm (o0 (i:=1) pI.nd (qc (f8 mn (f8 (qg (AC (K:=K)) (lf 0) (wt mh)) (f8 (qg (AC (K:=K)) (lf 0) (wt mh)) li))))) (mm (o0 (i:=2) pI.nd (qc (f8 mn (f8 (qg (AC (K:=K)) (lf 0) (wt mh)) (f8 (qg (AC (K:=K)) (lf 0) (wt mh)) li))))) (mm (qa (pr qf (qe K 0) mn) (mq (mr (qc (f8 (qc (f8 (qe K 0) (f8 (lf 1) li))) li)))) qb) (mm (qa (pr qf (qe K 0) mn) (mq (mr (qc (f8 (qc (f8 (qe K 0) (f8 (lf 2) li))) li)))) qb) (mm (qa (pr qf (qe K 0) mn) (mq (mr (qc (f8 (qc (f8 (qe K 0) (f8 (lf 2) li))) (f8 (qc (f8 (qe K 0) (f8 (lf 1) li))) li))))) qb) (mq (mr (qc li)))))))),?_⟩;cases hd
  all_goals
   refine⟨_,QYY hp,_,rfl,_,QYY hp,_,rfl,Zs,λp1 H1 s1 g1=>⟨_,QYY (s1 _ _ hp),_,rfl,_,QYY (s1 _ _ hp),_,rfl,Zs,λp2 H2 s2 g2=>?_⟩⟩;have mx:=(s1.trans s2) _ _ hp;refine⟨_,QYY mx,_,rfl,?_⟩
  case send=>exact⟨_,QYY mx,_,rfl,Zs,λp3 H3 s3 g3=>⟨Zs,λp4 H4 s4 g4=>q p4 _ H4 (((s1.trans s2).trans s3).trans s4) g4 (.cons ⟨p3,p1,rfl,s4 _ _ g3,s4 _ _ (s3 _ _ (s2 _ _ g1))⟩ .nil)⟩⟩
  all_goals refine⟨_,QYY mx,_,rfl,?_⟩
  case fetch=>exact⟨_,QYY mx,_,rfl,Zs,λp3 H3 s3 g3=>⟨Zs,λp4 H4 s4 g4=>q p4 _ H4 (((s1.trans s2).trans s3).trans s4) g4 (.cons ⟨p3,p2,rfl,s4 _ _ g3,s4 _ _ (s3 _ _ g2)⟩ .nil)⟩⟩
  all_goals refine⟨_,QYY mx,_,rfl,?_⟩
  case pass=>
   refine⟨_,QYY mx,_,rfl,Zs,λp3 H3 s3 g3=>⟨_,QYY (s3 _ _ mx),_,rfl,Zs,λp4 H4 s4 g4=>⟨Zs,λp5 H5 s5 g5=>?_⟩⟩⟩;exact q p5 _ H5 ((((s1.trans s2).trans s3).trans s4).trans s5) g5 (.cons ⟨p3,p2,rfl,s5 _ _ (s4 _ _ g3),s5 _ _ (s4 _ _ (s3 _ _ g2))⟩ (.cons ⟨p4,p1,rfl,s5 _ _ g4,s5 _ _ (s4 _ _ (s3 _ _ (s2 _ _ g1)))⟩ .nil))
  all_goals exact⟨Zd,λp3 H3 s3 g3=>q p3 [] H3 ((s1.trans s2).trans s3) g3 .nil⟩
def Fc(T:Txt K mg)(D:DefAt K mg "word_of" nK QZX):Callee P w K mg base 1 "word_of" QZX qD:=by
 refine D.gg Eu (λf o A n s H p Q E t h=>?_)
 ·obtain⟨x,rfl,d,q⟩:=h;refine⟨_,(mm (qa (tf (uc (sw (qm (tq .tup (lf 0) rfl T.b_isinstance rfl T.b_tuple bW))) (uc (pr qf (qd (sy (K:=K)) rfl T.b_len aZ (f8 (lf 0) li)) mh) (ul (sw (qm (tq .str (qe K 0) rfl T.b_isinstance rfl T.b_str iC))))))) (mq (mr wv)) qb) (mq (mr (qe K 0)))),?_⟩;rcases d.1 with⟨j,_⟩|⟨a,c,rfl,h|h⟩|⟨a,i,rfl,h⟩
  ·cases x with
   | non=>exact⟨.non,trivial,q⟩
   | bl _=>exact⟨.bl,trivial,q⟩
   | int _=>exact⟨.int,trivial,q⟩
   | str _=>exact⟨.str,trivial,q⟩
   | _=>exact T7 (show false=true from j) Y1
  ·refine⟨.lst,.inl ⟨c,h⟩,?_⟩;have e:cR H (.ref a)=.non:=by unfold cR bA;dsimp only;rw[h]
   rw[e]at q;exact q
  ·refine⟨.tup,⟨c,h⟩,c,.inr (QYY h),?_⟩;have l:cR H (.ref a)=kK c:=by unfold cR;rw[cD h]
   rw[l]at q;obtain⟨_,m⟩:=d.2 a c rfl h
   cases c with
   | nil=>exact q
   | cons y r=>
    have g:eK (y::r) ((0:Nat):Int)=some y:=aL rfl;refine⟨y::r,QYY h,y,g,?_⟩;obtain⟨k,b⟩:=(m y iV).kd;refine⟨k,b,?_⟩
    cases y with
    | str u=>
     cases k<;>first|exact b.elim|skip
     exact⟨_,QYY h,_,g,q⟩
    | non=>cases k<;>first|exact b.elim|exact q
    | bl _=>cases k<;>first|exact b.elim|exact q
    | int _=>cases k<;>first|exact b.elim|exact q
    | ref _=>cases k<;>first|exact b.elim|exact q
    | _=>cases k<;>exact b.elim
  ·refine⟨.dct,⟨i,h⟩,?_⟩;have e:cR H (.ref a)=.non:=by unfold cR bA;dsimp only;rw[h]
   rw[e]at q;exact q
def Qz(T:Txt K mg)(d:Callee P w K mg base 2 "is_name" QZX (jW LET 8))(D:DefAt K mg "is_no" tH QZD):Callee P w K mg base 3 "is_no" QZD Ec:=by
 refine D.gg Qx (λf n A m s H o Q E g h=>?_)
 ·revert h;refine yE2 λa c=>yA4 λζ h b q=>?_;subst ζ;refine⟨_,(mq (mr (wk (ub qf (qd (sy (K:=K)) rfl T.b_len aZ (f8 (lf 0) li)) mh) (wl (mv d g rfl (f8 (qe K 0) li)))))),?_⟩;refine⟨c,.inr (QYY h),?_⟩
  match c,h,b,q with
  | [],h,b,q=>exact q H (Same.refl _)
  | [_],h,b,q=>exact q H (Same.refl _)
  | [x,y],h,b,q=>
   obtain⟨k,i⟩:=(b y Zs).kd;refine⟨_,QYY h,y,rfl,y,k,rfl,i,?_,λj l=>q j l⟩;intro z e;subst e;rcases b (.str z) Zs with⟨_,h⟩|⟨_,_,e,_⟩|⟨_,_,e,_⟩
   ·exact h z rfl
   ·cases e
   ·cases e
  | x::y::z::r,h,b,q=>
   exact q H (Same.refl _)
theorem tI{H:Hp}:∀ {L:List (Str×List (Int×Int))}{c:List (eN×V)},Paired (λa b=>b.1=Sum.inr a.1/\Bd H (some a.2) (some b.2)) L c->∀u:Str,Bd H (L.lookup u) (dN c (Sum.inr u))
 | _,_,.nil,u=>rfl
 | a::L,b::c,.cons h t,u=>by
  rw[lookup_cons];by_cases e:u=a.1
  ·subst e;rw[beq_self_eq_true,cY h.1];exact h.2
  ·have d:(u==a.1)=false:=beq_eq_false_iff_ne.mpr e;rw[d,cZ (by rw[h.1];intro z;exact e (Sum.inr.inj z).symm)];exact tI t u
def mk2(h:([Sum.inr a,Sum.inr b]:List eN).Nodup)(x y:V):iW [] [(Sum.inr a,x),(Sum.inr b,y)]=[(Sum.inr a,x),(Sum.inr b,y)]:=rH _ _ h λ_ _=>rfl
def mk3(h:([Sum.inr a,Sum.inr b,Sum.inr c]:List eN).Nodup)(x y z:V):iW [] [(Sum.inr a,x),(Sum.inr b,y),(Sum.inr c,z)]=[(Sum.inr a,x),(Sum.inr b,y),(Sum.inr c,z)]:=rH _ _ h λ_ _=>rfl
def Ky(T:Txt K mg)(D:DefAt K mg "bounds_of" jL QZM):Callee P w K mg base 1 "bounds_of" QZM Be:=by
 refine D.gg dO (λa5 cdv a6 outer a7 a2 vs a3 a8 hr h=>?_)
 ·revert h;refine yE5 λa9 wd a0 xs as=>yA4 λζ O η a1=>?_;subst ζ;obtain⟨⟨one,other,nm,cs,A⟩,_⟩:=η;refine⟨_,(mm (o0 (i:=1) dO.nd (qg (AC (K:=K)) (lf 0) (wt mh))) (mm (o0 (i:=2) dO.nd (qc (f8 mh (f8 (nw v4 (EQ rfl T.g_MOST) (lf 1)) li)))) (mm (o0 (i:=3) dO.nd (qc (f8 (lf 1) (f8 (EQ rfl T.g_MOST) li)))) (mm (o0 (i:=4) dO.nd (qc (f8 mh (f8 (nw v4 (lf 1) mh) li)))) (mm (o0 (i:=5) dO.nd (qc (f8 (nw tj (nw v4 (EQ rfl T.g_MOST) (lf 1)) mh) (f8 (EQ rfl T.g_MOST) li)))) (mm (qa (pr qf (qe K 0) mn) (mq (mr R.jo)) qb) (mm (qa (pr qf (qe K 0) mn) (mq (mr (R.dm (wj mn (qc (f8 (lf 2) (f8 (lf 3) li))) (wj mn (qc (f8 (lf 4) li)) (wj mn (qc (f8 (lf 5) li)) R.dq)))))) qb) (mm (qa (pr (wz (K:=K)) (qe K 0) (qc (f8 mn (f8 mn li)))) (mq (mr (R.dm (wj mn (qc (f8 (lf 2) li)) (wj mn (qc (f8 (lf 4) li)) R.dq))))) qb) (mq (mr (R.dm (wj mn (qc (f8 (lf 3) li)) (wj mn (qc (f8 (lf 5) li)) R.dq))))))))))))),?_⟩;have el:eK xs (-1)=some (.int a0):=by cases A<;>rfl
  refine⟨_,QYY O,_,el,?_⟩;refine⟨Zs,λp1 H1 s1 g1=>⟨Zs,λp2 H2 Q g2=>⟨Zs,λp3 H3 L g3=>⟨Zs,λp4 B C S=>?_⟩⟩⟩⟩;have r:=((s1.trans Q).trans L).trans C;have k:=r _ _ O;have U:=C _ _ (L _ _ (Q _ _ g1));have W:=C _ _ (L _ _ g2);have X:=C _ _ g3;have J:∀(f:Hp)(b:WP)(G:Hp)(m:List (eN×V)),Same a2 f->f b=none->Same (aH f b (.dK [])) G->(∀u:Str,Bd (aH G b (.dK m)) ((iZ wd a0).lookup u) (dN m (Sum.inr u)))->a3 (.ref b) (aH G b (.dK m)):=λf b G m sH g a hb=>by
   refine a1 b m _ (λc o e=>?_) aD hb;have Y:=sH _ _ e;rw[aJ (aF Y g)];exact a _ _ (aA g _ _ Y)
  have d:∀ {f:Hp}{b:WP}{G:Hp}{m:List (eN×V)}{c:WP}{l:List V},Same (aH f b (.dK [])) G->G c=some (.tup l)->aH G b (.dK m) c=some (.tup l):=λ{f b G m c l} a e=>by
   have:c≠b:=λz=>by have h:=a _ _ aD;rw[<- z,e]at h;cases h
   rw[aJ this];exact e
  have p:∀ {G:Hp}{c t:WP}{lo E:Int},G t=some (.tup [.ref c])->G c=some (.tup [.int lo,.int E])->Bd G (some [(lo,E)]) (some (.ref t)):=λ{G c t lo E} h1 h2=>⟨t,[(c,lo,E)],rfl,h1,λz F=>by rw[Zms.mp F];exact h2,rfl⟩
  cases A with
  | pass=>
   refine⟨_,QYY k,_,rfl,?_⟩;intro a4 A;exact a1 a4 [] _ (r.trans (aA A)) aD λu=>rfl
  | move=>
   refine⟨_,QYY k,_,rfl,?_⟩;refine⟨_,QYY k,_,rfl,?_⟩;intro b g;refine⟨Zs,λq Z n s=>⟨Zs,λv H j x=>⟨Zs,λq3 G3 I e3=>⟨I _ _ (j _ _ (n _ _ aD)),[(Sum.inr ("is":Str),.ref q),(Sum.inr ("short":Str),.ref v),(Sum.inr ("full":Str),.ref q3)],rfl,Zs,?_⟩⟩⟩⟩;rw[mk3 Zk];have a:=(n.trans j).trans I;have up:=λ{c:WP}{l:List V} (e:B c=some (.tup l))=>a _ _ (aA (o:=.dK []) g _ _ e)
   refine J B b G3 _ r g a (tI (.cons ⟨rfl,?_⟩ (.cons ⟨rfl,p (d a (I _ _ x)) (d a (up X))⟩ (.cons ⟨rfl,p (d a e3) (d a (up S))⟩ .nil))));exact⟨q,[(p1,_,_),(p2,_,_)],rfl,d a (I _ _ (j _ _ s)),λz F=>by
    simp only [mem_cons,QZZ,or_false]at F;rcases F with rfl|rfl
    ·exact d a (up U)
    ·exact d a (up W),rfl⟩
  | take|send=>
   refine⟨_,QYY k,_,rfl,?_⟩;refine⟨_,QYY k,_,rfl,?_⟩;refine⟨_,QYY k,_,rfl,Zs,λM f y N=>⟨M,_,rfl,.inr (QYY N),rfl,rfl,?_⟩⟩;intro b g;refine⟨Zs,λq Z n s=>⟨Zs,λv H j x=>⟨j _ _ (n _ _ aD),[(Sum.inr ("is":Str),.ref q),(Sum.inr ("short":Str),.ref v)],rfl,Zs,?_⟩⟩⟩;rw[mk2 Zk];have a:=n.trans j;have up:=λ{c:WP}{l:List V} (e:B c=some (.tup l))=>a _ _ (aA (o:=.dK []) g _ _ (y _ _ e))
   exact J f b H _ (r.trans y) g a (tI (.cons ⟨rfl,p (d a (j _ _ s)) (d a (up U))⟩ (.cons ⟨rfl,p (d a x) (d a (up X))⟩ .nil)))
  | add|fetch=>
   refine⟨_,QYY k,_,rfl,?_⟩;refine⟨_,QYY k,_,rfl,?_⟩;refine⟨_,QYY k,_,rfl,Zs,λM f y N=>⟨M,_,rfl,.inr (QYY N),rfl,rfl,?_⟩⟩;intro b g;refine⟨Zs,λq Z n s=>⟨Zs,λv H j x=>⟨j _ _ (n _ _ aD),[(Sum.inr ("is":Str),.ref q),(Sum.inr ("full":Str),.ref v)],rfl,Zs,?_⟩⟩⟩;rw[mk2 Zk];have a:=n.trans j;have up:=λ{c:WP}{l:List V} (e:B c=some (.tup l))=>a _ _ (aA (o:=.dK []) g _ _ (y _ _ e))
   exact J f b H _ (r.trans y) g a (tI (.cons ⟨rfl,p (d a (j _ _ s)) (d a (up W))⟩ (.cons ⟨rfl,p (d a x) (d a (up S))⟩ .nil)))
def Cb{a:Type}{xs:List a}{i:Nat}{x:a}(h:xs[i]?=some x):xs.take (i+1)=xs.take i++[x]:=by
 rw[take_succ,h];rfl
def Kz(T:Txt K mg)(y:Callee P w K mg base 1 "is_whole" QZI gF)(D:DefAt K mg "are_within" fF QZC):Callee P w K mg base 2 "are_within" QZC Bf:=by
 refine D.gg vL (λf S A M s H U a0 a1 B h=>?_)
 ·revert h;refine yE4 λa2 a3 a bs=>yA7 λζ m W C p E q=>?_;subst ζ;refine⟨_,(mm (qa (pr wq (qd (sy (K:=K)) rfl T.b_len aZ (f8 (lf 0) li)) (qd (sy (K:=K)) rfl T.b_len aZ (f8 (lf 1) li))) (mq (mr tu)) qb) (mq (mr (qd (R.dl (K:=K) rfl) rfl T.b_all uF (f8 (uf rfl (js:=[none,none]) (N:=QZc) (CompScope.by (aE fF) QZC rfl rfl Zk) (lX (cN rfl (cN rfl kG))) (R.di (K:=K) rfl T.b_zip (lf 0) (lf 1)) (λa4 O Q X=>⟨(K3 (K:=K) (n:=2) rfl (wu (qi (i:=0) (show(QZc:List Str).Nodup by decide +kernel)) (wu (qi (i:=1) (show(QZc:List Str).Nodup by decide +kernel)) NE))),ug,(mv y B rfl (f8 (lf 0) (f8 (qe K 1) (f8 (qe K 1) li))))⟩)) li))))),?_⟩;refine⟨a,.inr (QYY m),yL bs,.inr (QYY p),?_⟩;have r:(yL bs).length=(bs.map (·.2)).length:=by unfold yL;rw[aX,aX]
  dsimp only [mNe,mB];refine aV (λh=>?_) (λh=>?_)
  ·have j:a.length≠(bs.map (·.2)).length:=by
    rw[<- r];intro e;rw[e]at h;simp at h
   have:=q H (Same.refl _);unfold bK at this;rw[XV j,Bool.false_and]at this;exact this
  ·have j:a.length=(bs.map (·.2)).length:=by
    rw[<- r];have:((a.length:Int)=((yL bs).length:Int)):=by simpa using h
    omega
   have Y:bs.length=a.length:=by rw[j,aX]
   refine⟨false,false,a,yL bs,QYY m,QYY p,?_⟩;refine mH Zo (λi d g=>d=(((a.zip (bs.map (·.2))).take i).map λq=>aQ q.2.1 q.2.2 q.1).map V.bl/\Same H g) (λi d g ⟨e,b⟩=>⟨QYY (b _ _ m),QYY (b _ _ p),by rw[e,aX,aX,fM];exact min_le_left _ _⟩) ⟨rfl,Same.refl _⟩ (?_) (?_)
   ·rintro i x a5 d g F u c ⟨e,b⟩ G;unfold yL at c;rw[jF]at c;cases k:bs[i]? with
    | none=>rw[k]at c;cases c
    | some z=>
     rw[k]at c;cases c;have t:=b.trans (aA (o:=.tup [x,.ref z.1]) G);have v:=t _ _ (E z (sW k));have I:(a.zip (bs.map (·.2)))[i]?=some (x,z.2):=by
      rw[List.getElem?_zip_eq_some];exact⟨u,by rw[jF,k];rfl⟩
     refine⟨F,_,rfl,QYY aD,rfl,_,_,rfl,_,_,rfl,rfl,_,QYY v,_,rfl,_,QYY v,_,rfl,x,z.2.1,z.2.2,rfl,((C x (sW u)).same t).pt,λZ J=>⟨?_,t.trans J⟩⟩;rw[Cb I,hX,hX,e];rfl
   ·rintro d g ⟨e,b⟩;intro l L;refine⟨l,((a.zip (bs.map (·.2))).map λq=>aQ q.2.1 q.2.2 q.1),rfl,QYX ?_,?_⟩
    ·rw[aD,e];have:(a.zip (bs.map (·.2))).take (min a.length (yL bs).length)=a.zip (bs.map (·.2)):=qU (by rw[length_zip,r];exact cE _);rw[this]
    ·have:=q (aH g l (.lst d)) (b.trans (aA L));unfold bK at this;rw[X2 j,Bool.true_and]at this;rw[all_map];exact this
def Vq{wd:Str}(h:DWX wd xs cs a):eK xs 0=some (.str wd):=by
 obtain⟨one,c,nm,n,b⟩:=h;cases b<;>rfl
def fW(wd:Str)(hs:List Str)(n:Int)(u:Str)(r:List V):cI wd hs n (.str u::r)=if u="no" then (match r with|[y]=>oY y hs|_=>false) else if u="ok" then decide (wd="pass")&&r.isEmpty else match (iZ wd n).lookup u with|some bs=>bK r bs|none=>false:=rfl
def Hq(h:∀z∈hs,isNm z)(y:V)(m:oY y hs=true):dR y=true:=by
 cases y with
 | str z=>exact fS (h z (by simpa [oY]using m))
 | _=>cases m
def zN(T:Txt K mg)(B3:Callee P w K mg base 1 "word_of" QZX qD)(Z9:Callee P w K mg base 3 "is_no" QZD Ec)(vn:Callee P w K mg base 1 "asks_of" QZM Oy)(oh:Callee P w K mg base 1 "bounds_of" QZM Be)(jz:Callee P w K mg base 2 "are_within" QZC Bf)(D:DefAt K mg "is_answer" gV QZH):Callee P w K mg base 4 "is_answer" QZH qF:=by
 refine D.gg lI (λa5 cdv a6 outer a7 H vs a4 a8 m h=>?_)
 ·revert h;refine yE6 λp wd n G b x=>yA5 λζ C E W q=>?_;subst ζ;have X:=aB2 m;refine⟨_,(mm (o0 (i:=2) lI.nd (mv B3 m rfl (f8 (lf 1) li))) (mm (qa (pr qf (lf 2) mn) (mq (mr (wk (mv Z9 m rfl (f8 (lf 1) li)) (wl (ub (wz (K:=K)) (qe K 1) (uf rfl (js:=[none,none]) (N:=["house","there"]) (CompScope.by (aE gV) ["deed","thing","word","bounds"] rfl rfl Zk) (lX (cN rfl (cN rfl kG))) (R.dg (K:=K) (mv vn m rfl (f8 (lf 0) li))) (λa9 s₂ H₂ fp=>⟨(K3 (K:=K) (n:=2) rfl (wu (qi (i:=0) (show(["house","there"]:List Str).Nodup by decide +kernel)) (wu (qi (i:=1) (show(["house","there"]:List Str).Nodup by decide +kernel)) NE))),ug,(lf 0)⟩))))))) qb) (mm (qa (pr qf (lf 2) mn) (mq (mr (wk (ub qf (qe K 0) mn) (wl (ub qf (qd (sy (K:=K)) rfl T.b_len aZ (f8 (lf 1) li)) mh))))) qb) (mm (o0 (i:=3) lI.nd (mv oh m rfl (f8 (lf 0) li))) (mq (mr (wk (ub (R.fz X) (lf 2) (lf 3)) (wl (mv jz m rfl (f8 (ql xz (lf 1) (qh mh) re) (f8 (R.jp X (lf 3) (lf 2)) li))))))))))),?_⟩;refine⟨x,rfl,W,?_⟩;dsimp only [aK];obtain⟨cs,I⟩:=E.dwx;have FZ:cR H x=.non->iF H wd (b.map (·.1)) n x=false->∀ {R:Prop},R=R->True:=λ_ _ _ _=>trivial
  have key:(cR H x=.non/\iF H wd (b.map (·.1)) n x=false)∨∃a u r,x=.ref a/\H a=some (.tup (.str u::r))/\cR H x=.str u/\iF H wd (b.map (·.1)) n x=cI wd (b.map (·.1)) n (.str u::r):=by
   unfold cR iF;cases e:bA H x with
   | none=>exact .inl ⟨rfl,rfl⟩
   | some f=>
    have:∃a,x=.ref a/\H a=some (.tup f):=by
     unfold bA at e;cases x with
     | ref a=>
      dsimp only at e;refine⟨a,rfl,?_⟩;split at e
      ·cases e;assumption
      ·cases e
     | _=>cases e
    obtain⟨a,rfl,h⟩:=this
    cases f with
    | nil=>exact .inl ⟨rfl,rfl⟩
    | cons y r=>cases y with
     | str u=>exact .inr ⟨a,u,r,rfl,h,rfl,rfl⟩
     | _=>exact .inl ⟨rfl,rfl⟩
  rcases key with⟨J,L⟩|⟨a,u,r,rfl,h,J,L⟩
  ·rw[J];refine⟨p,wd,n,G,b,rfl,C,E,λa0 s z c g1 Y=>?_⟩;refine⟨⟨s,g1⟩,?_⟩;have:=q z c;rw[L]at this;exact this
  ·rw[J];rw[L,fW]at q;obtain⟨hl,Z⟩:=W.2 a _ rfl h;have M:∀y∈r,Pc H y:=λy O=>Z y (fN _ O)
   show if decide (u="no")=true then _ else _
   refine aV (λQ=>?_) (λQ=>?_)
   ·rw[UF (X4 Q)]at q;refine⟨a,_,rfl,h,Z,λz c=>?_⟩;show if qE (.str u::r)=true then _ else _
    refine aV (λd=>?_) (λd=>?_)
    ·match r,d,q,h,M with
     | [y],d,q,h,M=>
      have WY:dR y=true:=d
      cases y with
      | str a1=>
       refine⟨_,QYY (c _ _ h),_,rfl,p,wd,G,cs,b,rfl,c _ _ C,I,λt us H2 g g2 S=>⟨t,rfl,⟨_,QYY g2⟩,?_⟩⟩;refine bN (iI K t us) (by have:=S.length;obtain⟨one,other,nm,n',hh⟩:=I;rw[<- this];cases hh<;>simp) (λi f A=>A=H2/\f=((b.take i).map (·.1)).map V.str) (λi f A ⟨e,B⟩=>⟨by rw[e];exact QYY g2,by rw[B,aX,aX,fM];exact min_le_left _ _⟩) ⟨rfl,rfl⟩ (λi v f A o ⟨e,B⟩=>?_) (λf A ⟨e,B⟩=>?_)
       ·subst e;obtain⟨hi,ev⟩:=Zgs.mp o;refine yE0 (Paired.get' (j:=i) S hi) (yE3 λKZ a' d'=>yA3 λRJ ga gd=>?_);rw[ev]at RJ;subst RJ;refine⟨a',_,rfl,QYY ga,rfl,_,_,rfl,_,_,rfl,rfl,rfl,?_⟩;rw[Cb (kO KZ),hX,hX,B];rfl
       ·subst e;intro a2 u9;have e3:f=(b.map (·.1)).map V.str:=by rw[B,<- S.length,List.take_length]
        refine⟨a2,_,rfl,.inl (QYX aD),rfl,by rw[e3];exact Ju _,?_⟩;have:=q (aH A a2 (.lst f)) ((c.trans g).trans (aA u9));show a4 (.bl (cX (.str a1) f)) _;rw[e3,Gv]at *;exact this
      | _=>cases WY
    ·have e:(match r with|[y]=>oY y (b.map (·.1))|_=>false)=false:=by
      match r,d with
      | [],_=>rfl
      | [y],d=>
       have B0:dR y=false:=d
       cases a3:oY y (b.map (·.1)) with
       | false=>exact a3
       | true=>
        have:=Hq (hs:=b.map (·.1)) (λa1 hz=>by obtain⟨l,ny,rfl⟩:=Zmm.mp hz;exact E.nm l ny) y a3;rw[this]at B0;cases B0
      | _::_::_,_=>rfl
     rw[e]at q;exact q z c
   ·rw[T8 (X3 Q)]at q;show if decide (u="ok")=true then _ else _
    refine aV (λd=>?_) (λd=>?_)
    ·rw[UF (X4 d)]at q;refine⟨_,QYY C,_,Vq I,?_⟩;show if decide (wd="pass")=true then _ else _
     have l:=q H (Same.refl _);refine aV (λU=>?_) (λU=>?_)
     ·rw[U,Bool.true_and]at l;refine⟨_,.inr (QYY h),?_⟩;have e:r.isEmpty=decide ((((V.str u::r).length:Nat):Int)=1):=by
       cases r with
       | nil=>rfl
       | cons y r=>symm;exact XV (by rw[eJ,eJ];omega)
      rw[e]at l;exact l
     ·rw[U,Bool.false_and]at l;exact l
    ·rw[T8 (X3 d)]at q;refine⟨p,wd,n,G,b,rfl,C,E,λa0 s z c g1 Y=>?_⟩;dsimp only [aK];have F:=Y u;refine⟨s,g1,?_⟩;show if (dN s (Sum.inr u)).isSome=true then _ else _
     cases eb:(iZ wd n).lookup u with
     | none=>
      rw[eb]at F q;have o:dN s (Sum.inr u)=none:=F;rw[o];exact q z c
     | some bs=>
      rw[eb]at F q;revert F;refine yE2 λt zs=>yA4 λo gt WZ hm=>?_;rw[o];refine⟨_,c _ _ h,λp2 H2 g g2=>⟨a0,.ref t,rfl,?_,p2,t,r,zs,rfl,?_,?_,λy O=>(M y O).same (c.trans g),g _ _ gt,WZ.same g,λH3 s3=>?_⟩⟩
      ·have:=DGet.k (k:=Sum.inr u) (g _ _ g1);rw[o]at this;exact this
      ·have ec:cP (V.str u::r) (some 1) none=r:=dH _ 1;rw[ec]at g2;exact g2
      ·rw[eJ]at hl;omega
      ·rw[hm];exact q H3 ((c.trans g).trans s3)
def Vr(T:Txt K mg)(B3:Callee P w K mg base 1 "word_of" QZX qD)(Z9:Callee P w K mg base 3 "is_no" QZD Ec)(E5:Callee P w K mg base 4 "is_answer" QZH qF)(D:DefAt K mg "is_some_answer" cS QZX):Callee P w K mg base 5 "is_some_answer" QZX yW:=by
 refine D.gg jQ (λa2 cdv a3 outer a4 H vs a5 a6 L a0=>?_)
 ·obtain⟨x,rfl,tg,q⟩:=a0;refine⟨_,(mm (qa (pr qf (mv B3 L rfl (f8 (lf 0) li)) mn) (mq (mr (mv Z9 L rfl (f8 (lf 0) li)))) qb) (mm (o0 (i:=1) jQ.nd (qc (f8 (qc (f8 mn (f8 mn (f8 mh li)))) (f8 (qc (f8 mn (f8 mn (f8 mh li)))) (f8 (qc (f8 mn (f8 mn (f8 mn (f8 mh li))))) (f8 (qc (f8 mn (f8 mn (f8 mn (f8 (EQ rfl T.g_MOST) li))))) (f8 (qc (f8 mn (f8 mn (f8 mn (f8 mn (f8 mh li)))))) li))))))) (mq (mr (qd (R.jq (K:=K) rfl) rfl T.b_any aAA (f8 (uf rfl (js:=[none,some 0]) (N:=QZH) (CompScope.by (aE cS) ["thing","widest"] rfl rfl Zk) (aY rfl) (R.dg (K:=K) (lf 1)) (λa7 s₂ H₂ fp=>⟨(qi (i:=0) (show(QZH:List Str).Nodup by decide +kernel)),ug,(mv E5 L rfl (f8 (lf 0) (f8 (lf 1) li)))⟩)) li)))))),?_⟩;rw[Qe]at q;refine⟨x,rfl,tg,?_⟩;have xg:cR H x=.non∨∃u,cR H x=.str u:=by
   unfold cR kK;cases bA H x with
   | none=>exact .inl rfl
   | some p=>cases p with
    | nil=>exact .inl rfl
    | cons y a8=>cases y<;>first|exact .inl rfl|exact .inr ⟨_,rfl⟩
  by_cases r:cR H x=.str "no"
  ·obtain⟨u,e,hu⟩:∃u,cR H x=.str u/\u="no":=⟨_,r,rfl⟩;rw[e];show if decide (u="no")=true then _ else _
   refine mE (X2 hu) ?_;rw[UF r]at q;have M:=r;unfold cR at M;cases m:bA H x with
   | none=>rw[m]at M;cases M
   | some p=>
    rw[m]at q;have:∃a,x=.ref a/\H a=some (.tup p):=by
     unfold bA at m;split at m
     ·rename_i a;refine⟨a,rfl,?_⟩;split at m
      ·rename_i f e;rw[e,Option.some.inj m]
      ·cases m
     ·cases m
    obtain⟨a,rfl,ga⟩:=this;exact⟨a,p,rfl,ga,(tg.2 a p rfl ga).2,q⟩
  rw[T8 r]at q;rcases xg with e|⟨u,e⟩
  ·rw[e];show aT _ _ _;refine⟨Zs,λs H1 O g1=>⟨Zs,λt H2 z g2=>⟨Zs,λA H3 n g3=>⟨Zs,λB H4 k Q=>⟨Zs,λC H5 g S=>⟨Zs,λtw o d E=>?_⟩⟩⟩⟩⟩⟩;dsimp only [aK];have U:Paired (λ(q:Str×Int×List V) (v:V)=>∃b,v=.ref b/\o b=some (.tup q.2.2)) WID [.ref s,.ref t,.ref A,.ref B,.ref C]:=by
    refine .cons ⟨_,rfl,d _ _ (g _ _ (k _ _ (n _ _ (z _ _ g1))))⟩ (.cons ⟨_,rfl,d _ _ (g _ _ (k _ _ (n _ _ g2)))⟩ (.cons ⟨_,rfl,d _ _ (g _ _ (k _ _ g3))⟩ (.cons ⟨_,rfl,d _ _ (g _ _ Q)⟩ (.cons ⟨_,rfl,d _ _ S⟩ .nil))))
   have F:Same H o:=((((O.trans z).trans n).trans k).trans g).trans d;refine⟨tw,rfl,⟨_,QYY E⟩,?_⟩;refine bN (iI K tw _) Zs (λj f h=>f=((WID.take j).map λq=>V.bl (iF H q.1 (uO q.1) q.2.1 x))/\Same o h) (λj f h ⟨e,c⟩=>⟨QYY (c _ _ E),by rw[e,aX,fM];exact min_le_left _ _⟩) ⟨rfl,Same.refl _⟩ (?_) (?_)
   ·rintro j y f h G ⟨e,c⟩;have W:=(Zgs.mp G).1;refine yE0 (Paired.get' (j:=j) U W) (yE2 λI b=>yA2 λX Y=>?_);have Z:y=.ref b:=by rw[<- X];exact((Zgs.mp G).2).symm
    subst Z;obtain⟨as,hd,ha⟩:=Qd _ (getElem_mem I);have J:=F.trans c;refine⟨b,_,_,_,as,x,rfl,c _ _ Y,hd,tg.same J,λH7 s7=>⟨?_,c.trans s7⟩⟩;rw[nG J tg.1,ha,take_succ,kO I,hX,e];rfl
   ·rintro f h ⟨e,c⟩;intro l hl;have e5:WID.take ([V.ref s,.ref t,.ref A,.ref B,.ref C]:List V).length=WID:=rfl;rw[e5]at e;refine⟨l,WID.map λq=>iF H q.1 (uO q.1) q.2.1 x,rfl,QYX (by rw[aD,e,map_map];rfl),?_⟩;have:=q (aH h l (.lst f)) ((F.trans c).trans (aA hl));rw[any_map];exact this
  ·rw[e];show if decide (u="no")=true then _ else _
   refine jU (XV λa1=>r (by rw[e,a1])) ?_;refine⟨Zs,λs H1 O g1=>⟨Zs,λt H2 z g2=>⟨Zs,λA H3 n g3=>⟨Zs,λB H4 k Q=>⟨Zs,λC H5 g S=>⟨Zs,λtw o d E=>?_⟩⟩⟩⟩⟩⟩;dsimp only [aK];have U:Paired (λ(q:Str×Int×List V) (v:V)=>∃b,v=.ref b/\o b=some (.tup q.2.2)) WID [.ref s,.ref t,.ref A,.ref B,.ref C]:=by
    refine .cons ⟨_,rfl,d _ _ (g _ _ (k _ _ (n _ _ (z _ _ g1))))⟩ (.cons ⟨_,rfl,d _ _ (g _ _ (k _ _ (n _ _ g2)))⟩ (.cons ⟨_,rfl,d _ _ (g _ _ (k _ _ g3))⟩ (.cons ⟨_,rfl,d _ _ (g _ _ Q)⟩ (.cons ⟨_,rfl,d _ _ S⟩ .nil))))
   have F:Same H o:=((((O.trans z).trans n).trans k).trans g).trans d;refine⟨tw,rfl,⟨_,QYY E⟩,?_⟩;refine bN (iI K tw _) Zs (λj f h=>f=((WID.take j).map λq=>V.bl (iF H q.1 (uO q.1) q.2.1 x))/\Same o h) (λj f h ⟨e,c⟩=>⟨QYY (c _ _ E),by rw[e,aX,fM];exact min_le_left _ _⟩) ⟨rfl,Same.refl _⟩ (?_) (?_)
   ·rintro j y f h G ⟨e,c⟩;have W:=(Zgs.mp G).1;refine yE0 (Paired.get' (j:=j) U W) (yE2 λI b=>yA2 λX Y=>?_);have Z:y=.ref b:=by rw[<- X];exact((Zgs.mp G).2).symm
    subst Z;obtain⟨as,hd,ha⟩:=Qd _ (getElem_mem I);have J:=F.trans c;refine⟨b,_,_,_,as,x,rfl,c _ _ Y,hd,tg.same J,λH7 s7=>⟨?_,c.trans s7⟩⟩;rw[nG J tg.1,ha,take_succ,kO I,hX,e];rfl
   ·rintro f h ⟨e,c⟩;intro l hl;have e5:WID.take ([V.ref s,.ref t,.ref A,.ref B,.ref C]:List V).length=WID:=rfl;rw[e5]at e;refine⟨l,WID.map λq=>iF H q.1 (uO q.1) q.2.1 x,rfl,QYX (by rw[aD,e,map_map];rfl),?_⟩;have:=q (aH h l (.lst f)) ((F.trans c).trans (aA hl));rw[any_map];exact this
def Vs(T:Txt K mg)(U:Top w.params K mg)(m:Callee P w K mg base 1 "is_whole" QZI gF)(n:Callee P w K mg base 2 "is_name" QZX (jW LET 8))(o:Callee P w K mg base 2 "is_key" QZX (jW (LET++oH) 12))(p:Callee P w K mg base 4 "is_deed" QZX mG)(r:Callee P w K mg base 5 "is_some_answer" QZX yW)(D:DefAt K mg "is_part" nM QZx):Callee P w K mg base 6 "is_part" QZx Qc:=by
 refine D.gg Ev (λf B A y s H C Q E a h=>?_)
 ·obtain⟨kd,x,rfl,tg,q⟩:=h;obtain⟨F,d,tB⟩:=U.g_BOUNDS;refine⟨_,(mm (qa (pr (R.fg (K:=K) (P:=w.params)) (lf 0) (tm rfl d)) (mq (mr (mv m a rfl (f8 (lf 1) (f8 (qg (AC (K:=K)) (qg (R.dj (K:=K) (P:=w.params)) (tm rfl d) (lf 0)) mh) (f8 (qg (AC (K:=K)) (qg (R.dj (K:=K) (P:=w.params)) (tm rfl d) (lf 0)) mh) li)))))) qb) (mm (qa (pr qf (lf 0) mn) (mq (mr (mv n a rfl (f8 (lf 1) li)))) qb) (mm (qa (pr qf (lf 0) mn) (mq (mr (mv o a rfl (f8 (lf 1) li)))) qb) (mm (qa (pr qf (lf 0) mn) (mq (mr (mv p a rfl (f8 (lf 1) li)))) qb) (mq (mr (mv r a rfl (f8 (lf 1) li)))))))),?_⟩;obtain⟨j,k⟩:=tg.1.kd;have l:∀z,x=.str z->z.length<=1000:=tg.1.pt.choose_spec.2;refine⟨_,tB,?_⟩;unfold bJ at q;show if (BDS.lookup kd).isSome=true then _ else _
  cases c:BDS.lookup kd with
  | some G=>
   refine yE0 (yV c) (yE2 λlo t ζ=>?_);subst ζ;rw[c]at q;refine mE rfl ?_;refine⟨_,_,tB,c,λb u=>⟨_,u _,_,rfl,?_⟩⟩;refine⟨_,_,tB,c,λI v=>⟨_,v _,_,rfl,?_⟩⟩;exact⟨x,lo,t,rfl,tg.1.pt,q⟩
  | none=>
   rw[c]at q;refine jU Zs ?_;dsimp only [aT];show if decide (kd="name")=true then _ else _
   refine aV (λe=>?_) (λe=>?_)
   ·dsimp only at q;rw[UF (X4 e)]at q;exact⟨x,j,rfl,k,l,q⟩
   dsimp only at q;rw[T8 (X3 e)]at q;dsimp only [aT];show if decide (kd="key")=true then _ else _
   refine aV (λg=>?_) (λg=>?_)
   ·rw[UF (X4 g)]at q;exact⟨x,j,rfl,k,l,q⟩
   rw[T8 (X3 g)]at q;dsimp only [aT];show if decide (kd="deed")=true then _ else _
   refine aV (λi=>?_) (λi=>?_)
   ·rw[UF (X4 i)]at q;exact⟨x,rfl,tg.th.1,tg.th.2,q⟩
   rw[T8 (X3 i)]at q;exact⟨x,rfl,tg,q⟩
def La(T:Txt K mg)(U:Top w.params K mg)(B3:Callee P w K mg base 1 "word_of" QZX qD)(vo:Callee P w K mg base 6 "is_part" QZx Qc)(E5:Callee P w K mg base 4 "is_answer" QZH qF)(D:DefAt K mg "is_row" mQ QZX):Callee P w K mg base 7 "is_row" QZX mO:=by
 refine D.gg wZ (λf cdv A outer s H vs Q E hr h=>?_)
 ·obtain⟨x,rfl,tz,q⟩:=h;obtain⟨aP,P4,tP⟩:=U.g_PARTS;refine⟨_,(mm (o0 (i:=1) wZ.nd (mv B3 hr rfl (f8 (lf 0) li))) (mm (qa (tf (uc (pr (R.ib (K:=K) (P:=w.params)) (lf 1) (tm rfl P4)) (ul (pr wq (qd (sy (K:=K)) rfl T.b_len aZ (f8 (lf 0) li)) (nw tj (qd (sy (K:=K)) rfl T.b_len aZ (f8 (qg (R.dj (K:=K) (P:=w.params)) (tm rfl P4) (lf 1)) li)) mh))))) (mq (mr tu)) qb) (mm (qa (sw (qm (qd (R.dl (K:=K) rfl) rfl T.b_all uF (f8 (uf rfl (js:=[none,none]) (N:=QZy) (CompScope.by (aE mQ) ["thing","word"] rfl rfl Zk) (lX (cN rfl (cN rfl kG))) (R.di (K:=K) rfl T.b_zip (qg (R.dj (K:=K) (P:=w.params)) (tm rfl P4) (lf 1)) (ql xz (lf 0) (qh mh) re)) (λC s₂ H₂ fp=>⟨(K3 (K:=K) (n:=2) rfl (wu (qi (i:=0) (show(QZy:List Str).Nodup by decide +kernel)) (wu (qi (i:=1) (show(QZy:List Str).Nodup by decide +kernel)) NE))),ug,(mv vo hr rfl (f8 (lf 0) (f8 (lf 1) li)))⟩)) li)))) (mq (mr tu)) qb) (mq (mr (R.or (ub wq (lf 1) mn) (wl (mv E5 hr rfl (f8 (qe K 0) (f8 (qe K 0) li)))))))))),?_⟩;refine⟨x,rfl,tz.tg,?_⟩;rcases En H x with⟨hw,hv⟩|⟨wd,r,a,hw,hp,rfl,ga⟩
  ·rw[hw];refine⟨_,tP,?_⟩;dsimp only;have q':=q H (Same.refl H);rw[hv]at q';exact q'
  rw[hw];refine⟨_,tP,?_⟩;have eV:sQ H (.ref a)=zB H (.str wd::r):=by unfold sQ;rw[hp]
  rw[eV]at q;unfold zB at q;dsimp only at q ⊢;rw[UF rfl];cases hl:PTS.lookup wd with
  | none=>
   rw[hl]at q;exact q H (Same.refl H)
  | some ks=>
  rw[hl]at q;dsimp only at q;refine yE0 (wX hl) (yA4 λht l1 l6 IK=>?_);refine⟨_,.inr (QYY ga),_,_,tP,hl,λb hb=>⟨_,.inr (hb _),?_⟩⟩;by_cases hlen:r.length=ks.length
  case neg=>
   rw[XV hlen]at q;refine mE (c:=!decide ((((V.str wd::r).length:Nat):Int)=((ks.length:Nat):Int)+1)) ?_ ?_
   ·rw[XV (by rw[eJ];omega)];rfl
   ·exact q H (Same.refl H)
  refine jU (c:=!decide ((((V.str wd::r).length:Nat):Int)=((ks.length:Nat):Int)+1)) ?_ ?_
  ·rw[X2 (by rw[eJ];omega)];rfl
  refine⟨_,_,tP,hl,λb1 RL=>⟨_,ga,λp1 H1 s1 g1=>?_⟩⟩;have ec:cP (V.str wd::r) (some 1) none=r:=L2.dH _ 1;rw[ec]at g1;have LB:∀y∈r,Tg H y:=λy hy=>(tz.2 a _ rfl ga).2 y (fN _ hy)
  refine⟨false,false,_,_,RL _,QYY g1,?_⟩;refine mH Zo (λi ys H'=>ys=((ks.zip r).take i).map (λq=>V.bl (iH H q.1 q.2))/\Same H1 H') (λi ys H' ⟨e,s'⟩=>⟨RL _,QYY (s' _ _ g1),by rw[e,aX,fM];exact min_le_left _ _⟩) ⟨rfl,Same.refl _⟩ (?_) (?_)
  ·rintro i x y ys H' t' qr yc ⟨e,s'⟩ BF;obtain⟨kd,rfl⟩:=ht x (sW qr);have s2:=s'.trans (aA (o:=.tup [.str kd,y]) BF);have GB:=s1.trans s2;have RM:=LB y (sW yc);refine⟨t',_,rfl,QYY aD,rfl,_,_,rfl,_,_,rfl,rfl,kd,y,rfl,RM.same GB,λni S7=>⟨?_,s2.trans S7⟩⟩;rw[Em GB RM.1,e,Dc,hX];have ez:(ks.zip r)[i]?=some (.str kd,y):=by rw[List.getElem?_zip_eq_some];exact⟨qr,yc⟩
   rw[ez];rfl
  ·rintro ys H' ⟨e,s'⟩;intro l u9;have ef:(ks.zip r).take (min ks.length r.length)=ks.zip r:=qU (by rw[length_zip];exact cE _);rw[ef]at e;refine⟨l,(ks.zip r).map (λq=>iH H q.1 q.2),rfl,QYX (by rw[aD,e,map_map];rfl),?_⟩;have s3:Same H (aH H' l (.lst ys)):=(s1.trans s').trans (aA u9);generalize aH H' l (.lst ys)=H3 at s3 ⊢;rw[X2 hlen,Bool.true_and]at q;have ea:((ks.zip r).map (λq=>iH H q.1 q.2)).all id=(ks.zip r).all (λq=>iH H q.1 q.2):=by rw[all_map];rfl
   show if (!((ks.zip r).map (λq=>iH H q.1 q.2)).all id)=true then _ else _
   rw[ea];cases y8:(ks.zip r).all (λq=>iH H q.1 q.2) with
   | false=>
    rw[y8]at q;exact q H3 s3
   | true=>
   rw[y8,Bool.true_and]at q;refine jU rfl ?_;dsimp only [aT];show if (!decide (wd="kept"))=true then _ else _
   refine aV (λh=>?_) (λh=>?_)
   ·have q':=q H3 s3;rw[h,Bool.true_or]at q';exact q'
   rw[h,Bool.false_or]at q;have BJ:wd="kept":=by simpa using h
   have XD:=IK BJ;subst XD;refine yE0 (ln6 hlen) (yE6 λr1 r2 r3 r4 r5 r6 ζ=>?_);subst ζ
   have h5:iH H (.str "deed") r5=true:=all_eq_true.mp y8 (.str "deed",r5) Zs;have XH:cH H r5=true:=by rw[<- pG];exact h5
   refine yE0 (uQ XH) (yE5 λb5 xs LC n' as=>yA4 λζ g5 _ IL=>?_);subst ζ;have IM:Tg H r6:=LB r6 Zs;refine⟨_,QYY (s3 _ _ ga),_,rfl,_,QYY (s3 _ _ ga),_,rfl,b5,LC,n',xs,as,r6,rfl,s3 _ _ g5,IL,IM.same s3,λH4 s4=>?_⟩;rw[nG s3 IM.1];have q':=q H4 (s3.trans s4);have eD:oC H ([r1,r2,r3,r4,V.ref b5,r6].getD 4 .non) ([r1,r2,r3,r4,V.ref b5,r6].getD 5 .non)=iF H LC (as.map (·.1)) n' r6:=zD g5 IL;rw[eD]at q';exact q'
def Lb(T:Txt K mg)(D:DefAt K mg "_law_whole" jO QZL):Callee P w K mg base 1 "_law_whole" QZL gF:=by
 refine D.gg zL (λf g A d s H i Q E j h=>?_)
 ·obtain⟨x,lo,c,rfl,⟨k,a,l⟩,q⟩:=h;refine⟨_,(mq (mr (wk (tq .int (lf 0) rfl T.b_isinstance rfl T.b_int iD) (wk (R.ja (tq .bl (lf 0) rfl T.b_isinstance rfl T.b_bool yE)) (wl (R.iw AF AF (lf 1) (lf 0) (lf 2))))))),?_⟩;have h:=q H (Same.refl H);refine⟨k,a,?_⟩
  cases x with
  | int n=>
   cases k<;>first|exact a.elim|skip
   refine⟨.int,trivial,?_⟩;have e:aQ lo c (.int n)=(decide (lo<=n)&&decide (n<=c)):=rfl;rw[e]at h;show if decide (lo<=n)=true then _ else _
   refine aV (λb=>?_) (λb=>?_)
   ·rw[b,Bool.true_and]at h;exact h
   ·rw[b,Bool.false_and]at h;exact h
  | bl t=>
   cases k<;>first|exact a.elim|skip
   exact⟨.bl,trivial,h⟩
  | _=>cases k<;>first|exact a.elim|exact h
def Ra(T:Txt K mg)(D:DefAt K mg "_law_is_word" dZ QZF):Callee P w K mg base 1 "_law_is_word" QZF oX:=by
 refine D.gg uV (λf L A G s H M Q E t h=>?_)
 ·revert h;refine yE4 λx a n k=>yA4 λζ b u q=>?_;subst ζ;have v:=t.units0;refine⟨_,(mm (qa (tf (uc (sw (qm (tq .str (lf 0) rfl T.b_isinstance rfl T.b_str iC))) (ul (sw (R.fi AF AF mh (qd R.dk rfl T.b_len aZ (f8 (lf 0) li)) (lf 2)))))) (mq (mr tu)) qb) (mq (mr (ub (R.jr (K:=K) v) (uf rfl (js:=[none,some 1]) (N:=QZi) (CompScope.by (aE dZ) QZF rfl rfl Zk) (aY rfl) (R.wS (lf 0)) (λC I J O=>⟨(qi (i:=0) (show(QZi:List Str).Nodup by decide +kernel)),(R.dt (pr R.jb (lf 0) (lf 1))),(lf 0)⟩)) (qk li))))),?_⟩;have h:=q H (Same.refl H);refine⟨k,b,?_⟩
  cases x with
  | str z=>
   cases k<;>first|exact b.elim|skip
   have l:=u z rfl;refine⟨dD l,?_⟩;have e:bM (.str z) a.cps.toList n=(decide (1<=(z.length:Int))&&decide ((z.length:Int)<=n)&&z.cps.toList.all (λc=>decide (c∈a.cps.toList))):=cC _ _ _;refine aV (λd=>?_) (λd=>?_)
   ·show if (!decide ((z.length:Int)<=n))=true then _ else _
    refine aV (λg=>?_) (λg=>?_)
    ·have j:decide ((z.length:Int)<=n)=false:=by simpa using g
     rw[e,j,Bool.and_false,Bool.false_and]at h;exact h
    ·have j:decide ((z.length:Int)<=n)=true:=by simpa using g
     refine⟨z,rfl,Aw (iB l Zd) (λc=>!decide (c∈a.cps.toList)) (λc=>.str (tx [c])) (λc S N U y B=>?_) ?_⟩
     ·refine⟨c,rfl,?_⟩;exact aV (λh=>y h) (λh=>B h)
     ·intro p F;refine⟨eY rfl,λm o=>⟨p,m,_,rfl,rfl,QYX (eZ aD o),QYX aD,?_⟩⟩;have r:=q (aH _ m (.lst [])) ((aA F).trans (aA o));rw[e,d,j,<- kR]at r;show Q (.bl (List.map _ _).isEmpty) _;rw[List.isEmpty_map];exact r
   ·rw[e,d]at h;exact h
  | _=>cases k<;>first|exact b.elim|exact h
def Fd(T:Txt K mg)(a:Callee P w K mg base 1 "_law_is_word" QZF oX)(D:DefAt K mg "_law_is_name" gK QZV):Callee P w K mg base 2 "_law_is_name" QZV (jW LET 8):=by
 refine D.gg uW (λf j A i s H l Q E b h=>?_)
 ·revert h;refine yE2 λx k=>yA4 λζ c d q=>?_;subst ζ;refine⟨_,(mq (mr (mv a b rfl (f8 (lf 0) (f8 mn (f8 mh li)))))),?_⟩;refine⟨x,_,_,k,rfl,c,d,λe g=>?_⟩;have:=q e g;rw[<- yF]at this;exact this
def Rb(x:V)(r:List V):eK (x::r) 0=some x:=aL (j:=0) rfl
def rO(xs:List V):iY xs []=xs.isEmpty:=by
 cases xs with
 | nil=>rfl
 | cons x xs=>rfl
def Hr(h:dR y=true):∃z,y=.str z:=by
 cases y<;>first|exact⟨_,rfl⟩|(unfold dR bM at h;exact T7 h Y1)
def Fe(h:WS.lookup z=none):bC (.str z::r)=false:=by
 unfold bC;have e:bO ((eK (V.str z::r) 0).getD .non) (iE (.str z::r))=false:=by
  rw[Rb];show bO (.str z) _=false;unfold bO;dsimp only;rw[h]
 rw[e,Bool.and_false,Bool.false_and]
def Lc(h:WS.lookup z=some i)(b:¬ i+2=((V.str z::r).length:Int)):bC (.str z::r)=false:=by
 unfold bC;by_cases a:3<=(V.str z::r).length
 ·have e:bO ((eK (V.str z::r) 0).getD .non) (iE (.str z::r))=false:=by
   rw[Rb];show bO (.str z) _=false;unfold bO;dsimp only;rw[h];dsimp only;have c:=kT a;rw[XV Zo];rfl
  rw[e,Bool.and_false,Bool.false_and]
 ·rw[XV a];rfl
def Ff(h:WS.lookup z=some i)(b:i+2=((V.str z::r).length:Int)):bC (.str z::r)=((iE (.str z::r)).all dR&&(!cX (.str z) UW||!decide (eK (iE (.str z::r)) 0=eK (iE (.str z::r)) 1))&&aQ 1 1000000000000 ((eK (.str z::r) (-1)).getD .non)):=by
 have c:=uJ h;have a:3<=(V.str z::r).length:=by omega
 have d:=kT a;unfold bC;rw[X2 a,Bool.true_and];congr 1;rw[Rb];show bO (.str z) _=_;unfold bO;dsimp only;rw[h];dsimp only;rw[X2 Zo,Bool.true_and]
def Fg(T:Txt K mg)(v3:Callee P w K mg base 2 "_law_is_name" QZV (jW LET 8))(i7:Callee P w K mg base 1 "_law_whole" QZL gF)(D:DefAt K mg "_law_is_deed" eE QZV):Callee P w K mg base 3 "_law_is_deed" QZV mG:=by
 refine D.gg mW (λf cdv A outer s H vs Q E hr h=>?_)
 ·obtain⟨x,rfl,⟨⟨k,hk,hz⟩,hp⟩,hlen,q⟩:=h;have hu:=hr.units0;have D0:=hr.units;have FY:=lt_trans (add_lt_add_left (show 1<64 by decide) _) hr.units;refine⟨_,(mm (qa (tf (uc (sw (qm (tq .tup (lf 0) rfl T.b_isinstance rfl T.b_tuple bW))) (uc (pr (R.ee D0) (lf 0) (qc li)) (ul (sw (qm (tq .str (qe K 0) rfl T.b_isinstance rfl T.b_str iC))))))) (mq (mr tu)) qb) (mm (o0 (i:=1) mW.nd (R.jc FY (R.dm (wj mn mh (wj mn mh (wj mn mh (wj mn mh (wj mn mh (wj mn mh R.dq))))))) (qe K 0) (wt mh))) (mm (qa (tf (uc (pr wq (lf 1) (qd (sy (K:=K)) rfl T.b_len aZ (f8 (lf 0) li))) (ul (pr (R.jd (K:=K) hu) (uf rfl (js:=[none]) (N:=["_law_name"]) (CompScope.by (aE eE) ["_law_thing","_law_size"] rfl rfl Zk) (aY rfl) (R.dg (K:=K) (ql xz (lf 0) (qh mh) (qh (wt mh)))) (λC s₂ H₂ fp=>⟨(qi (i:=0) (show(["_law_name"]:List Str).Nodup by decide +kernel)),(R.dt (sw (qm (mv v3 hr rfl (f8 (lf 0) li))))),(lf 0)⟩)) (qk li))))) (mq (mr tu)) qb) (mm (qa (tf (ww (pr (wz (K:=K)) (qe K 0) (qc (f8 mn (f8 mn li)))) (wy (pr qf (qe K 0) (qe K 0))))) (mq (mr tu)) qb) (mq (mr (mv i7 hr rfl (f8 (qg (AC (K:=K)) (lf 0) (wt mh)) (f8 mh (f8 (nw wp mh mh) li)))))))))),?_⟩;have h:=q H (Same.refl H);refine⟨k,hk,?_⟩
  cases x with
  | ref a=>
   cases k<;>first|exact hk.elim|skip
   case tup=>
    obtain⟨xs,hx⟩:=hk;have DQ:=hp a xs rfl hx;have WU:=hlen a xs rfl hx;have eV:cH H (.ref a)=bC xs:=by unfold cH;simp only [hx]
    rw[eV]at q h;refine⟨Zs,λt0 H0 s0 g0=>⟨xs,[],s0 _ _ hx,g0,λj u v h1 h2=>by simp at h2,?_⟩⟩;rw[rO];cases xs with
    | nil=>exact q H0 s0
    | cons y0 r=>
    obtain⟨k0,NT,hz0⟩:=DQ y0 iV;have vg:=s0 _ _ hx;refine⟨_,QYY vg,y0,Rb _ _,k0,NT.same s0,?_⟩
    cases y0 with
    | str z=>
     cases k0<;>first|exact NT.elim|skip
     refine λp IA=>⟨aD,[(.inr "add",.int 3),(.inr "take",.int 3),(.inr "move",.int 4),(.inr "send",.int 4),(.inr "fetch",.int 4),(.inr "pass",.int 5)],rfl,Zd,?_⟩;have s1:Same H (aH (aH H0 p (.dK [])) p (.dK pX)):=s0.trans (by
      intro c o e;have:c≠p:=aF e IA;rw[aJ this,aJ this];exact e)
     have gp:aH (aH H0 p (.dK [])) p (.dK pX) p=some (.dK pX):=aD;show ∃a,V.ref p=.ref a/\IsD (aH (aH H0 p (.dK [])) p (.dK pX)) a/\_;refine⟨p,rfl,.inl ⟨_,.inl gp⟩,?_⟩;show vP _ _ _ _ (aH (aH H0 p (.dK [])) p (.dK pX)) _;generalize aH (aH H0 p (.dK [])) p (.dK pX)=H1 at s1 gp;have um:=s1 _ _ hx;refine⟨_,QYY um,.str z,Rb _ _,_,.inl ⟨pX,.inr z,.inl gp,rfl,rfl⟩,?_⟩;dsimp only [aK];rw[Jx];cases e:WS.lookup z with
     | none=>
      rw[Fe e]at q;dsimp only [Option.map,Option.getD];refine⟨_,.inr (QYY um),?_⟩;exact q H1 s1
     | some i=>
      have hi:=uJ e;dsimp only [Option.map,Option.getD];refine⟨_,.inr (QYY um),?_⟩;refine aV (λh6=>?_) (λh6=>?_)
      ·have AO:¬ (i+2=((V.str z::r).length:Int)):=by simpa using h6
       rw[Lc e AO]at q;exact q H1 s1
      have AO:i+2=((V.str z::r).length:Int):=by simpa using h6
      rw[Ff e AO]at q;have h3:3<=(V.str z::r).length:=by omega
      have RN:=kT h3;refine⟨_,um,λpm H2 s2 g2=>⟨pm,rfl,⟨_,QYY g2⟩,?_⟩⟩;have AG:=s1.trans s2;generalize FT:V.str z::r=xs at *;have DP:eK xs 0=some (.str z):=by rw[<- FT];exact Rb _ _
      refine bN (iI K pm (iE xs)) Zo (λj ys H'=>ys=((iE xs).take j).filter (λy=>!dR y)/\Same H2 H') (λj ys H' ⟨e3,s3⟩=>⟨QYY (s3 _ _ g2),by rw[e3];exact iB (List.length_filter_le _ _) (by rw[fM];omega)⟩) ⟨rfl,Same.refl _⟩ (?_) (?_)
      ·rintro j y ys H' hy ⟨e3,s3⟩;have my:y∈xs:=Gw h3 (sW hy);obtain⟨ky,qu,NI⟩:=(DQ y my).same (AG.trans s3);have key:=take_succ_filter (λy=>!dR y) (iE xs) j y hy;refine⟨y,ky,rfl,qu,NI,λni S7=>?_⟩;show if (!dR y)=true then _ else _
       refine aV (λh7=>⟨?_,s3.trans S7⟩) (λh7=>⟨?_,s3.trans S7⟩)
       ·rw[key,UF h7,e3]
       ·rw[key,T8 (by rw[h7];exact Y1),append_nil,e3]
      ·rintro ys H' ⟨e3,s3⟩;rw[qU (cE _)]at e3;intro pc KY;refine⟨eY rfl,λp2 mx=>⟨pc,p2,_,rfl,rfl,QYX (eZ aD mx),QYX aD,?_⟩⟩;have LD:Same H (aH (aH H' pc (.lst ys)) p2 (.lst [])):=((AG.trans s3).trans (aA KY)).trans (aA mx);have RO:=LD _ _ hx;have e5:ys.isEmpty=(iE xs).all dR:=by rw[e3,kR]
       show if (!ys.isEmpty)=true then _ else _
       rw[e5];generalize aH (aH H' pc (.lst ys)) p2 (.lst [])=H3 at LD RO;cases e6:(iE xs).all dR with
       | false=>
        have h5:=q H3 LD;rw[e6]at h5;exact h5
       | true=>
        rw[e6,Bool.true_and]at q;refine⟨xs,QYY RO,.str z,DP,Zs,λpt H4 s4 g4=>⟨pt,UW,rfl,.inr (QYY g4),rfl,rfl,?_⟩⟩;have FP:=LD.trans s4;have RQ:=FP _ _ hx;have rest:∀H5,Same H H5->(∀H6,Same H H6->Q (.bl (aQ 1 1000000000000 ((eK xs (-1)).getD .non))) H6)->(Ai (Xg gF (lN (vP (Du K) (vr 0) (tUn (λx H Q=>mI x λi=>Q (.int (-i)) H) (tC (.int 1)))) (lN (tC (.int 1)) (lN (vP (m2 Td λi j=>.int (i^j.toNat)) (tC (.int 10)) (tC (.int 12))) vD))))) {nx:=λ_ H'=>Q .non H',rt:=Q } [some (.ref a),some (.int (i+2))] H5:=λH5 s5 q5=>by
         obtain⟨yl,IB,ml⟩:∃v,eK xs (-1)=some v/\v∈xs:=by
          have hj:xs.length-1<xs.length:=by omega
          refine⟨xs[xs.length-1],?_,getElem_mem hj⟩;unfold eK Jj;rw[T8 Zd,UF Zo];have:((-1:Int)+(xs.length:Int)).toNat=xs.length-1:=by omega
          simp[this,hj]
         rw[IB]at q5;have Z8:(10:Int)^(12:Int).toNat=1000000000000:=by decide
         refine⟨xs,QYY (s5 _ _ hx),yl,IB,⟨Zd,Zd,Zd⟩,yl,1,_,rfl,(DQ yl ml).same s5,λH6 s6=>?_⟩;rw[Z8];exact q5 H6 (s5.trans s6)
        show if cX (.str z) UW=true then _ else _
        cases e7:cX (.str z) UW with
        | false=>
         rw[e7]at q;exact rest _ FP q
        | true=>
         rw[e7]at q;have i2:=Xj e e7;have DZ:2<=(iE xs).length:=by omega
         obtain⟨c0,r0,AQ⟩:∃c0 r0,xs=.str z::c0::r0:=by
          cases r with
          | nil=>rw[<- FT]at h3;simp at h3
          | cons c0 r0=>exact⟨c0,r0,FT.symm⟩
         have rg:iE xs=((c0::r0).take (xs.length-2)):=by rw[yG h3,AQ];rfl
         match r0,AQ,rg with
         | [],AQ,_=>rw[AQ]at h3;simp at h3
         | [_],AQ,rg=>
          rw[AQ]at DZ rg;rw[rg]at DZ;simp at DZ
         | c1::c2::r1,AQ,rg=>
          have em:iE xs=c0::c1::((c2::r1).take (xs.length-4)):=by
           rw[rg,AQ];simp
          have a0:eK (iE xs) 0=some c0:=by rw[em];exact aL (j:=0) rfl
          have a1:eK (iE xs) 1=some c1:=by rw[em];exact aL (j:=1) rfl
          have b1:eK xs 1=some c0:=by rw[AQ];exact aL (j:=1) rfl
          have b2:eK xs 2=some c1:=by rw[AQ];exact aL (j:=2) rfl
          have n0:dR c0=true:=all_eq_true.mp e6 c0 (by rw[em];exact iV);have n1:dR c1=true:=all_eq_true.mp e6 c1 (by rw[em];exact fN _ iV);rw[a0,a1]at q;refine⟨xs,QYY RQ,c0,b1,xs,QYY RQ,c1,b2,?_⟩;obtain⟨z0,rfl⟩:=Hr n0;obtain⟨z1,rfl⟩:=Hr n1;have e8:decide (some (V.str z0)=some (V.str z1))=decide (z0=z1):=by
           rw[decide_eq_decide];constructor
           ·intro e8;injection e8 with e8;injection e8
           ·intro e8;rw[e8]
          rw[e8]at q;show if decide (z0=z1)=true then _ else _
          cases e9:decide (z0=z1) with
          | true=>
           have h5:=q _ FP;rw[e9]at h5;exact h5
          | false=>
           rw[e9]at q;exact rest _ FP q
    | _=>
     have ed:∀y:V,(∀z,y≠.str z)->bC (y::r)=false:=λy hy=>by
      unfold bC;have e:bO ((eK (y::r) 0).getD .non) (iE (y::r))=false:=by
       rw[Rb];show bO y _=false
       cases y with
       | str z=>exact T7 rfl (hy z)
       | _=>rfl
      rw[e,Bool.and_false,Bool.false_and]
     rw[ed _ (λz e=>by cases e)]at q;cases k0<;>first|exact NT.elim|exact q H0 s0
   all_goals
    have e1:cH H (.ref a)=false:=by
     unfold cH;first
      | (rcases hk with⟨xs,e⟩|⟨o,xs,e⟩<;>simp only [e])
      | (obtain⟨kvs,e⟩:=hk;simp only [e])
    rw[e1]at h;exact h
  | _=>cases k<;>first|exact hk.elim|exact h
def fL:(("no":Str)="ok")=False/\(("no":Str)="is")=False/\(("no":Str)="short")=False/\(("no":Str)="full")=False/\(("ok":Str)="no")=False/\(("ok":Str)="is")=False/\(("ok":Str)="short")=False/\(("ok":Str)="full")=False/\(("is":Str)="no")=False/\(("is":Str)="ok")=False/\(("is":Str)="short")=False/\(("is":Str)="full")=False/\(("short":Str)="no")=False/\(("short":Str)="ok")=False/\(("short":Str)="is")=False/\(("short":Str)="full")=False/\(("full":Str)="no")=False/\(("full":Str)="ok")=False/\(("full":Str)="is")=False/\(("full":Str)="short")=False:=by
 refine⟨?_,?_,?_,?_,?_,?_,?_,?_,?_,?_,?_,?_,?_,?_,?_,?_,?_,?_,?_,?_⟩<;>exact eq_false Zk
def dF(hs:List Str)(pass:Bool)(a bs c:Option (List (Int×Int)))(u:Str)(r:List V):Bool:=
 if u="no" then (match r with|[y]=>oY y hs|_=>false)
 else if u="ok" then pass&&r.isEmpty
 else if u="is" then (match a with|some b=>bK r b|none=>false)
 else if u="short" then (match bs with|some b=>bK r b|none=>false)
 else if u="full" then (match c with|some b=>bK r b|none=>false)
 else false
def pJ{wd:Str}(h:∀u r,a≠.str u::r):cI wd hs n a=false:=by
 unfold cI;split
 ·rename_i u r;exact T7 rfl (h u r)
 ·rfl
theorem xA{b:Type}{u:Str}:∀ {l:List (Str×b)},(∀q∈l,q.1≠u)->l.lookup u=none
 | [],_=>rfl
 | (x,j)::l,h=>by
  rw[lookup_cons];have e:(u==x)=false:=by
   rw[beq_eq_false_iff_ne];exact λe=>h _ iV e.symm
  rw[e];exact xA λq a=>h q (fN _ a)
def Ld(wd:Str)(n:Int):∀q∈iZ wd n,q.1="is"∨q.1="short"∨q.1="full":=by
 intro q a;unfold iZ at a;split at a
 ·cases a
 ·split at a
  ·simp only [mem_cons,QZZ,or_false]at a;rcases a with rfl|rfl|rfl<;>simp
  ·split at a<;>(simp only [mem_cons,QZZ,or_false]at a;rcases a with rfl|rfl<;>simp)
def zO(wd:Str)(hs:List Str)(n:Int)(u:Str)(r:List V):cI wd hs n (.str u::r)=dF hs (decide (wd="pass")) ((iZ wd n).lookup ("is":Str)) ((iZ wd n).lookup ("short":Str)) ((iZ wd n).lookup ("full":Str)) u r:=by
 unfold cI dF;dsimp only;by_cases b:u="is"
 ·subst b;simp[fL]<;>rfl
 by_cases c:u="short"
 ·subst c;simp[fL]<;>rfl
 by_cases d:u="full"
 ·subst d;simp[fL]<;>rfl
 rw[T8 b,T8 c,T8 d];rw[xA (u:=u) (l:=iZ wd n) λq f e=>by
  rcases Ld wd n q f with a|a|a
  ·exact b (e.symm.trans a)
  ·exact c (e.symm.trans a)
  ·exact d (e.symm.trans a)]
 try rfl
def Rc(n:Int):iZ "move" n=[(("is":Str),[((0:Int),1000000000000-n),(n,(1000000000000:Int))]),("short",[(0,n-1)]),("full",[(1000000000000-n+1,1000000000000)])]:=by
 unfold iZ;rw[T8 Zk,UF rfl]
def Re(wd:Str)(n:Int)(h:wd="take"∨wd="send"):iZ wd n=[(("is":Str),[((0:Int),(1000000000000-n:Int))]),("short",[(0,n-1)])]:=by
 rcases h with rfl|rfl<;>(unfold iZ;rw[T8 Zk,T8 Zk,UF Zk])
def Vt(wd:Str)(n:Int)(h:wd="add"∨wd="fetch"):iZ wd n=[(("is":Str),[(n,(1000000000000:Int))]),("full",[(1000000000000-n+1,1000000000000)])]:=by
 rcases h with rfl|rfl<;>(unfold iZ;rw[T8 Zk,T8 Zk,T8 Zk])
def Rf(n:Int):iZ "pass" n=[]:=by unfold iZ;rw[UF rfl]
def pK(hs:List Str)(n:Int)(u:Str)(r:List V):cI "move" hs n (.str u::r)=dF hs false (some [(0,1000000000000-n),(n,1000000000000)]) (some [(0,n-1)]) (some [(1000000000000-n+1,1000000000000)]) u r:=by
 rw[zO,Rc];rfl
def mY(wd:Str)(hs:List Str)(n:Int)(u:Str)(r:List V)(h:wd="take"∨wd="send"):cI wd hs n (.str u::r)=dF hs false (some [(0,1000000000000-n)]) (some [(0,n-1)]) none u r:=by
 rw[zO,Re wd n h];rcases h with rfl|rfl<;>rfl
def sD(wd:Str)(hs:List Str)(n:Int)(u:Str)(r:List V)(h:wd="add"∨wd="fetch"):cI wd hs n (.str u::r)=dF hs false (some [(n,1000000000000)]) none (some [(1000000000000-n+1,1000000000000)]) u r:=by
 rw[zO,Vt wd n h];rcases h with rfl|rfl<;>rfl
def Fh(hs:List Str)(n:Int)(u:Str)(r:List V):cI "pass" hs n (.str u::r)=dF hs true none none none u r:=by
 rw[zO,Rf];rfl
def fP(y:V)(a b:Int):bK [y] [(a,b)]=aQ a b y:=by
 unfold bK;simp
def Rg(e f:V)(a b c d:Int):bK [e,f] [(a,b),(c,d)]=(aQ a b e&&aQ c d f):=by
 unfold bK;simp
def aS{bs:List (Int×Int)}(h:r.length≠bs.length):bK r bs=false:=by
 unfold bK;rw[XV h];rfl
def Le(one d:Str)(n:Int)(a:List V):cI "pass" [one,d] n a=(bP a [.str "ok"]||(bP a [.str "no",.str one]||(bP a [.str "no",.str d]||false))):=by
 cases a with
 | nil=>rfl
 | cons e r=>
  cases e with
  | str u=>
   rw[Fh];unfold dF;by_cases b:u="no"
   ·subst b;rw[UF rfl];match r with
    | []=>simp[bP,cU,fL]
    | [y]=>
     cases y with
     | str z=>simp[bP,cU,fL,oY]
     | _=>simp[bP,cU,fL,oY]
    | _::_::_=>simp[bP,cU,fL]
   rw[T8 b];by_cases c:u="ok"
   ·subst c;rw[UF rfl];cases r<;>simp[bP,cU,fL]
   rw[T8 c];simp[bP,cU,b,c]
  | _=>rfl
def kL(wd:Str)(one:V)(n:Int)(a:List V):Bool:=
 if decide ((a.length:Int)<2)=true then false
 else if (cX (.str wd) [.str "send",.str "fetch"]&&bP a [.str "no",one])=true then true
 else if (decide (wd="move")&&decide ((a.length:Int)=3))=true then
  cU (a.getD 0 .non) (.str "is")&&(aQ 0 (1000000000000-n) (a.getD 1 .non)&&aQ n 1000000000000 (a.getD 2 .non))
 else if (!decide ((a.length:Int)=2))=true then false
 else if (cU (a.getD 0 .non) (.str "is")&&cX (.str wd) [.str "add",.str "fetch"])=true then aQ n 1000000000000 (a.getD 1 .non)
 else if (cU (a.getD 0 .non) (.str "is")&&cX (.str wd) [.str "take",.str "send"])=true then aQ 0 (1000000000000-n) (a.getD 1 .non)
 else if (cU (a.getD 0 .non) (.str "full")&&cX (.str wd) [.str "add",.str "fetch",.str "move"])=true then aQ (1000000000000-n+1) 1000000000000 (a.getD 1 .non)
 else cU (a.getD 0 .non) (.str "short")&&(cX (.str wd) [.str "take",.str "send",.str "move"]&&aQ 0 (n-1) (a.getD 1 .non))
def inW:cX (.str "add") [.str "send",.str "fetch"]=false/\cX (.str "take") [.str "send",.str "fetch"]=false/\cX (.str "move") [.str "send",.str "fetch"]=false/\cX (.str "send") [.str "send",.str "fetch"]=true/\cX (.str "fetch") [.str "send",.str "fetch"]=true
 /\ cX (.str "add") [.str "add",.str "fetch"]=true/\cX (.str "take") [.str "add",.str "fetch"]=false/\cX (.str "move") [.str "add",.str "fetch"]=false/\cX (.str "send") [.str "add",.str "fetch"]=false/\cX (.str "fetch") [.str "add",.str "fetch"]=true
 /\ cX (.str "add") [.str "take",.str "send"]=false/\cX (.str "take") [.str "take",.str "send"]=true/\cX (.str "move") [.str "take",.str "send"]=false/\cX (.str "send") [.str "take",.str "send"]=true/\cX (.str "fetch") [.str "take",.str "send"]=false
 /\ cX (.str "add") [.str "add",.str "fetch",.str "move"]=true/\cX (.str "take") [.str "add",.str "fetch",.str "move"]=false/\cX (.str "move") [.str "add",.str "fetch",.str "move"]=true/\cX (.str "send") [.str "add",.str "fetch",.str "move"]=false/\cX (.str "fetch") [.str "add",.str "fetch",.str "move"]=true
 /\ cX (.str "add") [.str "take",.str "send",.str "move"]=false/\cX (.str "take") [.str "take",.str "send",.str "move"]=true/\cX (.str "move") [.str "take",.str "send",.str "move"]=true/\cX (.str "send") [.str "take",.str "send",.str "move"]=true/\cX (.str "fetch") [.str "take",.str "send",.str "move"]=false
 /\ decide (("add":Str)="move")=false/\decide (("take":Str)="move")=false/\decide (("send":Str)="move")=false/\decide (("fetch":Str)="move")=false:=by
 refine⟨?_,?_,?_,?_,?_,?_,?_,?_,?_,?_,?_,?_,?_,?_,?_,?_,?_,?_,?_,?_,?_,?_,?_,?_,?_,?_,?_,?_,?_⟩<;>decide +kernel
def Lf(one:V)(hs:List Str)(k:hs=[])(n:Int)(i:List V):cI "move" hs n i=kL "move" one n i:=by
 subst k;refine yE0 inW (yA9 λx y l z A B C m=>yA9 λD E F G o H I J=>yA9 λL p M N f1 f2 q O=>yA5 λQ g1 g2 g3 R=>?_);unfold kL;rw[l,m,o,p,q];match i with
 | []=>rfl
 | [a]=>
  cases a with
  | str u=>
   rw[pK];unfold dF;simp[aS]
  | _=>rfl
 | [a,b]=>
  cases a with
  | str u=>
   rw[pK];unfold dF;by_cases c:u="no"
   ·subst c;cases b<;>simp[fL,cU,oY]
   by_cases d:u="ok"
   ·subst d;simp[fL,cU]
   by_cases e:u="is"
   ·subst e;simp[fL,cU,aS]
   by_cases f:u="short"
   ·subst f;simp[fL,cU,fP]
   by_cases g:u="full"
   ·subst g;simp[fL,cU,fP]
   simp[c,d,e,f,g,cU]
  | _=>simp[cI,cU]
 | [a,b,h]=>
  cases a with
  | str u=>
   rw[pK];unfold dF;by_cases c:u="no"
   ·subst c;simp[fL,cU]
   by_cases d:u="ok"
   ·subst d;simp[fL,cU]
   by_cases e:u="is"
   ·subst e;simp[fL,cU,Rg]
   by_cases f:u="short"
   ·subst f;simp[fL,cU,aS]
   by_cases g:u="full"
   ·subst g;simp[fL,cU,aS]
   simp[c,d,e,f,g,cU]
  | _=>simp[cI,cU]
 | a::b::h::j::r=>
  have s:decide (((a::b::h::j::r).length:Int)<2)=false:=XV (by simp only [eJ];omega);have t:decide (((a::b::h::j::r).length:Int)=3)=false:=XV (by simp only [eJ];omega);have v:decide (((a::b::h::j::r).length:Int)=2)=false:=XV (by simp only [eJ];omega);rw[s,t,v];cases a with
  | str u=>
   rw[pK];unfold dF;simp[aS]
  | _=>simp[cI]
def Rh(one:Str)(n:Int)(c:List V):cI "add" [] n c=kL "add" (.str one) n c:=by
 refine yE0 inW (yA9 λj q s t v k x y=>yA9 λz A l B C D E m=>yA9 λF G H I f1 f2 J L=>yA5 λM g1 g2 g3 N=>?_);unfold kL;rw[j,k,l,m,f1,g1];match c with
 | []=>rfl
 | [a]=>
  cases a with
  | str u=>
   rw[sD "add" _ _ _ _ (.inl rfl)];unfold dF;simp[aS]
  | _=>rfl
 | [a,b]=>
  cases a with
  | str u=>
   rw[sD "add" _ _ _ _ (.inl rfl)];unfold dF;by_cases d:u="no"
   ·subst d;cases b<;>simp[fL,cU,oY,bP]
   by_cases e:u="ok"
   ·subst e;simp[fL,cU,bP]
   by_cases f:u="is"
   ·subst f;simp[fL,cU,fP,bP]
   by_cases g:u="short"
   ·subst g;simp[fL,cU,fP,bP]
   by_cases h:u="full"
   ·subst h;simp[fL,cU,fP,bP]
   simp[d,e,f,g,h,cU,bP]
  | _=>simp[cI,cU,bP]
 | a::b::i::r=>
  have o:decide (((a::b::i::r).length:Int)<2)=false:=XV (by simp only [eJ];omega);have p:decide (((a::b::i::r).length:Int)=2)=false:=XV (by simp only [eJ];omega);rw[o,p];cases a with
  | str u=>
   rw[sD "add" _ _ _ _ (.inl rfl)];unfold dF;simp[aS,bP]
  | _=>simp[cI,bP]
def Lg(one:Str)(n:Int)(c:List V):cI "take" [] n c=kL "take" (.str one) n c:=by
 refine yE0 inW (yA9 λq j s t v x k y=>yA9 λz A B l C D E F=>yA9 λm G H I f1 f2 J L=>yA5 λM g1 g2 g3 N=>?_);unfold kL;rw[j,k,l,m,f2,g2];match c with
 | []=>rfl
 | [a]=>
  cases a with
  | str u=>
   rw[mY "take" _ _ _ _ (.inl rfl)];unfold dF;simp[aS]
  | _=>rfl
 | [a,b]=>
  cases a with
  | str u=>
   rw[mY "take" _ _ _ _ (.inl rfl)];unfold dF;by_cases d:u="no"
   ·subst d;cases b<;>simp[fL,cU,oY,bP]
   by_cases e:u="ok"
   ·subst e;simp[fL,cU,bP]
   by_cases f:u="is"
   ·subst f;simp[fL,cU,fP,bP]
   by_cases g:u="short"
   ·subst g;simp[fL,cU,fP,bP]
   by_cases h:u="full"
   ·subst h;simp[fL,cU,fP,bP]
   simp[d,e,f,g,h,cU,bP]
  | _=>simp[cI,cU,bP]
 | a::b::i::r=>
  have o:decide (((a::b::i::r).length:Int)<2)=false:=XV (by simp only [eJ];omega);have p:decide (((a::b::i::r).length:Int)=2)=false:=XV (by simp only [eJ];omega);rw[o,p];cases a with
  | str u=>
   rw[mY "take" _ _ _ _ (.inl rfl)];unfold dF;simp[aS,bP]
  | _=>simp[cI,bP]
def Lh(one:Str)(n:Int)(c:List V):cI "send" [one] n c=kL "send" (.str one) n c:=by
 refine yE0 inW (yA9 λs t v j x y z A=>yA9 λk B C D E l F G=>yA9 λH I m J f1 f2 L o=>yA5 λM g1 g2 g3 N=>?_);unfold kL;rw[j,k,l,m,o,g3];match c with
 | []=>rfl
 | [a]=>
  cases a with
  | str u=>
   rw[mY "send" _ _ _ _ (.inr rfl)];unfold dF;simp[aS]
  | _=>rfl
 | [a,b]=>
  cases a with
  | str u=>
   rw[mY "send" _ _ _ _ (.inr rfl)];unfold dF;by_cases d:u="no"
   ·subst d;cases b<;>simp[fL,cU,oY,bP]
   by_cases e:u="ok"
   ·subst e;simp[fL,cU,bP]
   by_cases f:u="is"
   ·subst f;simp[fL,cU,fP,bP]
   by_cases g:u="short"
   ·subst g;simp[fL,cU,fP,bP]
   by_cases h:u="full"
   ·subst h;simp[fL,cU,fP,bP]
   simp[d,e,f,g,h,cU,bP]
  | _=>simp[cI,cU,bP]
 | a::b::i::r=>
  have p:decide (((a::b::i::r).length:Int)<2)=false:=XV (by simp only [eJ];omega);have q:decide (((a::b::i::r).length:Int)=2)=false:=XV (by simp only [eJ];omega);rw[p,q];cases a with
  | str u=>
   rw[mY "send" _ _ _ _ (.inr rfl)];unfold dF;simp[aS,bP]
  | _=>simp[cI,bP]
def Fi(one:Str)(n:Int)(c:List V):cI "fetch" [one] n c=kL "fetch" (.str one) n c:=by
 refine yE0 inW (yA9 λt v x y j z A B=>yA9 λC k D E F G l H=>yA9 λI J L m f1 f2 M N=>yA5 λo g1 g2 g3 p=>?_);unfold kL;rw[j,k,l,m,o,p];match c with
 | []=>rfl
 | [a]=>
  cases a with
  | str u=>
   rw[sD "fetch" _ _ _ _ (.inr rfl)];unfold dF;simp[aS]
  | _=>rfl
 | [a,b]=>
  cases a with
  | str u=>
   rw[sD "fetch" _ _ _ _ (.inr rfl)];unfold dF;by_cases d:u="no"
   ·subst d;cases b<;>simp[fL,cU,oY,bP]
   by_cases e:u="ok"
   ·subst e;simp[fL,cU,bP]
   by_cases f:u="is"
   ·subst f;simp[fL,cU,fP,bP]
   by_cases g:u="short"
   ·subst g;simp[fL,cU,fP,bP]
   by_cases h:u="full"
   ·subst h;simp[fL,cU,fP,bP]
   simp[d,e,f,g,h,cU,bP]
  | _=>simp[cI,cU,bP]
 | a::b::i::r=>
  have q:decide (((a::b::i::r).length:Int)<2)=false:=XV (by simp only [eJ];omega);have s:decide (((a::b::i::r).length:Int)=2)=false:=XV (by simp only [eJ];omega);rw[q,s];cases a with
  | str u=>
   rw[sD "fetch" _ _ _ _ (.inr rfl)];unfold dF;simp[aS,bP]
  | _=>simp[cI,bP]
def Vu{one c nm:Str}{wd:Str}(h:DW one c nm n wd xs cs b)(d:wd≠"pass")(a:List V):cI wd (b.map (·.1)) n a=kL wd (.str one) n a:=by
 cases h with
 | add=>exact Rh one n a
 | take=>exact Lg one n a
 | move=>exact Lf (.str one) _ rfl n a
 | send=>exact Lh one n a
 | fetch=>exact Fi one n a
 | pass=>exact T7 rfl d
def uY{k:Kd}(h:Pc H x)(hk:Kof H x k):(Au .tup k=false/\bA H x=none)∨∃a d,x=.ref a/\H a=some (.tup d)/\k=.tup:=by
 rcases h with⟨f,_⟩|⟨a,d,rfl,h|h⟩|⟨a,g,rfl,h⟩
 ·left
  cases x<;>first|cases f|skip
  all_goals (cases k<;>first|exact hk.elim|exact⟨rfl,rfl⟩)
 ·left
  have e:bA H (.ref a)=none:=by unfold bA;dsimp only;rw[h]
  refine⟨?_,e⟩;cases k<;>first|rfl|(exact hk.elim)|(obtain⟨c,b⟩:=hk;rw[h]at b;cases b)
 ·refine .inr ⟨a,d,rfl,h,?_⟩;cases k<;>first|rfl|exact hk.elim|(rcases hk with⟨c,b⟩|⟨o,c,b⟩<;>(rw[h]at b;cases b))|(obtain⟨c,b⟩:=hk;rw[h]at b;cases b)
 ·left
  have e:bA H (.ref a)=none:=by unfold bA;dsimp only;rw[h]
  refine⟨?_,e⟩;cases k<;>first|rfl|(exact hk.elim)|(obtain⟨c,b⟩:=hk;rw[h]at b;cases b)
def aDL(zs:List Str):zA (zs.map V.str):=λy a=>by obtain⟨z,_,e⟩:=Zmm.mp a;exact⟨z,e.symm⟩
def Vv(T:Txt K mg)(N:Callee P w K mg base 1 "_law_whole" QZL gF)(D:DefAt K mg "_law_is_answer" eI QZn):Callee P w K mg base 2 "_law_is_answer" QZn qF:=by
 refine D.gg dP (λa9 cdv b0 outer b1 H vs a5 b2 F a2=>?_)
 ·revert a2;refine yE6 λa6 wd n O as a0=>yA5 λζ Q hd tg q=>?_;subst ζ;have G:=F.units;have Z8:(10:Int)^(12:Int).toNat=1000000000000:=by decide
  refine⟨_,(mm (o0 (i:=2) dP.nd (qe K 0)) (mm (o0 (i:=3) dP.nd (qg (AC (K:=K)) (lf 0) (wt mh))) (mm (o0 (i:=4) dP.nd (nw wp mh mh)) (mm (qa (pr qf (lf 2) mn) (mq (mr (ub (R.ig G) (lf 1) (qk (f8 (qc (f8 mn li)) (f8 (qc (f8 mn (f8 (qe K 0) li))) (f8 (qc (f8 mn (f8 (qe K 0) li))) li))))))) qb) (mm (qa (tf (uc (sw (qm (tq .tup (lf 1) rfl T.b_isinstance rfl T.b_tuple bW))) (ul (pr R.lt (qd (sy (K:=K)) rfl T.b_len aZ (f8 (lf 1) li)) mh)))) (mq (mr tu)) qb) (mm (qa (tf (ww (pr (wz (K:=K)) (lf 2) (qc (f8 mn (f8 mn li)))) (wy (pr (R.ie G) (lf 1) (qc (f8 mn (f8 (qe K 0) li))))))) (mq (mr tu)) qb) (mm (qa (tf (ww (pr qf (lf 2) mn) (wy (pr qf (qd (sy (K:=K)) rfl T.b_len aZ (f8 (lf 1) li)) mh)))) (mq (mr (wk (ub (R.dh G) (qe K 1) mn) (wk (mv N F rfl (f8 (qe K 1) (f8 mh (f8 (nw v4 (lf 4) (lf 3)) li)))) (wl (mv N F rfl (f8 (qe K 1) (f8 (lf 3) (f8 (lf 4) li))))))))) qb) (mm (qa (pr wq (qd (sy (K:=K)) rfl T.b_len aZ (f8 (lf 1) li)) mh) (mq (mr tu)) qb) (mm (qa (tf (ww (pr (R.dh G) (qe K 1) mn) (wy (pr (wz (K:=K)) (lf 2) (qc (f8 mn (f8 mn li))))))) (mq (mr (mv N F rfl (f8 (qe K 1) (f8 (lf 3) (f8 (lf 4) li)))))) qb) (mm (qa (tf (ww (pr (R.dh G) (qe K 1) mn) (wy (pr (wz (K:=K)) (lf 2) (qc (f8 mn (f8 mn li))))))) (mq (mr (mv N F rfl (f8 (qe K 1) (f8 mh (f8 (nw v4 (lf 4) (lf 3)) li)))))) qb) (mm (qa (tf (ww (pr (R.dh G) (qe K 1) mn) (wy (pr (wz (K:=K)) (lf 2) (qc (f8 mn (f8 mn (f8 mn li)))))))) (mq (mr (mv N F rfl (f8 (qe K 1) (f8 (nw tj (nw v4 (lf 4) (lf 3)) mh) (f8 (lf 4) li)))))) qb) (mq (mr (wk (ub (R.dh G) (qe K 1) mn) (wk (ub (wz (K:=K)) (lf 2) (qc (f8 mn (f8 mn (f8 mn li))))) (wl (mv N F rfl (f8 (qe K 1) (f8 mh (f8 (nw v4 (lf 3) mh) li)))))))))))))))))))),?_⟩;refine yE0 hd.ex (yE4 λone M nm cs hw=>?_);have head:eK O 0=some (.str wd)/\eK O (-1)=some (.int n):=by cases hw<;>exact⟨aL (j:=0) rfl,rfl⟩
  refine⟨O,QYY Q,.str wd,head.1,?_⟩;refine⟨O,QYY Q,.int n,head.2,?_⟩;refine⟨⟨Zd,Zd,Zd⟩,?_⟩;dsimp only [aK];rw[Z8];show if decide (wd="pass")=true then _ else _
  refine aV (λh0=>?_) (λh0=>?_)
  ·have hp:=X4 h0
   cases hw with
   | pass=>
    refine⟨Zs,λI J f g1=>⟨_,QYY (f _ _ Q),.str one,aL (j:=1) rfl,Zs,λB S g g2=>⟨_,QYY (g _ _ (f _ _ Q)),.str M,aL (j:=2) rfl,Zs,λU L l g3=>⟨eY rfl,λa7 hl=>⟨[(I,[.str "ok"]),(B,[.str "no",.str one]),(U,[.str "no",.str M])],aD,?_,?_,?_⟩⟩⟩⟩⟩
    ·have tt:∀z:List Str,zA (z.map V.str):=λz y W=>by obtain⟨a8,_,e⟩:=Zmm.mp W;exact⟨a8,e.symm⟩
     have sl:=aA (o:=.lst [V.ref I,.ref B,.ref U]) hl;exact Zfm.mpr ⟨⟨sl _ _ (l _ _ (g _ _ g1)),tt ["ok"]⟩,Zfm.mpr ⟨⟨sl _ _ (l _ _ g2),tt ["no",one]⟩,Zfm.mpr ⟨⟨sl _ _ g3,tt ["no",M]⟩,λ_ a2=>nomatch a2⟩⟩⟩
    ·exact tg.same (((f.trans g).trans l).trans (aA hl))
    ·have m:=((f.trans g).trans l).trans (aA (o:=.lst [V.ref I,.ref B,.ref U]) hl);have d:=q _ m;have e:iF H "pass" [one,M] n a0=([(I,[V.str "ok"]),(B,[.str "no",.str one]),(U,[.str "no",.str M])].any λq=>qJ (aH L a7 (.lst [V.ref I,.ref B,.ref U])) a0 q.2):=by
      unfold iF qJ;rw[mK m tg.1];cases bA H a0 with
      | none=>rfl
      | some C=>exact Le one M n C
     rw[<- e];exact d
   | _=>exact T7 hp Zk
  have B7:wd≠"pass":=X3 h0;dsimp only [aT];obtain⟨k,hk⟩:=tg.1.kd;refine⟨k,hk,?_⟩;have IP:bA H a0=none->a5 (.bl false) H:=λe=>by
   have d:=q H (Same.refl H);unfold iF at d;rw[e]at d;exact d
  have IQ:=uY tg.1 hk;rcases IQ with⟨e1,e2⟩|⟨a3,C,rfl,s,rfl⟩
  ·refine mE (c:=!Au .tup k) (by rw[e1];rfl) ?_;exact IP e2
  have CN:=tg.2 a3 C rfl s;have eV:iF H wd (as.map (·.1)) n (.ref a3)=kL wd (.str one) n C:=by
   unfold iF;rw[cD s];exact Vu hw B7 C
  rw[eV]at q;unfold kL at q;refine⟨C,.inr (QYY s),?_⟩;refine aV (λh1=>?_) (λh1=>?_)
  ·have d:=q H (Same.refl H);rw[UF h1]at d;exact d
  rw[T8 (by rw[h1];exact Y1)]at q;have B0:=X3 h1;obtain⟨b,a,r,rfl⟩:∃b a r,C=b::a::r:=by
   match C with
   | []=>exact T7 (show((0:Nat):Int)<2 by decide) B0
   | [_]=>exact T7 (show((1:Nat):Int)<2 by decide) B0
   | b::a::r=>exact⟨b,a,r,rfl⟩
  dsimp only [aT];refine kS (t:=lQ _ _) (λv p=>v=(cX (.str wd) [.str "send",.str "fetch"]&&bP (b::a::r) [.str "no",.str one])/\Same H p) (λkk u=>?_) (?_)
  ·refine⟨Zs,λI J f g1=>⟨I,_,rfl,.inr (QYY g1),rfl,rfl,?_⟩⟩;show if cX (.str wd) [.str "send",.str "fetch"]=true then _ else _
   refine aV (λAK=>?_) (λAK=>?_)
   ·have XU:eK O 1=some (.str one):=by
     cases hw with
     | send=>exact aL (j:=1) rfl
     | fetch=>exact aL (j:=1) rfl
     | _=>exact T7 AK Zk
    refine⟨O,QYY (f _ _ Q),.str one,XU,Zs,λB S g g2=>⟨_,_,g _ _ (f _ _ s),g2,aDL ["no",one],λy W=>(CN.2 y W).same (f.trans g),u _ _ ⟨?_,f.trans g⟩⟩⟩;rw[AK];rfl
   ·exact u _ _ ⟨by rw[AK];rfl,f⟩
  rintro v J ⟨A,f⟩;subst A;refine aV (λh2=>?_) (λh2=>?_)
  ·have d:=q J f;rw[UF h2]at d;exact d
  rw[T8 (by rw[h2];exact Y1)]at q;have X:=f _ _ s;dsimp only [aT];refine kS (t:=lQ _ _) (λv p=>v=(decide (wd="move")&&decide (((b::a::r).length:Int)=3))/\J=p) (λkk u=>?_) (?_)
  ·show if decide (wd="move")=true then _ else _
   refine aV (λhm=>?_) (λhm=>?_)
   ·exact⟨_,.inr (QYY X),u _ _ ⟨by rw[hm,Bool.true_and],rfl⟩⟩
   ·exact u _ _ ⟨by rw[hm];rfl,rfl⟩
  rintro v XX ⟨A,e1⟩;subst A e1;have pc:∀ {p:Hp},Same H p->∀ {y:V},y∈b::a::r->Pc p y:=λs' y W=>(CN.2 y W).same s'
  refine aV (λY=>?_) (λY=>?_)
  ·rw[UF Y]at q;rw[Bool.and_eq_true]at Y;have BK:=X4 Y.2;obtain⟨h,rfl⟩:∃h,r=[h]:=by
    match r with
    | []=>simp at BK
    | [h]=>exact⟨h,rfl⟩
    | _::_::_=>simp only [eJ]at BK;omega
   refine⟨_,QYY X,b,aL (j:=0) rfl,pc f Zs,?_⟩;show if cU b (.str "is")=true then _ else _
   refine aV (λE=>?_) (λE=>?_)
   ·refine⟨_,QYY X,a,aL (j:=1) rfl,a,_,_,rfl,(pc f Zs).pt,λS g=>?_⟩;have EA:=f.trans g;show if aQ 0 (1000000000000-n) a=true then _ else _
    refine aV (λx=>?_) (λx=>?_)
    ·refine⟨_,QYY (g _ _ X),h,aL (j:=2) rfl,h,_,_,rfl,(pc EA Zs).pt,λL l=>?_⟩;have d:=q L (EA.trans l);have e:(cU ([b,a,h].getD 0 .non) (.str "is")&&(aQ 0 (1000000000000-n) ([b,a,h].getD 1 .non)&&aQ n 1000000000000 ([b,a,h].getD 2 .non)))=aQ n 1000000000000 h:=by
      show(cU b (.str "is")&&(aQ 0 (1000000000000-n) a&&_))=_;rw[E,x];rfl
     rw[e]at d;exact d
    ·have d:=q S EA;have e:(cU ([b,a,h].getD 0 .non) (.str "is")&&(aQ 0 (1000000000000-n) ([b,a,h].getD 1 .non)&&aQ n 1000000000000 ([b,a,h].getD 2 .non)))=false:=by
      show(cU b (.str "is")&&(aQ 0 (1000000000000-n) a&&_))=_;rw[E,x];rfl
     rw[e]at d;exact d
   ·have d:=q J f;have e:(cU ([b,a,h].getD 0 .non) (.str "is")&&(aQ 0 (1000000000000-n) ([b,a,h].getD 1 .non)&&aQ n 1000000000000 ([b,a,h].getD 2 .non)))=false:=by
     show(cU b (.str "is")&&(aQ 0 (1000000000000-n) a&&_))=_;rw[E];rfl
    rw[e]at d;exact d
  rw[T8 (by rw[Y];exact Y1)]at q;refine⟨_,.inr (QYY X),?_⟩;show if (!decide (((b::a::r).length:Int)=2))=true then _ else _
  refine aV (λE=>?_) (λE=>?_)
  ·have d:=q J f;rw[UF E]at d;exact d
  rw[T8 (by rw[E];exact Y1)]at q;dsimp only [aT];have g0:(b::a::r).getD 0 .non=b:=rfl;have g1:(b::a::r).getD 1 .non=a:=rfl;rw[g0,g1]at q;have NU:∀(a4:Hp)(a1:Str)(z:List V)(_:z.all cF=true)(tz:TA)(_:∀ σ Z k,tz σ Z k=k z Z)(_:z.length<=1000)(o4:Option V)(R:Bool->Hp->Prop),Same H a4->(∀v Z,v=(cU b (.str a1)&&cX (.str wd) z)/\Same H Z->R v Z)->lQ (mT (vP Hk (vP (Du K) (vr 1) (tC (.int 0))) (tC (.str a1)))) (mT (vP (rIn K false) (vr 2) (Oq tz))) [some (.ref a6),some (.ref a3),some (.str wd),some (.int n),o4] a4 R:=λa4 a1 z hf tz XY Z1 o4 R sG hR=>by
   refine⟨_,QYY (sG _ _ s),b,aL (j:=0) rfl,pc sG Zs,?_⟩;show if cU b (.str a1)=true then _ else _
   refine aV (λx=>?_) (λx=>?_)
   ·show tz _ _ _;rw[XY];refine⟨Z1,λB G2 g g2=>⟨B,z,rfl,.inr (QYY g2),rfl,hf,hR _ _ ⟨by rw[x];rfl,sG.trans g⟩⟩⟩
   ·exact hR _ _ ⟨by rw[x];rfl,sG⟩
  refine kS (t:=lQ _ _) (λv p=>v=(cU b (.str "is")&&cX (.str wd) [.str "add",.str "fetch"])/\Same H p) (λkk u=>NU J "is" _ rfl _ (λ_ _ _=>rfl) Zs _ _ f u) (?_);rintro v S ⟨A,g⟩;subst A;refine aV (λx=>?_) (λx=>?_)
  ·rw[UF x]at q;refine⟨_,QYY (g _ _ s),a,aL (j:=1) rfl,a,_,_,rfl,(pc g Zs).pt,λL l=>q L (g.trans l)⟩
  rw[T8 (by rw[x];exact Y1)]at q;dsimp only [aT];refine kS (t:=lQ _ _) (λv p=>v=(cU b (.str "is")&&cX (.str wd) [.str "take",.str "send"])/\Same H p) (λkk u=>NU S "is" _ rfl _ (λ_ _ _=>rfl) Zs _ _ g u) (?_);rintro v L ⟨A,l⟩;subst A;refine aV (λh6=>?_) (λh6=>?_)
  ·rw[UF h6]at q;refine⟨_,QYY (l _ _ s),a,aL (j:=1) rfl,a,_,_,rfl,(pc l Zs).pt,λH4 m=>q H4 (l.trans m)⟩
  rw[T8 (by rw[h6];exact Y1)]at q;dsimp only [aT];refine kS (t:=lQ _ _) (λv p=>v=(cU b (.str "full")&&cX (.str wd) [.str "add",.str "fetch",.str "move"])/\Same H p) (λkk u=>NU L "full" _ rfl _ (λ_ _ _=>rfl) Zs _ _ l u) (?_);rintro v H4 ⟨A,m⟩;subst A;refine aV (λh7=>?_) (λh7=>?_)
  ·rw[UF h7]at q;refine⟨_,QYY (m _ _ s),a,aL (j:=1) rfl,a,_,_,rfl,(pc m Zs).pt,λH5 s5=>q H5 (m.trans s5)⟩
  rw[T8 (by rw[h7];exact Y1)]at q;refine⟨_,QYY (m _ _ s),b,aL (j:=0) rfl,pc m Zs,?_⟩;show if cU b (.str "short")=true then _ else _
  refine aV (λh8=>?_) (λh8=>?_)
  ·rw[h8,Bool.true_and]at q;refine⟨Zs,λt5 H5 s5 g5=>⟨t5,_,rfl,.inr (QYY g5),rfl,rfl,?_⟩⟩;have LF:=m.trans s5;show if cX (.str wd) [.str "take",.str "send",.str "move"]=true then _ else _
   refine aV (λh9=>?_) (λh9=>?_)
   ·rw[h9,Bool.true_and]at q;exact⟨_,QYY (LF _ _ s),a,aL (j:=1) rfl,a,_,_,rfl,(pc LF Zs).pt,λH6 s6=>q H6 (LF.trans s6)⟩
   ·have d:=q H5 LF;rw[h9]at d;exact d
  ·have d:=q H4 m;rw[h8]at d;exact d
def Cc(h:a=true∨b=true↔c=true):(a||b)=c:=by
 cases a<;>cases b<;>cases c<;>simp_all
def cL:aQ lo a y=true↔∃n,y=.int n/\lo<=n/\n<=a:=by
 constructor
 ·intro h;obtain⟨n,e,b,c⟩:=mM h;exact⟨n,e,b,c⟩
 ·rintro⟨n,rfl,b,c⟩;show(decide (lo<=n)&&decide (n<=a))=true;rw[X2 b,X2 c];rfl
def Vw(h:∀n:Int,(a<=n/\n<=b)∨(c<=n/\n<=d)↔e<=n/\n<=f)(y:V):(aQ a b y||aQ c d y)=aQ e f y:=by
 refine Cc ?_;rw[cL,cL,cL];constructor
 ·rintro(⟨n,rfl,g⟩|⟨n,rfl,g⟩)
  ·exact⟨n,rfl,(h n).mp (.inl g)⟩
  ·exact⟨n,rfl,(h n).mp (.inr g)⟩
 ·rintro⟨n,rfl,g⟩;rcases(h n).mpr g with i|i
  ·exact .inl ⟨n,rfl,i⟩
  ·exact .inr ⟨n,rfl,i⟩
def kA(u:Str)(r:List V):Bool:=
 if decide (u="ok")=true then decide (((V.str u::r).length:Int)=1)
 else if (decide (u="is")&&decide (((V.str u::r).length:Int)=3))=true then aQ 0 999999999999 (r.getD 0 .non)&&aQ 1 1000000000000 (r.getD 1 .non)
 else if (!decide (((V.str u::r).length:Int)=2)||!cX (.str u) [.str "is",.str "no",.str "short",.str "full"])=true then false
 else if decide (u="no")=true then dR (r.getD 0 .non)
 else aQ (if decide (u="full")=true then 1 else 0) (1000000000000-(if decide (u="short")=true then 1 else 0)) (r.getD 0 .non)
def xB(u:Str)(r:List V)(a:u≠"no"):bI (.str u::r)=(dF [] false (some [(1,1000000000000)]) none (some [(1000000000000,1000000000000)]) u r||(dF [] false (some [(0,999999999999)]) (some [(0,0)]) none u r||(dF [] false (some [(0,999999999999),(1,1000000000000)]) (some [(0,0)]) (some [(1000000000000,1000000000000)]) u r||(dF [] false (some [(0,0),(1000000000000,1000000000000)]) (some [(0,999999999999)]) (some [(1,1000000000000)]) u r||(dF ["a","b"] true none none none u r||false))))):=by
 unfold bI;rw[T8 (show ¬ kK (V.str u::r)=.str "no" from λe=>by injection e with e;exact a e)];show(cI "add" (uO "add") 1 (.str u::r)||(cI "take" (uO "take") 1 (.str u::r)||(cI "move" (uO "move") 1 (.str u::r)||(cI "move" (uO "move") 1000000000000 (.str u::r)||(cI "pass" (uO "pass") 1 (.str u::r)||false)))))=_;have b:uO "add"=[]:=by unfold uO;rw[T8 Zk]
 have c:uO "take"=[]:=by unfold uO;rw[T8 Zk]
 have d:uO "move"=[]:=by unfold uO;rw[T8 Zk]
 have f:uO "pass"=(["a","b"]:List Str):=by unfold uO;rw[UF rfl]
 rw[b,c,d,f,sD "add" _ _ _ _ (.inl rfl),mY "take" _ _ _ _ (.inl rfl),pK,pK,Fh];rfl
def inI:cX (.str "is") [.str "is",.str "no",.str "short",.str "full"]=true/\cX (.str "no") [.str "is",.str "no",.str "short",.str "full"]=true/\cX (.str "short") [.str "is",.str "no",.str "short",.str "full"]=true/\cX (.str "full") [.str "is",.str "no",.str "short",.str "full"]=true:=⟨Zk,Zk,Zk,Zk⟩
def Li:decide (((x::y::z::r).length:Int)=2)=false:=XV (by simp only [eJ];omega)
def aBf:decide (((x::y::z::t::r).length:Int)=3)=false:=XV (by simp only [eJ];omega)
def hU(u:Str)(r:List V):bI (.str u::r)=kA u r:=by
 obtain⟨j,k,l,o⟩:=inI;by_cases a:u="no"
 ·subst a;unfold bI kA;rw[UF (show kK (V.str "no"::r)=.str "no" from rfl),k];match r with
  | []=>simp[fL,qE]
  | [y]=>simp[fL,qE]
  | y::z::r=>rw[Li];simp[fL,qE]
 rw[xB u r a];unfold kA;by_cases c:u="ok"
 ·subst c;unfold dF;cases r with
  | nil=>simp[fL]
  | cons y r=>simp[fL];omega
 by_cases d:u="is"
 ·subst d;unfold dF;rw[j];match r with
  | []=>simp[fL,aS]
  | [y]=>
   simp only [fL,if_false,aS (r:=[y]) (bs:=[(0,999999999999),(1,1000000000000)]) Zs,aS (r:=[y]) (bs:=[(0,0),(1000000000000,1000000000000)]) Zs,fP];simp[fL];exact Vw (λn=>by omega) y
  | [y,z]=>
   simp only [fL,if_false,aS (r:=[y,z]) (bs:=[(1,1000000000000)]) Zs,aS (r:=[y,z]) (bs:=[(0,999999999999)]) Zs,Rg];simp[fL];intro a c;obtain⟨n,b,h,i⟩:=cL.mp a;obtain⟨m,p,q,s⟩:=cL.mp c;exact⟨cL.mpr ⟨n,b,Zo,Zo⟩,cL.mpr ⟨m,p,Zo,Zo⟩⟩
  | y::z::t::r=>
   rw[aBf,Li];simp[fL,aS]
 by_cases f:u="short"
 ·subst f;unfold dF;rw[l];match r with
  | []=>simp[fL,aS]
  | [y]=>
   simp[fL,fP];intro a;obtain⟨n,b,h,i⟩:=cL.mp a;exact cL.mpr ⟨n,b,Zo,Zo⟩
  | y::z::r=>
   rw[Li];simp[fL,aS]
 by_cases g:u="full"
 ·subst g;unfold dF;rw[o];match r with
  | []=>simp[fL,aS]
  | [y]=>
   simp[fL,fP];intro a;obtain⟨n,b,h,i⟩:=cL.mp a;exact cL.mpr ⟨n,b,Zo,Zo⟩
  | y::z::r=>
   rw[Li];simp[fL,aS]
 have e:cX (.str u) [.str "is",.str "no",.str "short",.str "full"]=false:=by
  rw[show([V.str "is",.str "no",.str "short",.str "full"]:List V)=(["is","no","short","full"]:List Str).map V.str from rfl,Gv];exact XV (by simp[a,d,f,g])
 rw[e];unfold dF;simp[a,c,d,f,g]
def Hs{k:Kd}(hk:Kof H y k)(a:∀u,y≠.str u):Au .str k=false:=by
 cases y with
 | str u=>exact T7 rfl (a u)
 | _=>cases k<;>first|exact hk.elim|rfl
def Ri(T:Txt K mg)(i7:Callee P w K mg base 1 "_law_whole" QZL gF)(v3:Callee P w K mg base 2 "_law_is_name" QZV (jW LET 8))(D:DefAt K mg "_law_is_some_answer" cK QZV):Callee P w K mg base 3 "_law_is_some_answer" QZV yW:=by
 refine D.gg fO (λf cdv A outer s H vs Q E hr h=>?_)
 ·obtain⟨x,rfl,tg,q⟩:=h;have D0:=hr.units;have Z8:(10:Int)^(12:Int).toNat=1000000000000:=by decide
  refine⟨_,(mm (qa (tf (uc (sw (qm (tq .tup (lf 0) rfl T.b_isinstance rfl T.b_tuple bW))) (uc (pr (R.ee D0) (lf 0) (qc li)) (ul (sw (qm (tq .str (qe K 0) rfl T.b_isinstance rfl T.b_str iC))))))) (mq (mr tu)) qb) (mm (o0 (i:=1) fO.nd (qe K 0)) (mm (qa (pr qf (lf 1) mn) (mq (mr (ub qf (qd (sy (K:=K)) rfl T.b_len aZ (f8 (lf 0) li)) mh))) qb) (mm (qa (tf (ww (pr qf (lf 1) mn) (wy (pr qf (qd (sy (K:=K)) rfl T.b_len aZ (f8 (lf 0) li)) mh)))) (mq (mr (wk (mv i7 hr rfl (f8 (qe K 0) (f8 mh (f8 (nw v4 (nw wp mh mh) mh) li)))) (wl (mv i7 hr rfl (f8 (qe K 0) (f8 mh (f8 (nw wp mh mh) li)))))))) qb) (mm (qa (tf (uc (pr wq (qd (sy (K:=K)) rfl T.b_len aZ (f8 (lf 0) li)) mh) (ul (pr (R.iy (K:=K)) (lf 1) (qc (f8 mn (f8 mn (f8 mn (f8 mn li))))))))) (mq (mr tu)) qb) (mm (qa (pr qf (lf 1) mn) (mq (mr (mv v3 hr rfl (f8 (qe K 0) li)))) qb) (mq (mr (mv i7 hr rfl (f8 (qe K 0) (f8 (wg R.df rfl T.b_int iD (f8 (ub qf (lf 1) mn) li)) (f8 (nw v4 (nw wp mh mh) (wg R.df rfl T.b_int iD (f8 (ub qf (lf 1) mn) li))) li)))))))))))),?_⟩;obtain⟨k,hk⟩:=tg.1.kd;refine⟨k,hk,?_⟩;rcases uY tg.1 hk with⟨e1,e2⟩|⟨a,ys,rfl,ga,rfl⟩
  ·refine mE (c:=!Au .tup k) (by rw[e1];rfl) ?_;have q':=q H (Same.refl H);unfold gT at q';rw[e2]at q';exact q'
  have CN:=tg.2 a ys rfl ga;have eV:gT H (.ref a)=bI ys:=by unfold gT;rw[cD ga]
  rw[eV]at q;refine⟨Zs,λt0 H0 s0 g0=>⟨ys,[],s0 _ _ ga,g0,λj u v h1 h2=>by simp at h2,?_⟩⟩;rw[rO];cases ys with
  | nil=>exact q H0 s0
  | cons y r=>
  obtain⟨ky,qu⟩:=((CN.2 y iV).same s0).kd;refine⟨_,QYY (s0 _ _ ga),y,Rb _ _,ky,qu,?_⟩;by_cases hs:∃u,y=.str u
  case neg=>
   have hy:∀u,y≠.str u:=λu e=>hs ⟨u,e⟩
   have eB:bI (y::r)=false:=by
    have:kK (y::r)=.non:=by cases y<;>first|rfl|exact T7 rfl (hy _)
    unfold bI;rw[this,T8 (λe=>by cases e),any_eq_false];intro z _;rw[pJ λu r' e=>hy u (List.cons.inj e).1];exact Y1
   rw[eB]at q;have NV:=Hs qu hy;show if (!Au .str ky)=true then _ else _
   exact mE (by rw[NV];rfl) (q H0 s0)
  obtain⟨u,rfl⟩:=hs;cases ky<;>first|exact qu.elim|skip
  rw[hU]at q;unfold kA at q;have xh:=s0 _ _ ga;refine⟨_,QYY xh,.str u,Rb _ _,?_⟩;dsimp only [aK];show if decide (u="ok")=true then _ else _
  refine aV (λh1=>?_) (λh1=>?_)
  ·rw[UF h1]at q;exact⟨_,.inr (QYY xh),q H0 s0⟩
  rw[T8 (by rw[h1];exact Y1)]at q;dsimp only [aT];refine kS (t:=lQ _ _) (λv H'=>v=(decide (u="is")&&decide (((V.str u::r).length:Int)=3))/\H0=H') (λkk r9=>?_) (?_)
  ·show if decide (u="is")=true then _ else _
   refine aV (λhm=>?_) (λhm=>?_)
   ·exact⟨_,.inr (QYY xh),r9 _ _ ⟨by rw[hm,Bool.true_and],rfl⟩⟩
   ·exact r9 _ _ ⟨by rw[hm];rfl,rfl⟩
  rintro v XX ⟨ev,e1⟩;subst ev e1;have pc:∀ {H':Hp},Same H H'->∀ {y:V},y∈r->Pc H' y:=λs' y hy=>(CN.2 y (fN _ hy)).same s'
  refine aV (λh2=>?_) (λh2=>?_)
  ·rw[UF h2]at q;rw[Bool.and_eq_true]at h2;have BK:=X4 h2.2;obtain⟨y1,y2,rfl⟩:∃y1 y2,r=[y1,y2]:=by
    match r with
    | []=>simp at BK
    | [_]=>simp at BK
    | [y1,y2]=>exact⟨y1,y2,rfl⟩
    | _::_::_::_=>simp only [eJ]at BK;omega
   refine⟨_,QYY xh,y1,aL (j:=1) rfl,⟨Zd,Zd,Zd⟩,y1,_,_,rfl,(pc s0 Zs).pt,λH2 s2=>?_⟩;have GB:=s0.trans s2;rw[Z8];show if aQ 0 999999999999 y1=true then _ else _
   refine aV (λh5=>?_) (λh5=>?_)
   ·refine⟨_,QYY (s2 _ _ xh),y2,aL (j:=2) rfl,⟨Zd,Zd,Zd⟩,y2,_,_,rfl,(pc GB Zs).pt,λH3 s3=>?_⟩;rw[Z8];have q':=q H3 (GB.trans s3);have e:(aQ 0 999999999999 ([y1,y2].getD 0 .non)&&aQ 1 1000000000000 ([y1,y2].getD 1 .non))=aQ 1 1000000000000 y2:=by
     show(aQ 0 999999999999 y1&&_)=_;rw[h5];rfl
    rw[e]at q';exact q'
   ·have q':=q H2 GB;have e:(aQ 0 999999999999 ([y1,y2].getD 0 .non)&&aQ 1 1000000000000 ([y1,y2].getD 1 .non))=false:=by
     show(aQ 0 999999999999 y1&&_)=_;rw[h5];rfl
    rw[e]at q';exact q'
  rw[T8 (by rw[h2];exact Y1)]at q;dsimp only [aT];refine kS (t:=tOr _ _) (λv H'=>v=(!decide (((V.str u::r).length:Int)=2)||!cX (.str u) [.str "is",.str "no",.str "short",.str "full"])/\Same H H') (λkk r9=>?_) (?_)
  ·refine⟨_,.inr (QYY xh),?_⟩;show if (!decide (((V.str u::r).length:Int)=2))=true then _ else _
   refine aV (λhm=>?_) (λhm=>?_)
   ·exact r9 _ _ ⟨by rw[hm];rfl,s0⟩
   ·refine⟨Zs,λt1 H1 s1 g1=>⟨t1,_,rfl,.inr (QYY g1),rfl,rfl,r9 _ _ ⟨by rw[hm];rfl,s0.trans s1⟩⟩⟩
  rintro v H1 ⟨ev,s1⟩;subst ev;refine aV (λh3=>?_) (λh3=>?_)
  ·have q':=q H1 s1;rw[UF h3]at q';exact q'
  rw[T8 (by rw[h3];exact Y1)]at q;dsimp only [aT];obtain⟨y1,rfl⟩:∃y1,r=[y1]:=by
   rw[Bool.or_eq_false_iff]at h3;have BK:((V.str u::r).length:Int)=2:=by simpa using h3.1
   match r with
   | []=>simp at BK
   | [y1]=>exact⟨y1,rfl⟩
   | _::_::_=>simp only [eJ]at BK;omega
  have D9:=s1 _ _ ga;have g1:([y1]:List V).getD 0 .non=y1:=rfl;rw[g1]at q;show if decide (u="no")=true then _ else _
  refine aV (λh4=>?_) (λh4=>?_)
  ·rw[UF h4]at q;obtain⟨k1,NW,BD⟩:=(pc s1 (y:=y1) Zs).pt;exact⟨_,QYY D9,y1,aL (j:=1) rfl,y1,k1,rfl,NW,BD,λH2 s2=>q H2 (s1.trans s2)⟩
  rw[T8 (by rw[h4];exact Y1)]at q;refine⟨_,QYY D9,y1,aL (j:=1) rfl,⟨Zd,Zd,Zd⟩,y1,_,_,rfl,(pc s1 Zs).pt,λH2 s2=>?_⟩;rw[Z8];exact q H2 (s1.trans s2)
def zP:List (eN×V):=iW [] [(.inr "next",.int 3),(.inr "has",.int 3),(.inr "kept",.int 7),(.inr "came",.int 6),(.inr "asked",.int 2),(.inr "done",.int 4)]
def Vx:zP=[(.inr "next",.int 3),(.inr "has",.int 3),(.inr "kept",.int 7),(.inr "came",.int 6),(.inr "asked",.int 2),(.inr "done",.int 4)]:=by decide +kernel
def Rj(z:Str):dN zP (.inr z)=(PTS.lookup z).map λa=>V.int ((a.length:Int)+1):=by
 rw[Vx];unfold dN PTS;have e:∀x:Str,(decide ((Sum.inr x:eN)=.inr z))=(z==x):=λx=>by
  rw[Bool.eq_iff_iff,decide_eq_true_iff,beq_iff_eq];constructor
  ·intro h;injection h with h;exact h.symm
  ·intro h;rw[h]
 simp only [find?_cons,lookup_cons,List.find?_nil,List.lookup_nil,e]
 repeat' split
 all_goals first|rfl|simp_all
def Cd{wd:Str}(h:PTS.lookup wd=some a):(wd="next"/\a=[.str "next",.str "turn"])∨(wd="has"/\a=[.str "name",.str "amount"])∨(wd="kept"/\a=[.str "number",.str "turn",.str "name",.str "key",.str "deed",.str "answer"])∨(wd="came"/\a=[.str "number",.str "turn",.str "name",.str "key",.str "deed"])∨(wd="asked"/\a=[.str "number"])∨(wd="done"/\a=[.str "number",.str "turn",.str "answer"]):=by
 have m:=dY h;unfold PTS at m;simp only [mem_cons,QZZ,or_false,Prod.mk.injEq]at m;exact m
def eT(h:aQ a b y=true)(f:c<=a)(g:b<=d):aQ c d y=true:=by
 obtain⟨n,e,i,j⟩:=cL.mp h;exact cL.mpr ⟨n,e,Zo,Zo⟩
def eU(h:bK r [(a,b)]=true):∃y,r=[y]/\aQ a b y=true:=by
 match r with
 | []=>rw[aS Zs]at h;cases h
 | [y]=>rw[fP]at h;exact⟨y,rfl,h⟩
 | _::_::_=>rw[aS Zs]at h;cases h
def Ce(h:bK r [(a,b),(c,d)]=true):∃y z,r=[y,z]/\aQ a b y=true/\aQ c d z=true:=by
 match r with
 | []=>rw[aS Zs]at h;cases h
 | [_]=>rw[aS Zs]at h;cases h
 | [y,z]=>rw[Rg,Bool.and_eq_true]at h;exact⟨y,z,rfl,h.1,h.2⟩
 | _::_::_::_=>rw[aS Zs]at h;cases h
def Cf(h:aQ 0 1000000000000 y=true):bI [.str "is",y]=true:=by
 rw[hU];unfold kA;rw[inI.1];simp[fL,h]
def Rk(h:aQ 0 999999999999 y=true)(a:aQ 1 1000000000000 z=true):bI [.str "is",y,z]=true:=by
 rw[hU];unfold kA;rw[inI.1];simp[fL,h,a]
def uZ(h:aQ 0 999999999999 y=true):bI [.str "short",y]=true:=by
 rw[hU];unfold kA;rw[inI.2.2.1];simp[fL,h]
def xC(h:aQ 1 1000000000000 y=true):bI [.str "full",y]=true:=by
 rw[hU];unfold kA;rw[inI.2.2.2];simp[fL,h]
def zQ{ps:Bool}{a bs c:Option (List (Int×Int))}(j:∀z∈hs,isNm z)(k:∀b,a=some b->bK r b=true->bI (.str "is"::r)=true)(l:∀b,bs=some b->bK r b=true->bI (.str "short"::r)=true)(m:∀b,c=some b->bK r b=true->bI (.str "full"::r)=true)(h:dF hs ps a bs c u r=true):bI (.str u::r)=true:=by
 unfold dF at h;by_cases d:u="no"
 ·subst d;rw[UF rfl]at h;match r,h with
  | [y],h=>
   unfold oY at h;cases y with
   | str z=>
    have:=j z (X4 h);unfold bI;rw[UF (show kK [V.str "no",V.str z]=.str "no" from rfl)];exact fS this
   | _=>cases h
 rw[T8 d]at h;by_cases e:u="ok"
 ·subst e;rw[UF rfl,Bool.and_eq_true]at h;cases r with
  | nil=>rw[hU];unfold kA;simp
  | cons y r=>cases h.2
 rw[T8 e]at h;by_cases f:u="is"
 ·subst f;rw[UF rfl]at h;cases a with
  | none=>cases h
  | some b=>exact k b rfl h
 rw[T8 f]at h;by_cases g:u="short"
 ·subst g;rw[UF rfl]at h;cases bs with
  | none=>cases h
  | some b=>exact l b rfl h
 rw[T8 g]at h;by_cases i:u="full"
 ·subst i;rw[UF rfl]at h;cases c with
  | none=>cases h
  | some b=>exact m b rfl h
 rw[T8 i]at h;cases h
def Lj{wd:Str}(h:DWN wd n xs i)(v:1<=n)(x:n<=1000000000000)(a:cI wd (i.map (·.1)) n g=true):bI g=true:=by
 obtain⟨u,r,rfl⟩:∃u r,g=.str u::r:=by
  by_cases l:∃u r,g=.str u::r
  ·exact l
  ·rw[pJ λu r e=>l ⟨u,r,e⟩]at a;cases a
 have d:∀z∈i.map (·.1),isNm z:=λz j=>by obtain⟨q,p,e⟩:=Zmm.mp j;rw[<- e];exact h.nm q p
 refine yE0 h.ex (yE4 λone t nm A s=>?_);have m:∀ {wd:Str}{f:List Str},wd="add"∨wd="fetch"->(∀z∈f,isNm z)->cI wd f n (.str u::r)=true->bI (.str u::r)=true:=λ{wd f} k d a=>by
  rw[sD _ _ _ _ _ k]at a;refine zQ d (λb e h=>?_) (λb e h=>by cases e) (λb e h=>?_) a
  ·cases e;obtain⟨y,rfl,c⟩:=eU h;exact Cf (eT c Zo Zo)
  ·cases e;obtain⟨y,rfl,c⟩:=eU h;exact xC (eT c Zo Zo)
 have o:∀ {wd:Str}{f:List Str},wd="take"∨wd="send"->(∀z∈f,isNm z)->cI wd f n (.str u::r)=true->bI (.str u::r)=true:=λ{wd f} k d a=>by
  rw[mY _ _ _ _ _ k]at a;refine zQ d (λb e h=>?_) (λb e h=>?_) (λb e h=>by cases e) a
  ·cases e;obtain⟨y,rfl,c⟩:=eU h;exact Cf (eT c Zo Zo)
  ·cases e;obtain⟨y,rfl,c⟩:=eU h;exact uZ (eT c Zo Zo)
 cases s with
 | add=>exact m (.inl rfl) d a
 | fetch=>exact m (.inr rfl) d a
 | take=>exact o (.inl rfl) d a
 | send=>exact o (.inr rfl) d a
 | move=>
  rw[pK]at a;refine zQ d (λb e h=>?_) (λb e h=>?_) (λb e h=>?_) a
  ·cases e;obtain⟨y,z,rfl,c,j⟩:=Ce h;exact Rk (eT c Zo Zo) (eT j Zo Zo)
  ·cases e;obtain⟨y,rfl,c⟩:=eU h;exact uZ (eT c Zo Zo)
  ·cases e;obtain⟨y,rfl,c⟩:=eU h;exact xC (eT c Zo Zo)
 | pass=>
  rw[Fh]at a;exact zQ d (λb e h=>by cases e) (λb e h=>by cases e) (λb e h=>by cases e) a
def Lk(j:cH H x=true)(h:oC H x y=true):gT H y=true:=by
 refine yE0 (uQ j) (yE5 λa k wd n q=>yA4 λζ g c d=>?_);subst ζ;rw[zD g d]at h;unfold iF at h;unfold gT;cases f:bA H y with
 | none=>rw[f]at h;cases h
 | some r=>
  rw[f]at h;unfold bC at c;rw[Bool.and_eq_true]at c;obtain⟨m,e,l,o⟩:=cL.mp c.2;have:m=n:=by
   obtain⟨_,b,_⟩:=d.dn;unfold dnN at b;cases i:eK k (-1) with
   | none=>rw[i]at e;cases e
   | some v=>
    rw[i]at e b;have p:v=.int m:=e;rw[p]at b;exact b
  subst this;exact Lj d l o h
def Vy(T:Txt K mg)(i7:Callee P w K mg base 1 "_law_whole" QZL gF)(Q0:Callee P w K mg base 1 "_law_is_word" QZF oX)(v3:Callee P w K mg base 2 "_law_is_name" QZV (jW LET 8))(vp:Callee P w K mg base 3 "_law_is_deed" QZV mG)(oi:Callee P w K mg base 2 "_law_is_answer" QZn qF)(Q1:Callee P w K mg base 3 "_law_is_some_answer" QZV yW)(D:DefAt K mg "_law_is_row" iQ QZV):Callee P w K mg base 4 "_law_is_row" QZV mO:=by
 refine D.gg oO (λf cdv A outer s H vs Q E hr h=>?_)
 ·obtain⟨x,rfl,tz,q⟩:=h;have D0:=hr.units;have FY:=lt_trans (add_lt_add_left (show 1<64 by decide) _) hr.units;have Z8:(10:Int)^(12:Int).toNat=1000000000000:=by decide
  have e6:(10:Int)^(6:Int).toNat=1000000:=by decide
  refine⟨_,(mm (qa (tf (uc (sw (qm (tq .tup (lf 0) rfl T.b_isinstance rfl T.b_tuple bW))) (uc (pr (R.ee D0) (lf 0) (qc li)) (ul (sw (qm (tq .str (qe K 0) rfl T.b_isinstance rfl T.b_str iC))))))) (mq (mr tu)) qb) (mm (o0 (i:=1) oO.nd (qe K 0)) (mm (qa (pr wq (R.jc FY (R.dm (wj mn mh (wj mn mh (wj mn mh (wj mn mh (wj mn mh (wj mn mh R.dq))))))) (lf 1) (wt mh)) (qd (sy (K:=K)) rfl T.b_len aZ (f8 (lf 0) li))) (mq (mr tu)) qb) (mm (qa (pr qf (lf 1) mn) (mq (mr (wk (mv v3 hr rfl (f8 (qe K 0) li)) (wl (mv i7 hr rfl (f8 (qe K 0) (f8 mh (f8 (nw wp mh mh) li)))))))) qb) (mm (qa (sw (qm (mv i7 hr rfl (f8 (qe K 0) (f8 mh (f8 (qg (ud (K:=K)) (qk (f8 mh (f8 (nw wp mh mh) li))) (wg R.df rfl T.b_int iD (f8 (ub qf (lf 1) mn) li))) li)))))) (mq (mr tu)) qb) (mm (qa (tf (ww (pr wq (lf 1) mn) (wy (sw (qm (mv i7 hr rfl (f8 (qe K 0) (f8 mh (f8 (nw wp mh mh) li))))))))) (mq (mr tu)) qb) (mm (qa (pr qf (lf 1) mn) (mq (mr (mv Q1 hr rfl (f8 (qe K 0) li)))) qb) (mm (qa (pr (wz (K:=K)) (lf 1) (qc (f8 mn (f8 mn li)))) (mq (mr tu)) qb) (mm (qa (tf (uc (sw (qm (mv v3 hr rfl (f8 (qe K 0) li)))) (ul (sw (qm (mv Q0 hr rfl (f8 (qe K 0) (f8 mn (f8 mh li))))))))) (mq (mr tu)) qb) (mq (mr (wk (mv vp hr rfl (f8 (qe K 0) li)) (wl (R.or (ub qf (lf 1) mn) (wl (mv oi hr rfl (f8 (qe K 0) (f8 (qe K 0) li)))))))))))))))))),?_⟩;obtain⟨k,hk⟩:=tz.1.kd;refine⟨k,hk,?_⟩;rcases uY tz.1 hk with⟨e1,e2⟩|⟨a,ys,rfl,ga,rfl⟩
  ·refine mE (c:=!Au .tup k) (by rw[e1];rfl) ?_;have q':=q H (Same.refl H);unfold sQ at q';rw[e2]at q';exact q'
  have CN:=tz.2 a ys rfl ga;have eV:sQ H (.ref a)=zB H ys:=by unfold sQ;rw[cD ga]
  rw[eV]at q;refine⟨Zs,λt0 H0 s0 g0=>⟨ys,[],s0 _ _ ga,g0,λj u v h1 h2=>by simp at h2,?_⟩⟩;rw[rO];cases ys with
  | nil=>exact q H0 s0
  | cons y r=>
  obtain⟨ky,qu⟩:=((CN.2 y iV).same s0).1.kd;refine⟨_,QYY (s0 _ _ ga),y,Rb _ _,ky,qu,?_⟩;by_cases hs:∃u,y=.str u
  case neg=>
   have hy:∀u,y≠.str u:=λu e=>hs ⟨u,e⟩
   have eB:zB H (y::r)=false:=by
    unfold zB;split
    ·rename_i u r' e;exact T7 (List.cons.inj e).1 (hy u)
    ·rfl
   rw[eB]at q;have NV:=Hs qu hy;show if (!Au .str ky)=true then _ else _
   exact mE (by rw[NV];rfl) (q H0 s0)
  obtain⟨u,rfl⟩:=hs;cases ky<;>first|exact qu.elim|skip
  unfold zB at q;dsimp only at q;have xh:=s0 _ _ ga;refine⟨_,QYY xh,.str u,Rb _ _,?_⟩;dsimp only [aK];refine λp IA=>⟨aD,[(.inr "next",.int 3),(.inr "has",.int 3),(.inr "kept",.int 7),(.inr "came",.int 6),(.inr "asked",.int 2),(.inr "done",.int 4)],rfl,Zd,?_⟩
  have s1:Same H (aH (aH H0 p (.dK [])) p (.dK zP)):=s0.trans (by
   intro c o e;have:c≠p:=aF e IA;rw[aJ this,aJ this];exact e)
  have gp:aH (aH H0 p (.dK [])) p (.dK zP) p=some (.dK zP):=aD;show ∃a,V.ref p=.ref a/\IsD (aH (aH H0 p (.dK [])) p (.dK zP)) a/\_;refine⟨p,rfl,.inl ⟨_,.inl gp⟩,?_⟩;show vr 1 _ (aH (aH H0 p (.dK [])) p (.dK zP)) _;generalize aH (aH H0 p (.dK [])) p (.dK zP)=H1 at s1 gp;have D9:=s1 _ _ ga;refine⟨_,.inl ⟨zP,.inr u,.inl gp,rfl,rfl⟩,?_⟩;rw[Rj];cases hl:PTS.lookup u with
  | none=>
   rw[hl]at q;dsimp only [Option.map,Option.getD];refine⟨_,.inr (QYY D9),?_⟩;exact q H1 s1
  | some ks=>
  rw[hl]at q;dsimp only at q;dsimp only [Option.map,Option.getD];refine⟨_,.inr (QYY D9),?_⟩;refine aV (λh6=>?_) (λh6=>?_)
  ·have AO:¬ ((ks.length:Int)+1=((V.str u::r).length:Int)):=by simpa using h6
   rw[XV (by rw[eJ]at AO;omega)]at q;exact q H1 s1
  have AO:(ks.length:Int)+1=((V.str u::r).length:Int):=by simpa using h6
  have hlen:r.length=ks.length:=by rw[eJ]at AO;omega
  rw[X2 hlen,Bool.true_and]at q;dsimp only [aT];have tg:∀ {H':Hp},Same H H'->∀ {y:V},y∈r->Tg H' y:=λs' y hy=>(CN.2 y (fN _ hy)).same s'
  rcases Cd hl with⟨hu,rfl⟩|⟨hu,rfl⟩|⟨hu,rfl⟩|⟨hu,rfl⟩|⟨hu,rfl⟩|⟨hu,rfl⟩
  ·refine yE0 (ln2 hlen) (yE2 λy1 y2 ζ=>?_);subst ζ
   have eq:((([.str "next",.str "turn"]:List V).zip [y1,y2]).all (λq=>iH H q.1 q.2)&&(!decide (u="kept")||oC H ([y1,y2].getD 4 .non) ([y1,y2].getD 5 .non)))=(aQ 1 1000000 y1&&aQ 0 1000000000000 y2):=by
    have ek:decide (u="kept")=false:=XV (by rw[hu];decide +kernel);rw[ek,Bool.not_false,Bool.true_or,Bool.and_true];show(bJ H "next" y1&&(bJ H "turn" y2&&true))=_;rw[Eo,kX,Bool.and_true]
   rw[eq]at q;refine jU (c:=decide (u="has")) (XV (by rw[hu];decide +kernel)) ?_;refine⟨_,QYY D9,y1,aL (j:=1) rfl,⟨Zd,Zd,Zd⟩,eY rfl,λl u9=>⟨_,QYX aD,.int 1000000,?_,y1,1,1000000,rfl,((tg s1 (y:=y1) Zs).same (aA u9)).1.pt,λH2 BL=>?_⟩⟩
   ·rw[hu];rfl
   have s2:=(s1.trans (aA u9)).trans BL;have xi:=s2 _ _ ga;show if (!aQ 1 1000000 y1)=true then _ else _
   refine aV (λh7=>?_) (λh7=>?_)
   ·have kc:aQ 1 1000000 y1=false:=by simpa using h7
    have q':=q H2 s2;rw[kc]at q';exact q'
   have kc:aQ 1 1000000 y1=true:=by simpa using h7
   rw[kc,Bool.true_and]at q;dsimp only [aT];refine kS (t:=lQ _ _) (λv H'=>v=!aQ 0 1000000000000 y2/\Same H H') (λkk r9=>?_) (?_)
   ·refine mE (c:=!decide (u="asked")) (by rw[XV (by rw[hu];decide +kernel)];rfl) ?_;refine⟨_,QYY xi,y2,aL (j:=2) rfl,⟨Zd,Zd,Zd⟩,y2,0,_,rfl,(tg s2 (y:=y2) Zs).1.pt,λH3 s3=>?_⟩;rw[Z8];exact r9 _ _ ⟨rfl,s2.trans s3⟩
   rintro v H3 ⟨ev,s3⟩;subst ev;have CP:=s3 _ _ ga;refine aV (λh8=>?_) (λh8=>?_)
   ·have rh:aQ 0 1000000000000 y2=false:=by simpa using h8
    have q':=q H3 s3;rw[rh]at q';exact q'
   have rh:aQ 0 1000000000000 y2=true:=by simpa using h8
   rw[rh]at q;dsimp only [aT];refine jU (c:=decide (u="done")) (XV (by rw[hu];decide +kernel)) ?_;refine⟨Zs,λt4 H4 X8 g4=>⟨t4,_,rfl,.inr (QYY g4),rfl,rfl,?_⟩⟩;have s4:=s3.trans X8;have BM:=s4 _ _ ga;refine mE (c:=cX (.str u) [.str "next",.str "asked"]) (by rw[hu];decide +kernel) ?_;exact q H4 s4
  ·refine yE0 (ln2 hlen) (yE2 λy1 y2 ζ=>?_);subst ζ
   have eq:((([.str "name",.str "amount"]:List V).zip [y1,y2]).all (λq=>iH H q.1 q.2)&&(!decide (u="kept")||oC H ([y1,y2].getD 4 .non) ([y1,y2].getD 5 .non)))=(dR y1&&aQ 1 1000000000000 y2):=by
    have ek:decide (u="kept")=false:=XV (by rw[hu];decide +kernel);rw[ek,Bool.not_false,Bool.true_or,Bool.and_true];show(bJ H "name" y1&&(bJ H "amount" y2&&true))=_;rw[pH,zC,Bool.and_true]
   rw[eq]at q;refine mE (c:=decide (u="has")) (X2 (by rw[hu])) ?_;obtain⟨k1,NW,BD⟩:=(tg s1 (y:=y1) Zs).1.pt;refine⟨_,QYY D9,y1,aL (j:=1) rfl,y1,k1,rfl,NW,BD,λH2 s2=>?_⟩;have EA:=s1.trans s2;show if dR y1=true then _ else _
   refine aV (λh9=>?_) (λh9=>?_)
   ·rw[h9,Bool.true_and]at q;refine⟨_,QYY (s2 _ _ D9),y2,aL (j:=2) rfl,⟨Zd,Zd,Zd⟩,y2,1,_,rfl,(tg EA (y:=y2) Zs).1.pt,λH3 s3=>?_⟩;rw[Z8];exact q H3 (EA.trans s3)
   ·have q':=q H2 EA;rw[h9]at q';exact q'
  ·refine yE0 (ln6 hlen) (yE6 λy1 y2 y3 y4 y5 y6 ζ=>?_);subst ζ
   have eq:((([.str "number",.str "turn",.str "name",.str "key",.str "deed",.str "answer"]:List V).zip [y1,y2,y3,y4,y5,y6]).all (λq=>iH H q.1 q.2)&&(!decide (u="kept")||oC H ([y1,y2,y3,y4,y5,y6].getD 4 .non) ([y1,y2,y3,y4,y5,y6].getD 5 .non)))=(aQ 1 999999 y1&&(aQ 0 1000000000000 y2&&(dR y3&&(bM y4 (LET++oH) 12&&(cH H y5&&oC H y5 y6))))):=by
    have ek:decide (u="kept")=true:=X2 (by rw[hu]);rw[ek,Bool.not_true,Bool.false_or];show((bJ H "number" y1&&(bJ H "turn" y2&&(bJ H "name" y3&&(bJ H "key" y4&&(bJ H "deed" y5&&(bJ H "answer" y6&&true))))))&&oC H y5 y6)=_;rw[iM,kX,pH,wY,pG,qK,Bool.and_true];cases h5:cH H y5 with
    | false=>simp
    | true=>
     cases h6:oC H y5 y6 with
     | false=>simp
     | true=>rw[Lk h5 h6];simp
   rw[eq]at q;refine jU (c:=decide (u="has")) (XV (by rw[hu];decide +kernel)) ?_;refine⟨_,QYY D9,y1,aL (j:=1) rfl,⟨Zd,Zd,Zd⟩,eY rfl,λl u9=>⟨_,QYX aD,.int 999999,?_,y1,1,999999,rfl,((tg s1 (y:=y1) Zs).same (aA u9)).1.pt,λH2 BL=>?_⟩⟩
   ·rw[hu];rfl
   have s2:=(s1.trans (aA u9)).trans BL;have xi:=s2 _ _ ga;show if (!aQ 1 999999 y1)=true then _ else _
   refine aV (λh7=>?_) (λh7=>?_)
   ·have kc:aQ 1 999999 y1=false:=by simpa using h7
    have q':=q H2 s2;rw[kc]at q';exact q'
   have kc:aQ 1 999999 y1=true:=by simpa using h7
   rw[kc,Bool.true_and]at q;dsimp only [aT];refine kS (t:=lQ _ _) (λv H'=>v=!aQ 0 1000000000000 y2/\Same H H') (λkk r9=>?_) (?_)
   ·refine mE (c:=!decide (u="asked")) (by rw[XV (by rw[hu];decide +kernel)];rfl) ?_;refine⟨_,QYY xi,y2,aL (j:=2) rfl,⟨Zd,Zd,Zd⟩,y2,0,_,rfl,(tg s2 (y:=y2) Zs).1.pt,λH3 s3=>?_⟩;rw[Z8];exact r9 _ _ ⟨rfl,s2.trans s3⟩
   rintro v H3 ⟨ev,s3⟩;subst ev;have CP:=s3 _ _ ga;refine aV (λh8=>?_) (λh8=>?_)
   ·have rh:aQ 0 1000000000000 y2=false:=by simpa using h8
    have q':=q H3 s3;rw[rh]at q';exact q'
   have rh:aQ 0 1000000000000 y2=true:=by simpa using h8
   rw[rh,Bool.true_and]at q;dsimp only [aT];refine jU (c:=decide (u="done")) (XV (by rw[hu];decide +kernel)) ?_;refine⟨Zs,λt4 H4 X8 g4=>⟨t4,_,rfl,.inr (QYY g4),rfl,rfl,?_⟩⟩;have s4:=s3.trans X8;have BM:=s4 _ _ ga;refine jU (c:=cX (.str u) [.str "next",.str "asked"]) (by rw[hu];decide +kernel) ?_;dsimp only [aT];refine kS (t:=tOr _ _) (λv H'=>v=!(dR y3&&bM y4 (LET++oH) 12)/\Same H H') (λkk r9=>?_) (?_)
   ·obtain⟨k3,EB,NX⟩:=(tg s4 (y:=y3) Zs).1.pt;refine⟨_,QYY BM,y3,aL (j:=3) rfl,y3,k3,rfl,EB,NX,λH5 s5=>?_⟩;show if (!dR y3)=true then _ else _
    refine aV (λh9=>?_) (λh9=>?_)
    ·have rj:dR y3=false:=by simpa using h9
     exact r9 _ _ ⟨by rw[rj];rfl,s4.trans s5⟩
    have rj:dR y3=true:=by simpa using h9
    obtain⟨k4,NY,NZ⟩:=(tg (s4.trans s5) (y:=y4) Zs).1.pt;refine⟨_,QYY (s5 _ _ BM),y4,aL (j:=4) rfl,y4,_,12,k4,rfl,NY,NZ,λH6 s6=>r9 _ _ ⟨?_,(s4.trans s5).trans s6⟩⟩;rw[rj,Bool.true_and,show(("abcdefghijklmnopqrstuvwxyz0123456789":Str).cps.toList)=LET++oH from yO]
   rintro v H5 ⟨ev,s5⟩;subst ev;have EC:=s5 _ _ ga;refine aV (λh9=>?_) (λh9=>?_)
   ·have rj:(dR y3&&bM y4 (LET++oH) 12)=false:=by rw[Bool.not_eq_true']at h9;exact h9
    have q':=q H5 s5;rw[<- Bool.and_assoc,rj]at q';exact q'
   have rj:(dR y3&&bM y4 (LET++oH) 12)=true:=by simpa using h9
   rw[<- Bool.and_assoc,rj,Bool.true_and]at q;dsimp only [aT];have IT:=tg s5 (y:=y5) Zs;refine⟨_,QYY EC,y5,aL (j:=5) rfl,y5,rfl,IT.th.1,IT.th.2,λH6 s6=>?_⟩;have CQ:=s5.trans s6;rw[pB s5 (tg (Same.refl H) (y:=y5) Zs).1];show if cH H y5=true then _ else _
   refine aV (λng=>?_) (λng=>?_)
   ·rw[ng,Bool.true_and]at q;refine yE0 (uQ ng) (yE5 λb5 xs LC n' as=>yA4 λζ g5 _ IL=>?_);subst ζ;refine jU (c:=decide (u="came")) (XV (by rw[hu];decide +kernel)) ?_;have IM:=tg (Same.refl H) (y:=y6) Zs;refine⟨_,QYY (s6 _ _ EC),_,aL (j:=5) rfl,_,QYY (s6 _ _ EC),y6,aL (j:=6) rfl,b5,LC,n',xs,as,y6,rfl,CQ _ _ g5,IL,IM.same CQ,λH7 s7=>?_⟩;rw[nG CQ IM.1,<- zD g5 IL];exact q H7 (CQ.trans s7)
   ·have q':=q H6 CQ;rw[ng]at q';exact q'
  ·refine yE0 (ln5 hlen) (yE5 λy1 y2 y3 y4 y5 ζ=>?_);subst ζ
   have eq:((([.str "number",.str "turn",.str "name",.str "key",.str "deed"]:List V).zip [y1,y2,y3,y4,y5]).all (λq=>iH H q.1 q.2)&&(!decide (u="kept")||oC H ([y1,y2,y3,y4,y5].getD 4 .non) ([y1,y2,y3,y4,y5].getD 5 .non)))=(aQ 1 999999 y1&&(aQ 0 1000000000000 y2&&(dR y3&&(bM y4 (LET++oH) 12&&cH H y5)))):=by
    have ek:decide (u="kept")=false:=XV (by rw[hu];decide +kernel);rw[ek,Bool.not_false,Bool.true_or,Bool.and_true];show(bJ H "number" y1&&(bJ H "turn" y2&&(bJ H "name" y3&&(bJ H "key" y4&&(bJ H "deed" y5&&true)))))=_;rw[iM,kX,pH,wY,pG,Bool.and_true]
   rw[eq]at q;refine jU (c:=decide (u="has")) (XV (by rw[hu];decide +kernel)) ?_;refine⟨_,QYY D9,y1,aL (j:=1) rfl,⟨Zd,Zd,Zd⟩,eY rfl,λl u9=>⟨_,QYX aD,.int 999999,?_,y1,1,999999,rfl,((tg s1 (y:=y1) Zs).same (aA u9)).1.pt,λH2 BL=>?_⟩⟩
   ·rw[hu];rfl
   have s2:=(s1.trans (aA u9)).trans BL;have xi:=s2 _ _ ga;show if (!aQ 1 999999 y1)=true then _ else _
   refine aV (λh7=>?_) (λh7=>?_)
   ·have kc:aQ 1 999999 y1=false:=by simpa using h7
    have q':=q H2 s2;rw[kc]at q';exact q'
   have kc:aQ 1 999999 y1=true:=by simpa using h7
   rw[kc,Bool.true_and]at q;dsimp only [aT];refine kS (t:=lQ _ _) (λv H'=>v=!aQ 0 1000000000000 y2/\Same H H') (λkk r9=>?_) (?_)
   ·refine mE (c:=!decide (u="asked")) (by rw[XV (by rw[hu];decide +kernel)];rfl) ?_;refine⟨_,QYY xi,y2,aL (j:=2) rfl,⟨Zd,Zd,Zd⟩,y2,0,_,rfl,(tg s2 (y:=y2) Zs).1.pt,λH3 s3=>?_⟩;rw[Z8];exact r9 _ _ ⟨rfl,s2.trans s3⟩
   rintro v H3 ⟨ev,s3⟩;subst ev;have CP:=s3 _ _ ga;refine aV (λh8=>?_) (λh8=>?_)
   ·have rh:aQ 0 1000000000000 y2=false:=by simpa using h8
    have q':=q H3 s3;rw[rh]at q';exact q'
   have rh:aQ 0 1000000000000 y2=true:=by simpa using h8
   rw[rh,Bool.true_and]at q;dsimp only [aT];refine jU (c:=decide (u="done")) (XV (by rw[hu];decide +kernel)) ?_;refine⟨Zs,λt4 H4 X8 g4=>⟨t4,_,rfl,.inr (QYY g4),rfl,rfl,?_⟩⟩;have s4:=s3.trans X8;have BM:=s4 _ _ ga;refine jU (c:=cX (.str u) [.str "next",.str "asked"]) (by rw[hu];decide +kernel) ?_;dsimp only [aT];refine kS (t:=tOr _ _) (λv H'=>v=!(dR y3&&bM y4 (LET++oH) 12)/\Same H H') (λkk r9=>?_) (?_)
   ·obtain⟨k3,EB,NX⟩:=(tg s4 (y:=y3) Zs).1.pt;refine⟨_,QYY BM,y3,aL (j:=3) rfl,y3,k3,rfl,EB,NX,λH5 s5=>?_⟩;show if (!dR y3)=true then _ else _
    refine aV (λh9=>?_) (λh9=>?_)
    ·have rj:dR y3=false:=by simpa using h9
     exact r9 _ _ ⟨by rw[rj];rfl,s4.trans s5⟩
    have rj:dR y3=true:=by simpa using h9
    obtain⟨k4,NY,NZ⟩:=(tg (s4.trans s5) (y:=y4) Zs).1.pt;refine⟨_,QYY (s5 _ _ BM),y4,aL (j:=4) rfl,y4,_,12,k4,rfl,NY,NZ,λH6 s6=>r9 _ _ ⟨?_,(s4.trans s5).trans s6⟩⟩;rw[rj,Bool.true_and,show(("abcdefghijklmnopqrstuvwxyz0123456789":Str).cps.toList)=LET++oH from yO]
   rintro v H5 ⟨ev,s5⟩;subst ev;have EC:=s5 _ _ ga;refine aV (λh9=>?_) (λh9=>?_)
   ·have rj:(dR y3&&bM y4 (LET++oH) 12)=false:=by rw[Bool.not_eq_true']at h9;exact h9
    have q':=q H5 s5;rw[<- Bool.and_assoc,rj]at q';exact q'
   have rj:(dR y3&&bM y4 (LET++oH) 12)=true:=by simpa using h9
   rw[<- Bool.and_assoc,rj,Bool.true_and]at q;dsimp only [aT];have IT:=tg s5 (y:=y5) Zs;refine⟨_,QYY EC,y5,aL (j:=5) rfl,y5,rfl,IT.th.1,IT.th.2,λH6 s6=>?_⟩;have CQ:=s5.trans s6;rw[pB s5 (tg (Same.refl H) (y:=y5) Zs).1];show if cH H y5=true then _ else _
   refine aV (λng=>?_) (λng=>?_)
   ·rw[ng]at q;refine mE (c:=decide (u="came")) (X2 hu) ?_;exact q H6 CQ
   ·have q':=q H6 CQ;rw[ng]at q';exact q'
  ·obtain⟨y1,rfl⟩:=ln1 hlen
   have eq:((([.str "number"]:List V).zip [y1]).all (λq=>iH H q.1 q.2)&&(!decide (u="kept")||oC H ([y1].getD 4 .non) ([y1].getD 5 .non)))=(aQ 1 999999 y1):=by
    have ek:decide (u="kept")=false:=XV (by rw[hu];decide +kernel);rw[ek,Bool.not_false,Bool.true_or,Bool.and_true];show(bJ H "number" y1&&true)=_;rw[iM,Bool.and_true]
   rw[eq]at q;refine jU (c:=decide (u="has")) (XV (by rw[hu];decide +kernel)) ?_;refine⟨_,QYY D9,y1,aL (j:=1) rfl,⟨Zd,Zd,Zd⟩,eY rfl,λl u9=>⟨_,QYX aD,.int 999999,?_,y1,1,999999,rfl,((tg s1 (y:=y1) Zs).same (aA u9)).1.pt,λH2 BL=>?_⟩⟩
   ·rw[hu];rfl
   have s2:=(s1.trans (aA u9)).trans BL;have xi:=s2 _ _ ga;show if (!aQ 1 999999 y1)=true then _ else _
   refine aV (λh7=>?_) (λh7=>?_)
   ·have kc:aQ 1 999999 y1=false:=by simpa using h7
    have q':=q H2 s2;rw[kc]at q';exact q'
   have kc:aQ 1 999999 y1=true:=by simpa using h7
   rw[kc]at q;dsimp only [aT];refine jU (c:=!decide (u="asked")) (by rw[X2 hu];rfl) ?_;dsimp only [aT];refine jU (c:=decide (u="done")) (XV (by rw[hu];decide +kernel)) ?_;refine⟨Zs,λt4 H4 X8 g4=>⟨t4,_,rfl,.inr (QYY g4),rfl,rfl,?_⟩⟩;have s4:=s2.trans X8;have BM:=s4 _ _ ga;refine mE (c:=cX (.str u) [.str "next",.str "asked"]) (by rw[hu];decide +kernel) ?_;exact q H4 s4
  ·refine yE0 (ln3 hlen) (yE3 λy1 y2 y3 ζ=>?_);subst ζ
   have eq:((([.str "number",.str "turn",.str "answer"]:List V).zip [y1,y2,y3]).all (λq=>iH H q.1 q.2)&&(!decide (u="kept")||oC H ([y1,y2,y3].getD 4 .non) ([y1,y2,y3].getD 5 .non)))=(aQ 1 999999 y1&&(aQ 0 1000000000000 y2&&gT H y3)):=by
    have ek:decide (u="kept")=false:=XV (by rw[hu];decide +kernel);rw[ek,Bool.not_false,Bool.true_or,Bool.and_true];show(bJ H "number" y1&&(bJ H "turn" y2&&(bJ H "answer" y3&&true)))=_;rw[iM,kX,qK,Bool.and_true]
   rw[eq]at q;refine jU (c:=decide (u="has")) (XV (by rw[hu];decide +kernel)) ?_;refine⟨_,QYY D9,y1,aL (j:=1) rfl,⟨Zd,Zd,Zd⟩,eY rfl,λl u9=>⟨_,QYX aD,.int 999999,?_,y1,1,999999,rfl,((tg s1 (y:=y1) Zs).same (aA u9)).1.pt,λH2 BL=>?_⟩⟩
   ·rw[hu];rfl
   have s2:=(s1.trans (aA u9)).trans BL;have xi:=s2 _ _ ga;show if (!aQ 1 999999 y1)=true then _ else _
   refine aV (λh7=>?_) (λh7=>?_)
   ·have kc:aQ 1 999999 y1=false:=by simpa using h7
    have q':=q H2 s2;rw[kc]at q';exact q'
   have kc:aQ 1 999999 y1=true:=by simpa using h7
   rw[kc,Bool.true_and]at q;dsimp only [aT];refine kS (t:=lQ _ _) (λv H'=>v=!aQ 0 1000000000000 y2/\Same H H') (λkk r9=>?_) (?_)
   ·refine mE (c:=!decide (u="asked")) (by rw[XV (by rw[hu];decide +kernel)];rfl) ?_;refine⟨_,QYY xi,y2,aL (j:=2) rfl,⟨Zd,Zd,Zd⟩,y2,0,_,rfl,(tg s2 (y:=y2) Zs).1.pt,λH3 s3=>?_⟩;rw[Z8];exact r9 _ _ ⟨rfl,s2.trans s3⟩
   rintro v H3 ⟨ev,s3⟩;subst ev;have CP:=s3 _ _ ga;refine aV (λh8=>?_) (λh8=>?_)
   ·have rh:aQ 0 1000000000000 y2=false:=by simpa using h8
    have q':=q H3 s3;rw[rh]at q';exact q'
   have rh:aQ 0 1000000000000 y2=true:=by simpa using h8
   rw[rh,Bool.true_and]at q;dsimp only [aT];refine mE (c:=decide (u="done")) (X2 (by rw[hu])) ?_;have RS:=tg (Same.refl H) (y:=y3) Zs;refine⟨_,QYY CP,y3,aL (j:=3) rfl,y3,rfl,RS.same s3,λH4 s4=>?_⟩;rw[uP s3 RS.1];exact q H4 (s3.trans s4)
def Rl:∀z∈([("add":Str),"take","move","send","fetch","pass"]:List Str),isNm z:=by
 intro z a;simp only [mem_cons,QZZ,or_false]at a;rcases a with rfl|rfl|rfl|rfl|rfl|rfl<;>exact⟨Zk,Zk,Zk⟩
def aBg{z a:Str}{n:Int}(b:z="add"∨z="take")(c:isNm a)(d:1<=n)(e:n<=1000000000000):bC [.str z,.str a,.int n]=true:=(DeedIs.one z a n b c d e).ok
def aBh{z a b:Str}{n:Int}(c:z="send"∨z="fetch")(d:isNm a)(f:isNm b)(g:1<=n)(h:n<=1000000000000):bC [.str z,.str a,.str b,.int n]=true:=by
 show(bO (.str z) [.str a,.str b]&&aQ 1 1000000000000 (.int n))=true;have e:bO (.str z) [.str a,.str b]=true:=by
  rcases c with rfl|rfl
  all_goals
   show(true&&(dR (.str a)&&(dR (.str b)&&true))&&(true||_))=true;rw[fS d,fS f];rfl
 rw[e];show(decide (1<=n)&&decide (n<=1000000000000))=true;rw[X2 g,X2 h];rfl
def qP(c:2<=ns.length)(d:ns.length<=4)(b:∀z∈ns,isNm z)(e:1<=m)(f:m<=1000000000000):Xk (ns.map V.str++[.int (m:Int)]) ns m:=
 ⟨rfl,c,d,λz a=>(b z a).2.1,λz a=>(Hf (b z a)).1,e,f⟩
def tJ{ns:List Str}{m:Nat}(a:∀z∈ns,isNm z)(b:m<=1000000000000):∀y∈ns.map V.str++[.int (m:Int)],FlatW y:=λy c=>by
 rcases Zma.mp c with h|h
 ·obtain⟨z,d,rfl⟩:=Zmm.mp h;exact .nm (a z d)
 ·rw[Zms.mp h];exact .num b
def Xu{zs:List Str}{xs:List V}(d:∀z∈zs,isNm z)(h:lP zs xs):DeedG xs:=by
 have dn:=Rl
 cases h with
 | one z a n i e j k=>
  obtain⟨m,rfl⟩:=qX (show 0<=n by omega);have l:isNm z:=dn z (by rcases i with rfl|rfl<;>simp);have f:∀y∈[z,a],isNm y:=Zfm.mpr ⟨l,Zfm.mpr ⟨d a e,λ_ h=>nomatch h⟩⟩;refine⟨aBg i (d a e) j k,⟨_,_,qP (ns:=[z,a]) Zs Zs f Zo Zo⟩,?_,tJ (ns:=[z,a]) f Zo,Zs⟩;rcases i with rfl|rfl
  ·exact⟨_,_,_,⟨⟨a,a,a,_,.add⟩,λ_ h=>nomatch h⟩⟩
  ·exact⟨_,_,_,⟨⟨a,a,a,_,.take⟩,λ_ h=>nomatch h⟩⟩
 | move a b n e g o j k=>
  obtain⟨m,rfl⟩:=qX (show 0<=n by omega);have f:∀y∈[("move":Str),a,b],isNm y:=Zfm.mpr ⟨dn _ Zs,Zfm.mpr ⟨d a e,Zfm.mpr ⟨d b g,λ_ h=>nomatch h⟩⟩⟩;exact⟨(DeedIs.two "move" a b m (.inl rfl) (d a e) (d b g) o j k).ok,⟨_,_,qP (ns:=["move",a,b]) Zs Zs f Zo Zo⟩,⟨_,_,_,⟨⟨a,b,a,_,.move⟩,λ_ h=>nomatch h⟩⟩,tJ (ns:=["move",a,b]) f Zo,Zs⟩
 | two z a b n i e g j k=>
  obtain⟨m,rfl⟩:=qX (show 0<=n by omega);have l:isNm z:=dn z (by rcases i with rfl|rfl<;>simp);have f:∀y∈[z,a,b],isNm y:=Zfm.mpr ⟨l,Zfm.mpr ⟨d a e,Zfm.mpr ⟨d b g,λ_ h=>nomatch h⟩⟩⟩;refine⟨aBh i (d a e) (d b g) j k,⟨_,_,qP (ns:=[z,a,b]) Zs Zs f Zo Zo⟩,?_,tJ (ns:=[z,a,b]) f Zo,Zs⟩;rcases i with rfl|rfl
  ·exact⟨_,_,_,⟨⟨a,a,b,_,.send⟩,Zfm.mpr ⟨d a e,λ_ h=>nomatch h⟩⟩⟩
  ·exact⟨_,_,_,⟨⟨a,a,b,_,.fetch⟩,Zfm.mpr ⟨d a e,λ_ h=>nomatch h⟩⟩⟩
 | pass a b c n e g p o j k=>
  obtain⟨m,rfl⟩:=qX (show 0<=n by omega);have f:∀y∈[("pass":Str),a,b,c],isNm y:=Zfm.mpr ⟨dn _ Zs,Zfm.mpr ⟨d a e,Zfm.mpr ⟨d b g,Zfm.mpr ⟨d c p,λ_ h=>nomatch h⟩⟩⟩⟩;exact⟨(DeedIs.three a b c m (d a e) (d b g) (d c p) o j k).ok,⟨_,_,qP (ns:=["pass",a,b,c]) Zs Zs f Zo Zo⟩,⟨_,_,_,⟨⟨a,b,c,_,.pass⟩,Zfm.mpr ⟨d a e,Zfm.mpr ⟨d b g,λ_ h=>nomatch h⟩⟩⟩⟩,tJ (ns:=["pass",a,b,c]) f Zo,Zs⟩
def aBi(c:lo<=a)(d:a<=b):aQ lo b (.int a)=true:=by
 show(decide (lo<=a)&&decide (a<=b))=true;rw[X2 c,X2 d];rfl
def jT(c:lo<=a)(d:a<=b):bK [.int a] [(lo,b)]=true:=by
 show(true&&(aQ lo b (.int a)&&true))=true;rw[aBi c d];rfl
def Ht(f:lo<=a)(g:a<=c)(h:d<=b)(i:b<=e):bK [.int a,.int b] [(lo,c),(d,e)]=true:=by
 show(true&&(aQ lo c (.int a)&&(aQ d e (.int b)&&true)))=true;rw[aBi f g,aBi h i];rfl
def kB{wd u:Str}{bs:List (Int×Int)}(a:u="is"∨u="short"∨u="full")(b:(iZ wd n).lookup u=some bs)(c:bK r bs=true):cI wd hs n (.str u::r)=true:=by
 rw[fW];have d:u≠"no":=by rcases a with rfl|rfl|rfl<;>decide +kernel
 have e:u≠"ok":=by rcases a with rfl|rfl|rfl<;>decide +kernel
 rw[T8 d,T8 e,b];exact c
def nU{u:Str}{r:List V}(a:u≠"no")(q:Str×Int×List V)(b:q∈WID)(h:cI q.1 (uO q.1) q.2.1 (.str u::r)=true):bI (.str u::r)=true:=by
 unfold bI;rw[T8 (λe=>a (by injection e))];exact any_eq_true.mpr ⟨q,b,h⟩
def Vz{zs:List Str}{xs:List V}{w:Str}{n:Int}{hs:List Str}(g:∀z∈zs,isNm z)(q:lP zs xs)(i:jZ xs w n hs):∃o,DWN w n xs o/\o.map (·.1)=hs/\1<=n/\n<=1000000000000/\∀h∈hs,isNm h:=by
 have p:¬ (("move":Str)="send"∨("move":Str)="fetch"):=by decide +kernel
 cases q with
 | one z a m j d e f=>
  cases i with
  | one _ _ _ k=>
   rcases j with rfl|rfl
   ·exact⟨[],⟨⟨a,a,a,_,.add⟩,λ_ h=>nomatch h⟩,rfl,e,f,λ_ h=>nomatch h⟩
   ·exact⟨[],⟨⟨a,a,a,_,.take⟩,λ_ h=>nomatch h⟩,rfl,e,f,λ_ h=>nomatch h⟩
 | move a b m d l r e f=>
  generalize s:("move":Str)=t at i;cases i with
  | move _ _ _=>exact⟨[],⟨⟨a,b,a,_,.move⟩,λ_ h=>nomatch h⟩,rfl,e,f,λ_ h=>nomatch h⟩
  | two _ _ _ _ k=>rw[<- s]at k;exact T7 k p
 | two z a b m j d l e f=>
  cases i with
  | move _ _ _=>exact T7 j p
  | two _ _ _ _ k=>
   rcases j with rfl|rfl
   ·exact⟨_,⟨⟨a,a,b,_,.send⟩,Zfm.mpr ⟨g a d,λ_ h=>nomatch h⟩⟩,rfl,e,f,Zfm.mpr ⟨g a d,λ_ h=>nomatch h⟩⟩
   ·exact⟨_,⟨⟨a,a,b,_,.fetch⟩,Zfm.mpr ⟨g a d,λ_ h=>nomatch h⟩⟩,rfl,e,f,Zfm.mpr ⟨g a d,λ_ h=>nomatch h⟩⟩
 | pass a b c m d l u r e f=>
  cases i with
  | pass _ _ _ _=>exact⟨_,⟨⟨a,b,c,_,.pass⟩,Zfm.mpr ⟨g a d,Zfm.mpr ⟨g b l,λ_ h=>nomatch h⟩⟩⟩,rfl,e,f,Zfm.mpr ⟨g a d,Zfm.mpr ⟨g b l,λ_ h=>nomatch h⟩⟩⟩
def aDM{zs:List Str}{xs o:List V}{w:Str}{n:Int}{hs:List Str}(s:∀z∈zs,isNm z)(t:lP zs xs)(u:jZ xs w n hs)(v:qO w n hs o):Ek xs o:=by
 obtain⟨f,g,x,A,B,p⟩:=Vz s t u;have j:∀i,i<5->∀q,WID[i]?=some q->q∈WID:=λi _ q h=>sW h
 cases v with
 | short a d c e=>
  obtain⟨m,rfl⟩:=qX c;refine⟨.nums "short" [m] Zs Zs (by simp;omega),nU Zk _ (j 3 Zd _ rfl) (kB (.inr (.inl rfl)) rfl (jT c (by dsimp only;omega))),⟨w,n,f,g,?_⟩⟩;rcases d with rfl|rfl|rfl<;>exact kB (.inr (.inl rfl)) rfl (jT c e)
 | full a d c e=>
  obtain⟨m,rfl⟩:=qX (show 0<=a by omega);refine⟨.nums "full" [m] Zs Zs (by simp;omega),nU Zk _ (j 3 Zd _ rfl) (kB (.inr (.inr rfl)) rfl (jT (by dsimp only;omega) e)),⟨w,n,f,g,?_⟩⟩;rcases d with rfl|rfl|rfl<;>exact kB (.inr (.inr rfl)) rfl (jT c e)
 | more a d c e=>
  obtain⟨m,rfl⟩:=qX (show 0<=a by omega);refine⟨.nums "is" [m] Zs Zs (by simp;omega),nU Zk _ (j 0 Zd _ rfl) (kB (.inl rfl) rfl (jT (by dsimp only;omega) e)),⟨w,n,f,g,?_⟩⟩;rcases d with rfl|rfl<;>exact kB (.inl rfl) rfl (jT c e)
 | less a d c e=>
  obtain⟨m,rfl⟩:=qX c;refine⟨.nums "is" [m] Zs Zs (by simp;omega),nU Zk _ (j 1 Zd _ rfl) (kB (.inl rfl) rfl (jT c (by dsimp only;omega))),⟨w,n,f,g,?_⟩⟩;rcases d with rfl|rfl<;>exact kB (.inl rfl) rfl (jT c e)
 | both a b d c e y r=>
  obtain⟨m,rfl⟩:=qX c;obtain⟨k,rfl⟩:=qX (show 0<=b by omega);refine⟨.nums "is" [m,k] Zs Zs (by simp;omega),nU Zk _ (j 2 Zd _ rfl) (kB (.inl rfl) rfl (Ht c (by dsimp only;omega) (by dsimp only;omega) r)),⟨w,n,f,g,?_⟩⟩;subst d;exact kB (.inl rfl) rfl (Ht c e y r)
 | no h d l=>
  refine⟨.no h (p h l),?_,⟨w,n,f,g,?_⟩⟩
  ·unfold bI;rw[UF (show kK [V.str "no",.str h]=.str "no" from rfl)];exact fS (p h l)
  ·rw[fW,UF rfl,x];show decide (h∈hs)=true;exact X2 l
 | ok d=>
  refine⟨.nums "ok" [] Zs Zs Zs,nU Zk _ (j 4 Zd _ rfl) (by rw[fW,T8 Zk,UF rfl];rfl),⟨w,n,f,g,?_⟩⟩;subst d;rw[fW,T8 Zk,UF rfl];rfl
def Rm:Sp:=λe H Q _=>∃(p d lk:WP)(a b:List Str),e=[.ref p,.ref d,.ref lk]/\PenAt H p/\H d=some (.lst (a.map V.str))/\H lk=some (.lst (b.map V.str))/\a.Nodup/\(2<=a.length/\a.length<=100)/\(∀z∈a,isNm z)/\(1<=b.length/\b.length<=100)/\(∀z∈b,isKy z)/\∀t ps c,RowIs ps->RowAt c t ps->PenAt c p->K1 p H c->Q (.ref t) c
def Wa(T:Txt K mg)(B:Callee P w K mg base 1 "_law_take" QZT fT)(U:Callee P w K mg base 2 "_law_number" QZA kW)(EE:Callee P w K mg base 3 "_law_deed" QZr Bz)(ye:Callee P w K mg base 3 "_law_answer" QZq uX)(D:DefAt K mg "_law_row" nR QZp):Callee P w K mg base 4 "_law_row" QZp Rm:=by
 refine D.gg dJ (λa8 cdv a9 outer b0 a0 C a5 b1 f h=>?_)
 ·revert h;refine yE5 λp ln lk d m=>yA9 λζ pn s E FV u F W=>yA2 λqu a6=>?_;subst ζ;refine⟨_,(mm (o0 (i:=3) dJ.nd (qg (ud (K:=K)) (qk (f8 mn (f8 mn (f8 mn (f8 mn (f8 mn (f8 mn li))))))) (mv B f rfl (f8 (lf 0) (f8 mh li))))) (mm (o0 (i:=4) dJ.nd (mv U f rfl (f8 (lf 0) (f8 mh (f8 (nw tj mh (wg R.df rfl T.b_int iD (f8 (ub qf (lf 3) mn) li))) li))))) (mm (o0 (i:=5) dJ.nd (mv U f rfl (f8 (lf 0) (f8 mh (f8 (nw wp mh mh) li))))) (mm (o0 (i:=6) dJ.nd (mv EE f rfl (f8 (lf 0) (f8 (lf 1) li)))) (mm (o0 (i:=7) dJ.nd (mv ye f rfl (f8 (lf 0) (f8 (lf 6) li)))) (mm (o0 (i:=8) dJ.nd (qg (ud (K:=K)) (lf 1) (mv B f rfl (f8 (lf 0) (f8 (qd (sy (K:=K)) rfl T.b_len aZ (f8 (lf 1) li)) li))))) (mm (o0 (i:=9) dJ.nd (qg (ud (K:=K)) (lf 2) (mv B f rfl (f8 (lf 0) (f8 (qd (sy (K:=K)) rfl T.b_len aZ (f8 (lf 2) li)) li))))) (mm (qa (pr qf (lf 3) mn) (mq (mr (qc (f8 (lf 3) (f8 (lf 4) (f8 (lf 5) li)))))) qb) (mm (qa (pr qf (lf 3) mn) (mq (mr (qc (f8 (lf 3) (f8 (lf 8) (f8 (qd (R.fh rfl) rfl T.b_max Dv (f8 mh (f8 (lf 5) li))) li)))))) qb) (mm (qa (pr qf (lf 3) mn) (mq (mr (qc (f8 (lf 3) (f8 (lf 4) li))))) qb) (mm (qa (pr qf (lf 3) mn) (mq (mr (qc (f8 (lf 3) (f8 (lf 4) (f8 (lf 5) (f8 (lf 7) li))))))) qb) (mq (mr (nw R.fb (qc (f8 (lf 3) (f8 (lf 4) (f8 (lf 5) (f8 (lf 8) (f8 (lf 9) (f8 (lf 6) li))))))) (nw R.gj (qc (f8 (lf 7) li)) (wg R.df rfl T.b_int iD (f8 (ub qf (lf 3) mn) li))))))))))))))))),?_⟩;have OA:d≠[]:=λe=>by rw[e]at u;exact T7 u.1 Zd
  have OB:m≠[]:=λe=>by rw[e]at W;exact T7 W.1 Zd
  have H:=PenAt.neS pn s OA;have X:=PenAt.neS pn E OB;have Z8:(10:Int)^(12:Int).toNat=1000000000000:=by decide
  refine⟨eY rfl,λl0 I=>⟨p,6,rfl,pn.same (aA I),Zd,Zd,λa7 G1 r0 r1 vj k1=>⟨_,QYX (k1 _ _ aD (pn.ne I)),?_⟩⟩⟩;obtain⟨wd,DS,uq⟩:∃wd:Str,(wd="came"∨wd="done"∨wd="asked"∨wd="kept"∨wd="has"∨wd="next")/\eK [V.str "came",.str "done",.str "asked",.str "kept",.str "has",.str "next"] a7=some (.str wd):=by
   rcases six r0 r1 with rfl|rfl|rfl|rfl|rfl|rfl
   ·exact⟨_,.inl rfl,rfl⟩
   ·exact⟨_,.inr (.inl rfl),rfl⟩
   ·exact⟨_,.inr (.inr (.inl rfl)),rfl⟩
   ·exact⟨_,.inr (.inr (.inr (.inl rfl))),rfl⟩
   ·exact⟨_,.inr (.inr (.inr (.inr (.inl rfl)))),rfl⟩
   ·exact⟨_,.inr (.inr (.inr (.inr (.inr rfl)))),rfl⟩
  refine⟨_,uq,?_⟩;dsimp only [aK];have KP:K1 p a0 G1:=(K1.of (aA I)).trans k1;refine⟨p,1,_,rfl,vj,by split<;>omega,by split<;>omega,λY G2 n0 n1 rf k2=>?_⟩;dsimp only [aK];obtain⟨n,rfl⟩:=qX (show 0<=Y by omega);refine⟨⟨Zd,Zd,Zd⟩,p,0,_,rfl,rf,Zd,Zd,λt' G3 t0 t1 BG k3=>?_⟩;dsimp only [aK];obtain⟨t,rfl⟩:=qX t0;rw[Z8]at t1;have Z:=(KP.trans k2).trans k3;refine⟨p,ln,d,rfl,BG,Z _ _ s H,FV,u.1,u.2,λJ v G4 L M vk k4=>?_⟩;refine⟨p,J,d,v,rfl,vk,M,L,λta ys G5 w' Y hs hS hA x o k5=>?_⟩;dsimp only [aK];have IE:=(Z.trans k4).trans k5;have y:=k5 _ _ M (PenAt.tup vk M);refine⟨_,.inl (QYX (IE _ _ s H)),p,_,rfl,o,by rw[aX];omega,by rw[aX];omega,λi' G6 i0 i1 N q=>?_⟩;obtain⟨i,rfl⟩:=qX i0;rw[aX]at i1;have hi:i<d.length:=by omega
  have O:=IE.trans q;refine⟨_,QYX (O _ _ s H),.str d[i],aL (by rw[jF,kO hi];rfl),?_⟩;refine⟨_,.inl (QYX (O _ _ E X)),p,_,rfl,N,by rw[aX];omega,by rw[aX];omega,λj' G7 j0 j1 XZ Q=>?_⟩;obtain⟨j,rfl⟩:=qX j0;rw[aX]at j1;have hj:j<m.length:=by omega
  have IV:=O.trans Q;refine⟨_,QYX (IV _ _ E X),.str m[j],aL (by rw[jF,kO hj];rfl),?_⟩;dsimp only [aK];have RU:=Q _ _ (q _ _ y (PenAt.tup o y)) (PenAt.tup N (q _ _ y (PenAt.tup o y)));have RV:=Q _ _ (q _ _ x (PenAt.tup o x)) (PenAt.tup N (q _ _ x (PenAt.tup o x)));have S:=F _ (getElem_mem hi);have RW:=qu _ (getElem_mem hj);have dG:=Xu F L;have aG:=aDM F L hS hA;have l:∀ {G:Hp}{a:WP}{ps:List RP}{C:List V},Same G7 G->G a=some (.tup C)->RowIs ps->Paired (PAt G) ps C->a5 (.ref a) G:=λc g ri pv=>a6 _ _ _ ri ⟨_,g,pv⟩ (XZ.same c) (IV.trans (K1.of c))
  have OD:wd≠"next"->n<=999999:=λb=>by
   rw[T8 (by rw[XV b];exact Y1)]at n1;omega
  have OE:n<=1000000:=by
   have:(if decide (wd="next")=true then (1:Int) else 0)<=1:=by split<;>omega
   omega
  show if decide (wd="next")=true then _ else _
  refine aV (λb=>?_) (λb=>?_)
  ·have k:=X4 b;subst k;exact⟨Zs,λa G c g=>l c g (.next n t Zo OE Zo) (.cons rfl (.cons rfl (.cons rfl .nil)))⟩
  have CS:=X3 b;have z:=OD CS;dsimp only [aT];show if decide (wd="has")=true then _ else _
  refine aV (λb=>?_) (λb=>?_)
  ·have k:=X4 b;subst k;refine⟨Zs,λa G c g=>?_⟩;have em:(if (t:Int)>1 then (t:Int) else 1)=((max 1 t:Nat):Int):=by split<;>omega
   rw[em]at g;exact l c g (.has d[i] (max 1 t) S Zo Zo) (.cons rfl (.cons rfl (.cons rfl .nil)))
  have OF:=X3 b;dsimp only [aT];show if decide (wd="asked")=true then _ else _
  refine aV (λb=>?_) (λb=>?_)
  ·have k:=X4 b;subst k;exact⟨Zs,λa G c g=>l c g (.asked n Zo z) (.cons rfl (.cons rfl .nil))⟩
  have OG:=X3 b;dsimp only [aT];show if decide (wd="done")=true then _ else _
  refine aV (λb=>?_) (λb=>?_)
  ·have k:=X4 b;subst k;exact⟨Zs,λa G c g=>l c g (.done n t v ys Zo z Zo aG) (.cons rfl (.cons rfl (.cons rfl (.cons ⟨ta,rfl,c _ _ RV⟩ .nil))))⟩
  have YA:=X3 b;refine⟨Zs,λa1 E1 YB YC=>⟨Zs,λa2 E2 RX YD=>⟨_,YD,Zs,?_,λa3 E3 RY YE=>?_⟩⟩⟩
  ·cases hb:decide (wd="kept")<;>simp
  refine⟨_,_,RY _ _ (RX _ _ YC),YE,by simp;split<;>simp,λa4 E4 YF A=>?_⟩;have r:=((YB.trans RX).trans RY).trans YF;have YG:wd="came"∨wd="kept":=by
   rcases DS with h|h|h|h|h|h
   ·exact .inl h
   ·exact T7 h YA
   ·exact T7 h OG
   ·exact .inr h
   ·exact T7 h OF
   ·exact T7 h CS
  rcases YG with rfl|rfl
  ·have:decide (("came":Str)="kept")=false:=by decide +kernel
   rw[this]at A;exact l r A (.came n t d[i] m[j] v Zo z Zo S RW dG) (.cons rfl (.cons rfl (.cons rfl (.cons rfl (.cons rfl (.cons ⟨J,rfl,r _ _ RU⟩ .nil))))))
  ·have:decide (("kept":Str)="kept")=true:=by decide +kernel
   rw[this]at A;exact l r A (.kept n t d[i] m[j] v ys Zo z Zo S RW dG aG) (.cons rfl (.cons rfl (.cons rfl (.cons rfl (.cons rfl (.cons ⟨J,rfl,r _ _ RU⟩ (.cons ⟨ta,rfl,r _ _ RV⟩ .nil)))))))
def bH(z:Str):V:=match aM z with|some n=>.int (n:Int)|none=>.str z
def kN(h:aM z=some n):bH z=.int (n:Int):=by unfold bH;rw[h]
def jE(h:aM z=none):bH z=.str z:=by unfold bH;rw[h]
def gN(lo a:Int)(z:Str):aQ lo a (bH z)=aQ lo a (bE (aM z))/\(aQ lo a (bE (aM z))=true->bH z=bE (aM z)):=by
 cases h:aM z with
 | none=>rw[jE h];exact⟨rfl,λe=>by cases e⟩
 | some n=>rw[kN h];exact⟨rfl,λ_=>rfl⟩
def Wb(h:aM z=some n):∃c∈z.cps.toList,c∈oH:=by
 unfold aM at h;split at h
 ·rename_i a;rw[cC,Bool.and_eq_true,Bool.and_eq_true]at a;have b:=X4 a.1.1
  cases d:z.cps.toList with
  | nil=>
   have:z.length=0:=by
    have:z.length=z.cps.toList.length:=by simp[Str.length]
    rw[this,d];rfl
   rw[this]at b;exact T7 b Zd
  | cons c r=>exact⟨c,Zs,X4 (all_eq_true.mp a.2 c (by rw[d];simp))⟩
 ·cases h
def vA(z:Str):dR (bH z)=dR (.str z)/\(dR (.str z)=true->bH z=.str z):=by
 cases h:aM z with
 | none=>rw[jE h];exact⟨rfl,λ_=>rfl⟩
 | some n=>
  obtain⟨c,a,b⟩:=Wb h;have e:dR (.str z)=false:=by
   cases d:dR (.str z) with
   | false=>rfl
   | true=>
    obtain⟨j,f,g⟩:=cO d;cases f;have i:=g.2.2 c a;have k:=(Gr c).mp b;have:∀c,c∈LET->97<=c:=by decide
    have:=this c i;omega
  rw[kN h,e];exact⟨rfl,λe=>by cases e⟩
def WRD:List Str:=["no","ok","is","short","full","add","take","move","send","fetch","pass","next","has","kept","came","asked","done","=",""]
def Hu:∀z∈WRD,aM z=none:=by decide +kernel
def tK(h:z∈WRD):bH z=.str z:=jE (Hu z h)
def fX(ws:List Str):List V:=match ws with
 | []=>[]
 | u::r=>if u="no" then V.str u::r.map V.str else V.str u::r.map λz=>bE (aM z)
def xD(h:bI (.str u::r)=true):u="no"∨u="ok"∨u="is"∨u="short"∨u="full":=by
 refine Classical.byContradiction λa=>?_;simp only [not_or]at a;obtain⟨b,c,d,e,f⟩:=a;rw[xB u r b]at h;unfold dF at h;simp[b,c,d,e,f]at h
def Fj(a:∀u,y≠.str u):bI (y::r)=false:=by
 have:kK (y::r)=.non:=by cases y<;>first|rfl|exact T7 rfl (a _)
 unfold bI;rw[this,T8 (λe=>by cases e),any_eq_false];intro z _;rw[pJ λu b e=>a u (List.cons.inj e).1];exact Y1
def Hv(ws:List Str):bI (ws.map bH)=bI (fX ws)/\(bI (fX ws)=true->ws.map bH=fX ws):=by
 cases ws with
 | nil=>exact⟨rfl,λ_=>rfl⟩
 | cons u r=>
  unfold fX;dsimp only;by_cases d:u="no"
  ·rw[UF d];have k:bH u=.str u:=tK (by rw[d];decide +kernel);rw[map_cons,k];have e:∀r:List V,bI (.str u::r)=qE (.str u::r):=λr=>by unfold bI;rw[UF (show kK (V.str u::r)=.str "no" by rw[d];rfl)]
   rw[e,e];match r with
   | []=>exact⟨rfl,λ_=>rfl⟩
   | [y]=>
    obtain⟨a,b⟩:=vA y;exact⟨a,λh=>by show[_,_]=[_,_];rw[b h]⟩
   | _::_::_=>exact⟨rfl,λh=>by cases h⟩
  rw[T8 d];cases g:aM u with
  | some n=>
   rw[map_cons,kN g,Fj (λ_ e=>by cases e)];have e:bI (.str u::r.map λz=>bE (aM z))=false:=by
    cases h:bI (.str u::r.map λz=>bE (aM z)) with
    | false=>rfl
    | true=>
     have l:u∈WRD:=by rcases xD h with rfl|rfl|rfl|rfl|rfl<;>decide +kernel
     rw[Hu u l]at g;cases g
   rw[e];exact⟨rfl,λe=>by cases e⟩
  | none=>
   rw[map_cons,jE g,hU,hU];unfold kA;match r with
   | []=>exact⟨rfl,λ_=>rfl⟩
   | [a]=>
    have q:(([V.str u,bH a].length:Nat):Int)=(([V.str u,bE (aM a)].length:Nat):Int):=rfl;refine⟨?_,λh=>?_⟩
    ·show(if _ then _ else _)=(if _ then _ else _);simp only [map_cons,map_nil,eJ,length_nil,getD_cons_zero];rw[show decide (u="no")=false from XV d];simp only [(gN _ _ a).1];rfl
    ·simp only [map_cons,map_nil,eJ,length_nil,getD_cons_zero]at h;rw[show decide (u="no")=false from XV d]at h;have:∃lo f,aQ lo f (bE (aM a))=true:=by
      refine Classical.byContradiction λi=>?_;have m:∀lo f,aQ lo f (bE (aM a))=false:=λlo f=>by
       cases e:aQ lo f (bE (aM a)) with
       | false=>rfl
       | true=>exact T7 ⟨lo,f,e⟩ i
      simp[m]at h
     obtain⟨lo,f,o⟩:=this;show[_,bH a]=[_,bE (aM a)];rw[(gN lo f a).2 o]
   | [a,b]=>
    refine⟨?_,λh=>?_⟩
    ·simp only [map_cons,map_nil,eJ,length_nil,getD_cons_zero,List.getD_cons_succ];simp only [(gN _ _ a).1,(gN _ _ b).1];simp
    ·simp only [map_cons,map_nil,eJ,length_nil,getD_cons_zero,List.getD_cons_succ]at h;have:aQ 0 999999999999 (bE (aM a))=true/\aQ 1 1000000000000 (bE (aM b))=true:=by
      refine Classical.byContradiction λi=>?_;have:(aQ 0 999999999999 (bE (aM a))&&aQ 1 1000000000000 (bE (aM b)))=false:=by
       cases d:aQ 0 999999999999 (bE (aM a)) with
       | false=>rfl
       | true=>cases p:aQ 1 1000000000000 (bE (aM b)) with
        | false=>rfl
        | true=>exact T7 ⟨d,p⟩ i
      rw[this]at h;simp at h
     show[_,bH a,bH b]=[_,bE (aM a),bE (aM b)];rw[(gN _ _ a).2 this.1,(gN _ _ b).2 this.2]
   | a::b::c::r=>
    refine⟨?_,λh=>?_⟩
    ·simp only [map_cons,Li,aBf];simp
    ·simp only [map_cons,Li,aBf]at h;exfalso
     revert h
     by_cases j:u="ok"
     ·simp[j];omega
     ·simp[j]
def aBj(h:("=":Str)∈ws):bI (fX ws)=false:=by
 cases a:bI (fX ws) with
 | false=>rfl
 | true=>
  exfalso;have e:=(Hv ws).2 a;have b:V.str "="∈fX ws:=by
   rw[<- e];have:=List.mem_map_of_mem (f:=bH) h;rw[tK (show("=":Str)∈WRD by decide +kernel)]at this;exact this
  cases ws with
  | nil=>cases h
  | cons u r=>
   unfold fX at a b;dsimp only at a b;have l:u="no"∨u="ok"∨u="is"∨u="short"∨u="full":=by
    split at a<;>exact xD a
   have j:V.str "="≠V.str u:=λe=>by
    injection e with e
    rcases l with rfl|rfl|rfl|rfl|rfl<;>exact T7 e Zk
   by_cases g:u="no"
   ·rw[UF g]at a b;have e:bI (.str u::r.map V.str)=qE (.str u::r.map V.str):=by unfold bI;rw[UF (show kK (V.str u::r.map V.str)=.str "no" by rw[g];rfl)]
    rw[e]at a;match r,a,b with
    | [y],a,b=>
     rcases mem_cons.mp b with c|c
     ·exact j c
     ·have i:V.str "="=V.str y:=Zms.mp c;injection i with i
      rw[<- i]at a;exact T7 a (show ¬ dR (.str "=")=true by decide +kernel)
   ·rw[T8 g]at b;rcases mem_cons.mp b with c|c
    ·exact j c
    ·obtain⟨z,_,d⟩:=Zmm.mp c
     cases k:aM z with
     | none=>rw[k]at d;cases d
     | some n=>rw[k]at d;cases d
def cM(h:bC xs=true):3<=xs.length/\xs.length<=5:=by
 unfold bC at h;rw[Bool.and_eq_true,Bool.and_eq_true]at h;have b:=X4 h.1.1;refine yE0 (iU h.1.2) (yE2 λz i=>yA5 λ_ c a _ _=>?_);have:=uJ c;rw[kT b]at a;omega
def Ll{xs:List V}{z:Str}{i:Int}(a:WS.lookup z=some i):bH z=.str z:=by
 rcases pE a with⟨rfl,_⟩|⟨rfl,_⟩|⟨rfl,_⟩|⟨rfl,_⟩|⟨rfl,_⟩|⟨rfl,_⟩<;>exact tK Zk
def Fk(h:∀p∈ws++[a],32∉p.cps.toList):kI (jw (ws++[a]))=ws.map V.str++[bE (aM a)]:=yJ (mL Zs h)
def Wc(h:bH z=.str y):bH z=.str z:=by
 cases e:aM z with
 | none=>exact jE e
 | some n=>rw[kN e]at h;cases h
def Cg(ws:List Str)(C:∀p∈ws,32∉p.cps.toList):bC (ws.map bH)=bC (kI (jw ws))/\(bC (kI (jw ws))=true->ws.map bH=kI (jw ws)):=by
 have key:∀A B:List V,(bC A=true->A=B)->(bC B=true->A=B)->bC A=bC B/\(bC B=true->A=B):=λA B F D=>by
  refine⟨?_,D⟩
  cases o:bC A with
  | true=>rw[<- F o,o]
  | false=>cases q:bC B with
   | false=>rfl
   | true=>rw[D q]at o;rw[o]at q;cases q
 rcases List.eq_nil_or_concat ws with rfl|⟨G,j,rfl⟩
 ·have e:kI (jw [])=[bE (aM "")]:=by
   have:Txt.split (jw []) (tx [32])=[]++[("":Str)]:=by decide +kernel
   exact yJ this
  rw[e];exact key _ _ (λh=>by have:=(cM h).1;simp at this) (λh=>by have:=(cM h).1;simp at this)
 rw[List.concat_eq_append]at C ⊢;rw[Fk C,hX];have J:∀ {x:V}{l:List V}{z:Str}{f:Str->V},bO x l=true->x=f z->True:=λ_ _=>trivial
 have s:∀ {z:Str}{l:List V},bO (bH z) l=true->bH z=.str z:=λh=>by
  obtain⟨y,_,e,_⟩:=iU h;exact Wc e
 have t:∀ {z:Str}{l:List V},bO (.str z) l=true->bH z=.str z:=λh=>by
  obtain⟨y,i,e,E,_⟩:=iU h;injection e with e
  rw[<- e]at E;exact Ll (xs:=[]) E
 have k:∀ {x:V}{l:List V},bO x l=true->∀y∈l,dR y=true:=λh y H=>by
  refine yE0 (iU h) (yE2 λ_ _=>yA5 λ_ _ _ I _=>?_);exact I y H
 have m:∀ {z:Str},dR (bH z)=true->bH z=.str z:=λ{z} h=>(vA z).2 (by rw[<- (vA z).1];exact h)
 have n:∀ {z:Str},dR (.str z)=true->bH z=.str z:=λ{z} h=>(vA z).2 h
 have u:aQ 1 1000000000000 (bH j)=true->bH j=bE (aM j):=λh=>(gN _ _ j).2 (by rw[<- (gN _ _ j).1];exact h)
 have v:aQ 1 1000000000000 (bE (aM j))=true->bH j=bE (aM j):=λh=>(gN _ _ j).2 h
 match G with
 | []=>exact key _ _ (λh=>by have:=(cM h).1;simp at this) (λh=>by have:=(cM h).1;simp at this)
 | [_]=>exact key _ _ (λh=>by have:=(cM h).1;simp at this) (λh=>by have:=(cM h).1;simp at this)
 | [a,b]=>
  refine key _ _ (λh=>?_) (λh=>?_)
  ·have g:(bO (bH a) [bH b]&&aQ 1 1000000000000 (bH j))=true:=h;rw[Bool.and_eq_true]at g;show[bH a,bH b,bH j]=[.str a,.str b,bE (aM j)];rw[s g.1,m (k g.1 (bH b) Zs),u g.2]
  ·have g:(bO (.str a) [.str b]&&aQ 1 1000000000000 (bE (aM j)))=true:=h;rw[Bool.and_eq_true]at g;show[bH a,bH b,bH j]=[.str a,.str b,bE (aM j)];rw[t g.1,n (k g.1 (.str b) Zs),v g.2]
 | [a,b,c]=>
  refine key _ _ (λh=>?_) (λh=>?_)
  ·have g:(bO (bH a) [bH b,bH c]&&aQ 1 1000000000000 (bH j))=true:=h;rw[Bool.and_eq_true]at g;show[bH a,bH b,bH c,bH j]=[.str a,.str b,.str c,bE (aM j)];rw[s g.1,m (k g.1 (bH b) Zs),m (k g.1 (bH c) Zs),u g.2]
  ·have g:(bO (.str a) [.str b,.str c]&&aQ 1 1000000000000 (bE (aM j)))=true:=h;rw[Bool.and_eq_true]at g;show[bH a,bH b,bH c,bH j]=[.str a,.str b,.str c,bE (aM j)];rw[t g.1,n (k g.1 (.str b) Zs),n (k g.1 (.str c) Zs),v g.2]
 | [a,b,c,d]=>
  refine key _ _ (λh=>?_) (λh=>?_)
  ·have g:(bO (bH a) [bH b,bH c,bH d]&&aQ 1 1000000000000 (bH j))=true:=h;rw[Bool.and_eq_true]at g;show[bH a,bH b,bH c,bH d,bH j]=[.str a,.str b,.str c,.str d,bE (aM j)];rw[s g.1,m (k g.1 (bH b) Zs),m (k g.1 (bH c) Zs),m (k g.1 (bH d) Zs),u g.2]
  ·have g:(bO (.str a) [.str b,.str c,.str d]&&aQ 1 1000000000000 (bE (aM j)))=true:=h;rw[Bool.and_eq_true]at g;show[bH a,bH b,bH c,bH d,bH j]=[.str a,.str b,.str c,.str d,bE (aM j)];rw[t g.1,n (k g.1 (.str b) Zs),n (k g.1 (.str c) Zs),n (k g.1 (.str d) Zs),v g.2]
 | _::_::_::_::_::r=>exact key _ _ (λh=>by have:=(cM h).2;simp at this<;>omega) (λh=>by have:=(cM h).2;simp at this<;>omega)
def vM:RP->Prop
 | .sc v=>cF v=true/\∀z,v=.str z->z.length<=1000
 | .tp a=>a.length<=1000/\∀y∈a,cF y=true/\∀z,y=.str z->z.length<=1000
def bZ(k:V)(p:RP):Bool:=match k with
 | .str kd=>(match p with
  | .sc v=>(match BDS.lookup kd with
   | some [.int lo,.int b]=>aQ lo b v
   | some _=>false
   | none=>if kd="name" then dR v else if kd="key" then bM v (LET++oH) 12 else false)
  | .tp a=>(match BDS.lookup kd with
   | some _=>false
   | none=>if kd="name" then false else if kd="key" then false else if kd="deed" then bC a else bI a))
 | _=>false
def Hw:RP->RP->Bool
 | .tp a,.tp b=>cI (dnW a) (Vf a) (dnN a) b
 | _,_=>false
def dU(ps:List RP):Bool:=match ps with
 | .sc (.str wd)::r=>(match PTS.lookup wd with
  | some a=>decide (r.length=a.length)&&(a.zip r).all (λq=>bZ q.1 q.2)&&(!decide (wd="kept")||Hw (r.getD 4 (.sc .non)) (r.getD 5 (.sc .non)))
  | none=>false)
 | _=>false
def pL{v:V}(h:cF v=true):bA H v=none:=by cases v<;>first|rfl|cases h
def aBk{x k:V}(h:PAt H p x)(c:vM p):iH H k x=bZ k p:=by
 cases k with
 | str kd=>
  show bJ H kd x=_;unfold bJ bZ;cases p with
  | sc v=>
   cases(show x=v from h);dsimp only;cases a:BDS.lookup kd with
   | some d=>obtain⟨lo,e,rfl⟩:=yV a;rfl
   | none=>
    dsimp only;split
    ·rfl
    ·split
     ·rfl
     ·split
      ·unfold cH;cases x<;>first|rfl|exact T7 c.1 Y1
      ·unfold gT;rw[pL c.1]
  | tp d=>
   obtain⟨b,rfl,g⟩:=h;dsimp only;cases a:BDS.lookup kd with
   | some d=>obtain⟨lo,e,rfl⟩:=yV a;rfl
   | none=>
    dsimp only;split
    ·rfl
    ·split
     ·rfl
     ·split
      ·unfold cH;dsimp only;rw[g]
      ·unfold gT;rw[cD g]
 | _=>rfl
def aBl(h:PAt H p x)(h':PAt H q y)(a:vM p)(c:vM q):oC H x y=Hw p q:=by
 unfold oC Hw;cases p with
 | sc v=>cases(show x=v from h);rw[pL a.1]
 | tp e=>
  obtain⟨b,rfl,g⟩:=h;rw[cD g];dsimp only;unfold iF;cases q with
  | sc v=>cases(show y=v from h');rw[pL c.1]
  | tp f=>
   obtain⟨i,rfl,d⟩:=h';rw[cD d]
def Hx(h:Paired (PAt H) r vs)(i:Nat):PAt H (r.getD i (.sc .non)) (vs.getD i .non):=by
 induction h generalizing i with
 | nil=>exact rfl
 | cons h t a=>cases i with
  | zero=>exact h
  | succ i=>simpa using a i
def Hy{r:List RP}(h:∀p∈r,vM p)(i:Nat):vM (r.getD i (.sc .non)):=by
 rw[List.getD_eq_getElem?_getD];cases e:r[i]? with
 | none=>exact⟨rfl,λ_ e=>by cases e⟩
 | some p=>exact h p (sW e)
def Xv{H:Hp}{a:WP}{ps:List RP}(i:RowAt H a ps)(j:∀p∈ps,vM p):sQ H (.ref a)=dU ps:=by
 obtain⟨c,g,l⟩:=i;unfold sQ;rw[cD g];show zB H c=dU ps
 cases l with
 | nil=>rfl
 | cons h t=>
  rename_i p v r c;have e:∀q∈r,vM q:=λq f=>j q (fN _ f)
  cases p with
  | sc w=>
   cases(show v=w from h);unfold zB dU;cases v with
   | str wd=>
    dsimp only;cases n:PTS.lookup wd with
    | none=>rfl
    | some d=>
     dsimp only;rw[t.length,aBl (Hx t 4) (Hx t 5) (Hy e 4) (Hy e 5)];congr 2;have key:∀(d:List V){r:List RP}{c:List V},Paired (PAt H) r c->(∀q∈r,vM q)->((d.zip c).all λq=>iH H q.1 q.2)=(d.zip r).all λq=>bZ q.1 q.2:=λd=>by
      induction d with
      | nil=>intro r c _ _;rfl
      | cons k d m=>
       intro r c t e;cases t with
       | nil=>rfl
       | cons h t=>
        rw[zip_cons_cons,zip_cons_cons,all_cons,all_cons,m t λq f=>e q (fN _ f),aBk h (e _ iV)]
     exact key d t e
   | _=>rfl
  | tp o=>
   obtain⟨b,rfl,_⟩:=h;rfl
def oP(k:V)(p q:RP):Prop:=bZ k q=bZ k p/\(bZ k p=true->p=q)
def Ag:List V->List RP->List RP->Prop
 | [],[],[]=>True
 | k::a,p::P,q::L=>oP k p q/\Ag a P L
 | _,_,_=>False
theorem Ag.len:∀ {a:List V}{P L:List RP},Ag a P L->P.length=a.length/\L.length=a.length
 | [],[],[],_=>⟨rfl,rfl⟩
 | _::_,_::_,_::_,h=>by have:=Ag.len h.2;simp only [eJ];omega
theorem Ag.all:∀ {a:List V}{P L:List RP},Ag a P L->((a.zip L).all λq=>bZ q.1 q.2)=((a.zip P).all λq=>bZ q.1 q.2)/\(((a.zip P).all λq=>bZ q.1 q.2)=true->P=L)
 | [],[],[],_=>⟨rfl,λ_=>rfl⟩
 | _::_,_::_,_::_,h=>by
  have b:=Ag.all h.2;rw[zip_cons_cons,zip_cons_cons,all_cons,all_cons,b.1,h.1.1];refine⟨rfl,λe=>?_⟩;rw[Bool.and_eq_true]at e;rw[h.1.2 e.1,b.2 e.2]
def Ag.row{wd:Str}{a:List V}{P L:List RP}(b:PTS.lookup wd=some a)(h:Ag a P L):dU (.sc (.str wd)::L)=dU (.sc (.str wd)::P)/\(dU (.sc (.str wd)::P)=true->P=L):=by
 obtain⟨c,d⟩:=h.len;obtain⟨f,g⟩:=h.all;unfold dU;dsimp only;rw[b];dsimp only;rw[c,d,f];cases e:(a.zip P).all λq=>bZ q.1 q.2 with
 | false=>simp
 | true=>rw[g e];exact⟨rfl,λ_=>rfl⟩
def nV{wd:Str}{a:List V}{P:List RP}(b:PTS.lookup wd=some a)(h:P.length≠a.length):dU (.sc (.str wd)::P)=false:=by
 unfold dU;dsimp only;rw[b];dsimp only;rw[XV h];rfl
def qQ{wd:Str}{a:List V}{P:List RP}(b:PTS.lookup wd=some a)(i:Nat){k:V}{p:RP}(hk:a[i]?=some k)(c:P[i]?=some p)(h:bZ k p=false):dU (.sc (.str wd)::P)=false:=by
 unfold dU;dsimp only;rw[b];dsimp only;have:((a.zip P).all λq=>bZ q.1 q.2)=false:=by
  rw[List.all_eq_false];refine⟨(k,p),sW (i:=i) (by rw[List.getElem?_zip_eq_some];exact⟨hk,c⟩),?_⟩;dsimp only;rw[h];exact Y1
 rw[this,Bool.and_false,Bool.false_and]
def tL(k:V)(p:RP):oP k p p:=⟨rfl,λ_=>rfl⟩
def xE{kd:Str}(h:BDS.lookup kd=some [.int lo,.int a])(v:V):bZ (.str kd) (.sc v)=aQ lo a v:=by
 unfold bZ;dsimp only;rw[h]
def kC{kd:Str}(h:BDS.lookup kd=some [.int lo,.int a])(z:Str):oP (.str kd) (.sc (bE (aM z))) (.sc (bH z)):=by
 unfold oP;rw[xE h,xE h];obtain⟨b,c⟩:=gN lo a z;exact⟨b,λe=>by rw[c e]⟩
def vB(v:V):bZ (.str "name") (.sc v)=dR v:=by
 unfold bZ;dsimp only;rw[show BDS.lookup ("name":Str)=none by decide +kernel];dsimp only;rw[UF rfl]
def Wd(z:Str):oP (.str "name") (.sc (.str z)) (.sc (bH z)):=by
 unfold oP;rw[vB,vB];obtain⟨a,b⟩:=vA z;exact⟨a,λe=>by rw[b e]⟩
def lL(xs:List V):bZ (.str "deed") (.tp xs)=bC xs:=by
 unfold bZ;dsimp only;rw[show BDS.lookup ("deed":Str)=none by decide +kernel];dsimp only;rw[T8 Zk,T8 Zk,UF rfl]
def sI(v:V):bZ (.str "deed") (.sc v)=false:=by
 unfold bZ;dsimp only;rw[show BDS.lookup ("deed":Str)=none by decide +kernel];dsimp only;rw[T8 Zk,T8 Zk]
def nX(xs:List V):bZ (.str "answer") (.tp xs)=bI xs:=by
 unfold bZ;dsimp only;rw[show BDS.lookup ("answer":Str)=none by decide +kernel];dsimp only;rw[T8 Zk,T8 Zk,T8 Zk]
def fQ(ws:List Str):RP:=if bC (kI (jw ws))=true then .tp (kI (jw ws)) else .sc .non
def Hz(ws:List Str)(b:∀p∈ws,32∉p.cps.toList):oP (.str "deed") (fQ ws) (.tp (ws.map bH)):=by
 obtain⟨a,c⟩:=Cg ws b;unfold oP fQ;cases e:bC (kI (jw ws)) with
 | true=>rw[UF rfl,lL,lL,a,e];exact⟨rfl,λ_=>by rw[c e]⟩
 | false=>rw[T8 Y1,lL,sI,a,e];exact⟨rfl,λe=>by cases e⟩
def Rn(ws:List Str):oP (.str "answer") (.tp (fX ws)) (.tp (ws.map bH)):=by
 obtain⟨a,b⟩:=Hv ws;unfold oP;rw[nX,nX];exact⟨a,λe=>by rw[b e]⟩
def scs(zs:List Str):List RP:=zs.map λz=>.sc (.str z)
def mZ(zs:List Str):List RP:=zs.map λz=>.sc (bH z)
def aW(zs:List Str):List V:=(PTS.lookup (zs.headD "")).getD []
def lS(k:V)(p:RP):RP:=match k,p with
 | .str kd,.sc (.str z)=>if (BDS.lookup kd).isSome=true then .sc (bE (aM z)) else .sc (.str z)
 | _,p=>p
def dE(zs:List Str):List Str×List Str:=match brk zs.tail with
 | some (A,B)=>(zs.headD ""::A,B)
 | none=>(zs,[""])
def bG(zs:List Str):List RP:=
 if zs.headD ""="kept" then scs ((dE zs).1.take 5)++[fQ ((dE zs).1.drop 5),.tp (fX (dE zs).2)]
 else if zs.headD ""="came" then scs (zs.take 5)++[fQ (zs.drop 5)]
 else if zs.headD ""="done" then scs (zs.take 3)++[.tp (fX (zs.drop 3))]
 else scs zs
def cT(zs:List Str):List RP:=(bG zs).take 1++((aW zs).zip ((bG zs).drop 1)).map λq=>lS q.1 q.2
def oQ(zs:List Str):Option (List RP):=if (bG zs).length=(aW zs).length+1/\dU (cT zs)=true then some (cT zs) else none
def oF(zs:List Str):List RP:=
 if zs.headD ""="done" then mZ (zs.take 3)++[.tp ((zs.drop 3).map bH)]
 else if zs.headD ""="came"/\4<zs.length then mZ (zs.take 3)++[.sc (.str (zs.getD 3 "")),.sc (.str (zs.getD 4 "")),.tp ((zs.drop 5).map bH)]
 else if zs.headD ""="kept"/\4<zs.length/\zs.count ("=":Str)=1 then mZ (zs.take 3)++[.sc (.str (zs.getD 3 "")),.sc (.str (zs.getD 4 "")),.tp (((zs.take (zs.idxOf ("=":Str))).drop 5).map bH),.tp ((zs.drop (zs.idxOf ("=":Str)+1)).map bH)]
 else mZ zs
def eW(zs:List Str):Option (List RP):=if dU (oF zs)=true then some (oF zs) else none
def dB(c:(bG zs).length=(aW zs).length+1->dU (cT zs)=false)(d:dU (oF zs)=false):oQ zs=eW zs:=by
 unfold oQ eW;rw[d,T8 Y1,T8];rintro⟨a,b⟩;rw[c a]at b;cases b
def nY{zs:List Str}{wd:Str}{c:List V}{P L:List RP}(d:PTS.lookup wd=some c)(hk:aW zs=c)(f:(bG zs).length=c.length+1)(g:cT zs=.sc (.str wd)::P)(i:oF zs=.sc (.str wd)::L)(h:Ag c P L):oQ zs=eW zs:=by
 unfold oQ eW;obtain⟨a,b⟩:=h.row d;rw[g,i,hk,a];cases e:dU (.sc (.str wd)::P) with
 | false=>rw[T8 (λh=>by cases h.2),T8 Y1]
 | true=>rw[UF ⟨f,rfl⟩,UF rfl,b e]
def gO{kd:Str}{bs:List V}(h:BDS.lookup kd=some bs)(z:Str):lS (.str kd) (.sc (.str z))=.sc (bE (aM z)):=by
 unfold lS;dsimp only;rw[h];rfl
def gP{kd:Str}(h:BDS.lookup kd=none)(p:RP):lS (.str kd) p=p:=by
 unfold lS;split
 ·rename_i a z e;cases e;rw[h];rfl
 ·rfl
def bd1:BDS.lookup ("next":Str)=some [.int 1,.int 1000000]:=rfl
def Xw:BDS.lookup ("number":Str)=some [.int 1,.int 999999]:=rfl
def Xx:BDS.lookup ("turn":Str)=some [.int 0,.int 1000000000000]:=rfl
def bd4:BDS.lookup ("amount":Str)=some [.int 1,.int 1000000000000]:=rfl
def bd5:BDS.lookup ("name":Str)=none:=by decide +kernel
def bd6:BDS.lookup ("key":Str)=none:=by decide +kernel
def bd7:BDS.lookup ("deed":Str)=none:=by decide +kernel
def bd8:BDS.lookup ("answer":Str)=none:=by decide +kernel
def We:PTS.lookup ("kept":Str)=some [.str "number",.str "turn",.str "name",.str "key",.str "deed",.str "answer"]:=rfl
def pt4:PTS.lookup ("came":Str)=some [.str "number",.str "turn",.str "name",.str "key",.str "deed"]:=rfl
def pt6:PTS.lookup ("done":Str)=some [.str "number",.str "turn",.str "answer"]:=rfl
def Lm(h:PTS.lookup z0=none):dU (mZ (z0::r))=false:=by
 show dU (.sc (bH z0)::mZ r)=false
 cases e:aM z0 with
 | some n=>rw[kN e];rfl
 | none=>rw[jE e];unfold dU;dsimp only;rw[h]
def cw(z:Str)(h:z∈WRD):(RP.sc (bH z))=.sc (.str z):=by rw[tK h]
def Ro(h:∀v,r[4]?=some v->bZ (.str "deed") v=false):dU (.sc (.str "kept")::r)=false:=by
 by_cases a:r.length=6
 ·cases e:r[4]? with
  | none=>rw[List.getElem?_eq_none_iff]at e;omega
  | some v=>exact qQ We 4 rfl e (h v e)
 ·exact nV We (by simpa using a)
def Wf{zs:List Str}{i:Nat}{v:RP}(h:(mZ zs)[i]?=some v):∃z,v=.sc (bH z):=by
 unfold mZ at h;rw[jF]at h;cases e:zs[i]? with
 | none=>rw[e]at h;cases h
 | some z=>rw[e]at h;cases h;exact⟨z,rfl⟩
def fY{zs A B:List Str}(a:zs.headD ""="kept")(b:dE zs=(A,B)):bG zs=scs (A.take 5)++[fQ (A.drop 5),.tp (fX B)]:=by
 unfold bG;rw[UF a,b]
def Ch{zs A B:List Str}{k a b c d:Str}(e:zs.headD ""="kept")(f:dE zs=(k::a::b::c::d::A,B)):cT zs=.sc (.str k)::[.sc (bE (aM a)),.sc (bE (aM b)),.sc (.str c),.sc (.str d),fQ A,.tp (fX B)]:=by
 have g:aW zs=[.str "number",.str "turn",.str "name",.str "key",.str "deed",.str "answer"]:=by unfold aW;rw[e,We];rfl
 unfold cT;rw[fY e f,g];show[RP.sc (.str k),lS (.str "number") (.sc (.str a)),lS (.str "turn") (.sc (.str b)),lS (.str "name") (.sc (.str c)),lS (.str "key") (.sc (.str d)),lS (.str "deed") (fQ A),lS (.str "answer") (.tp (fX B))]=_;rw[gO Xw,gO Xx,gP bd5,gP bd6,gP bd7,gP bd8]
def xF{zs A B:List Str}(g:zs.headD ""="kept")(f:dE zs=(("kept":Str)::A,B))(h:bI (fX B)=false):(bG zs).length=(aW zs).length+1->dU (cT zs)=false:=by
 have i:aW zs=[.str "number",.str "turn",.str "name",.str "key",.str "deed",.str "answer"]:=by unfold aW;rw[g,We];rfl
 intro e;rw[fY g f,i]at e;unfold scs at e;rw[gQ,aX,fM]at e;simp only [eJ,length_nil]at e
 match A,e,f with
 | a::b::c::d::j,_,f=>
  rw[Ch g f];exact qQ We 5 rfl rfl (by rw[nX];exact h)
 | [],e,_=>simp at e
 | [_],e,_=>simp at e
 | [_,_],e,_=>simp at e
 | [_,_,_],e,_=>simp at e
def Fl{zs:List Str}{r:List Str}(e:zs=("kept":Str)::r)(h:oF zs=mZ zs):dU (oF zs)=false:=by
 rw[h,e];show dU (.sc (bH "kept")::mZ r)=false;rw[cw _ Zk];exact Ro λv a=>by obtain⟨z,rfl⟩:=Wf a;exact sI _
theorem zR{E:List Str}:∀ {C:List Str},("=":Str)∉C->(C++("=":Str)::E).idxOf ("=":Str)=C.length
 | [],_=>by simp[List.idxOf_cons]
 | c::C,h=>by
  have a:c≠("=":Str):=λe=>h (by rw[e];exact iV)
  have b:=zR (E:=E) (C:=C) λd=>h (fN _ d)
  rw[cons_append,List.idxOf_cons,beq_eq_false_iff_ne.mpr a];show List.idxOf _ _+1=_;rw[b];rfl
def Rp(d:zs.count ("=":Str)=1)(f:zs[j]?=some ("=":Str)):∃C E,zs=C++("=":Str)::E/\("=":Str)∉C/\("=":Str)∉E/\j=C.length/\zs.idxOf ("=":Str)=j:=by
 obtain⟨g,e⟩:=Zgs.mp f;have a:zs=zs.take j++("=":Str)::zs.drop (j+1):=by
  rw[<- e,<- List.drop_eq_getElem_cons g,List.take_append_drop]
 have b:(zs.take j).length=j:=by rw[fM];omega
 generalize zs.take j=C at a b;generalize zs.drop (j+1)=E at a;rw[a,List.count_append,List.count_cons_self]at d;have c:("=":Str)∉C:=λh=>by have:=count_pos_iff.mpr h;omega
 have i:("=":Str)∉E:=λh=>by have:=count_pos_iff.mpr h;omega
 refine⟨C,E,a,c,i,b.symm,?_⟩;rw[a,zR c,b]
def aBm{zs:List Str}(T:zs≠[])(U:∀p∈zs,32∉p.cps.toList):oQ zs=eW zs:=by
 obtain⟨m,r,rfl⟩:=List.exists_cons_of_ne_nil T;have l:(m::r).headD ""=m:=rfl;have M:∀p∈r,32∉p.cps.toList:=λp v=>U p (fN _ v)
 cases i:PTS.lookup m with
 | none=>
  have x:m≠"kept":=λe=>by rw[e,We]at i;cases i
  have y:m≠"came":=λe=>by rw[e,pt4]at i;cases i
  have N:m≠"done":=λe=>by rw[e,pt6]at i;cases i
  have k:aW (m::r)=[]:=by unfold aW;rw[l,i];rfl
  have j:bG (m::r)=scs (m::r):=by unfold bG;rw[l,T8 x,T8 y,T8 N]
  have f:oF (m::r)=mZ (m::r):=by unfold oF;rw[l,T8 N,T8 (λh=>y h.1),T8 (λh=>x h.1)]
  refine dB (λ_=>?_) (by rw[f];exact Lm i);unfold cT;rw[j,k];show dU [.sc (.str m)]=false;unfold dU;dsimp only;rw[i]
 | some V=>
 have k:aW (m::r)=V:=by unfold aW;rw[l,i];rfl
 rcases Cd i with⟨rfl,rfl⟩|⟨rfl,rfl⟩|⟨rfl,rfl⟩|⟨rfl,rfl⟩|⟨rfl,rfl⟩|⟨rfl,rfl⟩
 ·have j:bG (("next":Str)::r)=scs ("next"::r):=by unfold bG;rw[l,T8 Zk,T8 Zk,T8 Zk]
  have f:oF (("next":Str)::r)=.sc (.str "next")::mZ r:=by
   unfold oF;rw[l,T8 Zk,T8 (λh=>T7 h.1 Zk),T8 (λh=>T7 h.1 Zk)];show RP.sc (bH "next")::mZ r=_;rw[cw _ Zk]
  by_cases n:r.length=2
  ·obtain⟨a,b,rfl⟩:=ln2 n
   refine nY i k (by rw[j];rfl) (P:=[.sc (bE (aM a)),.sc (bE (aM b))]) ?_ f ⟨kC bd1 a,kC Xx b,trivial⟩;unfold cT;rw[j,k];show[RP.sc (.str "next"),lS (.str "next") (.sc (.str a)),lS (.str "turn") (.sc (.str b))]=_;rw[gO bd1,gO Xx]
  ·refine dB (λh=>T7 h ?_) (by rw[f];exact nV i (by unfold mZ;rw[aX];simpa using n));rw[j,k];unfold scs;rw[aX];simpa using n
 ·have j:bG (("has":Str)::r)=scs ("has"::r):=by unfold bG;rw[l,T8 Zk,T8 Zk,T8 Zk]
  have f:oF (("has":Str)::r)=.sc (.str "has")::mZ r:=by
   unfold oF;rw[l,T8 Zk,T8 (λh=>T7 h.1 Zk),T8 (λh=>T7 h.1 Zk)];show RP.sc (bH "has")::mZ r=_;rw[cw _ Zk]
  by_cases n:r.length=2
  ·obtain⟨a,b,rfl⟩:=ln2 n
   refine nY i k (by rw[j];rfl) (P:=[.sc (.str a),.sc (bE (aM b))]) ?_ f ⟨Wd a,kC bd4 b,trivial⟩;unfold cT;rw[j,k];show[RP.sc (.str "has"),lS (.str "name") (.sc (.str a)),lS (.str "amount") (.sc (.str b))]=_;rw[gP bd5,gO bd4]
  ·refine dB (λh=>T7 h ?_) (by rw[f];exact nV i (by unfold mZ;rw[aX];simpa using n));rw[j,k];unfold scs;rw[aX];simpa using n
 ·have u:(("kept":Str)::r).headD ""="kept":=rfl;have x:¬ (("kept":Str)="done"):=by decide +kernel
  have y:¬ (("kept":Str)="came"):=by decide +kernel
  have plain:¬ (4<(("kept":Str)::r).length/\(("kept":Str)::r).count ("=":Str)=1)->dU (oF (("kept":Str)::r))=false:=λh=>Fl rfl (by
   unfold oF;rw[l,T8 x,T8 (λh=>y h.1),T8 (λW=>h W.2)])
  have O:4<(("kept":Str)::r).length->(("kept":Str)::r).count ("=":Str)=1->∀ {a b c d:Str}{g:List Str},r=a::b::c::d::g->oF (("kept":Str)::r)=.sc (.str "kept")::[.sc (bH a),.sc (bH b),.sc (.str c),.sc (.str d),.tp ((((("kept":Str)::r).take ((("kept":Str)::r).idxOf ("=":Str))).drop 5).map bH),.tp (((("kept":Str)::r).drop ((("kept":Str)::r).idxOf ("=":Str)+1)).map bH)]:=λs o {a b c d g} e=>by
   unfold oF;rw[l,T8 x,T8 (λh=>y h.1),UF ⟨rfl,s,o⟩];rw[e];show RP.sc (bH "kept")::_=_;rw[cw _ Zk];rfl
  have L:4<(("kept":Str)::r).length->∃a b c d g,r=a::b::c::d::g:=λq=>by
   obtain⟨a,b,c,d,g,rfl⟩:=lc4 (l:=r) (Nat.le_of_lt_succ q)
   exact⟨a,b,c,d,g,rfl⟩
  cases D:brk r with
  | some X=>
   obtain⟨A,B⟩:=X;obtain⟨G,hB,Y⟩:=mP D;have t:dE (("kept":Str)::r)=(("kept":Str)::A,B):=by unfold dE;rw[show(("kept":Str)::r).tail=r from rfl,D];rfl
   have z:("kept":Str)::r=(("kept":Str)::A)++("=":Str)::B:=by rw[G];rfl
   have Q:("=":Str)∉("kept":Str)::A:=λh=>by
    rcases mem_cons.mp h with h|h
    ·exact T7 h Zk
    ·exact Y _ h rfl
   have Z:(("kept":Str)::A).count ("=":Str)=0:=List.count_eq_zero.mpr Q;have YJ:(("kept":Str)::r).count ("=":Str)=1+B.count ("=":Str):=by rw[z,List.count_append,Z,List.count_cons_self];omega
   by_cases H:("=":Str)∈B
   ·refine dB (xF u t (aBj H)) (plain λh=>?_);have:=count_pos_iff.mpr H;omega
   ·have cB:B.count ("=":Str)=0:=List.count_eq_zero.mpr H;have o:(("kept":Str)::r).count ("=":Str)=1:=by omega
    have YK:(("kept":Str)::r).idxOf ("=":Str)=A.length+1:=by rw[z,zR Q];rfl
    by_cases s:4<(("kept":Str)::r).length
    ·refine yE0 (L s) (yE5 λa b c d g F=>?_);have f:=O s o F;have t1:(("kept":Str)::r).take (A.length+1)=("kept":Str)::A:=by rw[z];exact List.take_left' rfl
     have I:(("kept":Str)::r).drop (A.length+1+1)=B:=by
      rw[z,<- List.drop_drop];show List.drop 1 (List.drop ((("kept":Str)::A).length) ((("kept":Str)::A)++("=":Str)::B))=B;rw[drop_left' rfl];rfl
     rw[YK,t1,I]at f;by_cases q:4<=A.length
     ·obtain⟨a',b',c',d',R,rfl⟩:=lc4 q
      have S:a'::b'::c'::d'::(R++("=":Str)::B)=a::b::c::d::g:=by rw[<- F,G];rfl
      simp only [List.cons.injEq]at S;obtain⟨rfl,rfl,rfl,rfl,e6⟩:=S;refine nY i k (by rw[fY u t];rfl) (Ch u t) f ⟨kC Xw _,kC Xx _,tL _ _,tL _ _,Hz R (λp v=>M p (by rw[G];simp[v])),Rn B,trivial⟩
     ·refine dB (λh=>T7 h ?_) ?_
      ·rw[fY u t,k];unfold scs;rw[gQ,aX,fM];simp;omega
      ·rw[f];have:(("kept":Str)::A).drop 5=[]:=drop_eq_nil_of_le (by rw[eJ];omega);rw[this];exact qQ We 4 rfl rfl (by rw[lL];rfl)
    ·refine dB (λh=>T7 h ?_) (plain λh=>s h.1);rw[fY u t,k];unfold scs;rw[gQ,aX,fM];rw[z,gQ]at s;simp at s ⊢;omega
  | none=>
   have t:dE (("kept":Str)::r)=(("kept":Str)::r,[("":Str)]):=by unfold dE;rw[show(("kept":Str)::r).tail=r from rfl,D]
   refine dB (xF u t Zk) ?_;by_cases o:4<(("kept":Str)::r).length/\(("kept":Str)::r).count ("=":Str)=1
   ·refine yE0 (L o.1) (yE5 λa b c d g F=>?_);have f:=O o.1 o.2 F;have hm:("=":Str)∈("kept":Str)::r:=count_pos_iff.mp Zo;obtain⟨a0,hj⟩:=List.getElem?_of_mem hm;refine yE0 (Rp o.2 hj) (yE2 λC E=>yA5 λJ c1 c2 ej ei=>?_)
    cases C with
    | nil=>exact T7 (List.cons.inj J).1 Zk
    | cons c0 C=>
     have hE:E=[]:=uR D C E (List.cons.inj J).2;have I:(("kept":Str)::r).drop ((("kept":Str)::r).idxOf ("=":Str)+1)=[]:=by
      rw[ei,ej];refine drop_eq_nil_of_le ?_;rw[J,hE,gQ];simp
     rw[f,I];exact qQ We 5 rfl rfl (by rw[nX];rfl)
   ·exact plain o
 ·-- came
  have j:bG (("came":Str)::r)=scs ((("came":Str)::r).take 5)++[fQ ((("came":Str)::r).drop 5)]:=by unfold bG;rw[l,T8 Zk,UF rfl]
  by_cases q:4<(("came":Str)::r).length
  ·obtain⟨a,b,c,d,g,rfl⟩:∃a b c d g,r=a::b::c::d::g:=by
    obtain⟨a,b,c,d,g,rfl⟩:=lc4 (l:=r) (Nat.le_of_lt_succ q)
    exact⟨a,b,c,d,g,rfl⟩
   have f:oF (("came":Str)::a::b::c::d::g)=.sc (.str "came")::[.sc (bH a),.sc (bH b),.sc (.str c),.sc (.str d),.tp (g.map bH)]:=by
    unfold oF;rw[l,T8 Zk,UF ⟨rfl,q⟩];show RP.sc (bH "came")::_=_;rw[cw _ Zk];rfl
   refine nY i k (by rw[j];rfl) (P:=[.sc (bE (aM a)),.sc (bE (aM b)),.sc (.str c),.sc (.str d),fQ g]) ?_ f ⟨kC Xw a,kC Xx b,tL _ _,tL _ _,Hz g (λp v=>M p (by simp[v])),trivial⟩;unfold cT;rw[j,k];show[RP.sc (.str "came"),lS (.str "number") (.sc (.str a)),lS (.str "turn") (.sc (.str b)),lS (.str "name") (.sc (.str c)),lS (.str "key") (.sc (.str d)),lS (.str "deed") (fQ g)]=_;rw[gO Xw,gO Xx,gP bd5,gP bd6,gP bd7]
  ·have f:oF (("came":Str)::r)=.sc (.str "came")::mZ r:=by
    unfold oF;rw[l,T8 Zk,T8 (λh=>q h.2),T8 (λh=>T7 h.1 Zk)];show RP.sc (bH "came")::mZ r=_;rw[cw _ Zk]
   rw[eJ]at q;refine dB (λh=>T7 h ?_) (by rw[f];exact nV i (by unfold mZ;rw[aX];simp;omega));rw[j,k];unfold scs;rw[gQ,aX,fM];simp;omega
 ·have j:bG (("asked":Str)::r)=scs ("asked"::r):=by unfold bG;rw[l,T8 Zk,T8 Zk,T8 Zk]
  have f:oF (("asked":Str)::r)=.sc (.str "asked")::mZ r:=by
   unfold oF;rw[l,T8 Zk,T8 (λh=>T7 h.1 Zk),T8 (λh=>T7 h.1 Zk)];show RP.sc (bH "asked")::mZ r=_;rw[cw _ Zk]
  by_cases n:r.length=1
  ·obtain⟨a,rfl⟩:=ln1 n
   refine nY i k (by rw[j];rfl) (P:=[.sc (bE (aM a))]) ?_ f ⟨kC Xw a,trivial⟩;unfold cT;rw[j,k];show[RP.sc (.str "asked"),lS (.str "number") (.sc (.str a))]=_;rw[gO Xw]
  ·refine dB (λh=>T7 h ?_) (by rw[f];exact nV i (by unfold mZ;rw[aX];simpa using n));rw[j,k];unfold scs;rw[aX];simpa using n
 ·have j:bG (("done":Str)::r)=scs ((("done":Str)::r).take 3)++[.tp (fX ((("done":Str)::r).drop 3))]:=by unfold bG;rw[l,T8 Zk,T8 Zk,UF rfl]
  have f:oF (("done":Str)::r)=.sc (.str "done")::(mZ (r.take 2)++[.tp ((r.drop 2).map bH)]):=by
   unfold oF;rw[l,UF rfl];show RP.sc (bH "done")::_=_;rw[cw _ Zk];rfl
  by_cases h3:2<=r.length
  ·obtain⟨a,b,g,rfl⟩:=lc2 h3
   refine nY i k (by rw[j];rfl) (P:=[.sc (bE (aM a)),.sc (bE (aM b)),.tp (fX g)]) ?_ f ⟨kC Xw a,kC Xx b,Rn g,trivial⟩;unfold cT;rw[j,k];show[RP.sc (.str "done"),lS (.str "number") (.sc (.str a)),lS (.str "turn") (.sc (.str b)),lS (.str "answer") (.tp (fX g))]=_;rw[gO Xw,gO Xx,gP bd8]
  ·refine dB (λh=>T7 h ?_) (by rw[f];exact nV i (by unfold mZ;rw[gQ,aX,fM];simp;omega));rw[j,k];unfold scs;rw[gQ,aX,fM];simp;omega
def zS{C:WP}(T:Txt K mg)(Q:XCls K mg "NoDeed" C)(S:Callee P w K mg base 2 "number_of" QZW uI)(U:Callee P w K mg base 4 "is_deed" QZX mG)(D:DefAt K mg "read_deed" jK QZW):iK P w K mg base 5 "read_deed" QZW (Hc C):=by
 refine D.ggX lH (λa2 cdv a3 outer a4 H vs a5 a6 x a0=>?_)
 ·obtain⟨z,rfl,W,A,B⟩:=a0;refine⟨_,(mm (o0 (i:=1) lH.nd (ua (K:=K) PySem.F.plainAttrs_str PySem.F.slot_str_split PySem.F.type_str_split R.cz (lf 0) (f8 mn li))) (mm (o0 (i:=2) lH.nd (wg (R.du (K:=K)) rfl T.b_tuple bW (f8 (nw wo (ql (ut (K:=K)) (lf 1) re (qh (wt mh))) (qk (f8 (mv S x rfl (f8 (qg (ud (K:=K)) (lf 1) (wt mh)) li)) li))) li))) (mm (qa (sw (qm (mv U x rfl (f8 (lf 2) li)))) (mq (R.fk Q rK rfl (f8 mn li))) qb) (mq (mr (lf 2)))))),?_⟩;refine⟨rfl,Zk,Zo,λl X=>?_⟩;rw[kH];obtain⟨b,a,f⟩:∃b a,Txt.split z (tx [32])=b++[a]:=by
   have E:=PyProof.Rows.split_pos z (tx [32]);have j:Txt.split z (tx [32])≠[]:=λe=>by rw[e]at E;exact T7 E Zd
   exact⟨_,_,(List.dropLast_concat_getLast j).symm⟩
  have short:∀y∈b++[a],y.length<=900:=λy n=>iB (PyProof.Rows.part_short (by rw[f];exact n)) W
  have F:=PyProof.Rows.split_le z (tx [32]);rw[f]at F;have T9:b.length+1<=z.length+2:=by simpa using F
  have Y:=yJ f;have Z:(b++[a]).map V.str=b.map V.str++[.str a]:=by rw[hX];rfl
  rw[f,Z];rw[Y]at A B;have G:Same H (aH H l (.lst (b.map V.str++[.str a]))):=aA X;have g1:aH H l (.lst (b.map V.str++[.str a])) l=some (.lst (b.map V.str++[.str a])):=aD;dsimp only [aK];generalize aH H l (.lst (b.map V.str++[.str a]))=I at G g1;refine⟨_,QYX g1,λp j=>?_⟩;rw[uK];have q:=aA (o:=.lst (b.map V.str)) j;have g2:aH I p (.lst (b.map V.str)) p=some (.lst (b.map V.str)):=aD;dsimp only;generalize aH I p (.lst (b.map V.str))=H2 at q g2;refine⟨_,QYX (q _ _ g1),_,Am _ _,⟨a,rfl,iB (short a Zs) Zd,λh J=>?_⟩⟩;refine⟨eY rfl,λr L=>⟨_,_,aA L _ _ (J _ _ g2),aD,?_,λs h5=>⟨_,QYX aD,λc h6=>?_⟩⟩⟩
  ·rw[aX];refine dD ?_;simp;omega
  have M:Same h (aH (aH (aH h r (.lst [bE (aM a)])) s (.lst (b.map V.str++[bE (aM a)]))) c (.tup (b.map V.str++[bE (aM a)]))):=((aA L).trans (aA h5)).trans (aA h6);have d:aH (aH (aH h r (.lst [bE (aM a)])) s (.lst (b.map V.str++[bE (aM a)]))) c (.tup (b.map V.str++[bE (aM a)])) c=some (.tup (b.map V.str++[bE (aM a)])):=aD;dsimp only [aK];generalize aH (aH (aH h r (.lst [bE (aM a)])) s (.lst (b.map V.str++[bE (aM a)]))) c (.tup (b.map V.str++[bE (aM a)]))=H6 at M d;have N:=((G.trans q).trans J).trans M;have eV:cH H6 (.ref c)=bC (b.map V.str++[bE (aM a)]):=by unfold cH;simp only [d]
  refine⟨.ref c,rfl,⟨⟨.tup,⟨_,d⟩,λ_ e=>nomatch e⟩,λa1 xs e g y n=>?_⟩,λa1 xs e g=>?_,λO t=>?_⟩
  ·injection e with e
   rw[<- e,d]at g;cases g;rcases Zma.mp n with m|m
   ·obtain⟨w',hw,rfl⟩:=Zmm.mp m;exact⟨.str,trivial,λz' e=>by injection e with e;rw[<- e];exact iB (short w' (T0 _ hw)) Zd⟩
   ·rw[Zms.mp m];cases aM a with
    | none=>exact⟨.non,trivial,λ_ e=>nomatch e⟩
    | some k=>exact⟨.int,trivial,λ_ e=>nomatch e⟩
  ·injection e with e
   rw[<- e,d]at g;cases g;simp;omega
  ·rw[eV];refine aV (λu=>?_) (λu=>?_)
   ·have v:bC (b.map V.str++[bE (aM a)])=false:=by simpa using u
    exact⟨eY rfl,B v O (N.trans t)⟩
   ·have v:bC (b.map V.str++[bE (aM a)])=true:=by simpa using u
    exact A v c O (N.trans t) (t _ _ d)
def Ia:Sp:=λc H Q _=>∃l a,c=[.ref l]/\H l=some (.lst (a.map V.str))/\(a.map Str.length).sum+a.length<=900/\∀v b,Same H b->PAt b (fQ a) v->Q v b
def Ci(T:Txt K mg){C:WP}(g:mg "NoDeed"=some (.ref C))(i:W.exmOne K (.ref C) (.ref C)=some true)(j:iK P w K mg base 5 "read_deed" QZW (Hc C))(D:DefAt K mg "deed_of" nN QZR):Callee P w K mg base 6 "deed_of" QZR Ia:=by
 refine D.gg Ew (λf u A t s H v Q E k h=>?_)
 ·revert h;refine yE2 λl b=>yA4 λζ m y q=>?_;subst ζ;refine⟨_,(mq (R.ia (K:=K) g rfl (λpn z=>(mq (mr (R.fm j k rfl kU (f8 (ua (K:=K) PySem.F.plainAttrs_str PySem.F.slot_str_join PySem.F.type_str_join (S6 (K:=K)) mn (f8 (lf 0) li)) li))))) (λa=>(mq (mr wv))))),?_⟩;refine⟨rfl,_,l,b,rfl,rfl,QYX m,?_,?_⟩
  ·have n:(" ":Str).length=1:=by decide +kernel
   rw[n];have e:(b.map λx=>x.length)=b.map Str.length:=rfl;rw[e];omega
  ·rw[kH];have o:(jw b).length<=900:=by
    by_cases h:b=[]
    ·subst h;exact iB (show(jw []).length<=0 by decide +kernel) Zd
    ·have:=jY h;omega
   refine⟨jw b,rfl,o,λc p r d g3=>q _ _ d ?_,λc r d=>⟨i,q _ _ d ?_⟩⟩
   ·unfold fQ;rw[UF c];exact⟨p,rfl,g3⟩
   ·unfold fQ;rw[c,T8 Y1];rfl
def Rq:Sp:=λc H Q _=>∃l a,c=[.ref l]/\H l=some (.lst (a.map V.str))/\a.length<=990/\(∀p∈a,p.length<=990)/\∀t b,Same H b->b t=some (.tup (fX a))->Q (.ref t) b
def aBn(u:Str):iY [V.str u] [.str "no"]=decide (u="no"):=by
 unfold iY;show((xT (.str u) (.str "no")&&true)&&true)=_;rw[Bool.and_true,Bool.and_true];rfl
def Fm(T:Txt K mg)(Y:Callee P w K mg base 2 "number_of" QZW uI)(D:DefAt K mg "answer_of" gW QZR):Callee P w K mg base 3 "answer_of" QZR Rq:=by
 refine D.gg zK (λa2 cdv a3 outer a4 H G Q a5 I a0=>?_)
 ·revert a0;refine yE2 λl a=>yA5 λζ J k Z q=>?_;subst ζ;have D0:=I.units;refine⟨_,(mm (qa (pr (R.ii D0) (ql (ut (K:=K)) (lf 0) re (qh mh)) (qk (f8 mn li))) (mq (mr (wg (R.du (K:=K)) rfl T.b_tuple bW (f8 (lf 0) li)))) qb) (mq (mr (wg (R.du (K:=K)) rfl T.b_tuple bW (f8 (nw wo (ql (ut (K:=K)) (lf 0) re (qh mh)) (uf rfl (js:=[none]) (N:=["word"]) (CompScope.by (aE gW) QZR rfl rfl Zk) (aY rfl) (FM (K:=K) (ql (ut (K:=K)) (lf 0) (qh mh) re)) (λa6 s₂ H₂ fp=>⟨(qi (i:=0) (show(["word"]:List Str).Nodup by decide +kernel)),ug,(mv Y I rfl (f8 (lf 0) li))⟩))) li))))),?_⟩;have L:∀d:List V,cP d none (some (1:Int))=d.take 1:=λd=>jV d 1
  have c2:∀d:List V,cP d (some (1:Int)) none=d.drop 1:=λd=>L2.dH d 1
  refine⟨_,QYX J,λM h1=>⟨eY rfl,λO A=>?_⟩⟩;rw[L]at A ⊢;refine⟨_,_,aA A _ _ aD,aD,?_,?_⟩
  ·intro j a7 a8 ha hb;have YL:=mem_of_mem_take (sW ha);obtain⟨z,_,rfl⟩:=Zmm.mp YL;have v5:=Zms.mp (sW hb);subst v5;exact⟨rfl,rfl⟩
  have n:Same H (aH (aH H M (.lst ((a.map V.str).take 1))) O (.lst [.str "no"])):=(aA h1).trans (aA A);show if iY ((a.map V.str).take 1) [.str "no"]=true then _ else _
  generalize aH (aH H M (.lst ((a.map V.str).take 1))) O (.lst [.str "no"])=p at n ⊢;have B:=n _ _ J;have rest:(∀t b,Same H b->b t=some (.tup ((a.take 1).map V.str++(a.drop 1).map λz=>bE (aM z)))->Q (.ref t) b)->(Ai (Zw (λG H Q=>match G with|[V.ref a1]=>∃S,SqL K H a1 S/\∀l,H l=none->Q (V.ref l) (aH H l (HO.tup S))|x=>False) (lN (vP aAI (tSl (Js K) (vr 0) sY (wH (tC (V.int 1)))) (Np (Fw K (tSl (Js K) (vr 0) (wH (tC (V.int 1))) sY)) [none] (aK 0) No (Xg uI (lN (vr 0) vD)))) vD))) {nx:=λx b=>Q V.non b,rt:=Q } (L2.start QZR [V.ref l]) p:=λq=>by
   refine⟨_,QYX B,λs U=>⟨_,QYX (aA U _ _ B),λf C=>?_⟩⟩;rw[L]at C ⊢;rw[c2,<- map_take,<- map_drop]at *;have W:=(aA (o:=.lst ((a.take 1).map V.str)) U).trans (aA (o:=.lst ((a.drop 1).map V.str)) C);have g3:(aH (aH p s (.lst ((a.take 1).map V.str))) f (.lst ((a.drop 1).map V.str))) s=some (.lst ((a.take 1).map V.str)):=eZ aD C;have E:(aH (aH p s (.lst ((a.take 1).map V.str))) f (.lst ((a.drop 1).map V.str))) f=some (.lst ((a.drop 1).map V.str)):=aD;generalize aH (aH p s (.lst ((a.take 1).map V.str))) f (.lst ((a.drop 1).map V.str))=H4 at W g3 E ⊢;refine⟨f,rfl,⟨_,QYX E⟩,?_⟩;have KG:(a.drop 1).length<=990:=by rw[length_drop];omega
   refine bN (dX K f ((a.drop 1).map V.str)) (by rw[aX];omega) (λj v b=>v=(((a.drop 1).take j).map λz=>bE (aM z))/\Same H4 b) (λj v b ⟨e,g⟩=>⟨QYX (g _ _ E),by rw[e,aX,fM];omega⟩) ⟨rfl,Same.refl _⟩ (?_) (?_)
   ·rintro j a9 v b h ⟨e,g⟩;rw[jF]at h;cases y:(a.drop 1)[j]? with
    | none=>rw[y]at h;cases h
    | some m=>
     rw[y]at h;cases h;have hmm:=Z m (mem_of_mem_drop (sW y));refine⟨m,rfl,Zo,λH5 s5=>⟨?_,g.trans s5⟩⟩;rw[Dc,y,hX,e];rfl
   rintro v b ⟨e,g⟩;rw[aX,qU (cE _)]at e;subst e;intro p5 X;refine⟨_,_,aA X _ _ (g _ _ g3),aD,dD (by rw[aX,aX,fM];omega),λp6 h6=>⟨_,QYX aD,λt F=>q t _ ?_ (by rw[aD])⟩⟩;exact((((n.trans W).trans g).trans (aA X)).trans (aA h6)).trans (aA F)
  cases a with
  | nil=>
   refine jU (c:=iY [] [.str "no"]) rfl ?_;dsimp only [aT];exact rest q
  | cons u r=>
   rw[show((u::r).map V.str).take 1=[.str u] from rfl,aBn];refine aV (λk=>?_) (λk=>?_)
   ·have T9:=X4 k;refine⟨_,QYX B,λt F=>q t _ (n.trans (aA F)) ?_⟩;rw[aD];unfold fX;dsimp only;rw[UF T9];rfl
   ·dsimp only [aT];refine rest ?_;have e:fX (u::r)=((u::r).take 1).map V.str++((u::r).drop 1).map λz=>bE (aM z):=by
     unfold fX;dsimp only;rw[T8 (X3 k)];rfl
    rw[<- e];exact q
def fZ(h:Paired R a b)(g:Paired R c d):Paired R (a++c) (b++d):=by
 induction h with
 | nil=>exact g
 | cons h t i=>exact .cons h i
def Cj:Sp:=λd H Q _=>∃a,d=[.str (jw a)]/\a≠[]/\(∀p∈a,32∉p.cps.toList)/\(jw a).length<=890/\∀l c b,Same H b->b l=some (.lst c)->Paired (PAt b) (bG a) c->Q (.ref l) b
def Ln(ws:List Str)(k:Nat):cP (ws.map V.str) none (some (k:Int))=(ws.take k).map V.str/\cP (ws.map V.str) (some (k:Int)) none=(ws.drop k).map V.str:=by
 constructor
 ·rw[jV,map_take]
 ·rw[dH,map_drop]
def zT(ws:List Str):Paired (PAt H) (scs ws) (ws.map V.str):=by
 induction ws with
 | nil=>exact .nil
 | cons w ws a=>exact .cons rfl a
def Ck(ws:List Str)(k:Nat):((ws.drop k).map Str.length).sum+(ws.drop k).length<=(ws.map Str.length).sum+ws.length:=by
 have e:ws=ws.take k++ws.drop k:=(List.take_append_drop k ws).symm;have a:=Hl (ws.take k) (ws.drop k);rw[<- e]at a;have b:=congrArg length e;rw[gQ]at b;omega
def Fn(T:Txt K mg)(Z2:Callee P w K mg base 6 "deed_of" QZR Ia)(T1:Callee P w K mg base 3 "answer_of" QZR Rq)(D:DefAt K mg "line_parts" iN QZW):Callee P w K mg base 7 "line_parts" QZW Cj:=by
 refine D.gg gL (λa2 cdv A outer a3 a0 vs a4 a5 I a1=>?_)
 ·revert a1;refine yE1 λa=>yA5 λζ J h hz q=>?_;subst ζ;refine⟨_,(mm (o0 (i:=1) gL.nd (ua (K:=K) PySem.F.plainAttrs_str PySem.F.slot_str_split PySem.F.type_str_split R.cz (lf 0) (f8 mn li))) (mm (qa (pr qf (ue K 1) mn) (mm (o0 (i:=2) gL.nd (ua (K:=K) PySem.F.plainAttrs_str PySem.F.slot_str_partition PySem.F.type_str_partition R.gm (lf 0) (f8 mn li))) (mm (o0 (i:=1) gL.nd (ua (K:=K) PySem.F.plainAttrs_str PySem.F.slot_str_split PySem.F.type_str_split R.cz (qe K 2) (f8 mn li))) (mq (mr (nw wo (ql (ut (K:=K)) (lf 1) re (qh mh)) (qk (f8 (mv Z2 I rfl (f8 (ql (ut (K:=K)) (lf 1) (qh mh) re) li)) (f8 (mv T1 I rfl (f8 (ua (K:=K) PySem.F.plainAttrs_str PySem.F.slot_str_split PySem.F.type_str_split R.cz (qe K 2) (f8 mn li)) li)) li)))))))) qb) (mm (qa (pr qf (ue K 1) mn) (mq (mr (nw wo (ql (ut (K:=K)) (lf 1) re (qh mh)) (qk (f8 (mv Z2 I rfl (f8 (ql (ut (K:=K)) (lf 1) (qh mh) re) li)) li))))) qb) (mm (qa (pr qf (ue K 1) mn) (mq (mr (nw wo (ql (ut (K:=K)) (lf 1) re (qh mh)) (qk (f8 (mv T1 I rfl (f8 (ql (ut (K:=K)) (lf 1) (qh mh) re) li)) li))))) qb) (mq (mr (lf 1))))))),?_⟩;have IW:=jY J;refine⟨rfl,Zk,Zo,λL h1=>?_⟩;rw[kH,mL J h];dsimp only [aK];have z:=aA (o:=.lst (a.map V.str)) h1;have g1:(aH a0 L (.lst (a.map V.str))) L=some (.lst (a.map V.str)):=aD;generalize aH a0 L (.lst (a.map V.str))=k at z g1 ⊢;refine yE0 (List.exists_cons_of_ne_nil J) (yE2 λb r S=>?_);have C:a.headD ""=b:=by rw[S];rfl
  have U:eK (a.map V.str) ((0:Nat):Int)=some (.str b):=aL (by rw[S];rfl);refine⟨_,QYX g1,_,U,?_⟩;have ke:∀p∈a,p.length<=890:=λp f=>by have:=tG f;have:1<=a.length:=List.length_pos_iff.mpr J;omega
  show if decide (b="kept")=true then _ else _
  refine aV (λW=>?_) (λW=>?_)
  ·have EF:=X4 W;have f:∃A B:List Str,dE a=(A,B)/\A≠[]/\(∀p∈A,32∉p.cps.toList)/\B≠[]/\(∀p∈B,32∉p.cps.toList)/\(jw A).length<=890/\(jw B).length<=890/\(Txt.partition (jw a) (" = ":Str)).1=jw A/\(Txt.partition (jw a) (" = ":Str)).2.2=jw B:=by
    rw[show(" = ":Str)=tx [32,61,32] by decide +kernel];unfold dE;rw[S]at h hz ⊢;cases x:brk r with
    | none=>
     refine⟨b::r,[""],by rw[show(b::r).tail=r from rfl,x],Zs,h,Zs,Zk,hz,Zk,?_,?_⟩
     ·rw[uT h x]
     ·rw[uT h x];show Str.empty=jw [""];decide +kernel
    | some AB=>
     obtain⟨A,B⟩:=AB;refine yE0 (mP x) (yA3 λer hB hA=>?_);have e:b::r=(b::A)++("=":Str)::B:=by rw[er];rfl
     have s0:=jY (ws:=b::r) Zs;have e3:((b::r).map Str.length).sum=((b::A).map Str.length).sum+(("=":Str).length+(B.map Str.length).sum):=by rw[e,Hl];rfl
     have e4:(b::r).length=(b::A).length+(B.length+1):=by rw[e,gQ];rfl
     have z:=jY (ws:=b::A) Zs;have s2:=jY hB;refine⟨b::A,B,by rw[show(b::r).tail=r from rfl,x];rfl,Zs,λp f=>h p (by rw[e];exact T0 _ f),hB,λp f=>h p (by rw[e];exact TW _ (fN _ f)),Zo,Zo,?_,?_⟩
     ·rw[uS h x]
     ·rw[uS h x]
   revert f;refine yE2 λA B=>yA9 λes nA wA nB wB lA lB e1 e2=>?_;have y:=fY (by rw[C,EF]) es;have sA:=jY nA;have sB:=jY nB;refine⟨rfl,jw a," = ",rfl,rfl,Zk,Zo,λM h2=>?_⟩;dsimp only [aK];rw[e1,e2];refine⟨_,QYY aD,.str (jw A),aL (j:=0) rfl,rfl,Zk,Zo,λN h3=>?_⟩;rw[mL nA wA];dsimp only [aK];generalize rg:(Txt.partition (jw a) (" = ":Str)).2.1=E at *;have s2:=aA (o:=.tup [.str (jw A),.str E,.str (jw B)]) h2;have s3:=aA (o:=.lst (A.map V.str)) h3;have g3:(aH (aH k M (.tup [.str (jw A),.str E,.str (jw B)])) N (.lst (A.map V.str))) N=some (.lst (A.map V.str)):=aD;have gt:(aH (aH k M (.tup [.str (jw A),.str E,.str (jw B)])) N (.lst (A.map V.str))) M=some (.tup [.str (jw A),.str E,.str (jw B)]):=eZ aD h3;have SE:=(z.trans s2).trans s3;generalize aH (aH k M (.tup [.str (jw A),.str E,.str (jw B)])) N (.lst (A.map V.str))=X at s3 g3 gt SE ⊢;refine⟨_,QYX g3,λd n=>⟨_,QYX (aA n _ _ g3),λc g=>?_⟩⟩;rw[show cP (A.map V.str) none (some (5:Int))=(A.take 5).map V.str from(Ln A 5).1]at g ⊢;rw[show cP (A.map V.str) (some (5:Int)) none=(A.drop 5).map V.str from(Ln A 5).2];have l:=(aA (o:=.lst ((A.take 5).map V.str)) n).trans (aA (o:=.lst ((A.drop 5).map V.str)) g);have s:(aH (aH X d (.lst ((A.take 5).map V.str))) c (.lst ((A.drop 5).map V.str))) d=some (.lst ((A.take 5).map V.str)):=eZ aD g;have t:(aH (aH X d (.lst ((A.take 5).map V.str))) c (.lst ((A.drop 5).map V.str))) c=some (.lst ((A.drop 5).map V.str)):=aD;generalize aH (aH X d (.lst ((A.take 5).map V.str))) c (.lst ((A.drop 5).map V.str))=H5 at l s t ⊢;have YM:=Ck A 5;refine⟨c,A.drop 5,rfl,t,Zo,λF O u Y=>?_⟩;refine⟨_,QYY (u _ _ (l _ _ gt)),.str (jw B),aL (j:=2) rfl,rfl,Zk,Zo,λQ h7=>?_⟩;rw[mL nB wB];have Z:=aA (o:=.lst (B.map V.str)) h7;have g7:(aH O Q (.lst (B.map V.str))) Q=some (.lst (B.map V.str)):=aD;generalize aH O Q (.lst (B.map V.str))=H7 at Z g7 ⊢;refine⟨Q,B,rfl,g7,Zo,λp f=>by have:=tG f;omega,λt8 H8 s8 g8=>?_⟩;have SG:=(u.trans Z).trans s8;refine⟨eY rfl,λl9 v=>⟨_,_,aA v _ _ (SG _ _ s),aD,dD (by rw[aX,fM];simp;omega),λG H=>?_⟩⟩;have m:=(aA (o:=.lst [F,.ref t8]) v).trans (aA (o:=.lst ((A.take 5).map V.str++[F,.ref t8])) H);refine q G _ _ (((SE.trans l).trans SG).trans m) aD ?_;rw[y];exact fZ (zT _) (.cons ((Y.same (Z.trans s8)).same m) (.cons ⟨t8,rfl,m _ _ g8⟩ .nil))
  have n1:¬ a.headD ""="kept":=by rw[C];exact X3 W
  refine⟨_,QYX g1,_,U,?_⟩;show if decide (b="came")=true then _ else _
  refine aV (λOH=>?_) (λOH=>?_)
  ·have y:bG a=scs (a.take 5)++[fQ (a.drop 5)]:=by unfold bG;rw[T8 n1,UF (by rw[C];exact X4 OH)]
   refine⟨_,QYX g1,λd n=>⟨_,QYX (aA n _ _ g1),λc g=>?_⟩⟩;rw[show cP (a.map V.str) none (some (5:Int))=(a.take 5).map V.str from(Ln a 5).1]at g ⊢;rw[show cP (a.map V.str) (some (5:Int)) none=(a.drop 5).map V.str from(Ln a 5).2];have l:=(aA (o:=.lst ((a.take 5).map V.str)) n).trans (aA (o:=.lst ((a.drop 5).map V.str)) g);have s:(aH (aH k d (.lst ((a.take 5).map V.str))) c (.lst ((a.drop 5).map V.str))) d=some (.lst ((a.take 5).map V.str)):=eZ aD g;have t:(aH (aH k d (.lst ((a.take 5).map V.str))) c (.lst ((a.drop 5).map V.str))) c=some (.lst ((a.drop 5).map V.str)):=aD;generalize aH (aH k d (.lst ((a.take 5).map V.str))) c (.lst ((a.drop 5).map V.str))=H5 at l s t ⊢;have YM:=Ck a 5;refine⟨c,a.drop 5,rfl,t,Zo,λF O u Y=>?_⟩;refine⟨eY rfl,λl9 v=>⟨_,_,aA v _ _ (u _ _ s),aD,dD (by rw[aX,fM];simp;omega),λG H=>?_⟩⟩;have m:=(aA (o:=.lst [F]) v).trans (aA (o:=.lst ((a.take 5).map V.str++[F])) H);refine q G _ _ (((z.trans l).trans u).trans m) aD ?_;rw[y];exact fZ (zT _) (.cons (Y.same m) .nil)
  have n2:¬ a.headD ""="came":=by rw[C];exact X3 OH
  refine⟨_,QYX g1,_,U,?_⟩;show if decide (b="done")=true then _ else _
  refine aV (λEB=>?_) (λEB=>?_)
  ·have y:bG a=scs (a.take 3)++[.tp (fX (a.drop 3))]:=by unfold bG;rw[T8 n1,T8 n2,UF (by rw[C];exact X4 EB)]
   refine⟨_,QYX g1,λd n=>⟨_,QYX (aA n _ _ g1),λc g=>?_⟩⟩;rw[show cP (a.map V.str) none (some (3:Int))=(a.take 3).map V.str from(Ln a 3).1]at g ⊢;rw[show cP (a.map V.str) (some (3:Int)) none=(a.drop 3).map V.str from(Ln a 3).2];have l:=(aA (o:=.lst ((a.take 3).map V.str)) n).trans (aA (o:=.lst ((a.drop 3).map V.str)) g);have s:(aH (aH k d (.lst ((a.take 3).map V.str))) c (.lst ((a.drop 3).map V.str))) d=some (.lst ((a.take 3).map V.str)):=eZ aD g;have t:(aH (aH k d (.lst ((a.take 3).map V.str))) c (.lst ((a.drop 3).map V.str))) c=some (.lst ((a.drop 3).map V.str)):=aD;generalize aH (aH k d (.lst ((a.take 3).map V.str))) c (.lst ((a.drop 3).map V.str))=H5 at l s t ⊢;refine⟨c,a.drop 3,rfl,t,by rw[length_drop];omega,λp f=>by have:=ke p (mem_of_mem_drop f);omega,λt6 O u g6=>?_⟩;refine⟨eY rfl,λl9 v=>⟨_,_,aA v _ _ (u _ _ s),aD,dD (by rw[aX,fM];simp;omega),λG H=>?_⟩⟩;have m:=(aA (o:=.lst [.ref t6]) v).trans (aA (o:=.lst ((a.take 3).map V.str++[.ref t6])) H);refine q G _ _ (((z.trans l).trans u).trans m) aD ?_;rw[y];exact fZ (zT _) (.cons ⟨t6,rfl,m _ _ g6⟩ .nil)
  have n3:¬ a.headD ""="done":=by rw[C];exact X3 EB
  dsimp only [aT];refine q L _ _ z g1 ?_;have y:bG a=scs a:=by unfold bG;rw[T8 n1,T8 n2,T8 n3]
  rw[y];exact zT _
def okK(k:V)(p:RP):Prop:=∃kd,k=.str kd/\((BDS.lookup kd).isSome=true->∃z,p=.sc (.str z)/\z.length<=1000)
def okR:List V->List RP->Prop
 | [],[]=>True
 | k::a,p::ps=>okK k p/\okR a ps
 | _,_=>False
theorem okR.get:∀ {a:List V}{ps:List RP},okR a ps->∀ {i:Nat}{k:V}{p:RP},a[i]?=some k->ps[i]?=some p->okK k p
 | [],[],_,i,k,p,h,_=>by simp at h
 | k::a,p::ps,h,0,_,_,b,c=>by cases b;cases c;exact h.1
 | k::a,p::ps,h,i+1,_,_,b,c=>okR.get h.2 (by simpa using b) (by simpa using c)
theorem Ib:∀ {a:List V}{r:List Str},zA a->a.length=r.length->(∀p∈r,p.length<=1000)->okR a (scs r)
 | [],[],_,_,_=>trivial
 | k::a,z::r,b,d,c=>by
  obtain⟨kd,rfl⟩:=b k iV;exact⟨⟨kd,rfl,λ_=>⟨z,rfl,c z iV⟩⟩,Ib (λy e=>b y (fN _ e)) (by simpa using d) λp f=>c p (fN _ f)⟩
def zU{kd:Str}(h:BDS.lookup kd=none)(p:RP):okK (.str kd) p:=⟨kd,rfl,λe=>by rw[h]at e;cases e⟩
def kD(kd:Str)(h:z.length<=1000):okK (.str kd) (.sc (.str z)):=⟨kd,rfl,λ_=>⟨z,rfl,h⟩⟩
def Rr:∃A B,dE (z0::r)=(z0::A,B)/\(∀p∈A,p∈r)/\((∀p∈B,p∈r)/\B.length<=r.length∨B=[("":Str)]):=by
 unfold dE;rw[show(z0::r).tail=r from rfl];cases b:brk r with
 | none=>exact⟨r,[("":Str)],rfl,λp h=>h,.inr rfl⟩
 | some c=>
  obtain⟨A,B⟩:=c;obtain⟨a,_,_⟩:=mP b;refine⟨A,B,rfl,λp h=>by rw[a];exact T0 _ h,.inl ⟨λp h=>by rw[a];exact TW _ (fN _ h),?_⟩⟩;rw[a,gQ,eJ];omega
def tM(h:∀p∈ws,p.length<=1000):∀p∈scs ws,vM p:=λp a=>by
 obtain⟨z,b,rfl⟩:=Zmm.mp a;exact⟨rfl,λc e=>by cases e;exact h z b⟩
def Cl(o:Option Nat):cF (bE o)=true/\∀z,bE o=.str z->z.length<=1000:=by
 cases o<;>exact⟨rfl,λz e=>by cases e⟩
def Ic(h:∀p∈ws,p.length<=1000)(f:ws.length<=1000):vM (.tp (fX ws)):=by
 cases ws with
 | nil=>exact⟨Zd,λ_ h=>nomatch h⟩
 | cons u r=>
  have b:∀z∈u::r,cF (V.str z)=true/\∀c,V.str z=.str c->c.length<=1000:=λz a=>⟨rfl,λc e=>by cases e;exact h z a⟩
  unfold fX;dsimp only;split
  ·refine⟨by rw[eJ,aX];simpa using f,Zfm.mpr ⟨b u iV,λy d=>?_⟩⟩;obtain⟨z,a,rfl⟩:=Zmm.mp d;exact b z (fN _ a)
  ·refine⟨by rw[eJ,aX];simpa using f,Zfm.mpr ⟨b u iV,λy d=>?_⟩⟩;obtain⟨z,a,rfl⟩:=Zmm.mp d;exact Cl _
def Cm(b:∀p∈ws,32∉p.cps.toList)(h:∀p∈ws,p.length<=1000):vM (fQ ws):=by
 unfold fQ;split
 ·rename_i a;have e:=(Cg ws b).2 a;have f:=cM a;refine⟨Zo,?_⟩;rw[<- e];intro y c;obtain⟨z,d,rfl⟩:=Zmm.mp c;unfold bH;split
  ·exact⟨rfl,λz e=>by cases e⟩
  ·exact⟨rfl,λg e=>by cases e;exact h z d⟩
 ·exact⟨rfl,λz e=>by cases e⟩
def Rs(q:∀p∈z0::r,32∉p.cps.toList)(g:∀p∈z0::r,p.length<=1000)(s:(z0::r).length<=1000):∃rest,bG (z0::r)=.sc (.str z0)::rest/\(∀p∈bG (z0::r),vM p)/\(bG (z0::r)).length<=1000/\((bG (z0::r)).length=(aW (z0::r)).length+1->okR (aW (z0::r)) rest):=by
 have v:(z0::r).headD ""=z0:=rfl;refine yE0 (Rr (z0:=z0) (r:=r)) (yE2 λA B=>yA3 λx z C=>?_);have k:∀p∈z0::A,p∈z0::r:=λp f=>by
  rcases mem_cons.mp f with h|h
  ·rw[h];exact iV
  ·exact fN _ (z p h)
 have t:(∀p∈B,p.length<=1000)/\B.length<=1000:=by
  rcases C with⟨l,n⟩|rfl
  ·exact⟨λp f=>g p (fN _ (l p f)),by rw[eJ]at s;omega⟩
  ·exact⟨Zk,Zd⟩
 unfold aW bG;rw[v,x];by_cases l:z0="kept"
 ·rw[UF l];refine⟨scs (A.take 4)++[fQ ((z0::A).drop 5),.tp (fX B)],rfl,?_,?_,λi=>?_⟩
  ·refine forall_mem_append.mpr ⟨tM λp f=>g p (k p (mem_of_mem_take f)),Zfm.mpr ⟨Cm (λp f=>q p (k p (mem_of_mem_drop f))) λp f=>g p (k p (mem_of_mem_drop f)),Zfm.mpr ⟨Ic t.1 t.2,λ_ h=>nomatch h⟩⟩⟩
  ·unfold scs;rw[gQ,aX,fM];simp;omega
  ·rw[l,We]at i ⊢;unfold scs at i;rw[gQ,aX,fM]at i;have m:4<=A.length:=by simp at i;omega
   refine yE0 (lc4 m) (yE5 λa b c d u ζ=>?_);subst ζ
   have j:∀p∈[a,b,c,d],p.length<=1000:=λp f=>g p (k p (by simp at f ⊢;rcases f with h|h|h|h<;>simp[h]))
   exact⟨kD _ (j a Zs),kD _ (j b Zs),kD _ (j c Zs),kD _ (j d Zs),zU bd7 _,zU bd8 _,trivial⟩
 rw[T8 l];by_cases n:z0="came"
 ·rw[UF n];refine⟨scs (r.take 4)++[fQ ((z0::r).drop 5)],rfl,?_,?_,λi=>?_⟩
  ·refine forall_mem_append.mpr ⟨tM λp f=>g p (mem_of_mem_take f),Zfm.mpr ⟨Cm (λp f=>q p (mem_of_mem_drop f)) λp f=>g p (mem_of_mem_drop f),λ_ h=>nomatch h⟩⟩
  ·unfold scs;rw[gQ,aX,fM];simp;omega
  ·rw[n,pt4]at i ⊢;unfold scs at i;rw[gQ,aX,fM]at i;have m:4<=r.length:=by simp at i;omega
   refine yE0 (lc4 m) (yE5 λa b c d u ζ=>?_);subst ζ
   have j:∀p∈[a,b,c,d],p.length<=1000:=λp f=>g p (by simp at f ⊢;rcases f with h|h|h|h<;>simp[h])
   exact⟨kD _ (j a Zs),kD _ (j b Zs),kD _ (j c Zs),kD _ (j d Zs),zU bd7 _,trivial⟩
 rw[T8 n];by_cases o:z0="done"
 ·rw[UF o];refine⟨scs (r.take 2)++[.tp (fX ((z0::r).drop 3))],rfl,?_,?_,λi=>?_⟩
  ·refine forall_mem_append.mpr ⟨tM λp f=>g p (mem_of_mem_take f),Zfm.mpr ⟨Ic (λp f=>g p (mem_of_mem_drop f)) (by rw[length_drop];omega),λ_ h=>nomatch h⟩⟩
  ·unfold scs;rw[gQ,aX,fM];simp;omega
  ·rw[o,pt6]at i ⊢;unfold scs at i;rw[gQ,aX,fM]at i;have m:2<=r.length:=by simp at i;omega
   obtain⟨a,b,u,rfl⟩:=lc2 m
   exact⟨kD _ (g a Zs),kD _ (g b Zs),zU bd8 _,trivial⟩
 rw[T8 o];refine⟨scs r,rfl,tM g,by unfold scs;rw[aX];exact s,λi=>?_⟩;have D:((PTS.lookup z0).getD []).length=r.length:=by
  unfold scs at i;rw[aX,eJ]at i;omega
 refine Ib ?_ D λp f=>g p (fN _ f)
 cases e:PTS.lookup z0 with
 | none=>exact λy E=>nomatch E
 | some F=>exact(wX e).1
def Wg{k:V}(h:vM p):vM (lS k p):=by
 unfold lS;split
 ·split
  ·exact Cl _
  ·exact h
 ·exact h
def Rt{ps:List RP}(l:RowAt H a ps)(m:∀p∈ps,vM p)(n:ps.length<=1000):Tz H (.ref a):=by
 obtain⟨s,g,h⟩:=l;refine⟨.tup g,λb i e k=>?_⟩;cases e;rw[g]at k;cases k;refine⟨by rw[<- h.length];exact n,λy f=>?_⟩;obtain⟨j,o,e⟩:=List.mem_iff_getElem.mp f;obtain⟨q,d⟩:=Paired.get' (j:=j) h o;rw[e]at d;have c:=m _ (getElem_mem q);generalize ps[j]=p at d c;cases p with
 | sc v=>cases(show y=v from d);exact .flat (.inl c) λb i e g=>by rw[e]at c;cases c.1
 | tp i=>
  obtain⟨b,rfl,r⟩:=d;exact .tup r c.1 λy f=>.inl (c.2 y f)
def Cn(C:WP):Sp:=λd H Q E=>∃b,d=[.str (jw b)]/\b≠[]/\(∀p∈b,32∉p.cps.toList)/\(jw b).length<=890/\(∀ps,oQ b=some ps->(∀p∈ps,vM p)->ps.length<=1000->∀a c,Same H c->RowAt c a ps->Q (.ref a) c)/\(oQ b=none->∀c,Same H c->E (.ref C) none c)
def zV{C:WP}(T:Txt K mg)(U:Top w.params K mg)(uv:XCls K mg "NoRow" C)(kf:Callee P w K mg base 7 "line_parts" QZW Cj)(t7:Callee P w K mg base 2 "number_of" QZW uI)(yi:Callee P w K mg base 7 "is_row" QZX mO)(D:DefAt K mg "read_row" jB QZW):iK P w K mg base 8 "read_row" QZW (Cn C):=by
 refine D.ggX gY (λa2 cdv a3 outer a4 a5 vs a6 a7 M h=>?_)
 ·revert h;refine yE1 λa=>yA6 λζ O hw hz qy qn=>?_;subst ζ;obtain⟨aP,P4,tP⟩:=U.g_PARTS;obtain⟨aB,E6,tB⟩:=U.g_BOUNDS;refine⟨_,(mm (o0 (i:=1) gY.nd (mv kf M rfl (f8 (lf 0) li))) (mm (o0 (i:=2) gY.nd (R.gy (K:=K) (P:=w.params) (tm rfl P4) (ue K 1) (qc li))) (mm (qa (pr wq (qd (sy (K:=K)) rfl T.b_len aZ (f8 (lf 1) li)) (nw tj (qd (sy (K:=K)) rfl T.b_len aZ (f8 (lf 2) li)) mh)) (mq (R.fk uv rK rfl (f8 mn li))) qb) (mm (R.dw (i:=3) gY.nd rfl (Or.inl rfl) rfl (js:=[none,none]) (N:=QZy) (CompScope.by (aE jB) QZa rfl rfl Zk) (lX (cN rfl (cN rfl kG))) (R.di (K:=K) rfl T.b_zip (lf 2) (ql (ut (K:=K)) (lf 1) (qh mh) re)) (λC s₂ H₂ fp=>⟨(K3 (K:=K) (n:=2) rfl (wu (qi (i:=0) (show(QZy:List Str).Nodup by decide +kernel)) (wu (qi (i:=1) (show(QZy:List Str).Nodup by decide +kernel)) NE))),ug,(R.je (pr (R.fg (K:=K) (P:=w.params)) (lf 0) (tm rfl E6)) (mv t7 M rfl (f8 (lf 1) li)) (lf 1))⟩) rfl) (mm (o0 (i:=4) gY.nd (wg (R.du (K:=K)) rfl T.b_tuple bW (f8 (nw wo (ql (ut (K:=K)) (lf 1) re (qh mh)) (lf 3)) li))) (mm (qa (sw (qm (mv yi M rfl (f8 (lf 4) li)))) (mq (R.fk uv rK rfl (f8 mn li))) qb) (mq (mr (lf 4))))))))),?_⟩;have IW:=jY O;have ke:∀p∈a,p.length<=1000:=λp z=>by have:=tG z;omega
  have Q:a.length<=1000:=by omega
  refine⟨a,rfl,O,hw,hz,λa1 d H1 s1 g1 A=>?_⟩;refine yE0 (List.exists_cons_of_ne_nil O) (yE2 λc a8 m=>?_);refine yE0 (Rs (by rw[<- m];exact hw) (by rw[<- m];exact ke) (by rw[<- m];exact Q)) (yE1 λrest=>yA4 λs S mw hok=>?_);rw[<- m]at s S mw hok;have SI:aW a=(PTS.lookup c).getD []:=by unfold aW;rw[m];rfl
  rw[s]at A;cases A with
  | cons p0 A=>
   rename_i y d;have:y=.str c:=p0;subst this;have e6:rest.length=d.length:=A.length;have epl:(bG a).length=d.length+1:=by rw[s,eJ,e6]
   dsimp only [aK];refine aCr (t:=Mo _ _) (λσ' g=>∃b,σ'=[some (.str (jw a)),some (.ref a1),some (.ref b),none,none]/\(∀E,Same g E->SqT K E b (aW a))/\Same H1 g) (λnx CS=>?_) (?_)
   ·refine⟨_,tP,_,QYX g1,_,(show eK (V.str c::d) ((0:Nat):Int)=some (.str c) from aL rfl),Zs,λt0 W r g2=>⟨λxs b hx k=>?_,λQ=>?_⟩⟩
    ·refine CS _ _ ⟨b,rfl,λE _=>?_,r⟩;rw[SI,hx];exact k _
    ·refine CS _ _ ⟨t0,rfl,λE S7=>?_,r⟩;rw[SI,Q];exact QYY (S7 _ _ g2)
   refine λσ' W=>yE1 λb=>yA3 λe' k r=>?_;subst e';dsimp only [Mi];have X:=r _ _ g1;refine⟨_,.inl (QYX X),_,.inr (k _ (Same.refl _)),?_⟩;show if (!decide ((((V.str c::d).length:Nat):Int)=(((aW a).length:Nat):Int)+1))=true then _ else _
   refine aV (λF=>?_) (λF=>?_)
   ·have H:¬ (bG a).length=(aW a).length+1:=λe=>by
     have:((((V.str c::d).length:Nat):Int)=(((aW a).length:Nat):Int)+1):=by rw[eJ];omega
     rw[X2 this]at F;cases F
    refine⟨eY rfl,qn ?_ _ (s1.trans r)⟩;unfold oQ;rw[T8 (λh=>H h.1)]
   have H:(bG a).length=(aW a).length+1:=by
    have Y:((((V.str c::d).length:Nat):Int)=(((aW a).length:Nat):Int)+1):=by
     have:decide ((((V.str c::d).length:Nat):Int)=(((aW a).length:Nat):Int)+1)=true:=by simpa using F
     exact X4 this
    rw[eJ]at Y;omega
   have hR:=hok H;have lk:(aW a).length=d.length:=by omega
   refine⟨_,QYX X,λZ Y=>?_⟩;have ec:cP (V.str c::d) (some 1) none=d:=L2.dH _ 1;rw[ec];have u:=aA (o:=.lst d) Y;have g3:(aH W Z (.lst d)) Z=some (.lst d):=aD;generalize aH W Z (.lst d)=H3 at u g3 ⊢;refine⟨false,true,_,_,k _ u,QYX g3,?_⟩;have l6:d.length<=1000:=by omega
   refine mH Zo (λi f g=>Paired (PAt g) ((((aW a).zip rest).map λq=>lS q.1 q.2).take i) f/\Same H3 g) (λi f g ⟨e,l⟩=>⟨k _ (u.trans l),QYX (l _ _ g3),by rw[<- e.length,fM];exact min_le_left _ _⟩) ⟨.nil,Same.refl _⟩ (?_) (?_)
   ·rintro i a9 y f g t' qr yc ⟨e,l⟩ BF;obtain⟨hi,ei⟩:=Zgs.mp yc;obtain⟨B0,q1⟩:=Paired.get' (j:=i) A hi;rw[ei]at q1;have Z0:rest[i]?=some rest[i]:=kO B0;obtain⟨kd,rfl,AI⟩:=hR.get qr Z0;have s4:=aA (o:=.tup [.str kd,y]) BF;have et:(((aW a).zip rest).map λq=>lS q.1 q.2).take (i+1)=(((aW a).zip rest).map λq=>lS q.1 q.2).take i++[lS (.str kd) rest[i]]:=by
     have m:((aW a).zip rest)[i]?=some (.str kd,rest[i]):=by rw[List.getElem?_zip_eq_some];exact⟨qr,Z0⟩
     rw[Dc,jF,m];rfl
    generalize rest[i]=I at q1 AI et;have SJ:=PAt.same (((r.trans u).trans l).trans s4) q1;refine⟨t',_,rfl,QYY aD,rfl,_,_,rfl,_,_,rfl,rfl,_,tB,?_⟩;have fin:∀ {G:Hp}{v:V},Same (aH g t' (.tup [.str kd,y])) G->PAt G (lS (.str kd) I) v->Paired (PAt G) ((((aW a).zip rest).map λq=>lS q.1 q.2).take (i+1)) (f++[v])/\Same H3 G:=λJ z=>by
     rw[et];exact⟨Paired.snoc (Paired.map' (λ_ _=>PAt.same (s4.trans J)) e) z,(l.trans s4).trans J⟩
    show if (BDS.lookup kd).isSome=true then _ else _
    refine aV (λB=>?_) (λB=>?_)
    ·obtain⟨a0,rfl,Z1⟩:=AI B;have ey:y=.str a0:=SJ;subst ey;refine⟨a0,rfl,Z1,λG J=>fin J ?_⟩;unfold lS;dsimp only;rw[UF B];rfl
    ·refine fin (Same.refl _) ?_;have:lS (.str kd) I=I:=gP (by cases e:BDS.lookup kd with|none=>rfl|some v=>rw[e]at B;cases B) I;rw[this];exact SJ
   rintro f g ⟨e,l⟩;have lz:(((aW a).zip rest).map λq=>lS q.1 q.2).length=d.length:=by rw[aX,length_zip];omega
   rw[lk,Nat.min_self,qU (by rw[lz];exact cE _)]at e;intro p2 h2;dsimp only [aK];have L:=aA (o:=.lst f) h2;have g5:(aH g p2 (.lst f)) p2=some (.lst f):=aD;generalize aH g p2 (.lst f)=H5 at L g5 ⊢;have YN:=L _ _ (l _ _ (u _ _ X));have yl:f.length=d.length:=by rw[<- e.length,lz]
   refine⟨_,QYX YN,λp3 h3=>?_⟩;have YO:cP (V.str c::d) none (some 1)=[.str c]:=L2.jV _ 1;rw[YO];refine⟨_,_,aD,aA h3 _ _ g5,dD (by simp;omega),λp4 h4=>⟨_,QYX aD,λx h5=>?_⟩⟩;have sE:=((aA (o:=.lst [V.str c]) h3).trans (aA (o:=.lst ([V.str c]++f)) h4)).trans (aA (o:=.tup ([V.str c]++f)) h5);have gE:(aH (aH (aH H5 p3 (.lst [V.str c])) p4 (.lst ([V.str c]++f))) x (.tup ([V.str c]++f))) x=some (.tup (V.str c::f)):=aD;dsimp only [aK];generalize aH (aH (aH H5 p3 (.lst [V.str c])) p4 (.lst ([V.str c]++f))) x (.tup ([V.str c]++f))=H6 at sE gE ⊢;have ur:=((((s1.trans r).trans u).trans l).trans L).trans sE;have EH:cT a=.sc (.str c)::((aW a).zip rest).map λq=>lS q.1 q.2:=by unfold cT;rw[s];rfl
   have ra:RowAt H6 x (cT a):=by
    rw[EH];exact⟨_,gE,.cons rfl (Paired.map' (λ_ _=>PAt.same (L.trans sE)) e)⟩
   have hf:∀p∈cT a,vM p:=by
    rw[EH];refine Zfm.mpr ⟨S _ (by rw[s];exact iV),λp z=>?_⟩;obtain⟨q,hq,rfl⟩:=Zmm.mp z;exact Wg (S _ (by rw[s];exact fN _ (of_mem_zip hq).2))
   have LK:(cT a).length<=1000:=by rw[EH,eJ,lz];omega
   refine⟨.ref x,rfl,Rt ra hf LK,λH7 s7=>?_⟩;rw[Xv ra hf];refine aV (λk=>?_) (λk=>?_)
   ·have v5:dU (cT a)=false:=by simpa using k
    refine⟨eY rfl,qn ?_ H7 (ur.trans s7)⟩;unfold oQ;rw[T8 (λh=>by rw[v5]at h;cases h.2)]
   ·have v5:dU (cT a)=true:=by simpa using k
    refine qy _ ?_ hf LK x H7 (ur.trans s7) (ra.same s7);unfold oQ;rw[UF ⟨H,v5⟩]
def Ru(T:Txt K mg)(D:DefAt K mg "_law_count" gX QZz):Callee P w K mg base 1 "_law_count" QZz uI:=by
 refine D.gg zM (λa0 Z a1 W a2 H vs Q a3 F h=>?_)
 ·obtain⟨z,rfl,y,q⟩:=h;have G:=F.units0;refine⟨_,(mm (qa (tf (uc (sw (R.fi AF AF mh (qd R.dk rfl T.b_len aZ (f8 (lf 0) li)) mh)) (ul (pr (R.jd (K:=K) G) (uf rfl (js:=[none]) (N:=["_law_sign"]) (CompScope.by (aE gX) QZz rfl rfl Zk) (aY rfl) (R.wS (lf 0)) (λa4 X Y fp=>⟨(qi (i:=0) (show(["_law_sign"]:List Str).Nodup by decide +kernel)),(R.dt (pr R.jb (lf 0) mn)),(lf 0)⟩)) (qk li))))) (mq (mr wv)) qb) (mm (qa (tf (ww (pr qf (qg R.iS (lf 0) mh) mn) (wy (pr wq (lf 0) mn)))) (mq (mr wv)) qb) (mq (mr (wg R.iz rfl T.b_int iD (f8 (lf 0) li)))))),?_⟩;refine kS (t:=tOr _ _) (λv I=>v=!bM (.str z) oH 13/\Same H I) (λkk o=>?_) (?_)
  ·have e:bM (.str z) oH 13=(decide (1<=(z.length:Int))&&decide ((z.length:Int)<=13)&&z.cps.toList.all (λc=>decide (c∈oH))):=cC _ _ _;refine⟨dD y,?_⟩;show if decide (1<=(z.length:Int))=true then _ else _
   refine aV (λd=>?_) (λd=>?_)
   ·show if (!decide ((z.length:Int)<=13))=true then _ else _
    refine aV (λf=>?_) (λf=>?_)
    ·have m:decide ((z.length:Int)<=13)=false:=by simpa using f
     exact o _ _ ⟨by rw[e,m,Bool.and_false,Bool.false_and];rfl,Same.refl _⟩
    ·have m:decide ((z.length:Int)<=13)=true:=by simpa using f
     refine⟨z,rfl,Aw (iB y Zd) (λc=>!decide (c∈oH)) (λc=>.str (tx [c])) (λc ys N hv J L=>?_) ?_⟩
     ·refine⟨c,rfl,?_⟩;show if (!decide (c∈("0123456789":Str).cps.toList))=true then _ else _
      rw[Dx];exact aV (λh=>J h) (λh=>L h)
     ·intro p M;refine⟨eY rfl,λO A=>⟨p,O,_,rfl,rfl,QYX (eZ aD A),QYX aD,o _ _ ⟨?_,(aA M).trans (aA A)⟩⟩⟩;rw[e,d,m,<- kR];show(!(List.map _ _).isEmpty)=_;rw[List.isEmpty_map];rfl
   ·exact o _ _ ⟨by rw[e,d];rfl,Same.refl _⟩
  rintro v B ⟨S,U⟩;subst S;have b:=q B U;refine aV (λs=>?_) (λs=>?_)
  ·have g:bM (.str z) oH 13=false:=by simpa using s
   have e:aM z=none:=by unfold aM;rw[T8 (by rw[g];exact Y1)]
   rw[e]at b;exact b
  ·have g:bM (.str z) oH 13=true:=by simpa using s
   have C:=g;rw[cC,Bool.and_eq_true,Bool.and_eq_true]at C;obtain⟨⟨d,f⟩,V⟩:=C;have B0:1<=(z.length:Int):=X4 d;have m:(z.length:Int)<=13:=X4 f;have E:z.cps.toList.length=z.length:=by simp[Str.length]
   obtain⟨c,r,n⟩:∃c r,z.cps.toList=c::r:=by
    cases e:z.cps.toList with
    | nil=>rw[e]at E;simp at E;omega
    | cons c r=>exact⟨c,r,rfl⟩
   have x:¬ (z.cps.toList.head?=some 48/\z≠tx [48])->NumText.AllDigits z.cps.toList/\z.cps.toList≠[]/\z.length<=640/\Q (.int (NumText.digitsVal z.cps.toList:Nat)) B:=λk=>by
    have e:aM z=some (NumText.digitsVal z.cps.toList):=by unfold aM;rw[UF g,T8 k]
    rw[e]at b;exact⟨Ax V,by rw[n];simp,Zo,b⟩
   refine⟨dD Zo,c,by rw[n];exact aL (j:=0) rfl,?_⟩;refine aV (λu=>?_) (λu=>?_)
   ·refine aV (λk=>?_) (λk=>?_)
    ·have a:tx [c]=("0":Str):=X4 u;rw[jS,yB]at a;have l:¬ z=("0":Str):=by simpa using k
     rw[jS]at l;have e:aM z=none:=by
      unfold aM;rw[UF g,UF];exact⟨by rw[n];injection a with a;rw[a];rfl,l⟩
     rw[e]at b;exact b
    ·have l:z=("0":Str):=by simpa using k
     rw[jS]at l;exact x λ⟨_,h⟩=>h l
   ·have a:¬ tx [c]=("0":Str):=X3 u;rw[jS,yB]at a;refine x λ⟨h,_⟩=>a ?_
    rw[n]at h;have:c=48:=by simpa using h
    rw[this]
def Co:Sp:=λc H Q _=>∃(l:WP)(a:List Str),c=[.ref l]/\H l=some (.lst (a.map V.str))/\a.length<=1000/\(∀p∈a,p.length<=1000)/\∀t b,Same H b->b t=some (.tup (a.map bH))->Q (.ref t) b
def Fo(T:Txt K mg)(N:Callee P w K mg base 1 "_law_count" QZz uI)(D:DefAt K mg "_law_parts" jP QZm):Callee P w K mg base 2 "_law_parts" QZm Co:=by
 refine D.gg iR (λf W A U s H X a0 a1 O h=>?_)
 ·revert h;refine yE2 λl b=>yA5 λζ E Y Q q=>?_;subst ζ;refine⟨_,(mm (o0 (i:=1) iR.nd (qk li)) (mm (IN PassesOwn.never rfl (FM (K:=K) (lf 0)) (qi (i:=2) iR.nd) (mm (o0 (i:=3) iR.nd (mv N O rfl (f8 (lf 2) li))) (mq (AT (ua (K:=K) PySem.F.plainAttrs_list PySem.F.slot_list_append PySem.F.type_list_append PP (lf 1) (f8 (qg (ud (K:=K)) (qk (f8 (lf 3) (f8 (lf 2) li))) (wg R.df rfl T.b_int iD (f8 (ub R.fj (lf 3) wv) li))) li)))))) (mq (mr (wg (R.du (K:=K)) rfl T.b_tuple bW (f8 (lf 1) li)))))),?_⟩;refine⟨eY rfl,λa v=>?_⟩;dsimp only [aK];have Z:l≠a:=aF E v;refine⟨l,rfl,⟨_,QYX (aA v _ _ E)⟩,?_⟩;refine pW (dX K l (b.map V.str)) (λj B d=>∃g k,B=[some (.ref l),some (.ref a),g,k]/\d a=some (.lst ((b.take j).map bH))/\Same H d) (λj B d ⟨_,_,_,_,m⟩=>QYX (m _ _ E)) ⟨_,_,rfl,aD,aA v⟩ ?_ ?_
  ·refine λj a2 B d p=>yE2 λg k=>yA3 λζ x m=>?_;subst ζ;rw[jF]at p;cases r:b[j]? with
   | none=>rw[r]at p;cases p
   | some z=>
    rw[r]at p;cases p;refine⟨z,rfl,Q z (sW r),λG I=>?_⟩;dsimp only [aK];have J:=I _ _ x;refine⟨.inl ⟨rfl,_,QYX J⟩,eY rfl,λL M=>?_⟩;have y:=aA (o:=.lst [bE (aM z),.str z]) M _ _ J;have F:((b.take j).map bH).length+1<=1000:=by
     have:=(Zgs.mp r).1;rw[aX,fM];omega
    have u:∀ C,C=[some (.ref l),some (.ref a),some (.str z),some (bE (aM z))]->(∃g k,C=[some (.ref l),some (.ref a),g,k]/\(aH (aH G L (.lst [bE (aM z),.str z])) a (.lst ((b.take j).map bH++[bH z]))) a=some (.lst ((b.take (j+1)).map bH))/\Same H (aH (aH G L (.lst [bE (aM z),.str z])) a (.lst ((b.take j).map bH++[bH z])))):=λC e=>by
     refine⟨_,_,e,?_,λa3 o c=>?_⟩
     ·rw[aD,Dc,r,hX];rfl
     ·rw[aJ (aF c v)];exact aA M _ _ (I _ _ (m _ _ c))
    cases e:aM z with
    | none=>
     have c:=jE e;rw[e,c]at u;refine⟨_,QYX aD,.str z,aL (j:=1) rfl,a,_,.str z,rfl,rfl,by rw[e]at y;exact y,dD F,u _ ?_⟩;rfl
    | some n=>
     have c:=kN e;rw[e,c]at u;refine⟨_,QYX aD,.int (n:Int),aL (j:=0) rfl,a,_,.int (n:Int),rfl,rfl,by rw[e]at y;exact y,dD F,u _ ?_⟩;rfl
  ·refine λB d=>yE2 λg k=>yA3 λζ x m=>?_;subst ζ;rw[aX,qU (cE _)]at x;exact⟨_,QYX x,λt S=>q t _ (m.trans (aA S)) aD⟩
def Id:Sp:=λd H Q _=>∃b,d=[.str (jw b)]/\b≠[]/\(∀p∈b,32∉p.cps.toList)/\(jw b).length<=890/\(∀ps,eW b=some ps->(∀p∈ps,vM p)->ps.length<=1000->∀a c,Same H c->RowAt c a ps->Q (.ref a) c)/\(eW b=none->∀c,Same H c->Q .non c)
def Cp(h:z.length<=1000):cF (bH z)=true/\∀y,bH z=.str y->y.length<=1000:=by
 unfold bH;split
 ·exact⟨rfl,λy e=>by cases e⟩
 ·exact⟨rfl,λy e=>by cases e;exact h⟩
def zW(ws:List Str):Paired (PAt H) (mZ ws) (ws.map bH):=by
 induction ws with
 | nil=>exact .nil
 | cons w ws a=>exact .cons rfl a
def tO(h:∀p∈ws,p.length<=1000):∀p∈mZ ws,vM p:=λp a=>by
 obtain⟨z,b,rfl⟩:=Zmm.mp a;exact Cp (h z b)
def tQ{ws:List Str}(h:∀p∈ws,p.length<=1000)(a:ws.length<=1000):vM (.tp (ws.map bH)):=⟨by rw[aX];exact a,λy b=>by obtain⟨z,c,rfl⟩:=Zmm.mp b;exact Cp (h z c)⟩
def Rv(ws:List Str)(k:Nat):cP (ws.map bH) none (some (k:Int))=(ws.take k).map bH/\cP (ws.map bH) (some (k:Int)) none=(ws.drop k).map bH:=by
 constructor
 ·rw[jV,map_take]
 ·rw[dH,map_drop]
def Rw(xs:List b)(i j:Nat):cP xs (some (i:Int)) (some (j:Int))=(xs.take j).drop i:=by
 unfold cP;rw[HT.sIx_nat,HT.sIx_nat,List.drop_take];by_cases h:i<=xs.length
 ·rw[min_eq_left h];by_cases a:j<=xs.length
  ·rw[min_eq_left a]
  ·rw[min_eq_right Zo,qU (by rw[length_drop];exact cE _),qU (by rw[length_drop];omega)]
 ·rw[min_eq_right (by omega:xs.length<=i),drop_of_length_le (cE _),drop_of_length_le (by omega:xs.length<=i),take_nil,take_nil]
def aDO(f:a->b)(xs:List a)(i j:Nat):cP (xs.map f) (some (i:Int)) (some (j:Int))=((xs.take j).drop i).map f:=by
 have h:=Rw (xs.map f) i j;rw[h,map_drop,map_take]
def Lo(T:Txt K mg)(BO:Callee P w K mg base 2 "_law_parts" QZm Co)(yj:Callee P w K mg base 4 "_law_is_row" QZV mO)(D:DefAt K mg "_law_read" lD QZK):Callee P w K mg base 5 "_law_read" QZK Id:=by
 refine D.gg dL (λa4 cdv a5 outer a6 a1 vs a3 a7 hr h=>?_)
 ·revert h;refine yE1 λb=>yA6 λζ h0 hw hz qy qn=>?_;subst ζ;refine⟨_,(mm (o0 (i:=1) dL.nd (ua (K:=K) PySem.F.plainAttrs_str PySem.F.slot_str_split PySem.F.type_str_split R.cz (lf 0) (f8 mn li))) (mm (o0 (i:=2) dL.nd (mv BO hr rfl (f8 (lf 1) li))) (mm (qa (pr qf (ue K 1) mn) (mq (o0 (i:=2) dL.nd (nw R.fb (ql xz (lf 2) re (qh mh)) (qc (f8 (ql xz (lf 2) (qh mh) re) li))))) qb) (mm (qa (tf (ww (pr qf (ue K 1) mn) (wy (pr R.gt (qd (sy (K:=K)) rfl T.b_len aZ (f8 (lf 1) li)) mh)))) (mq (o0 (i:=2) dL.nd (nw R.fb (ql xz (lf 2) re (qh mh)) (qc (f8 (ue K 1) (f8 (ue K 1) (f8 (ql xz (lf 2) (qh mh) re) li))))))) qb) (mm (qa (tf (ww (pr qf (ue K 1) mn) (ww (pr R.gt (qd (sy (K:=K)) rfl T.b_len aZ (f8 (lf 1) li)) mh) (wy (pr qf (ua (K:=K) PySem.F.plainAttrs_list PySem.F.slot_list_count PySem.F.type_list_count R.ic (lf 1) (f8 mn li)) mh))))) (mm (o0 (i:=3) dL.nd (ua (K:=K) PySem.F.plainAttrs_list PySem.F.slot_list_index PySem.F.type_list_index R.gc (lf 1) (f8 mn li))) (mq (o0 (i:=2) dL.nd (nw R.fb (ql xz (lf 2) re (qh mh)) (qc (f8 (ue K 1) (f8 (ue K 1) (f8 (ql xz (lf 2) (qh mh) (qh (lf 3))) (f8 (ql xz (lf 2) (qh (nw tj (lf 3) mh)) re) li))))))))) qb) (mm (qa (sw (qm (mv yj hr rfl (f8 (lf 2) li)))) (mq (mr wv)) qb) (mq (mr (lf 2))))))))),?_⟩;have IW:=jY h0;have x:∀p∈b,p.length<=1000:=λp k=>by have:=tG k;omega
  have hn:b.length<=891:=by omega
  refine⟨rfl,Zk,Zo,λL h1=>?_⟩;rw[kH,mL h0 hw];dsimp only [aK];have M:=aA (o:=.lst (b.map V.str)) h1;have g1:(aH a1 L (.lst (b.map V.str))) L=some (.lst (b.map V.str)):=aD;generalize aH a1 L (.lst (b.map V.str))=H1 at M g1 ⊢;refine⟨L,b,rfl,g1,Zo,x,λt2 H2 y g2=>?_⟩;dsimp only [aK];have l:=y _ _ g1;refine yE0 (List.exists_cons_of_ne_nil h0) (yE2 λg a8 ez=>?_);have H:b.headD ""=g:=by rw[ez];rfl
  have I:eK (b.map V.str) ((0:Nat):Int)=some (.str g):=aL (by rw[ez];rfl);have X:∀i,i<b.length->eK (b.map V.str) ((i:Nat):Int)=some (.str (b.getD i "")):=λi N=>aL (by rw[jF,kO N];simp[N])
  have Y:∀i,i<b.length->(b.getD i "").length<=1000:=λi N=>x _ (by rw[List.getD_eq_getElem?_getD,kO N];exact getElem_mem N)
  have W:∀(ps:List RP)(a:WP)(o3:Option V)(G:Hp),ps=oF b->(∀p∈ps,vM p)->ps.length<=1000->Same a1 G->RowAt G a ps->(Mi (Sy (Yn (mT (Xg mO (lN (vr 2) vD)))) (Ai (tC .non)) aT) (Ai (vr 2))) {nx:=λ_ j=>a3 .non j,rt:=a3 } [some (.str (jw b)),some (.ref L),some (.ref a),o3] G:=λps a o3 G e hf hl B ra=>by
   refine⟨.ref a,rfl,Rt ra hf hl,λO y=>?_⟩;rw[Xv ra hf];show if (!dU ps)=true then _ else _
   refine aV (λhb=>?_) (λhb=>?_)
   ·have v5:dU ps=false:=by simpa using hb
    refine qn ?_ O (B.trans y);unfold eW;rw[<- e,v5,T8 Y1]
   ·have v5:dU ps=true:=by simpa using hb
    refine qy ps ?_ hf hl a O (B.trans y) (ra.same y);unfold eW;rw[<- e,v5,UF rfl]
  refine⟨_,QYX l,_,I,?_⟩;show if decide (g="done")=true then _ else _
  have lm:(b.map V.str).length=b.length:=aX _;have lc:(b.map bH).length=b.length:=aX _;refine aV (λOI=>?_) (λOI=>?_)
  ·have EI:=X4 OI;have e:oF b=mZ (b.take 3)++[.tp ((b.drop 3).map bH)]:=by unfold oF;rw[UF (by rw[H];exact EI)]
   have c3:=Rv b 3;refine⟨_,g2,λp1 G1 m f1=>⟨_,m _ _ g2,λQ O q f2=>⟨Zs,λp3 G3 n S=>⟨_,_,n _ _ (q _ _ f1),S,?_,λU C r E=>?_⟩⟩⟩⟩
   ·have:=pT (b.map bH) none (some (3:Int));rw[length_singleton];omega
   rw[show cP (b.map bH) none (some (3:Int))=(b.take 3).map bH from c3.1]at E;rw[show cP (b.map bH) (some (3:Int)) none=(b.drop 3).map bH from c3.2]at f2;have B:=(((M.trans y).trans m).trans q).trans (n.trans r);have s:=r _ _ (n _ _ (q _ _ (m _ _ l)));dsimp only [aK];refine kS (t:=lQ _ _) (λv j=>v=(decide (g="came")&&decide ((4:Int)<(((b.map V.str).length:Nat):Int)))/\C=j) (λZ f=>?_) (?_)
   ·refine⟨_,QYX s,_,I,?_⟩;show if decide (g="came")=true then _ else _
    refine aV (λd=>?_) (λd=>?_)
    ·exact⟨_,.inl (QYX s),f _ _ ⟨by rw[d,Bool.true_and],rfl⟩⟩
    ·exact f _ _ ⟨by rw[d];rfl,rfl⟩
   rintro v j ⟨z,A⟩;subst z A;refine jU (c:=decide (g="came")&&decide ((4:Int)<(((b.map V.str).length:Nat):Int))) (by rw[XV (by rw[EI];decide +kernel)];rfl) ?_;dsimp only [aT];refine kS (t:=lQ _ _) (λv j=>v=(decide (g="kept")&&(decide ((4:Int)<(((b.map V.str).length:Nat):Int))&&decide (((b.count ("=":Str):Nat):Int)=1)))/\C=j) (λZ f=>?_) (?_)
   ·refine⟨_,QYX s,_,I,?_⟩;show if decide (g="kept")=true then _ else _
    refine aV (λd=>?_) (λd=>?_)
    ·refine⟨_,.inl (QYX s),?_⟩;show if decide ((4:Int)<(((b.map V.str).length:Nat):Int))=true then _ else _
     refine aV (λu=>?_) (λu=>?_)
     ·exact⟨.inl ⟨rfl,_,QYX s⟩,b,s,f _ _ ⟨by rw[d,u,Bool.true_and,Bool.true_and],rfl⟩⟩
     ·exact f _ _ ⟨by rw[d,u];rfl,rfl⟩
    ·exact f _ _ ⟨by rw[d];rfl,rfl⟩
   rintro v j ⟨z,A⟩;subst z A;refine jU (c:=decide (g="kept")&&(decide ((4:Int)<(((b.map V.str).length:Nat):Int))&&decide (((b.count ("=":Str):Nat):Int)=1))) (by rw[XV (by rw[EI];decide +kernel)];rfl) ?_;dsimp only [aT];refine W _ U _ C e.symm ?_ ?_ B ⟨_,E,fZ (zW _) (.cons ⟨Q,rfl,r _ _ (n _ _ f2)⟩ .nil)⟩
   ·exact forall_mem_append.mpr ⟨tO λp k=>x p (mem_of_mem_take k),Zfm.mpr ⟨tQ (λp k=>x p (mem_of_mem_drop k)) (by rw[length_drop];omega),λ_ h=>nomatch h⟩⟩
   ·unfold mZ;rw[gQ,aX,fM];simp;omega
  have n1:¬ b.headD ""="done":=by rw[H];exact X3 OI
  dsimp only [aT];refine kS (t:=lQ _ _) (λv j=>v=(decide (g="came")&&decide ((4:Int)<(((b.map V.str).length:Nat):Int)))/\H2=j) (λZ f=>?_) (?_)
  ·refine⟨_,QYX l,_,I,?_⟩;show if decide (g="came")=true then _ else _
   refine aV (λd=>?_) (λd=>?_)
   ·exact⟨_,.inl (QYX l),f _ _ ⟨by rw[d,Bool.true_and],rfl⟩⟩
   ·exact f _ _ ⟨by rw[d];rfl,rfl⟩
  rintro v j ⟨z,A⟩;subst z A;refine aV (λJ=>?_) (λJ=>?_)
  ·rw[Bool.and_eq_true]at J;have JA:=X4 J.1;have h4:4<b.length:=by have:=X4 J.2;omega
   have e:oF b=mZ (b.take 3)++[.sc (.str (b.getD 3 "")),.sc (.str (b.getD 4 "")),.tp ((b.drop 5).map bH)]:=by unfold oF;rw[T8 n1,UF ⟨by rw[H];exact JA,h4⟩]
   refine⟨_,g2,λp1 G1 m f1=>⟨_,QYX (m _ _ l),_,X 3 Zo,_,QYX (m _ _ l),_,X 4 Zo,_,m _ _ g2,λQ O q f2=>⟨Zs,λp3 G3 n S=>⟨_,_,n _ _ (q _ _ f1),S,?_,λU C r E=>?_⟩⟩⟩⟩
   ·have:=pT (b.map bH) none (some (3:Int));simp;omega
   rw[show cP (b.map bH) none (some (3:Int))=(b.take 3).map bH from(Rv b 3).1]at E;rw[show cP (b.map bH) (some (5:Int)) none=(b.drop 5).map bH from(Rv b 5).2]at f2;have B:=(((M.trans y).trans m).trans q).trans (n.trans r);have s:=r _ _ (n _ _ (q _ _ (m _ _ l)));dsimp only [aK];refine kS (t:=lQ _ _) (λv j=>v=(decide (g="kept")&&(decide ((4:Int)<(((b.map V.str).length:Nat):Int))&&decide (((b.count ("=":Str):Nat):Int)=1)))/\C=j) (λZ f=>?_) (?_)
   ·refine⟨_,QYX s,_,I,?_⟩;show if decide (g="kept")=true then _ else _
    refine aV (λd=>?_) (λd=>?_)
    ·refine⟨_,.inl (QYX s),?_⟩;show if decide ((4:Int)<(((b.map V.str).length:Nat):Int))=true then _ else _
     refine aV (λu=>?_) (λu=>?_)
     ·exact⟨.inl ⟨rfl,_,QYX s⟩,b,s,f _ _ ⟨by rw[d,u,Bool.true_and,Bool.true_and],rfl⟩⟩
     ·exact f _ _ ⟨by rw[d,u];rfl,rfl⟩
    ·exact f _ _ ⟨by rw[d];rfl,rfl⟩
   rintro v j ⟨z,A⟩;subst z A;refine jU (c:=decide (g="kept")&&(decide ((4:Int)<(((b.map V.str).length:Nat):Int))&&decide (((b.count ("=":Str):Nat):Int)=1))) (by rw[XV (by rw[JA];decide +kernel)];rfl) ?_;dsimp only [aT];refine W _ U _ C e.symm ?_ ?_ B ⟨_,E,fZ (zW _) (.cons rfl (.cons rfl (.cons ⟨Q,rfl,r _ _ (n _ _ f2)⟩ .nil)))⟩
   ·exact forall_mem_append.mpr ⟨tO λp k=>x p (mem_of_mem_take k),Zfm.mpr ⟨⟨rfl,λa2 e=>by cases e;exact Y 3 Zo⟩,Zfm.mpr ⟨⟨rfl,λa2 e=>by cases e;exact Y 4 Zo⟩,Zfm.mpr ⟨tQ (λp k=>x p (mem_of_mem_drop k)) (by rw[length_drop];omega),λ_ h=>nomatch h⟩⟩⟩⟩
   ·unfold mZ;rw[gQ,aX,fM];simp;omega
  have n2:¬ (b.headD ""="came"/\4<b.length):=λh=>by
   rw[H]at h;rw[X2 h.1,X2 Zo]at J;cases J
  dsimp only [aT];refine kS (t:=lQ _ _) (λv j=>v=(decide (g="kept")&&(decide ((4:Int)<(((b.map V.str).length:Nat):Int))&&decide (((b.count ("=":Str):Nat):Int)=1)))/\H2=j) (λZ f=>?_) (?_)
  ·refine⟨_,QYX l,_,I,?_⟩;show if decide (g="kept")=true then _ else _
   refine aV (λd=>?_) (λd=>?_)
   ·refine⟨_,.inl (QYX l),?_⟩;show if decide ((4:Int)<(((b.map V.str).length:Nat):Int))=true then _ else _
    refine aV (λu=>?_) (λu=>?_)
    ·exact⟨.inl ⟨rfl,_,QYX l⟩,b,l,f _ _ ⟨by rw[d,u,Bool.true_and,Bool.true_and],rfl⟩⟩
    ·exact f _ _ ⟨by rw[d,u];rfl,rfl⟩
   ·exact f _ _ ⟨by rw[d];rfl,rfl⟩
  rintro v j ⟨z,A⟩;subst z A;refine aV (λF=>?_) (λF=>?_)
  ·rw[Bool.and_eq_true,Bool.and_eq_true]at F;have OJ:=X4 F.1;have h4:4<b.length:=by have:=X4 F.2.1;omega
   have d:b.count ("=":Str)=1:=by have:=X4 F.2.2;omega
   have e:oF b=mZ (b.take 3)++[.sc (.str (b.getD 3 "")),.sc (.str (b.getD 4 "")),.tp (((b.take (b.idxOf ("=":Str))).drop 5).map bH),.tp ((b.drop (b.idxOf ("=":Str)+1)).map bH)]:=by unfold oF;rw[T8 n1,T8 n2,UF ⟨by rw[H];exact OJ,h4,d⟩]
   refine⟨.inl ⟨rfl,_,QYX l⟩,b,l,count_pos_iff.mp Zo,λa0 hj=>?_⟩;refine yE0 (Rp d hj) (yE2 λa9 E'=>yA5 λe1 c1 c2 ej ei=>?_);refine⟨_,g2,λp1 G1 m f1=>⟨_,QYX (m _ _ l),_,X 3 Zo,_,QYX (m _ _ l),_,X 4 Zo,_,m _ _ g2,λQ O q f2=>⟨_,q _ _ (m _ _ g2),λp5 G5 r5 f5=>⟨Zs,λp3 G3 n S=>⟨_,_,n _ _ (r5 _ _ (q _ _ f1)),S,?_,λU C r E=>?_⟩⟩⟩⟩⟩
   ·have:=pT (b.map bH) none (some (3:Int));simp;omega
   rw[show cP (b.map bH) none (some (3:Int))=(b.take 3).map bH from(Rv b 3).1]at E;have YQ:cP (b.map bH) (some (5:Int)) (some (a0:Int))=((b.take (b.idxOf ("=":Str))).drop 5).map bH:=by
    rw[ei];exact aDO bH b 5 a0
   rw[YQ]at f2;rw[show cP (b.map bH) (some ((a0:Int)+1)) none=(b.drop (b.idxOf ("=":Str)+1)).map bH by rw[ei];exact(Rv b (a0+1)).2]at f5;have B:=((((M.trans y).trans m).trans q).trans r5).trans (n.trans r);dsimp only [aK];refine W _ U _ C e.symm ?_ ?_ B ⟨_,E,fZ (zW _) (.cons rfl (.cons rfl (.cons ⟨Q,rfl,r _ _ (n _ _ (r5 _ _ f2))⟩ (.cons ⟨p5,rfl,r _ _ (n _ _ f5)⟩ .nil))))⟩
   ·exact forall_mem_append.mpr ⟨tO λp k=>x p (mem_of_mem_take k),Zfm.mpr ⟨⟨rfl,λa2 e=>by cases e;exact Y 3 Zo⟩,Zfm.mpr ⟨⟨rfl,λa2 e=>by cases e;exact Y 4 Zo⟩,Zfm.mpr ⟨tQ (λp k=>x p (mem_of_mem_take (mem_of_mem_drop k))) (by rw[length_drop,fM];omega),Zfm.mpr ⟨tQ (λp k=>x p (mem_of_mem_drop k)) (by rw[length_drop];omega),λ_ h=>nomatch h⟩⟩⟩⟩⟩
   ·unfold mZ;rw[gQ,aX,fM];simp;omega
  have n3:¬ (b.headD ""="kept"/\4<b.length/\b.count ("=":Str)=1):=λh=>by
   rw[H]at h;rw[X2 h.1,X2 Zo,X2 Zo]at F;cases F
  dsimp only [aT];have e:oF b=mZ b:=by unfold oF;rw[T8 n1,T8 n2,T8 n3]
  exact W _ t2 _ H2 e.symm (tO x) (by unfold mZ;rw[aX];omega) (M.trans y) ⟨_,g2,zW _⟩
def FlatS(v:V):Prop:=(∃z,v=.str z/\z.length<=12)∨∃m:Nat,v=.int (m:Int)/\m<=1000000000000
def FlatS.of{v:V}(h:FlatW v):FlatS v:=by
 rcases h with⟨z,rfl,h,_⟩|⟨m,rfl,h⟩
 ·exact .inl ⟨z,rfl,h⟩
 ·exact .inr ⟨m,rfl,h⟩
def FlatS.len{v:V}(h:FlatS v):(cW v).length<=13:=by
 rcases h with⟨z,rfl,h⟩|⟨m,rfl,h⟩
 ·exact iB h Zd
 ·exact Gu (k:=12) (Ly h Zd)
theorem zX{k:Nat}:∀(ws:List Str),(∀p∈ws,p.length<=k)->(ws.map (·.length)).sum<=k*ws.length
 | [],_=>cE _
 | p::r,h=>by
  have a:=h p iV;have b:=zX (k:=k) r λz m=>h z (fN _ m)
  rw[map_cons,sum_cons,eJ,Nat.mul_add];omega
def RPok(p:RP):Prop:=match p with|.sc v=>FlatS v|.tp a=>(1<=a.length/\a.length<=5)/\∀y∈a,FlatS y
def vC:Sp:=λc H Q _=>∃a ps,c=[.ref a]/\RowAt H a ps/\RowIs ps/\∀b,Same H b->Q (.str (cG ps)) b
def RowS.ok{ps:List RP}{scs:List V}(S:RowS ps scs c):∀p∈ps,RPok p:=λp a=>by
 rw[S.eq]at a;rcases Zma.mp a with h|h
 ·obtain⟨v,d,rfl⟩:=Zmm.mp h;exact FlatS.of (S.fl v d)
 ·obtain⟨t,b,rfl⟩:=Zmm.mp h;exact⟨(S.ft t b).1,λy e=>FlatS.of ((S.ft t b).2 y e)⟩
def Cq:List RP->List Str
 | []=>[]
 | .sc v::r=>cW v::Cq r
 | .tp _::r=>Cq r
def Ae:List RP->List (List V)
 | []=>[]
 | .sc _::r=>Ae r
 | .tp a::r=>a::Ae r
theorem qR:∀(p q:List RP),Cq (p++q)=Cq p++Cq q
 | [],q=>rfl
 | .sc v::r,q=>by show cW v::Cq (r++q)=_;rw[qR r q];rfl
 | .tp _::r,q=>by show Cq (r++q)=_;rw[qR r q];rfl
theorem qS:∀(p q:List RP),Ae (p++q)=Ae p++Ae q
 | [],q=>rfl
 | .sc v::r,q=>by show Ae (r++q)=_;rw[qS r q];rfl
 | .tp a::r,q=>by show a::Ae (r++q)=_;rw[qS r q];rfl
theorem Rx:∀(vs:List V),Cq (vs.map RP.sc)=vs.map cW
 | []=>rfl
 | v::r=>by show cW v::Cq (r.map RP.sc)=_;rw[Rx r];rfl
theorem Ry:∀(a:List (List V)),Cq (a.map RP.tp)=[]
 | []=>rfl
 | v::r=>Ry r
theorem Rz:∀(vs:List V),Ae (vs.map RP.sc)=[]
 | []=>rfl
 | v::r=>Rz r
theorem Sa:∀(a:List (List V)),Ae (a.map RP.tp)=a
 | []=>rfl
 | v::r=>by show v::Ae (r.map RP.tp)=_;rw[Sa r]
theorem zY:∀(p:List RP),(Cq p).length<=p.length
 | []=>cE _
 | .sc v::r=>by have:=zY r;show(Cq r).length+1<=r.length+1;omega
 | .tp _::r=>by have:=zY r;show(Cq r).length<=r.length+1;omega
theorem zZ:∀(p:List RP),(Ae p).length<=p.length
 | []=>cE _
 | .sc v::r=>by have:=zZ r;show(Ae r).length<=r.length+1;omega
 | .tp _::r=>by have:=zZ r;show(Ae r).length+1<=r.length+1;omega
def TAt(H:Hp)(t:List V)(v:V):Prop:=∃b,v=.ref b/\H b=some (.tup t)
def Paired.snoc{c d:Type}{R:c->d->Prop}:∀ {xs:List c}{e:List d}{a:c}{b:d},Paired R xs e->R a b->Paired R (xs++[a]) (e++[b])
 | _,_,_,_,.nil,h=>.cons h .nil
 | _,_,_,_,.cons h t,f=>.cons h (Paired.snoc t f)
def Wh(T:Txt K mg)(D:DefAt K mg "_law_line" eM QZG):Callee P w K mg base 1 "_law_line" QZG vC:=by
 refine D.gg gZ (λa6 cdv a7 outer a8 a4 vs a9 b0 hr h=>?_)
 ·obtain⟨a,ps,rfl,ra,ri,a5⟩:=h;refine⟨_,(mm (R.dw (i:=1) gZ.nd rfl (Or.inl rfl) rfl (js:=[none]) (N:=["_law_part"]) (CompScope.by (aE eM) QZo rfl rfl Zk) (aY rfl) (R.dg (K:=K) (lf 0)) (λa1 s₂ H₂ fp=>⟨(qi (i:=0) (show(["_law_part"]:List Str).Nodup by decide +kernel)),(R.dt (sw (qm (tq .tup (lf 0) rfl T.b_isinstance rfl T.b_tuple bW)))),(wg R.fo rfl T.b_str iC (f8 (lf 0) li))⟩) rfl) (mm (IN PassesOwn.never rfl (R.eg (K:=K) rfl T.b_enumerate (uf rfl (js:=[none]) (N:=["_law_part"]) (CompScope.by (aE eM) QZo rfl rfl Zk) (aY rfl) (R.dg (K:=K) (lf 0)) (λa1 s₂ H₂ fp=>⟨(qi (i:=0) (show(["_law_part"]:List Str).Nodup by decide +kernel)),(R.dt (qm (tq .tup (lf 0) rfl T.b_isinstance rfl T.b_tuple bW))),(lf 0)⟩))) (K3 (K:=K) (n:=2) rfl (wu (qi (i:=2) gZ.nd) (wu (qi (i:=3) gZ.nd) NE))) (mq (o0 (i:=1) gZ.nd (nw wo (nw wo (lf 1) (nw R.fc (qk (f8 mn li)) (lf 2))) (uf rfl (js:=[none]) (N:=["_law_one"]) (CompScope.by (aE eM) QZo rfl rfl Zk) (aY rfl) (R.dg (K:=K) (lf 3)) (λa1 s₂ H₂ fp=>⟨(qi (i:=0) (show(["_law_one"]:List Str).Nodup by decide +kernel)),ug,(wg R.fo rfl T.b_str iC (f8 (lf 0) li))⟩)))))) (mq (mr (ua (K:=K) PySem.F.plainAttrs_str PySem.F.slot_str_join PySem.F.type_str_join (S6 (K:=K)) mn (f8 (lf 1) li)))))),?_⟩;refine yE0 ri.split (yE2 λscs g S=>?_);obtain⟨Q,A,U⟩:=ra;have BP:ps.length=Q.length:=U.length;have hok:=RowS.ok S;have l7:ps.length<=7:=by rw[S.eq,gQ,aX,aX];have:=S.l2;have:=S.l5.2;omega
  have YR:Cq ps=scs.map cW:=by rw[S.eq,qR,Rx,Ry,append_nil]
  have YS:Ae ps=g:=by rw[S.eq,qS,Rz,Sa,nil_append]
  refine⟨a,rfl,⟨_,QYY A⟩,?_⟩;refine bN (iI K a Q) Zo (λj d f=>d=(Cq (ps.take j)).map V.str/\f=a4) (λj d f ⟨e,c⟩=>⟨by rw[c];exact QYY A,by rw[e,aX];have:=zY (ps.take j);rw[fM]at this;omega⟩) ⟨rfl,rfl⟩ (?_) (?_)
  ·rintro j y d f p ⟨e,c⟩;subst c;obtain⟨W,X⟩:=Zgs.mp p;obtain⟨s,l⟩:=Paired.get' (j:=j) U W;rw[X]at l;have t:=hok _ (getElem_mem s);have m:ps.take (j+1)=ps.take j++[ps[j]]:=by rw[Dc,kO s];rfl
   generalize SM:ps[j]=Y at l t m;cases Y with
   | sc v=>
    have:y=v:=l;subst this;have key:(Cq (ps.take (j+1))).map V.str=d++[.str (cW y)]:=by rw[m,qR,hX,e];rfl
    rcases t with⟨z,rfl,B⟩|⟨a2,rfl,y7⟩
    ·refine⟨.str,trivial,?_⟩;exact⟨key.symm,rfl⟩
    ·refine⟨.int,trivial,?_⟩;exact⟨⟨Zo,Int.lt_of_le_of_lt (b:=1000000000000) Zo Zd⟩,key.symm,rfl⟩
   | tp xs=>
    obtain⟨b,rfl,q⟩:=l;refine⟨.tup,⟨_,q⟩,?_⟩;exact⟨by rw[e,m,qR];simp[Cq],rfl⟩
  rintro d f ⟨e,c⟩;subst c;rw[<- BP,qU (cE _),YR]at e;subst e;intro C vf;dsimp only [aK];have r:=aA (o:=.lst ((scs.map cW).map V.str)) vf;have g1:(aH f C (.lst ((scs.map cW).map V.str))) C=some (.lst ((scs.map cW).map V.str)):=aD;generalize aH f C (.lst ((scs.map cW).map V.str))=H1 at r g1 ⊢;refine⟨a,rfl,⟨_,QYY (r _ _ A)⟩,?_⟩;refine bN (iI K a Q) Zo (λj d f=>Paired (TAt H1) (Ae (ps.take j)) d/\f=H1) (λj d f ⟨e,c⟩=>⟨by rw[c];exact QYY (r _ _ A),by rw[<- e.length];have:=zZ (ps.take j);rw[fM]at this;omega⟩) ⟨.nil,rfl⟩ (?_) (?_)
  ·rintro j y d E p ⟨e,c⟩;subst c;obtain⟨W,X⟩:=Zgs.mp p;obtain⟨s,l⟩:=Paired.get' (j:=j) U W;rw[X]at l;have t:=hok _ (getElem_mem s);have m:ps.take (j+1)=ps.take j++[ps[j]]:=by rw[Dc,kO s];rfl
   generalize SM:ps[j]=Y at l t m;cases Y with
   | sc v=>
    have:y=v:=l;subst this;have key:Ae (ps.take (j+1))=Ae (ps.take j):=by rw[m,qS];simp[Ae]
    rcases t with⟨z,rfl,B⟩|⟨a2,rfl,y7⟩
    ·refine⟨.str,trivial,?_⟩;exact⟨by rw[key];exact e,rfl⟩
    ·refine⟨.int,trivial,?_⟩;exact⟨by rw[key];exact e,rfl⟩
   | tp xs=>
    obtain⟨b,rfl,q⟩:=l;refine⟨.tup,⟨_,r _ _ q⟩,?_⟩;exact⟨by rw[m,qS];exact Paired.snoc e ⟨b,rfl,r _ _ q⟩,rfl⟩
  rintro d E ⟨e,c⟩;subst c;rw[<- BP,qU (cE _),YS]at e;intro F U5;have YT:g.length=d.length:=e.length;have G:=aA (o:=.lst d) U5;have g2:(aH E F (.lst d)) F=some (.lst d):=aD;have e':Paired (TAt (aH E F (.lst d))) g d:=Paired.map' (λ_ _ ⟨b,H,c⟩=>⟨b,H,G _ _ c⟩) e;have II:=G _ _ g1;generalize aH E F (.lst d)=H3 at G g2 e' II ⊢;refine⟨d,QYX g2,?_⟩;refine uM (λi O f=>∃(u:WP)(Z o3:Option V),O=[some (.ref a),some (.ref u),Z,o3]/\f u=some (.lst ((scs.map cW++qW 0 (g.take i)).map V.str))/\Same H3 f) (λi O f ⟨_,_,_,_,_,s'⟩=>QYX (s' _ _ g2)) ⟨C,_,_,rfl,by simpa [qW]using II,Same.refl _⟩ ?_ ?_
  ·rintro i b1 O a0 a3 hx ⟨u,Z,o3,rfl,I,J⟩ ht;obtain⟨hi,ex⟩:=Zgs.mp hx;refine yE0 (Paired.get' (j:=i) e' hi) (yE2 λY8 b=>yA2 λeb q=>?_);rw[ex]at eb;subst eb;have KZ:i<2:=by have:=S.l2;omega
   have HY:=S.ft _ (getElem_mem Y8);have s3:=aA (o:=.tup [.int (i:Int),.ref b]) ht;have SN:=s3 _ _ (J _ _ q);have SO:=s3 _ _ I;have SQ:=J.trans s3;refine⟨a3,_,rfl,QYY aD,rfl,_,_,rfl,_,_,rfl,rfl,?_⟩;dsimp only [aK];generalize aH a0 a3 (.tup [.int (i:Int),.ref b])=L at SN SO SQ ⊢;have lW:(scs.map cW++qW 0 (g.take i)).length<=20:=by
    rw[gQ,aX];have h5:=S.l5.2;have:(qW 0 (g.take i)).length<=5:=by
     match i,KZ with
     | 0,_=>simp[qW]
     | 1,_=>
      match g,S.ft with
      | [],_=>simp[qW]
      | t0::b2,ft=>have:=(ft t0 Zs).1.2;simp[qW];omega
    omega
   refine⟨eY rfl,λp1 h1=>⟨_,aD,Zo,Zo,by simp;omega,λp2 h2=>⟨_,_,eZ (eZ SO h1) h2,aD,?_,λM h3=>?_⟩⟩⟩
   ·have e9:(replicate ((i:Int).toNat) [V.str "="]).flatten.length=i:=by rw[Gf];simp
    rw[aX,e9];exact dD Zo
   have H:(replicate ((i:Int).toNat) [V.str "="]).flatten=(replicate i ("=":Str)).map V.str:=by
    have:(i:Int).toNat=i:=by simp
    rw[this];match i,KZ with
    | 0,_=>rfl
    | 1,_=>rfl
   rw[H,<- hX];have s4:Same L (aH (aH (aH L p1 (.lst [V.str "="])) p2 (.lst ((replicate i ("=":Str)).map V.str))) M (.lst (((scs.map cW++qW 0 (g.take i))++replicate i ("=":Str)).map V.str))):=by
    rw[H]at h3;exact((aA h1).trans (aA h2)).trans (aA h3)
   have g4:(aH (aH (aH L p1 (.lst [V.str "="])) p2 (.lst ((replicate i ("=":Str)).map V.str))) M (.lst (((scs.map cW++qW 0 (g.take i))++replicate i ("=":Str)).map V.str))) M=some (.lst (((scs.map cW++qW 0 (g.take i))++replicate i ("=":Str)).map V.str)):=aD;generalize aH (aH (aH L p1 (.lst [V.str "="])) p2 (.lst ((replicate i ("=":Str)).map V.str))) M (.lst (((scs.map cW++qW 0 (g.take i))++replicate i ("=":Str)).map V.str))=G4 at s4 g4 ⊢;have SR:=s4 _ _ SN;refine⟨b,rfl,⟨_,QYY SR⟩,?_⟩;refine bN (iI K b g[i]) (by have:=HY.1.2;omega) (λj x f=>x=((g[i].take j).map cW).map V.str/\f=G4) (λj x f ⟨e,c⟩=>⟨by rw[c];exact QYY SR,by rw[e,aX,aX,fM];omega⟩) ⟨rfl,rfl⟩ (?_) (?_)
   ·rintro j y x f p ⟨e,c⟩;subst c;have key:((g[i].take (j+1)).map cW).map V.str=x++[.str (cW y)]:=by rw[Dc,p,hX,hX,e];rfl
    rcases FlatS.of (HY.2 y (sW p)) with⟨z,rfl,B⟩|⟨a2,rfl,y7⟩
    ·exact⟨key.symm,rfl⟩
    ·exact⟨⟨Zo,Int.lt_of_le_of_lt (b:=1000000000000) Zo Zd⟩,key.symm,rfl⟩
   rintro x f ⟨e,c⟩;subst c;rw[qU (cE _)]at e;subst e;intro p5 h5;refine⟨_,_,aA h5 _ _ g4,aD,?_,λp6 h6=>?_⟩
   ·rw[aX,gQ,aX,aX,length_replicate];have:=HY.1.2;exact dD Zo
   rw[<- hX];refine⟨p6,_,_,rfl,?_,?_⟩
   ·rw[aD,Dc,kO Y8];show _=some (HO.lst ((scs.map cW++qW 0 (g.take i++[g[i]])).map V.str));rw[Bm,fM,min_eq_left (le_of_lt Y8),Nat.zero_add,append_assoc,append_assoc]
   ·exact((SQ.trans s4).trans (aA h5)).trans (aA h6)
  ·refine λO a0=>yE3 λu Z o3=>yA3 λζ I J=>?_;subst ζ;rw[<- YT,qU (cE _),<- S.ln]at I;refine⟨rfl,_,u,jH ps,rfl,rfl,QYX I,?_,?_⟩
   ·have h1:=zX (k:=13) (jH ps) λz B=>(S.fine.2 z B).1
    have h2:=S.fine.1.2;have e3:(" ":Str).length=1:=by decide +kernel
    rw[e3];omega
   ·have h:=a5 a0 ((r.trans G).trans J);unfold cG jw at h;rw[<- kH]at h;exact h
def WDS:List Str:=["is","no","ok","short","full","has","kept","came","add","take"]
def Sb:∀z∈WDS,isNm z:=by
 intro z a;unfold WDS at a;simp only [mem_cons,QZZ,or_false]at a;rcases a with rfl|rfl|rfl|rfl|rfl|rfl|rfl|rfl|rfl|rfl<;>exact⟨Zk,Zk,Zk⟩
def aBo:∀r:Nat,r<10->(WDS.drop r++WDS.take r).Nodup:=by decide +kernel
def Wi(h:r<10):(WDS.drop r++WDS.take r).length=10:=by
 rw[gQ,length_drop,fM];show 10-r+min r 10=10;omega
def isNm.ky(h:isNm z):isKy z:=⟨h.1,iB h.2.1 Zd,λc a=>by
 have:∀c∈LET,c∈KLET:=by decide +kernel
 exact this c (h.2.2 c a)⟩
def Aa:Sp:=λc H Q _=>∃(p:WP)(m:Nat),c=[.ref p,.int m]/\PenAt H p/\m<=10/\∀(l:WP)(a:List Str)(b:Hp),a.length=m->(∀z∈a,isNm z)->a.Nodup->H l=none->b l=some (.lst (a.map V.str))->PenAt b p->K1 p H b->Q (.ref l) b
def dH(xs:List c)(k:Nat):cP xs (some (k:Int)) none=xs.drop k:=by
 unfold cP HT.sIx;have a:¬ ((k:Int)<0):=by omega
 simp only [a,if_false];have e:(k:Int).toNat=k:=by simp
 rw[e];by_cases b:k<=xs.length
 ·rw[min_eq_left b];exact qU Zs
 ·rw[min_eq_right Zo];rw[drop_eq_nil_of_le (cE _),drop_eq_nil_of_le Zo];simp
def Sc(T:Txt K mg)(F:Callee P w K mg base 1 "_law_take" QZT fT)(D:DefAt K mg "_law_words" jN QZS):Callee P w K mg base 2 "_law_words" QZS Aa:=by
 refine D.gg lK (λf S A R a0 H U a5 a6 G h=>?_)
 ·revert h;refine yE2 λp m=>yA4 λζ pn W q=>?_;subst ζ;refine⟨_,(mm (o0 (i:=2) lK.nd (qk (f8 mn (f8 mn (f8 mn (f8 mn (f8 mn (f8 mn (f8 mn (f8 mn (f8 mn (f8 mn li)))))))))))) (mm (o0 (i:=3) lK.nd (mv F G rfl (f8 (lf 0) (f8 mh li)))) (mq (mr (ql (ut (K:=K)) (nw wo (ql (ut (K:=K)) (lf 2) (qh (lf 3)) re) (ql (ut (K:=K)) (lf 2) re (qh (lf 3)))) re (qh (lf 1))))))),?_⟩;refine⟨eY rfl,λl n=>?_⟩;dsimp only [aK];have I:([V.str "is",.str "no",.str "ok",.str "short",.str "full",.str "has",.str "kept",.str "came",.str "add",.str "take"]:List V)=WDS.map V.str:=rfl;rw[I];have g1:(aH H l (.lst (WDS.map V.str))) l=some (.lst (WDS.map V.str)):=aD;have e:Same H (aH H l (.lst (WDS.map V.str))):=aA n;have J:l≠p:=pn.ne n;generalize aH H l (.lst (WDS.map V.str))=X at g1 e ⊢;refine⟨p,10,rfl,pn.same e,Zd,Zd,λY a L Z M o=>?_⟩;obtain⟨r,rfl⟩:=qX L;have g2:=o _ _ g1 J;have s:r<10:=by omega
  refine⟨_,QYX g2,λb t=>⟨_,QYX (aA t _ _ g2),λc g=>?_⟩⟩;rw[dH,<- map_drop]at g;rw[dH,jV,<- map_drop,<- map_take];have u:(aH (aH a b (.lst ((WDS.drop r).map V.str))) c (.lst ((WDS.take r).map V.str))) b=some (.lst ((WDS.drop r).map V.str)):=eZ aD g;have v:(aH (aH a b (.lst ((WDS.drop r).map V.str))) c (.lst ((WDS.take r).map V.str))) c=some (.lst ((WDS.take r).map V.str)):=aD;have j:Same a (aH (aH a b (.lst ((WDS.drop r).map V.str))) c (.lst ((WDS.take r).map V.str))):=(aA t).trans (aA g);generalize aH (aH a b (.lst ((WDS.drop r).map V.str))) c (.lst ((WDS.take r).map V.str))=x at u v j ⊢;have k:=Wi s;refine⟨_,_,u,v,dD (by rw[aX,aX,<- gQ,k];decide),λy B=>⟨_,QYX aD,λN d=>?_⟩⟩;rw[<- hX]at d;rw[<- hX,jV,<- map_take];have C:K1 p H (aH x y (.lst ((WDS.drop r++WDS.take r).map V.str))):=((K1.of e).trans o).trans (K1.of (j.trans (aA B)));have E:PenAt (aH x y (.lst ((WDS.drop r++WDS.take r).map V.str))) p:=(M.same j).same (aA B);refine q N ((WDS.drop r++WDS.take r).take m) _ (by rw[fM,k];omega) (λz O=>?_) ((aBo r s).sublist (List.take_sublist _ _)) (C.free E d) aD (E.same (aA d)) (C.trans (.of (aA d)));have Q:=mem_of_mem_take O;rcases Zma.mp Q with h|h
  ·exact Sb z (mem_of_mem_drop h)
  ·exact Sb z (mem_of_mem_take h)
def Fp(T:Txt K mg)(kh:Callee P w K mg base 2 "_law_words" QZS Aa)(s:Callee P w K mg base 1 "_law_take" QZT fT)(D:DefAt K mg "_law_names" eP QZS):Callee P w K mg base 3 "_law_names" QZS wO:=by
 refine D.gg bT (λa8 cdv a9 outer a2 H vs b2 b3 q h=>?_)
 ·revert h;refine yE2 λp m=>yA4 λζ pn hm a3=>?_;subst ζ;refine⟨_,(mm (o0 (i:=2) bT.nd mn) (mm (qa (pr qf (mv s q rfl (f8 (lf 0) (f8 mh li))) mh) (mq (mr (mv kh q rfl (f8 (lf 0) (f8 (lf 1) li))))) qb) (mm (o0 (i:=3) bT.nd (nw tj mh (mv s q rfl (f8 (lf 0) (f8 mh li))))) (mm (o0 (i:=4) bT.nd (mv s q rfl (f8 (lf 0) (f8 (lf 3) li)))) (mm (o0 (i:=5) bT.nd (qg (ud (K:=K)) (qk (f8 mh (f8 mh (f8 mh (f8 mh (f8 mh (f8 mh li))))))) (mv s q rfl (f8 (lf 0) (f8 mh li))))) (mm (R.dw (i:=6) bT.nd rfl (Or.inl rfl) rfl (js:=[none,some 0]) (N:=QZh) (CompScope.by (aE eP) QZf rfl rfl Zk) (aY rfl) (R.db rfl T.b_range (f8 (lf 3) li)) (λa5 s₂ H₂ fp=>⟨(qi (i:=0) (show(QZh:List Str).Nodup by decide +kernel)),ug,(mv s q rfl (f8 (lf 1) (f8 mh li)))⟩) rfl) (mm (o0 (i:=7) bT.nd (qk li)) (mm (IN PassesOwn.never rfl (R.db rfl T.b_range (f8 (lf 1) li)) (qi (i:=8) bT.nd) (mm (o0 (i:=9) bT.nd (nw tj (nw tj (lf 4) mh) (mv s q rfl (f8 (lf 0) (f8 (nw v4 (lf 3) (lf 4)) li))))) (mm (o0 (i:=10) bT.nd (ql (ut (K:=K)) (lf 6) re (qh (lf 9)))) (mm (R.eh (nw AE (nw tj (qg (ud (K:=K)) (lf 6) (lf 4)) (nw BZ (lf 5) (lf 8))) mh) (R.eo (lf 10) (lf 4) R.eu)) (mq (AT (ua (K:=K) PySem.F.plainAttrs_list PySem.F.slot_list_append PySem.F.type_list_append PP (lf 7) (f8 (ua (K:=K) PySem.F.plainAttrs_str PySem.F.slot_str_join PySem.F.type_str_join (S6 (K:=K)) mn (f8 (uf rfl (js:=[none,some 2]) (N:=["_law_sign","_law_letters"]) (CompScope.by (aE eP) QZf rfl rfl Zk) (aY rfl) (FM (K:=K) (lf 10)) (λa5 s₂ H₂ fp=>⟨(qi (i:=0) (show(["_law_sign","_law_letters"]:List Str).Nodup by decide +kernel)),ug,(qg R.iS (lf 1) (lf 0))⟩)) li)) li)))))))) (mq (mr (lf 7))))))))))),?_⟩;refine⟨p,4,rfl,pn,Zd,Zd,λr0 H1 a0 a1 O k1=>?_⟩;refine aV (λ_=>?_) (λ_=>?_)
  ·exact⟨p,m,rfl,O,Zo,λl f d h1 h2 y h4 h5 h6 h7=>a3 l f d h1 h2 y (k1.free O h4) h5 h6 (k1.trans h7)⟩
  refine⟨p,8,rfl,O,Zd,Zd,λI H2 b0 b1 p2 k2=>?_⟩;refine⟨p,_,rfl,p2,Zo,Zo,λa' H3 c0 c1 p3 k3=>?_⟩;dsimp only [aK];obtain⟨a,rfl⟩:=qX c0;refine⟨eY rfl,λls Q=>⟨p,6,rfl,p3.same (aA Q),Zd,Zd,λr2 H4 d0 d1 p4 k4=>⟨_,QYX (k4 _ _ aD (p3.ne Q)),?_⟩⟩⟩;have S:∃a2:Int,eK ([V.int 1,.int 3,.int 5,.int 7,.int 9,.int 11]:List V) r2=some (.int a2)/\Pj a2:=by
   rcases six d0 d1 with rfl|rfl|rfl|rfl|rfl|rfl
   ·exact⟨_,rfl,.inl rfl⟩
   ·exact⟨_,rfl,.inr (.inl rfl)⟩
   ·exact⟨_,rfl,.inr (.inr (.inl rfl))⟩
   ·exact⟨_,rfl,.inr (.inr (.inr (.inl rfl)))⟩
   ·exact⟨_,rfl,.inr (.inr (.inr (.inr (.inl rfl))))⟩
   ·exact⟨_,rfl,.inr (.inr (.inr (.inr (.inr rfl))))⟩
  obtain⟨st,S,hok⟩:=S;refine⟨_,S,?_⟩;dsimp only [aK];have OK:K1 p H H4:=((k1.trans k2).trans (k3.trans (.of (aA Q)))).trans k4;refine⟨1+I,rfl,Zo,Zo,?_⟩;refine bN (fR 0 (1+I).toNat) (by simp[dS];omega) (λi A d=>∃bs:List Int,A=bs.map V.int/\bs.length=i/\(∀x∈bs,0<=x/\x<26)/\PenAt d p/\K1 p H d) (λi A d ⟨bs,e,B,_⟩=>⟨trivial,by rw[e,aX,B];exact cE _⟩) ⟨[],rfl,rfl,(λ_ h=>nomatch h),p4,OK⟩ (?_) (?_)
  ·refine λi x A d g=>yE1 λbs=>yA5 λe B U J W=>?_;refine⟨p,26,rfl,J,Zd,Zd,λa6 ni f0 f1 pj kj=>⟨bs++[a6],by rw[e,hX];rfl,by rw[gQ,B];rfl,λx g=>?_,pj,W.trans kj⟩⟩;rcases Zma.mp g with h|h
   ·exact U x h
   ·rw[Zms.mp h];exact⟨f0,f1⟩
  refine λA d=>yE1 λbs=>yA5 λe B U J W=>?_;intro n X;subst e;have YU:bs.length=(1+I).toNat:=by rw[B];simp[dS]
  have ha:a<bs.length:=by omega
  have Y:(aH d n (.lst (bs.map V.int))) n=some (.lst (bs.map V.int)):=aD;have L:=J.same (aA (o:=.lst (bs.map V.int)) X);have Z:K1 p H (aH d n (.lst (bs.map V.int))):=W.trans (.of (aA X));generalize aH d n (.lst (bs.map V.int))=H5 at Y L Z ⊢;refine⟨eY rfl,λl u=>?_⟩;dsimp only [aK];have OL:n≠l:=aF Y u;have JC:n≠p:=J.ne X;have X6:l≠p:=L.ne u;have LO:H l=none:=Z.free L u;refine⟨m,rfl,Zo,Zo,?_⟩;refine pW (fR 0 (m:Int).toNat) (λi σ d=>∃(f:List Str)(o8 o9 AR:Option V),σ=[some (.ref p),some (.int m),some (.str "abcdefghijklmnopqrstuvwxyz"),some (.int (1+I)),some (.int a),some (.int st),some (.ref n),some (.ref l),o8,o9,AR]/\f.length=i/\(∀z∈f,isNm z)/\(∀(j:Nat)(z:Str),f[j]?=some z->z.cps.toList[a]?=some (qG LET ((bs[a]+st*(j:Int))%26)))/\d l=some (.lst (f.map V.str))/\d n=some (.lst (bs.map V.int))/\PenAt d p/\K1 p H d)
   (λ_ _ _ _=>trivial) ⟨[],_,_,_,rfl,rfl,(λ_ h=>nomatch h),(λ_ _ h=>by cases h),aD,aA u _ _ Y,L.same (aA u),Z.trans (.of (aA u))⟩ ?_ ?_
  ·refine λi x σ G1 g=>yE4 λf o8 o9 AR=>yA8 λζ M X5 uq gl JD q1 j1=>?_;subst ζ;have hi:i<m:=by
    have:=(Zgs.mp g).1;simp[dS]at this;omega
   have ex:x=.int (i:Int):=by
    unfold dS at g;rw[jF,getElem?_range Zo]at g;have:=Option.some.inj g;rw[<- this];show V.int (0+(i:Int))=_;rw[Int.zero_add]
   subst ex;refine⟨p,_,rfl,q1,Zo,Zo,λt' C t0 t1 q2 j2=>?_⟩;dsimp only [aK];obtain⟨t,rfl⟩:=qX t0;have rl:=j2 _ _ JD JC;have S9:=j2 _ _ gl X6;refine⟨_,QYX rl,λk vq=>?_⟩;have ec:cP (bs.map V.int) none (some ((a:Int)+1+t))=(bs.take (a+1+t)).map V.int:=by
    rw[show((a:Int)+1+t)=((a+1+t:Nat):Int) by omega,jV,map_take]
   rw[ec];dsimp only [aK];have JE:(bs.take (a+1+t)).length=a+1+t:=by rw[fM];omega
   refine⟨_,QYX (aA vq _ _ rl),.int bs[a],aL (by rw[jF,kO ha];rfl),.inl (by rcases hok with rfl|rfl|rfl|rfl|rfl|rfl<;>exact⟨Zd,Zd⟩),by show(0:Int)<_;decide,k,_,_,a,rfl,rfl,aD,?_,?_⟩
   ·unfold Jj;rw[aX,JE,UF Zo,UF Zo];rfl
   dsimp only;generalize hv:(bs[a]+st*(i:Int))%26=v;have v0:0<=v:=by rw[<- hv];exact Int.emod_nonneg _ Zd
   have v1:v<26:=by rw[<- hv];exact Int.emod_lt_of_pos _ Zd
   rw[show((bs.take (a+1+t)).map V.int).set a (V.int v)=((bs.take (a+1+t)).set a v).map V.int by rw[map_set]];generalize EK:(bs.take (a+1+t)).set a v=b;have DM:b.length=a+1+t:=by rw[<- EK,length_set,JE]
   have FQ:∀x∈b,0<=x/\x<26:=λx g=>by
    rw[<- EK]at g;rcases List.mem_or_eq_of_mem_set g with h|h
    ·exact U x (mem_of_mem_take h)
    ·rw[h];exact⟨v0,v1⟩
   have OM:b[a]?=some v:=by rw[<- EK,getElem?_set_self Zo]
   have E:Same C (aH (aH C k (.lst ((bs.take (a+1+t)).map V.int))) k (.lst (b.map V.int))):=λc o e=>by
    rw[aJ (aF e vq),aJ (aF e vq)];exact e
   have gg:(aH (aH C k (.lst ((bs.take (a+1+t)).map V.int))) k (.lst (b.map V.int))) k=some (.lst (b.map V.int)):=aD;generalize aH (aH C k (.lst ((bs.take (a+1+t)).map V.int))) k (.lst (b.map V.int))=G3 at E gg ⊢;have el:(("abcdefghijklmnopqrstuvwxyz":Str).cps.toList)=LET:=yF;refine⟨.inl ⟨rfl,_,QYX (E _ _ S9)⟩,rfl,k,rfl,⟨_,QYX gg⟩,?_⟩;refine rG (dX K k (b.map V.int)) (by rw[aX];omega) (λ_=>true) (λv=>match v with|.int i=>.str (tx [qG LET i])|_=>v) (QYX gg) (λa4 A N hy ht hf=>?_) ?_
   ·obtain⟨r,Y8,rfl⟩:=Zmm.mp hy;have F:=FQ r Y8;exact⟨Zk,_,(by rw[el];exact(yN (cs:=LET) F.1 (show r<26 from F.2)).1),ht rfl⟩
   intro l3 y;have ef:((b.map V.int).filter (λ_=>true)).map (λv=>match v with|.int i=>.str (tx [qG LET i])|_=>v)=((b.map (qG LET)).map (λc=>tx [c])).map V.str:=by
    rw[List.filter_eq_self.mpr (λ_ _=>rfl),map_map,map_map,map_map];rfl
   rw[ef];have hz:isNm (tx (b.map (qG LET))):=⟨by rw[dC,aX];omega,by rw[dC,aX];omega,λc hc=>by
    rw[oZ]at hc;obtain⟨r,Y8,rfl⟩:=Zmm.mp hc;have F:=FQ r Y8;exact(yN (cs:=LET) F.1 (show r<26 from F.2)).2⟩
   have YV:(tx (b.map (qG LET))).cps.toList[a]?=some (qG LET ((bs[a]+st*(i:Int))%26)):=by
    rw[oZ,jF,OM,hv];rfl
   refine⟨_,l3,(b.map (qG LET)).map (λc=>tx [c]),rfl,rfl,QYX aD,?_,?_⟩
   ·rw[uH,aX,aX,oW,dC];simp;omega
   rw[oW,uG];have LP:=aA (o:=.lst (((b.map (qG LET)).map (λc=>tx [c])).map V.str)) y _ _ (E _ _ S9);refine⟨l,_,_,rfl,rfl,LP,Ly (m:=60) (by rw[aX];omega) Zd,?_⟩;have sz:K1 p C (aH G3 l3 (.lst (((b.map (qG LET)).map (λc=>tx [c])).map V.str))):=.of (E.trans (aA y));refine⟨f++[tx (b.map (qG LET))],_,_,_,rfl,by rw[gQ,M];rfl,λa4 hy=>?_,λj z G=>?_,by rw[aD,hX];rfl,?_,?_,λc o e a7=>?_⟩
   ·rcases Zma.mp hy with h|h
    ·exact X5 a4 h
    ·rw[Zms.mp h];exact hz
   ·by_cases JF:j<f.length
    ·rw[getElem?_append_left JF]at G;exact uq j z G
    ·have P2:=(Zgs.mp G).1;rw[gQ]at P2;have:j=f.length:=by simp at P2;omega
     subst this;rw[List.getElem?_append_right (cE _),sub_self]at G;cases G;rw[M];exact YV
   ·rw[aJ OL];exact sz _ _ rl JC
   ·obtain⟨r,j',g',r'⟩:=q2;exact⟨r,j',by rw[aJ X6.symm];exact(E.trans (aA y)) _ _ g',r'⟩
   ·rw[aJ (aF e LO)];exact(j1.trans (j2.trans sz)) c o e a7
  ·refine λσ G1=>yE4 λf o8 o9 AR=>yA8 λζ M X5 uq gl JD q1 j1=>?_;subst ζ;have ON:f.length=m:=by rw[M];simp[dS]
   exact a3 l f G1 ON X5 (Xp a (λj=>qG LET ((bs[a]+st*(j:Int))%26)) uq λj j' h h'=>Ur hok h Zo) LO gl q1 j1
def Lp(T:Txt K mg)(kh:Callee P w K mg base 2 "_law_words" QZS Aa)(M:Callee P w K mg base 1 "_law_take" QZT fT)(D:DefAt K mg "_law_keys" eL QZS):Callee P w K mg base 3 "_law_keys" QZS Bh:=by
 refine D.gg bX (λa6 cdv a7 outer a2 H vs a8 a9 I h=>?_)
 ·revert h;refine yE2 λp m=>yA4 λζ pn hm q=>?_;subst ζ;refine⟨_,(mm (o0 (i:=2) bX.nd mn) (mm (o0 (i:=3) bX.nd (nw tj mh (mv M I rfl (f8 (lf 0) (f8 mh li))))) (mm (o0 (i:=4) bX.nd (mv M I rfl (f8 (lf 0) (f8 (lf 3) li)))) (mm (o0 (i:=5) bX.nd (qg (ud (K:=K)) (qk (f8 mh (f8 mh (f8 mh (f8 mh (f8 mh (f8 mh li))))))) (mv M I rfl (f8 (lf 0) (f8 mh li))))) (mm (o0 (i:=6) bX.nd (uf rfl (js:=[none,some 0]) (N:=QZh) (CompScope.by (aE eL) QZs rfl rfl Zk) (aY rfl) (R.db rfl T.b_range (f8 mh li)) (λa3 s₂ H₂ fp=>⟨(qi (i:=0) (show(QZh:List Str).Nodup by decide +kernel)),ug,(mv M I rfl (f8 (lf 1) (f8 mh li)))⟩))) (mm (R.dw (i:=7) bX.nd rfl (Or.inl rfl) rfl (js:=[none,some 6]) (N:=["_law_k","_law_base"]) (CompScope.by (aE eL) QZs rfl rfl Zk) (aY rfl) (R.db rfl T.b_range (f8 (lf 1) li)) (λa3 s₂ H₂ fp=>⟨(qi (i:=0) (show(["_law_k","_law_base"]:List Str).Nodup by decide +kernel)),ug,(ql (ut (K:=K)) (lf 1) re (qh (nw v4 mh (lf 0))))⟩) rfl) (mm (o0 (i:=8) bX.nd (mv M I rfl (f8 (lf 0) (f8 mh li)))) (mm (qa (pr qf (lf 8) mh) (mq (mr (mv kh I rfl (f8 (lf 0) (f8 (lf 1) li))))) qb) (mm (qa (pr R.gt (lf 8) mh) (mm (o0 (i:=7) bX.nd (qk li)) (mq (IN PassesOwn.never rfl (R.db rfl T.b_range (f8 (lf 1) li)) (qi (i:=9) bX.nd) (mm (o0 (i:=10) bX.nd (ql (ut (K:=K)) (lf 6) re (qh (nw tj (nw tj (lf 4) mh) (mv M I rfl (f8 (lf 0) (f8 (nw v4 (lf 3) (lf 4)) li))))))) (mm (R.eh (nw AE (nw tj (qg (ud (K:=K)) (lf 6) (lf 4)) (nw BZ (lf 5) (lf 9))) mh) (R.eo (lf 10) (lf 4) R.eu)) (mq (AT (ua (K:=K) PySem.F.plainAttrs_list PySem.F.slot_list_append PySem.F.type_list_append PP (lf 7) (f8 (lf 10) li))))))))) qb) (mq (mr (uf rfl (js:=[none,some 2]) (N:=QZb) (CompScope.by (aE eL) QZs rfl rfl Zk) (aY rfl) (FM (K:=K) (lf 7)) (λa3 s₂ H₂ fp=>⟨(qi (i:=0) (show(QZb:List Str).Nodup by decide +kernel)),ug,(ua (K:=K) PySem.F.plainAttrs_str PySem.F.slot_str_join PySem.F.type_str_join (S6 (K:=K)) mn (f8 (uf rfl (js:=[none,some 1]) (N:=QZi) (CompScope.by ({kind:=ScopeKind.function,names:=[(".0",NameKind.local),("_law_row_here",NameKind.local),("_law_signs",NameKind.cell)],isGenerator:=false,isCoroutine:=false }:Scope) QZb rfl rfl Zk) (aY rfl) (FM (K:=K) (lf 0)) (λa3 s₂ H₂ fp=>⟨(qi (i:=0) (show(QZi:List Str).Nodup by decide +kernel)),ug,(qg R.iS (lf 1) (lf 0))⟩)) li))⟩))))))))))))),?_⟩;refine⟨p,12,rfl,pn,Zd,Zd,λr1 H2 b0 b1 p2 k2=>?_⟩;refine⟨p,_,rfl,p2,Zo,Zo,λa' H3 c0 c1 p3 k3=>?_⟩;dsimp only [aK];obtain⟨a,rfl⟩:=qX c0;refine⟨eY rfl,λls EJ=>⟨p,6,rfl,p3.same (aA EJ),Zd,Zd,λr2 H4 d0 d1 p4 k4=>⟨_,QYX (k4 _ _ aD (p3.ne EJ)),?_⟩⟩⟩;have P6:∃a2:Int,eK ([V.int 1,.int 5,.int 7,.int 11,.int 13,.int 17]:List V) r2=some (.int a2)/\Hd a2:=by
   rcases six d0 d1 with rfl|rfl|rfl|rfl|rfl|rfl
   ·exact⟨_,rfl,.inl rfl⟩
   ·exact⟨_,rfl,.inr (.inl rfl)⟩
   ·exact⟨_,rfl,.inr (.inr (.inl rfl))⟩
   ·exact⟨_,rfl,.inr (.inr (.inr (.inl rfl)))⟩
   ·exact⟨_,rfl,.inr (.inr (.inr (.inr (.inl rfl))))⟩
   ·exact⟨_,rfl,.inr (.inr (.inr (.inr (.inr rfl))))⟩
  obtain⟨st,P6,hok⟩:=P6;refine⟨_,P6,?_⟩;dsimp only [aK];have OK:K1 p H H4:=(k2.trans (k3.trans (.of (aA EJ)))).trans k4;refine⟨12,rfl,Zd,Zd,?_⟩;refine bN (fR 0 (12:Int).toNat) Zd (λi k b=>∃bs:List Int,k=bs.map V.int/\bs.length=i/\(∀x∈bs,0<=x/\x<36)/\PenAt b p/\K1 p H b) (λi k b ⟨bs,e,J,_⟩=>⟨trivial,by rw[e,aX,J];exact cE _⟩) ⟨[],rfl,rfl,(λ_ h=>nomatch h),p4,OK⟩ (?_) (?_)
  ·refine λi x k b d=>yE1 λbs=>yA5 λe J e3 pi ki=>?_;refine⟨p,36,rfl,pi,Zd,Zd,λa4 ni f0 f1 pj kj=>⟨bs++[a4],by rw[e,hX];rfl,by rw[gQ,J];rfl,λx d=>?_,pj,ki.trans kj⟩⟩;rcases Zma.mp d with h|h
   ·exact e3 x h
   ·rw[Zms.mp h];exact⟨f0,f1⟩
  refine λk b=>yE1 λbs=>yA5 λe J e3 pi ki=>?_;intro u CM;subst e;have YU:bs.length=12:=by rw[J];decide
  have ha:a<bs.length:=by omega
  have gb:(aH b u (.lst (bs.map V.int))) u=some (.lst (bs.map V.int)):=aD;have p5:=pi.same (aA (o:=.lst (bs.map V.int)) CM);have k5:K1 p H (aH b u (.lst (bs.map V.int))):=ki.trans (.of (aA CM));have JC:u≠p:=pi.ne CM;dsimp only [aK];generalize aH b u (.lst (bs.map V.int))=H5 at gb p5 k5 ⊢;refine⟨m,rfl,Zo,Zo,?_⟩;refine bN (fR 0 (m:Int).toNat) (by simp[dS];omega) (λi k b=>∃f:List (WP×List Int),k=f.map (λq=>V.ref q.1)/\f.length=i/\(∀(j:Nat)(q:WP×List Int),f[j]?=some q->q.2=bs.take (12-j))/\RowsOk b f/\(∀q∈f,q.1≠p)/\Same H5 b) (λi k b ⟨f,e,J,_⟩=>⟨trivial,by rw[e,aX,J];exact cE _⟩) ⟨[],rfl,rfl,(λ_ _ h=>by cases h),(λ_ h=>nomatch h),(λ_ h=>nomatch h),Same.refl _⟩ (?_) (?_)
  ·refine λi x k a1 d=>yE1 λf=>yA6 λe e4 e5 ro rp O=>?_;have hi:i<m:=by
    have:=(Zgs.mp d).1;simp[dS]at this;omega
   have ex:x=.int (i:Int):=by
    unfold dS at d;rw[jF,getElem?_range Zo]at d;have:=Option.some.inj d;rw[<- this];show V.int (0+(i:Int))=_;rw[Int.zero_add]
   subst ex;refine⟨_,QYX (O _ _ gb),λr z=>?_⟩;have ec:cP (bs.map V.int) none (some ((12:Int)-i))=(bs.take (12-i)).map V.int:=by
    rw[show((12:Int)-i)=((12-i:Nat):Int) by omega,jV,map_take]
   dsimp only;rw[ec];refine⟨f++[(r,bs.take (12-i))],by rw[e,hX];rfl,by rw[gQ,e4];rfl,λj X g=>?_,λX ny=>?_,λX ny=>?_,O.trans (aA z)⟩
   ·by_cases JF:j<f.length
    ·rw[getElem?_append_left JF]at g;exact e5 j X g
    ·have Y:=(Zgs.mp g).1;rw[gQ]at Y;have:j=f.length:=by simp at Y;omega
     subst this;rw[List.getElem?_append_right (cE _),sub_self]at g;cases g;rw[e4]
   ·rcases Zma.mp ny with h|h
    ·exact(ro.same (aA z)) X h
    ·rw[Zms.mp h];exact⟨aD,by rw[fM];omega,by rw[fM];omega,λx d=>e3 x (mem_of_mem_take d)⟩
   ·rcases Zma.mp ny with h|h
    ·exact rp X h
    ·rw[Zms.mp h];exact(p5.same O).ne z
  refine λk a1=>yE1 λf=>yA6 λe e4 e5 ro rp O=>?_;intro A xl;subst e;have LK:f.length=m:=by rw[e4];simp[dS]
  dsimp only [aK];have SS:(aH a1 A (.lst (f.map λq=>V.ref q.1))) A=some (.lst (f.map λq=>V.ref q.1)):=aD;have s6:Same H5 (aH a1 A (.lst (f.map λq=>V.ref q.1))):=O.trans (aA xl);have SU:=ro.same (aA (o:=.lst (f.map λq=>V.ref q.1)) xl);have YW:A≠p:=(p5.same O).ne xl;generalize aH a1 A (.lst (f.map λq=>V.ref q.1))=H6 at SS s6 SU ⊢;have p6:=p5.same s6;have k6:K1 p H H6:=k5.trans (.of s6);have YX:=s6 _ _ gb;refine⟨p,4,rfl,p6,Zd,Zd,λrw YY f0' f1' OO JG=>?_⟩;dsimp only [aK];refine aV (λ_=>?_) (λ_=>?_)
  ·exact⟨p,m,rfl,OO,Zo,λl n b h1 h2 L h4 h5 h6 h7=>q l n b h1 (λa0 hz=>isNm.ky (h2 a0 hz)) L ((k6.trans JG).free OO h4) h5 h6 ((k6.trans JG).trans h7)⟩
  dsimp only [aT];refine aCr (t:=Sy _ _ _) (λσ' b=>∃(A:WP)(f:List (WP×List Int))(Q S:Option V),σ'=[some (.ref p),some (.int m),some (.str "abcdefghijklmnopqrstuvwxyz0123456789"),some (.int (1+r1)),some (.int a),some (.int st),some (.ref u),some (.ref A),some (.int rw),Q,S]/\b A=some (.lst (f.map λq=>V.ref q.1))/\f.length=m/\RowsOk b f/\(f.map rW).Nodup/\PenAt b p/\K1 p H b) (λnx CS=>?_) ?_
  ·have B:=JG;have E:=OO;generalize YY=H7 at B E ⊢;refine aV (λ_=>?_) (λ_=>?_)
   rotate_left
   ·refine CS _ _ ⟨A,f,_,_,rfl,B _ _ SS YW,LK,SU.k1 B rp,?_,E,k6.trans B⟩;refine List.pairwise_map.mpr (List.pairwise_iff_getElem.mpr λi j hi g QX e=>?_);have e1:=e5 i _ (kO hi);have e6:=e5 j _ (kO g);have el:=congrArg Str.length e;unfold rW at el;rw[dC,dC,aX,aX,e1,e6,fM,fM]at el;omega
   have SV:=B _ _ YX JC;have IV:=k6.trans B;refine⟨eY rfl,λl U=>?_⟩;dsimp only [aK];have OL:u≠l:=aF SV U;have X6:l≠p:=E.ne U;have LO:H l=none:=IV.free E U;refine⟨m,rfl,Zo,Zo,?_⟩;refine pW (fR 0 (m:Int).toNat) (λi σ b=>∃(n:List (WP×List Int))(Q S:Option V),σ=[some (.ref p),some (.int m),some (.str "abcdefghijklmnopqrstuvwxyz0123456789"),some (.int (1+r1)),some (.int a),some (.int st),some (.ref u),some (.ref l),some (.int rw),Q,S]/\n.length=i/\RowsOk b n/\(∀q∈n,q.1≠p/\q.1≠l)/\(∀(j:Nat)(q:WP×List Int),n[j]?=some q->(rW q).cps.toList[a]?=some (qG KLET ((bs[a]+st*(j:Int))%36)))/\b l=some (.lst (n.map λq=>V.ref q.1))/\b u=some (.lst (bs.map V.int))/\PenAt b p/\K1 p H b)
    (λ_ _ _ _=>trivial) ⟨[],_,_,rfl,rfl,(λ_ h=>nomatch h),(λ_ h=>nomatch h),(λ_ _ h=>by cases h),aD,aA U _ _ SV,E.same (aA U),IV.trans (.of (aA U))⟩ ?_ ?_
   ·refine λi x σ G1 d=>yE3 λn Q S=>yA9 λζ Z1 LQ CT uq gl JD q1 j1=>?_;subst ζ;have hi:i<m:=by
     have:=(Zgs.mp d).1;simp[dS]at this;omega
    have ex:x=.int (i:Int):=by
     unfold dS at d;rw[jF,getElem?_range Zo]at d;have:=Option.some.inj d;rw[<- this];show V.int (0+(i:Int))=_;rw[Int.zero_add]
    subst ex;refine⟨p,_,rfl,q1,Zo,Zo,λt' G2 t0 t1 q2 j2=>?_⟩;obtain⟨t,rfl⟩:=qX t0;have rl:=j2 _ _ JD JC;have S9:=j2 _ _ gl X6;refine⟨_,QYX rl,λr z=>?_⟩;have ec:cP (bs.map V.int) none (some ((a:Int)+1+t))=(bs.take (a+1+t)).map V.int:=by
     rw[show((a:Int)+1+t)=((a+1+t:Nat):Int) by omega,jV,map_take]
    dsimp only [aK];rw[ec];have JE:(bs.take (a+1+t)).length=a+1+t:=by rw[fM];omega
    refine⟨_,QYX (aA z _ _ rl),.int bs[a],aL (by rw[jF,kO ha];rfl),.inl (by rcases hok with rfl|rfl|rfl|rfl|rfl|rfl<;>exact⟨Zd,Zd⟩),by show(0:Int)<_;decide,r,_,_,a,rfl,rfl,aD,?_,?_⟩
    ·unfold Jj;rw[aX,JE,UF Zo,UF Zo];rfl
    dsimp only;generalize hv:(bs[a]+st*(i:Int))%36=v;have v0:0<=v:=by rw[<- hv];exact Int.emod_nonneg _ Zd
    have v1:v<36:=by rw[<- hv];exact Int.emod_lt_of_pos _ Zd
    rw[show((bs.take (a+1+t)).map V.int).set a (V.int v)=((bs.take (a+1+t)).set a v).map V.int by rw[map_set]];generalize EK:(bs.take (a+1+t)).set a v=F;have DM:F.length=a+1+t:=by rw[<- EK,length_set,JE]
    have FQ:∀x∈F,0<=x/\x<36:=λx d=>by
     rw[<- EK]at d;rcases List.mem_or_eq_of_mem_set d with h|h
     ·exact e3 x (mem_of_mem_take h)
     ·rw[h];exact⟨v0,v1⟩
    have OM:F[a]?=some v:=by rw[<- EK,getElem?_set_self Zo]
    have W:Same G2 (aH (aH G2 r (.lst ((bs.take (a+1+t)).map V.int))) r (.lst (F.map V.int))):=λc o e=>by
     rw[aJ (aF e z),aJ (aF e z)];exact e
    have gg:(aH (aH G2 r (.lst ((bs.take (a+1+t)).map V.int))) r (.lst (F.map V.int))) r=some (.lst (F.map V.int)):=aD;generalize aH (aH G2 r (.lst ((bs.take (a+1+t)).map V.int))) r (.lst (F.map V.int))=G3 at W gg ⊢;have LP:=W _ _ S9;have SW:r≠p/\r≠l:=⟨q2.ne z,(aF S9 z).symm⟩;refine⟨.inl ⟨rfl,_,QYX LP⟩,l,_,_,rfl,rfl,LP,Ly (m:=60) (by rw[aX];omega) Zd,?_⟩;refine⟨n++[(r,F)],_,_,rfl,by rw[gQ,Z1];rfl,λy Z=>?_,λy Z=>?_,λj a0 g=>?_,by rw[aD,hX];rfl,?_,?_,λc o e a5=>?_⟩
    ·rcases Zma.mp Z with h|h
     ·refine⟨?_,(LQ y h).2⟩;rw[aJ (CT y h).2];exact W _ _ (j2 _ _ (LQ y h).1 (CT y h).1)
     ·rw[Zms.mp h];exact⟨by rw[aJ SW.2];exact gg,by rw[DM];omega,by rw[DM];omega,FQ⟩
    ·rcases Zma.mp Z with h|h
     ·exact CT y h
     ·rw[Zms.mp h];exact SW
    ·by_cases JF:j<n.length
     ·rw[getElem?_append_left JF]at g;exact uq j a0 g
     ·have Y:=(Zgs.mp g).1;rw[gQ]at Y;have:j=n.length:=by simp at Y;omega
      subst this;rw[List.getElem?_append_right (cE _),sub_self]at g;cases g;unfold rW;rw[Z1,oZ,jF,OM,hv];rfl
    ·rw[aJ OL];exact W _ _ rl
    ·obtain⟨i',j',g',r'⟩:=q2;exact⟨i',j',by rw[aJ X6.symm];exact W _ _ g',r'⟩
    ·rw[aJ (aF e LO)];exact W _ _ ((j1.trans j2) c o e a5)
   ·refine λσ G1=>yE3 λn Q S=>yA9 λζ Z1 LQ CT uq gl JD q1 j1=>?_;subst ζ;have ON:n.length=m:=by rw[Z1];simp[dS]
    refine CS _ _ ⟨l,n,_,_,rfl,gl,ON,LQ,Xp a (λj=>qG KLET ((bs[a]+st*(j:Int))%36)) (λj a0 g=>?_) (λj j' h h'=>Pk hok h (by rw[aX]at h';omega)),q1,j1⟩;rw[jF]at g;cases G:n[j]? with
    | none=>rw[G]at g;cases g
    | some s=>
     rw[G]at g;cases g;exact uq j s G
  refine λσ' H7=>yE4 λSX LR Q S=>yA7 λζ JH OP SY YZ E B=>?_;subst ζ;have el:(("abcdefghijklmnopqrstuvwxyz0123456789":Str).cps.toList)=KLET:=yO;refine⟨SX,rfl,⟨_,QYX JH⟩,?_⟩;refine bN (dX K SX (LR.map λq=>V.ref q.1)) (by rw[aX];omega) (λi k b=>k=((LR.take i).map rW).map V.str/\Same H7 b) (λi k b ⟨e,C⟩=>⟨QYX (C _ _ JH),by rw[e,aX,aX,fM];exact min_le_left _ _⟩) ⟨rfl,Same.refl _⟩ (?_) (?_)
  ·rintro i x k b d ⟨e,C⟩;rw[jF]at d;cases G:LR[i]? with
   | none=>rw[G]at d;cases d
   | some s=>
    rw[G]at d;cases d;refine yE0 (SY s (sW G)) (yA4 λgw w1 w2 w3=>?_);refine⟨rfl,s.1,rfl,⟨_,QYX (C _ _ gw)⟩,?_⟩;refine rG (dX K s.1 (s.2.map V.int)) (by rw[aX];omega) (λ_=>true) (λv=>match v with|.int i=>.str (tx [qG KLET i])|_=>v) (QYX (C _ _ gw)) (λy k N Z ht hf=>?_) ?_
    ·obtain⟨i',Y8,rfl⟩:=Zmm.mp Z;have hb:=w3 i' Y8;exact⟨Zk,_,(by rw[el];exact(yN (cs:=KLET) hb.1 (show i'<36 from hb.2)).1),ht rfl⟩
    intro l3 L;have ef:((s.2.map V.int).filter (λ_=>true)).map (λv=>match v with|.int i=>.str (tx [qG KLET i])|_=>v)=((s.2.map (qG KLET)).map (λc=>tx [c])).map V.str:=by
     rw[List.filter_eq_self.mpr (λ_ _=>rfl),map_map,map_map,map_map];rfl
    rw[ef];refine⟨_,l3,(s.2.map (qG KLET)).map (λc=>tx [c]),rfl,rfl,QYX aD,?_,?_⟩
    ·rw[uH,aX,aX,oW,dC];simp;omega
    rw[oW,uG];refine⟨?_,C.trans (aA L)⟩;rw[take_succ,G,hX,hX,e];rfl
  ·rintro k b ⟨e,C⟩;intro l3 L;rw[aX,List.take_length]at e;refine q l3 (LR.map rW) _ (by rw[aX,OP]) (λa0 hz=>?_) YZ (B.free E (C.free L)) (by rw[aD,e]) ((E.same C).same (aA L)) (B.trans (.of (C.trans (aA L))));obtain⟨s,qt,rfl⟩:=Zmm.mp hz;exact SY.ky s qt
def Cr{xs:List V}(h:bC xs=true):∃zs w n hs,(∀z∈zs,isNm z)/\lP zs xs/\jZ xs w n hs/\dnW xs=w/\dnN xs=n/\Vf xs=hs:=by
 unfold bC at h;rw[Bool.and_eq_true,Bool.and_eq_true]at h;obtain⟨⟨v,H⟩,I⟩:=h;have v:=X4 v;refine yE0 (iU H) (yE2 λz i=>yA5 λA x p k G=>?_);obtain⟨n,B,l,m⟩:=mM I;have y:=kT v
 match xs,v with
 | [q,d,f],_=>
  have s:q=.str z:=A;have t:f=.int n:=B;obtain⟨a,u,o⟩:=cO (k d (by show d∈[d];simp));subst s u t;have g:i=1:=by rw[<- p,y];rfl
  rcases pE x with⟨rfl,_⟩|⟨rfl,_⟩|⟨_,e⟩|⟨_,e⟩|⟨_,e⟩|⟨_,e⟩
  ·exact⟨[a],"add",n,[],by simpa using o,.one _ a n (.inl rfl) Zs l m,.one _ a n (.inl rfl),rfl,rfl,rfl⟩
  ·exact⟨[a],"take",n,[],by simpa using o,.one _ a n (.inr rfl) Zs l m,.one _ a n (.inr rfl),rfl,rfl,rfl⟩
  all_goals (rw[g]at e;exact T7 e Zd)
 | [q,d,f,j],_=>
  have s:q=.str z:=A;have C:j=.int n:=B;obtain⟨a,u,o⟩:=cO (k d (by show d∈[d,f];simp));obtain⟨b,t,D⟩:=cO (k f (by show f∈[d,f];simp));subst s u t C;have g:i=2:=by rw[<- p,y];rfl
  have E:∀z∈[a,b],isNm z:=by simpa using ⟨o,D⟩
  rcases pE x with⟨_,e⟩|⟨_,e⟩|⟨rfl,_⟩|⟨rfl,_⟩|⟨rfl,_⟩|⟨_,e⟩
  ·rw[g]at e;exact T7 e Zd
  ·rw[g]at e;exact T7 e Zd
  ·have F:a≠b:=λe=>G Zk (by rw[e];rfl)
   exact⟨[a,b],"move",n,[],E,.move a b n Zs Zs F l m,.move a b n,rfl,rfl,by unfold Vf;exact UF rfl⟩
  ·exact⟨[a,b],"send",n,[a],E,.two _ a b n (.inl rfl) Zs Zs l m,.two _ a b n (.inl rfl),rfl,rfl,by unfold Vf;exact T8 Zk⟩
  ·exact⟨[a,b],"fetch",n,[a],E,.two _ a b n (.inr rfl) Zs Zs l m,.two _ a b n (.inr rfl),rfl,rfl,by unfold Vf;exact T8 Zk⟩
  ·rw[g]at e;exact T7 e Zd
 | [q,d,f,j,J],_=>
  have s:q=.str z:=A;have L:J=.int n:=B;obtain⟨a,u,o⟩:=cO (k d (by show d∈[d,f,j];simp));obtain⟨b,t,D⟩:=cO (k f (by show f∈[d,f,j];simp));obtain⟨c,C,M⟩:=cO (k j (by show j∈[d,f,j];simp));subst s u t C L;have g:i=3:=by rw[<- p,y];rfl
  rcases pE x with⟨_,e⟩|⟨_,e⟩|⟨_,e⟩|⟨_,e⟩|⟨_,e⟩|⟨rfl,_⟩
  ·rw[g]at e;exact T7 e Zd
  ·rw[g]at e;exact T7 e Zd
  ·rw[g]at e;exact T7 e Zd
  ·rw[g]at e;exact T7 e Zd
  ·rw[g]at e;exact T7 e Zd
  ·have F:a≠b:=λe=>G Zk (by rw[e];rfl)
   exact⟨[a,b,c],"pass",n,[a,b],by simpa using ⟨o,D,M⟩,.pass a b c n Zs Zs Zs F l m,.pass a b c n,rfl,rfl,rfl⟩
 | _::_::_::_::_::_::r,_=>
  have:=uJ x;rw[y]at p;simp at p;omega
theorem sK:∀ {bs:List (Int×Int)}{r:List V},bK r bs=true->(∀b∈bs,0<=b.1/\b.2<=1000000000000)->∃d:List Nat,r=d.map (λm:Nat=>V.int (m:Int))/\d.length=bs.length/\∀m∈d,m<=1000000000000
 | [],r,h,_=>by
  unfold bK at h;rw[Bool.and_eq_true]at h;have f:=X4 h.1
  cases r with
  | nil=>exact⟨[],rfl,rfl,λ_ h=>nomatch h⟩
  | cons x r=>cases f
 | b::bs,r,h,g=>by
  unfold bK at h;rw[Bool.and_eq_true]at h;have f:=X4 h.1
  cases r with
  | nil=>cases f
  | cons x r=>
   rw[zip_cons_cons,all_cons,Bool.and_eq_true]at h;obtain⟨a,rfl,i,j⟩:=mM h.2.1;obtain⟨d,e,l,k⟩:=sK (bs:=bs) (r:=r) (by unfold bK;rw[Bool.and_eq_true];exact⟨X2 (by simpa using f),h.2.2⟩) (λc n=>g c (fN _ n));obtain⟨o,p⟩:=g b iV;dsimp only at i j;obtain⟨m,rfl⟩:=qX (Int.le_trans o i);exact⟨m::d,by rw[e];rfl,by simp[l],Zfm.mpr ⟨Zo,k⟩⟩
theorem dY{a:Type}{u:Str}{b:a}:∀ {l:List (Str×a)},l.lookup u=some b->(u,b)∈l
 | [],h=>by cases h
 | (k,c)::l,h=>by
  rw[lookup_cons]at h;split at h
  ·rename_i e;cases h;rw[eq_of_beq e];exact iV
  ·exact fN _ (dY h)
def aBp{wd u:Str}{bs:List (Int×Int)}(c:1<=n)(d:n<=1000000000000)(h:(iZ wd n).lookup u=some bs):(u="is"∨u="short"∨u="full")/\bs.length<=2/\∀b∈bs,0<=b.1/\b.2<=1000000000000:=by
 have a:=dY h;unfold iZ at a;split at a
 ·cases a
 split at a
 ·simp only [mem_cons,Prod.mk.injEq,QZZ,or_false]at a;rcases a with⟨rfl,rfl⟩|⟨rfl,rfl⟩|⟨rfl,rfl⟩
  ·exact⟨.inl rfl,Zs,by simp;omega⟩
  ·exact⟨.inr (.inl rfl),Zs,by simp;omega⟩
  ·exact⟨.inr (.inr rfl),Zs,by simp;omega⟩
 split at a
 ·simp only [mem_cons,Prod.mk.injEq,QZZ,or_false]at a;rcases a with⟨rfl,rfl⟩|⟨rfl,rfl⟩
  ·exact⟨.inl rfl,Zs,by simp;omega⟩
  ·exact⟨.inr (.inl rfl),Zs,by simp;omega⟩
 ·simp only [mem_cons,Prod.mk.injEq,QZZ,or_false]at a;rcases a with⟨rfl,rfl⟩|⟨rfl,rfl⟩
  ·exact⟨.inl rfl,Zs,by simp;omega⟩
  ·exact⟨.inr (.inr rfl),Zs,by simp;omega⟩
def Ie{wd:Str}(e:1<=n)(f:n<=1000000000000)(g:∀z∈hs,isNm z)(h:cI wd hs n a=true):AnsIs a:=by
 match a,h with
 | .str u::r,h=>
  rw[fW]at h;by_cases b:u="no"
  ·rw[UF b]at h;subst b;match r,h with
   | [y],h=>
    obtain⟨z,rfl,i⟩:=cO (Hq g y h);exact .no z i
  ·rw[T8 b]at h;by_cases c:u="ok"
   ·rw[UF c,Bool.and_eq_true]at h;subst c;obtain rfl:r=[]:=by cases r with|nil=>rfl|cons _ _=>exact T7 h.2 Zs
    exact .nums "ok" [] (.inl rfl) Zs Zs
   ·rw[T8 c]at h;cases d:(iZ wd n).lookup u with
    | none=>rw[d]at h;cases h
    | some bs=>
     rw[d]at h;obtain⟨j,p,k⟩:=aBp e f d;obtain⟨m,rfl,l,o⟩:=sK h k;exact .nums u m (.inr j) Zo o
def aCR(h:Str):∃b:Str,isNm b/\h≠b:=by
 by_cases e:h="a"
 ·exact⟨"b",(show isNm ("b":Str) from⟨Zk,Zk,Zk⟩),by rw[e];decide +kernel⟩
 ·exact⟨"a",(show isNm ("a":Str) from⟨Zk,Zk,Zk⟩),e⟩
def aDP:isNm ("a":Str):=⟨Zk,Zk,Zk⟩
def aDQ:isNm ("b":Str):=⟨Zk,Zk,Zk⟩
def aDR:isNm ("c":Str):=⟨Zk,Zk,Zk⟩
def Lq{a:List V}(h:bI a=true):∃xs,Ek xs a:=by
 have j:=h;unfold bI at h;by_cases e:kK a=.str "no"
 ·rw[UF e]at h;match a,h,e with
  | [x,y],h,e=>
   have l:x=.str "no":=by cases x<;>first|exact e|cases e
   obtain⟨z,rfl,c⟩:=cO (show dR y=true from h);subst l;obtain⟨b,m,o⟩:=aCR z;obtain⟨d,f,g,_⟩:=Vz (zs:=[z,b]) (by simpa using ⟨c,m⟩) (.pass z b b 1 Zs Zs Zs o Zd Zd) (.pass z b b 1);exact⟨_,.no z c,j,_,_,d,f,by rw[fW,UF rfl,g];show decide (z∈[z,b])=true;simp⟩
 ·rw[T8 e,any_eq_true]at h;obtain⟨q,i,h⟩:=h;have c:∀z∈[("a":Str),"b","c"],isNm z:=by simpa using ⟨aDP,aDQ,aDR⟩
  have go:∀ {w:Str}{n:Int}{xs:List V},lP ["a","b","c"] xs->jZ xs w n (uO w)->cI w (uO w) n a=true->∃xs,Ek xs a:=λ{w n xs} p r k=>by
   obtain⟨d,f,g,s,t,u⟩:=Vz c p r;exact⟨xs,Ie s t u k,j,w,n,d,f,by rw[g];exact k⟩
  unfold WID at i;simp only [mem_cons,QZZ,or_false]at i;rcases i with rfl|rfl|rfl|rfl|rfl
  ·exact go (.one "add" "a" 1 (.inl rfl) Zs Zd Zd) (.one "add" "a" 1 (.inl rfl)) h
  ·exact go (.one "take" "a" 1 (.inr rfl) Zs Zd Zd) (.one "take" "a" 1 (.inr rfl)) h
  ·exact go (.move "a" "b" 1 Zs Zs Zk Zd Zd) (.move "a" "b" 1) h
  ·exact go (.move "a" "b" 1000000000000 Zs Zs Zk Zd Zd) (.move "a" "b" 1000000000000) h
  ·exact go (.pass "a" "b" "c" 1 Zs Zs Zs Zk Zd Zd) (.pass "a" "b" "c" 1) h
def Wj{lo b:Int}{v:V}(d:0<=lo)(h:aQ lo b v=true):∃n:Nat,v=.int (n:Int)/\lo<=n/\(n:Int)<=b:=by
 obtain⟨a,rfl,c,e⟩:=mM h;obtain⟨m,rfl⟩:=qX (Int.le_trans d c);exact⟨m,rfl,c,e⟩
def Wk:BDS.lookup ("next":Str)=some [.int 1,.int 1000000]:=by decide +kernel
def nZ:BDS.lookup ("number":Str)=some [.int 1,.int 999999]:=by decide +kernel
def tR:BDS.lookup ("turn":Str)=some [.int 0,.int 1000000000000]:=by decide +kernel
def Lr:BDS.lookup ("amount":Str)=some [.int 1,.int 1000000000000]:=by decide +kernel
def Ig:BDS.lookup ("name":Str)=none:=by decide +kernel
def Sd:BDS.lookup ("key":Str)=none:=by decide +kernel
def Ih:BDS.lookup ("deed":Str)=none:=by decide +kernel
def xG:BDS.lookup ("answer":Str)=none:=by decide +kernel
def eF{kd:Str}(b:BDS.lookup kd=some [.int lo,.int a])(c:0<=lo)(h:bZ (.str kd) p=true):∃n:Nat,p=.sc (.int (n:Int))/\lo<=n/\(n:Int)<=a:=by
 unfold bZ at h;cases p with
 | sc v=>
  dsimp only at h;rw[b]at h;obtain⟨n,rfl,d,e⟩:=Wj c h;exact⟨n,rfl,d,e⟩
 | tp f=>dsimp only at h;rw[b]at h;cases h
def rP(h:bZ (.str "name") p=true):∃z,p=.sc (.str z)/\isNm z:=by
 unfold bZ at h;cases p with
 | sc v=>
  dsimp only at h;rw[Ig]at h;dsimp only at h;rw[UF rfl]at h;obtain⟨z,rfl,a⟩:=cO h;exact⟨z,rfl,a⟩
 | tp b=>dsimp only at h;rw[Ig]at h;dsimp only at h;rw[UF rfl]at h;cases h
def Cs(h:bZ (.str "key") p=true):∃z,p=.sc (.str z)/\isKy z:=by
 unfold bZ at h;cases p with
 | sc v=>
  dsimp only at h;rw[Sd]at h;dsimp only at h;rw[T8 Zk,UF rfl]at h
  cases v with
  | str z=>
   rw[cC,Bool.and_eq_true,Bool.and_eq_true]at h;obtain⟨⟨a,b⟩,d⟩:=h;have a:=X4 a;have b:=X4 b;exact⟨z,rfl,Zo,Zo,λc e=>X4 (all_eq_true.mp d c e)⟩
  | _=>cases h
 | tp f=>dsimp only at h;rw[Sd]at h;dsimp only at h;rw[T8 Zk,UF rfl]at h;cases h
def xH(h:bZ (.str "deed") p=true):∃xs,p=.tp xs/\bC xs=true:=by
 unfold bZ at h;cases p with
 | sc v=>dsimp only at h;rw[Ih]at h;dsimp only at h;rw[T8 Zk,T8 Zk]at h;cases h
 | tp xs=>dsimp only at h;rw[Ih]at h;dsimp only at h;rw[T8 Zk,T8 Zk,UF rfl]at h;exact⟨xs,rfl,h⟩
def Ct(h:bZ (.str "answer") p=true):∃xs,p=.tp xs/\bI xs=true:=by
 unfold bZ at h;cases p with
 | sc v=>dsimp only at h;rw[xG]at h;dsimp only at h;rw[T8 Zk,T8 Zk]at h;cases h
 | tp xs=>dsimp only at h;rw[xG]at h;dsimp only at h;rw[T8 Zk,T8 Zk,T8 Zk]at h;exact⟨xs,rfl,h⟩
def Cu(h:bC xs=true):DeedG xs:=by
 obtain⟨c,w,n,d,a,b,_⟩:=Cr h;exact Xu a b
def Ls(b:bC xs=true)(c:bI a=true)(h:cI (dnW xs) (Vf xs) (dnN xs) a=true):Ek xs a:=by
 refine yE0 (Cr b) (yE4 λr w n s=>yA6 λd e f g i j=>?_);rw[g,i,j]at h;obtain⟨k,l,m,o,p,q⟩:=Vz d e f;exact⟨Ie o p q h,c,w,n,k,l,by rw[m];exact h⟩
def aBq{ps:List RP}(h:dU ps=true):RowIs ps:=by
 unfold dU at h;split at h
 ·rename_i wd r
  cases q:PTS.lookup wd with
  | none=>rw[q]at h;cases h
  | some E=>
   rw[q]at h;dsimp only at h;rw[Bool.and_eq_true,Bool.and_eq_true]at h;obtain⟨⟨d,B⟩,s⟩:=h;have d:=X4 d;have u:=dY q;unfold PTS at u;simp only [mem_cons,Prod.mk.injEq,QZZ,or_false]at u;have a:=all_eq_true.mp B;rcases u with⟨rfl,rfl⟩|⟨rfl,rfl⟩|⟨rfl,rfl⟩|⟨rfl,rfl⟩|⟨rfl,rfl⟩|⟨rfl,rfl⟩
   ·obtain⟨b,c,rfl⟩:=ln2 d
    obtain⟨n,rfl,i,j⟩:=eF Wk Zd (a (.str "next",b) Zs);obtain⟨t,rfl,l,m⟩:=eF tR Zd (a (.str "turn",c) Zs);exact .next n t Zo Zo Zo
   ·obtain⟨b,c,rfl⟩:=ln2 d
    obtain⟨z,rfl,f⟩:=rP (a (.str "name",b) Zs);obtain⟨t,rfl,l,m⟩:=eF Lr Zd (a (.str "amount",c) Zs);exact .has z t f Zo Zo
   ·refine yE0 (ln6 d) (yE6 λb c g v x C ζ=>?_);subst ζ
    obtain⟨n,rfl,i,j⟩:=eF nZ Zd (a (.str "number",b) Zs);obtain⟨t,rfl,l,m⟩:=eF tR Zd (a (.str "turn",c) Zs);obtain⟨z,rfl,f⟩:=rP (a (.str "name",g) Zs);obtain⟨k,rfl,y⟩:=Cs (a (.str "key",v) Zs);obtain⟨e,rfl,o⟩:=xH (a (.str "deed",x) Zs);obtain⟨p,rfl,A⟩:=Ct (a (.str "answer",C) Zs);have s:Hw (.tp e) (.tp p)=true:=by simpa using s
    exact .kept n t z k e p Zo Zo Zo f y (Cu o) (Ls o A s)
   ·obtain⟨b,c,g,v,x,rfl⟩:=ln5 d
    obtain⟨n,rfl,i,j⟩:=eF nZ Zd (a (.str "number",b) Zs);obtain⟨t,rfl,l,m⟩:=eF tR Zd (a (.str "turn",c) Zs);obtain⟨z,rfl,f⟩:=rP (a (.str "name",g) Zs);obtain⟨k,rfl,y⟩:=Cs (a (.str "key",v) Zs);obtain⟨e,rfl,o⟩:=xH (a (.str "deed",x) Zs);exact .came n t z k e Zo Zo Zo f y (Cu o)
   ·obtain⟨b,rfl⟩:=ln1 d
    obtain⟨n,rfl,i,j⟩:=eF nZ Zd (a (.str "number",b) Zs);exact .asked n Zo Zo
   ·obtain⟨b,c,g,rfl⟩:=ln3 d
    obtain⟨n,rfl,i,j⟩:=eF nZ Zd (a (.str "number",b) Zs);obtain⟨t,rfl,l,m⟩:=eF tR Zd (a (.str "turn",c) Zs);obtain⟨p,rfl,A⟩:=Ct (a (.str "answer",g) Zs);obtain⟨e,D⟩:=Lq A;exact .done n t e p Zo Zo Zo D
 ·cases h
def Wl{ps:List RP}(h:eW zs=some ps):RowIs ps:=by
 unfold eW at h;split at h
 ·rename_i e;cases h;exact aBq e
 ·cases h
def Ab(z:Str):jw [z]=z:=by
 rw[oK];show tx z.cps.toList=z;exact lY z
def Wm(p:RP):Str:=jw (pC p)
def RPok.len(h:RPok p):(Wm p).length<=70:=by
 cases p with
 | sc v=>
  show(jw [cW v]).length<=70;rw[Ab];exact iB (FlatS.len h) Zd
 | tp a=>
  have:=Qi (ws:=a.map cW) (k:=13) λp b=>by
   obtain⟨y,c,rfl⟩:=Zmm.mp b;exact(h.2 y c).len
  rw[aX]at this;have d:=h.1.2;show(jw (a.map cW)).length<=70;omega
def qT(n:Nat):Sp:=λc H Q _=>∃p a ps,c=[.ref p]/\(H p=some (.lst a)∨H p=some (.tup a))/\Paired (PAt H) ps a/\ps.length<=10/\(∀p∈ps,RPok p)/\(n=0->∀p∈ps,∃v,p=.sc v)/\∀b,Same H b->Q (.str (jw (ps.map Wm))) b
def scP{H:Hp}:∀(xs:List V),Paired (PAt H) (xs.map RP.sc) xs
 | []=>.nil
 | x::r=>.cons rfl (scP r)
def oR(T:Txt K mg)(D:DefAt K mg "shown_parts" dA QZO)(n k:Nat)(sp:Sp)(A:0<n->sp=qT 0)(B:Callee P w K mg base (k+1) "shown_parts" QZO sp):Callee P w K mg base (k+2) "shown_parts" QZO (qT n):=by
 refine D.gg mV (λa3 cdv a4 outer a5 a0 vs a6 a7 C h=>?_)
 ·revert h;refine yE3 λp E ps=>yA7 λζ s t hl u F a1=>?_;subst ζ;have G:=C;refine⟨_,(mq (mr (ua (K:=K) PySem.F.plainAttrs_str PySem.F.slot_str_join PySem.F.type_str_join (S6 (K:=K)) mn (f8 (uf rfl (js:=[none]) (N:=["part"]) (CompScope.by (aE dA) QZO rfl rfl Zk) (aY rfl) (R.gi (K:=K) (lf 0)) (λa8 s₂ H₂ fp=>⟨(qi (i:=0) (show(["part"]:List Str).Nodup by decide +kernel)),ug,(R.je (qm (tq .tup (lf 0) rfl T.b_isinstance rfl T.b_tuple bW)) (mv (hk:=cE _) B G rfl (f8 (lf 0) li)) (wg R.fo rfl T.b_str iC (f8 (lf 0) li)))⟩)) li)))),?_⟩;have H:ps.length=E.length:=t.length;refine⟨rfl,p,rfl,aA1 s λa9 W I J=>?_⟩;refine bN I Zo (λj c d=>c=((ps.take j).map Wm).map V.str/\Same a0 d) (λj c d ⟨e,a⟩=>⟨J d (by rcases s with h|h<;>rw[h,a _ _ h]),by rw[e,aX,aX,fM];omega⟩) ⟨rfl,Same.refl _⟩ (λj a2 c d L ⟨e,a⟩=>?_) (λc d ⟨e,a⟩=>?_)
  ·obtain⟨M,O⟩:=Zgs.mp L;obtain⟨x,o⟩:=Paired.get' (j:=j) t M;rw[O]at o;have r:ps[j]∈ps:=getElem_mem x;have key:∀z:Str,z=Wm ps[j]->((ps.take (j+1)).map Wm).map V.str=c++[.str z]:=λz q=>by
    rw[Dc,kO x,hX,hX,e,q];rfl
   have m:=u _ r;generalize SM:ps[j]=Q at o m key r;cases Q with
   | sc v=>
    have:a2=v:=o;subst this;rcases m with⟨z,rfl,q⟩|⟨b0,rfl,y7⟩
    ·refine⟨.str,trivial,?_⟩;exact⟨(key z (Ab _).symm).symm,a⟩
    ·refine⟨.int,trivial,?_⟩;exact⟨⟨Zo,Int.lt_of_le_of_lt (b:=1000000000000) Zo Zd⟩,(key _ (Ab _).symm).symm,a⟩
   | tp f=>
    obtain⟨b,rfl,S⟩:=o;have U:0<n:=by
     cases n with
     | zero=>obtain⟨v,e⟩:=F rfl _ r;cases e
     | succ n=>exact Nat.succ_pos _
    have y:=a _ _ S;refine⟨.tup,⟨_,y⟩,?_⟩;rw[A U];refine⟨b,f,f.map RP.sc,rfl,.inr y,scP f,by rw[aX];have:=m.1.2;omega,λp g=>?_,(λ_ p g=>by obtain⟨v,_,rfl⟩:=Zmm.mp g;exact⟨v,rfl⟩),λH2 X=>⟨?_,a.trans X⟩⟩
    ·obtain⟨v,Y,rfl⟩:=Zmm.mp g;exact m.2 v Y
    ·refine(key _ ?_).symm;show jw ((f.map RP.sc).map Wm)=jw (f.map cW)
     congr 1
     rw[map_map];exact map_congr_left λv _=>Ab _
  ·rw[<- H,qU (cE _)]at e;intro l Z;refine⟨_,l,ps.map Wm,rfl,rfl,QYX (by rw[aD,e]),?_,?_⟩
   ·have h1:=zX (k:=70) (ps.map Wm) λz q=>by
     obtain⟨p',g,rfl⟩:=Zmm.mp q;exact(u p' g).len
    have e3:(" ":Str).length=1:=by decide +kernel
    rw[aX]at h1;rw[e3,aX];omega
   ·have h:=a1 (aH d l (.lst c)) (a.trans (aA Z));unfold jw at h;rw[<- kH]at h;exact h
def Fq(T:Txt K mg)(D:DefAt K mg "shown_parts" dA QZO):Callee P w K mg base 3 "shown_parts" QZO (qT 1):=
 oR T D 1 1 (qT 0) (λ_=>rfl) (oR T D 0 0 (λ_ _ _ _=>False) (λh=>T7 h Zd) (D.go mV (λ_ _ _ _ h=>h.elim) (λ_ _ _ _ _ _ _ _ _ _ h=>h.elim)))
def RPok.ne(h:RPok p):pC p≠[]:=by
 cases p with
 | sc v=>simp[pC]
 | tp b=>
  have:=h.1.1;intro e;have a:b.map cW=[]:=e;rw[List.map_eq_nil_iff]at a;rw[a]at this;exact T7 this Zd
def Ii{ps:List RP}(h:∀p∈Mc ps,RPok p):cG ps=jw ((Mc ps).map Wm):=by
 unfold cG jH;rw[<- Uz _ (λc a=>by
  obtain⟨p,b,rfl⟩:=Zmm.mp a;exact(h p b).ne),map_map]
 rfl
def RowIs.plain{ps rest:List RP}{wd:Str}(h:RowIs ps)(e:ps=.sc (.str wd)::rest)(c:wd≠"kept"):Mc ps=ps:=by
 cases h with
 | kept n t a k d f g i j l m o p=>
  have b:=(List.cons.inj e).1;injection b with b
  injection b with b
  exact T7 b.symm c
 | _=>rfl
def aCS:RPok (.sc (.str "=")):=.inl ⟨_,rfl,Zk⟩
def Wn(T:Txt K mg)(C:Callee P w K mg base 3 "shown_parts" QZO (qT 1))(D:DefAt K mg "shown_row" jM QZQ):Callee P w K mg base 4 "shown_row" QZQ vC:=by
 refine D.gg qM (λa2 cdv a3 outer a4 H b a5 a6 E h=>?_)
 ·revert h;refine yE2 λa7 ps=>yA4 λζ F g q=>?_;subst ζ;refine⟨_,(mm (o0 (i:=1) qM.nd (wg (R.jg (K:=K)) rfl T.b_list nE (f8 (lf 0) li))) (mm (qa (pr qf (qe K 0) mn) (mq (AT (ua (K:=K) PySem.F.plainAttrs_list PySem.F.slot_list_insert PySem.F.type_list_insert R.gk (lf 1) (f8 mh (f8 mn li))))) qb) (mq (mr (mv C E rfl (f8 (lf 1) li)))))),?_⟩;refine yE0 g.split (yE2 λscs tts S=>?_);refine yE0 (RowAt.tg F g) (yE5 λwd ks rest _ b=>yA9 λd hl x _ a G lk l6=>yA2 λtg hw=>?_);have k:Paired (PAt H) ps (.str wd::b):=by rw[d];exact .cons rfl a
  refine⟨_,.inr (QYY x),λl y=>?_⟩;dsimp only [aK];have f:=aA (o:=.lst (.str wd::b)) y;have g1:(aH H l (.lst (.str wd::b))) l=some (.lst (.str wd::b)):=aD;generalize aH H l (.lst (.str wd::b))=m at f g1 ⊢;have I:H l=none:=y;refine⟨_,QYY (f _ _ x),_,(show eK (V.str wd::b) ((0:Nat):Int)=some (.str wd) from aL rfl),?_⟩;show if decide (wd="kept")=true then _ else _
  refine aV (λn=>?_) (λn=>?_)
  ·have J:=X4 n;refine yE0 (g.kept_of d J) (yE6 λa0 a1 L M N O=>yA3 λj hd ha=>?_);refine⟨.inl ⟨rfl,_,QYX g1⟩,l,.str wd::b,6,.str "=",rfl,rfl,g1,by rw[eJ,<- lk,G.length,j];simp,by rw[eJ];omega,?_⟩;have r:Same H (aH m l (.lst (qI (V.str wd::b) 6 (.str "=")))):=λa8 o e=>by rw[aJ (aF e I)];exact f _ _ e
   have g2:(aH m l (.lst (qI (V.str wd::b) 6 (.str "=")))) l=some (.lst (qI (V.str wd::b) 6 (.str "="))):=aD;dsimp only [aT];generalize aH m l (.lst (qI (V.str wd::b) 6 (.str "=")))=Q at r g2 ⊢;have s:Mc ps=[.sc (.str wd),.sc (.int a0),.sc (.int a1),.sc (.str L),.sc (.str M),.tp N,.sc (.str "="),.tp O]:=by rw[d,j];rfl
   have z:∀p∈Mc ps,RPok p:=λp t=>by
    rw[s]at t;have c:=RowS.ok S;rw[d,j]at c;simp only [mem_cons,QZZ,or_false]at t;rcases t with rfl|rfl|rfl|rfl|rfl|rfl|rfl|rfl
    ·exact c _ Zs
    ·exact c _ Zs
    ·exact c _ Zs
    ·exact c _ Zs
    ·exact c _ Zs
    ·exact c _ Zs
    ·exact aCS
    ·exact c _ Zs
   have U:Paired (PAt Q) (Mc ps) (qI (V.str wd::b) 6 (.str "=")):=by
    rw[s];rw[j]at a;have W:=Paired.map' (λ_ _=>PAt.same r) a;clear a k;cases W with
    | cons X a=>cases a with
     | cons Y a=>cases a with
      | cons Z a=>cases a with
       | cons p4 a=>cases a with
        | cons p5 a=>cases a with
         | cons p6 a=>cases a with
          | nil=>exact .cons rfl (.cons X (.cons Y (.cons Z (.cons p4 (.cons p5 (.cons rfl (.cons p6 .nil)))))))
   refine⟨l,_,Mc ps,rfl,.inl g2,U,by rw[s];simp,z,(λh=>T7 h Zd),λu v=>?_⟩;rw[<- Ii z];exact q u (r.trans v)
  ·dsimp only [aT];have A:=RowIs.plain g d (X3 n);have ZC:∀p∈Mc ps,RPok p:=by rw[A];exact RowS.ok S
   refine⟨l,_,ps,rfl,.inl g1,Paired.map' (λ_ _=>PAt.same f) k,by rw[k.length,eJ];omega,RowS.ok S,(λh=>T7 h Zd),λu v=>?_⟩;have B:=Ii ZC;rw[A]at B;rw[<- B];exact q u (f.trans v)
def Cv:Sp:=λc H Q _=>∃a ps,c=[.ref a]/\RowAt H a ps/\RowIs ps/\∀b,Same H b->Q (.str (cG ps++tx [10])) b
def Fs(T:Txt K mg)(c:Callee P w K mg base 4 "shown_row" QZQ vC)(D:DefAt K mg "line_of" nO QZQ):Callee P w K mg base 5 "line_of" QZQ Cv:=by
 refine D.gg Ey (λf k A j s H m Q E d h=>?_)
 ·revert h;refine yE2 λa ps=>yA4 λζ e b q=>?_;subst ζ;refine⟨_,(mq (mr (nw wx (mv c d rfl (f8 (lf 0) li)) mn))),?_⟩;obtain⟨scs,l,S⟩:=b.split;have n:=S.len;refine⟨a,ps,rfl,e,b,λg i=>⟨dD ?_,?_⟩⟩
  ·have:("\n":Str).length=1:=by decide +kernel
   omega
  ·rw[Hh];exact q g i
structure JT(K:W.Frag)(C:WP):Prop where
 cl:Cls K C
 nW:NoAttr K C "written"
 nS:NoAttr K C "safe_count"
def jf(a:WP)(n:Int):List (Str×V):=[("written",.ref a),("safe_count",.int n)]
def aBr(a:WP)(n:Int):(jf a n).lookup ("written":Str)=some (.ref a):=by unfold jf;rw[lookup_cons];simp
def aDS(a:WP)(n:Int):(jf a n).lookup ("safe_count":Str)=some (.int n):=by
 unfold jf;rw[lookup_cons,(by decide +kernel:(("safe_count":Str)==("written":Str))=false)];simp
def Ij(C:WP):Sp:=λc H Q _=>∃(x a d:WP)(n:Int)(b:List V)(v:V),c=[.ref x,v]/\H x=some (.ins C d (jf a n))/\H a=some (.lst b)/\b.length<=1000/\Q .non (aH H a (.lst (b++[v])))
def Ik(C:WP):Sp:=λc H Q _=>∃(x a d:WP)(n:Int)(b:List V),c=[.ref x]/\H x=some (.ins C d (jf a n))/\H a=some (.lst b)/\∀l,H l=none->Q (.ref l) (aH H l (.lst b))
def Il(C:WP):Sp:=λe H Q _=>∃(x b f:WP)(n:Int)(c:List V)(a:List (List RP)),e=[.ref x]/\H x=some (.ins C f (jf b n))/\H b=some (.lst c)/\RowsV H a c/\a.length<=100/\∀d,Same H d->Q (.str (Hi a)) d
def Se(C:WP):Sp:=λa H Q _=>∃(x b c:WP)(n:Int),a=[.ref x]/\H x=some (.ins C c (jf b n))/\Q (.int n) H
def Sf(B:JT K C)(D:MethAt K C "write" "Journal.write" eG QZw):Jy P w K mg base 1 C "write" QZw (Ij C):=by
 refine D.gg rN (λf j A i s H k Q E l h=>?_)
 ·revert h;refine yE6 λx a c n d v=>yA5 λζ e b g q=>?_;subst ζ;refine⟨_,(mq (AT (ua (K:=K) PySem.F.plainAttrs_list PySem.F.slot_list_append PySem.F.type_list_append PP (R.dy (K:=K) (lf 0)) (f8 (lf 1) li)))),?_⟩;refine⟨C,c,_,.ref a,e,B.cl,B.nW,aBr a n,.inl ⟨rfl,_,QYX b⟩,a,d,v,rfl,rfl,b,Ly g Zd,q⟩
def Sg{C:WP}(T:Txt K mg)(B:JT K C)(D:MethAt K C "rows" "Journal.rows" fG QZU):Jy P w K mg base 1 C "rows" QZU (Ik C):=by
 refine D.gg sR (λf g A e s H i Q E j h=>?_)
 ·revert h;refine yE5 λx a b n k=>yA4 λζ c d q=>?_;subst ζ;refine⟨_,(mq (mr (wg (R.jg (K:=K)) rfl T.b_list nE (f8 (R.dy (K:=K) (lf 0)) li)))),?_⟩;exact⟨C,b,_,.ref a,c,B.cl,B.nW,aBr a n,_,.inl (QYX d),q⟩
def Wo(B:JT K C)(D:MethAt K C "safe" "Journal.safe" fH QZU):Jy P w K mg base 1 C "safe" QZU (Se C):=by
 refine D.gg sV (λf e A d s H g Q E i h=>?_)
 ·revert h;refine yE4 λx a b n=>yA3 λζ c q=>?_;subst ζ;refine⟨_,(mq (mr (R.dy (K:=K) (lf 0)))),?_⟩;exact⟨C,b,_,.int n,c,B.cl,B.nS,aDS a n,q⟩
def Cw{a:List (List RP)}(h:∀ps∈a,RowIs ps):((a.map λps=>cG ps++tx [10]).map (·.length)).sum<=251*a.length:=by
 have:=zX (k:=251) (a.map λps=>cG ps++tx [10]) λp b=>by
  obtain⟨ps,c,rfl⟩:=Zmm.mp b;obtain⟨scs,d,S⟩:=(h ps c).split;have f:=S.len;have e:(cG ps++tx [10]).length=(cG ps).length+1:=by
   have:∀z:Str,z.length=z.cps.toList.length:=λz=>by simp[Str.length]
   rw[this,gC,gQ,<- this];rfl
  rw[e];omega
 simpa using this
def Sh{C:WP}(T:Txt K mg)(B:JT K C)(t:Callee P w K mg base 5 "line_of" QZQ Cv)(D:MethAt K C "text" "Journal.text" dI QZU):Jy P w K mg base 6 C "text" QZU (Il C):=by
 refine D.gg sU (λf U A M a0 H W a1 a2 u h=>?_)
 ·revert h;refine yE6 λa3 g v n o m=>yA6 λζ x p k O q=>?_;subst ζ;refine⟨_,(mq (mr (ua (K:=K) PySem.F.plainAttrs_str PySem.F.slot_str_join PySem.F.type_str_join (S6 (K:=K)) mn (f8 (uf rfl (js:=[none]) (N:=QZQ) (CompScope.by (aE dI) QZU rfl rfl Zk) (aY rfl) (FM (K:=K) (R.dy (K:=K) (lf 0))) (λC Q S X=>⟨(qi (i:=0) (show(QZQ:List Str).Nodup by decide +kernel)),ug,(mv t u rfl (f8 (lf 0) li))⟩)) li)))),?_⟩;have y:m.length=o.length:=k.1.length;refine⟨rfl,C,v,_,.ref g,x,B.cl,B.nW,aBr g n,g,rfl,⟨_,QYX p⟩,?_⟩;refine bN (dX K g o) Zo (λj c d=>c=((m.take j).map λps=>cG ps++tx [10]).map V.str/\Same H d) (λj c d ⟨e,b⟩=>⟨QYX (b _ _ p),by rw[e,aX,aX,fM];omega⟩) ⟨rfl,Same.refl _⟩ (?_) (?_)
  ·rintro j a4 c d z ⟨e,b⟩;obtain⟨E,F⟩:=Zgs.mp z;obtain⟨r,a,s,G⟩:=Paired.get' (j:=j) k.1 E;rw[F]at s;subst s;refine⟨a,_,rfl,G.same b,k.2 _ (getElem_mem r),λY I=>⟨?_,b.trans I⟩⟩;rw[Dc,kO r,hX,hX,e];rfl
  rintro c d ⟨e,b⟩;rw[<- y,qU (cE _)]at e;intro l J;refine⟨_,l,m.map λps=>cG ps++tx [10],rfl,rfl,QYX (by rw[aD,e]),?_,?_⟩
  ·have Z:=Cw k.2;have L:("":Str).length=0:=by decide +kernel
   rw[L];omega
  ·have h:=q (aH d l (.lst c)) (b.trans (aA J));unfold Hi at h;rw[<- oW]at h;exact h
structure WL(zs:List Str):Prop where
 ne:zs≠[]
 sp:∀p∈zs,32∉p.cps.toList
 len:(jw zs).length<=260
 nl:10∉(jw zs).cps.toList
def Md(a:List (List Str))(z:Str):Str:=Txt.join (tx [10]) (a.map jw++[z])
def Lu(h:∀zs∈a,WL zs)(b:10∉z.cps.toList):Txt.split (Md a z) (tx [10])=a.map jw++[z]:=by
 refine rV Zs λp c=>?_;rcases Zma.mp c with q|q
 ·obtain⟨zs,d,rfl⟩:=Zmm.mp q;exact(h zs d).nl
 ·rw[Zms.mp q];exact b
def Wp{a fI:WP}(XA:aCG K a "line")(D:InitAt K fI "NoJournal.__init__" bF QZt):rM P w K mg base 1 a fI "line":=by
 refine D.goH lR rfl (λd A c s H f Q g h=>?_);revert h;refine yE3 λe t v=>yA3 λζ b q=>?_;subst ζ;exact⟨_,(mq (R.gh (K:=K) (lf 0) (lf 1))),a,t,b,XA,q⟩
def Im(f:WP):Sp:=λg H Q E=>∃b z,g=[.str (Md b z)]/\(∀h∈b,WL h)/\10∉z.cps.toList/\(Md b z).length<=100000/\b.length<=63 ∧
 (∀c,b.map eW=c.map some->∀l d a,H l=none->Same H a->a l=some (.lst d)->RowsV a c d->Q (.ref l) a) ∧
 (∀i:Nat,(b.map eW)[i]?=some none->(∀m,m<i->(b.map eW)[m]?≠some none)->∀e a,Same H a->a e=some (.xd [("line",.int (i:Int))])->E (.ref f) (some e) a)
def Si{CR F fI:WP}(T:Txt K mg)(kl:mg "NoRow"=some (.ref CR))(xm:W.exmOne K (.ref CR) (.ref CR)=some true)(oo:XClsI K mg "NoJournal" F fI)(ou:rM P w K mg base 1 F fI "line")(rn:iK P w K mg base 8 "read_row" QZW (Cn CR))(D:DefAt K mg "rows_of" nP QZW):iK P w K mg base 9 "rows_of" QZW (Im F):=by
 refine D.ggX lJ (λa4 cdv a5 outer a6 a0 d a7 a8 U h=>?_)
 ·revert h;refine yE2 λb z=>yA7 λζ X hz hlen ZD qy qn=>?_;subst ζ;have km:RoomH 2 _:=(U.mono (by decide:2<=8)).toH;refine⟨_,(mm (o0 (i:=1) lJ.nd (qk li)) (mm (IN Ki rfl (R.eg (K:=K) rfl T.b_enumerate (ql (ut (K:=K)) (ua (K:=K) PySem.F.plainAttrs_str PySem.F.slot_str_split PySem.F.type_str_split R.cz (lf 0) (f8 mn li)) re (qh (wt mh)))) (K3 (K:=K) (n:=2) rfl (wu (qi (i:=2) lJ.nd) (wu (qi (i:=3) lJ.nd) NE))) (mq (R.ij (K:=K) kl rfl Bu (λpn Ex=>(mq (AT (ua (K:=K) PySem.F.plainAttrs_list PySem.F.slot_list_append PySem.F.type_list_append PP (lf 1) (f8 (R.fm rn U rfl kU (f8 (lf 3) li)) li)))))
   (λok a=>(mq (R.ik oo ou km (Kr a ok) rfl (f8 (lf 2) li))))))) (mq (mr (lf 1))))),?_⟩
  refine⟨eY rfl,λl t=>?_⟩;dsimp only [aK];have H:=aA (o:=.lst []) t;have g1:(aH a0 l (.lst [])) l=some (.lst []):=aD;generalize aH a0 l (.lst [])=u at H g1 ⊢;refine⟨rfl,Zk,hlen,λI Y=>⟨_,QYX aD,λp J=>?_⟩⟩;rw[Hh,Lu X hz]at J ⊢;have ec:cP ((b.map jw++[z]).map V.str) none (some (-1))=(b.map jw).map V.str:=by
   rw[hX];exact uK _ _
  have v:Same u (aH (aH u I (.lst ((b.map jw++[z]).map V.str))) p (.lst (cP ((b.map jw++[z]).map V.str) none (some (-1))))):=(aA Y).trans (aA J);have g3:(aH (aH u I (.lst ((b.map jw++[z]).map V.str))) p (.lst (cP ((b.map jw++[z]).map V.str) none (some (-1))))) p=some (.lst ((b.map jw).map V.str)):=by rw[aD,ec]
  generalize hG:aH (aH u I (.lst ((b.map jw++[z]).map V.str))) p (.lst (cP ((b.map jw++[z]).map V.str) none (some (-1))))=H3 at v g3;clear hG;have n3:l≠p:=by
   intro e;have:=aA (o:=.lst ((b.map jw++[z]).map V.str)) Y _ _ g1;rw[e,J]at this;cases this
  refine⟨_,QYX g3,?_⟩;refine uM (λi E x=>∃(L M:Option V)(d:List V)(f:List (List RP)),E=[some (.str (Md b z)),some (.ref l),L,M]/\x l=some (.lst d)/\(b.take i).map eW=f.map some/\RowsV x f d/\(∀c o,H3 c=some o->c≠l->x c=some o))
   (λi E x ⟨_,_,_,_,_,_,_,_,k⟩=>QYX (k _ _ g3 n3.symm)) ⟨_,_,[],[],rfl,v _ _ g1,rfl,⟨.nil,λ_ h=>nomatch h⟩,λ_ _ e _=>e⟩ ?_ ?_
  ·rintro i a9 E G a1 q ⟨L,M,d,f,rfl,A,g,r,k⟩ ht;rw[jF,jF]at q;cases j:b[i]? with
   | none=>rw[j]at q;cases q
   | some m=>
    rw[j]at q;cases q;have W:=X m (sW j);have B:=aA (o:=.tup [.int (i:Int),.str (jw m)]) ht;refine⟨a1,_,rfl,QYY aD,rfl,_,_,rfl,_,_,rfl,rfl,?_⟩;dsimp only [aK];generalize aH G a1 (.tup [.int (i:Int),.str (jw m)])=G1 at B ⊢;have ZE:i<b.length:=(Zgs.mp j).1;have lps:f.length=i:=by
     have:=congrArg length g;simp only [aX,fM]at this;omega
    have Z:=aBm W.ne W.sp;refine⟨.inl ⟨rfl,_,QYX (B _ _ A)⟩,m,rfl,W.ne,W.sp,iB W.len Zd,λps N _ _ a O Q ra=>?_,λN O Q=>⟨xm,rfl,λea QY=>?_⟩⟩
    ·have S:=B.trans Q;have S9:=S _ _ A;have lv:d.length<=63:=by rw[<- r.1.length];omega
     refine⟨l,d,.ref a,rfl,rfl,S9,Ly lv Zd,?_⟩;have tk:TK O (aH O l (.lst (d++[.ref a]))):=λc xs e=>by
      rw[aJ (λz=>by rw[z,S9]at e;cases e)];exact e
     have xl:eW m=some ps:=Z▸N;refine⟨_,_,d++[.ref a],f++[ps],rfl,aD,?_,⟨?_,λa3 C=>?_⟩,λc o e hc=>?_⟩
     ·rw[Dc,j,hX,g,hX];show _++[eW m]=_;rw[xl];rfl
     ·exact Paired.snoc ((r.same S).tk tk).1 ⟨a,rfl,ra.tk tk⟩
     ·rcases Zma.mp C with y|y
      ·exact r.2 a3 y
      ·rw[Zms.mp y];exact Wl xl
     ·rw[aJ hc];exact S _ _ (k _ _ e hc)
    ·have s6:=aA (o:=.ext (Kq ea)) QY;refine⟨.int (i:Int),rfl,aD,λdx hd=>?_⟩;have s7:=aA (o:=.xd [("line",.int (i:Int))]) hd;refine qn i ?_ (λa2 hm e=>?_) dx _ (λc o e=>s7 _ _ (s6 _ _ (Q _ _ (B _ _ (k _ _ (v _ _ (H _ _ e)) (aF e t)))))) aD
     ·rw[jF,j,<- N,Z];rfl
     ·have s:((b.take i).map eW)[a2]?=some none:=by
       rw[jF,List.getElem?_take_of_lt hm,<- jF];exact e
      rw[g,jF]at s;cases C:f[a2]? with
      | none=>rw[C]at s;cases s
      | some y=>rw[C]at s;cases s
  ·refine λE G=>yE4 λL M d f=>yA5 λζ A g r k=>?_;subst ζ;rw[aX,aX,qU (cE _)]at g;exact qy f g l d G t (λc o e=>k _ _ (v _ _ (H _ _ e)) (aF e t)) A r
def aCT(C j:WP):Sp:=λk H Q E=>∃(p f:WP)(b:List (List Str))(z:Str),k=[.ref p,.str (Md b z)]/\H p=some (.ins C f [])/\(∀l∈b,WL l)/\10∉z.cps.toList/\(Md b z).length<=100000/\b.length<=63 ∧
 (∀d,b.map eW=d.map some->∀a e g,H e=none->a p=some (.ins C f (jf e d.length))->a e=some (.lst g)->RowsV a d g->(∀c o,H c=some o->c≠p->a c=some o)->Q .non a) ∧
 (∀i:Nat,(b.map eW)[i]?=some none->(∀m,m<i->(b.map eW)[m]?≠some none)->∀h a,Same H a->a h=some (.xd [("line",.int (i:Int))])->E (.ref j) (some h) a)
def aCU(T:Txt K mg)(B:JT K C)(x:iK P w K mg base 9 "rows_of" QZW (Im n))(D:ClsAt K mg "Journal" C "Journal.__init__" bR QZB [[]]):∀d∈([[]]:List (List V)),Qt P w K mg base 10 "Journal" C QZB d (aCT C n):=by
 refine ClsAt.goX D oE (λy H a0 a1 h=>?_) (λa4 cdv a5 outer a6 H y a0 a1 A h=>?_)
 ·revert h;refine yE4 λp a q z=>yA2 λζ _=>?_;subst ζ;rfl
 ·revert h;refine yE4 λp a q z=>yA8 λζ i E F v G a2 I=>?_;subst ζ;refine⟨_,(mm (R.jh (K:=K) (lf 0) (R.fm x A rfl Ee (f8 (lf 1) li))) (mq (R.jh (K:=K) (lf 0) (qd (sy (K:=K)) rfl T.b_len aZ (f8 (R.dy (K:=K) (lf 0)) li))))),?_⟩;refine⟨q,z,rfl,E,F,v,G,λr J l f g s j g1 t=>?_,λa3 L M N O Q S=>I a3 L M N O Q S⟩;have u:p≠l:=aF i s;refine⟨C,a,[],j _ _ i,B.cl,B.nW,(by show 0<1000;decide),?_⟩;have U:kQ "written" (.ref l) []=[(("written":Str),V.ref l)]:=rfl;dsimp only;rw[U];have g2:(aH g p (.ins C a [("written",.ref l)])) p=some (.ins C a [("written",.ref l)]):=aD;have k:(aH g p (.ins C a [("written",.ref l)])) l=some (.lst f):=by rw[aJ u.symm];exact g1
  have m:∀c o,g c=some o->c≠p->(aH g p (.ins C a [("written",.ref l)])) c=some o:=λc o e b=>by rw[aJ b];exact e
  generalize aH g p (.ins C a [("written",.ref l)])=W at g2 k m ⊢;have X:([(("written":Str),V.ref l)]).lookup ("written":Str)=some (.ref l):=by rw[lookup_cons];simp
  refine⟨C,a,_,.ref l,g2,B.cl,B.nW,X,_,.inl (QYX k),?_⟩;refine⟨C,a,_,g2,B.cl,B.nS,(by show 1<1000;decide),?_⟩;have Y:kQ "safe_count" (.int f.length) [(("written":Str),V.ref l)]=jf l f.length:=by
   unfold kQ;rw[T8 Zk];rfl
  dsimp only;rw[Y];have Z:r.length=f.length:=t.1.length;have tk:TK g (aH W p (.ins C a (jf l f.length))):=λc xs e=>by
   have b:c≠p:=λz=>by rw[z,j _ _ i]at e;cases e
   rw[aJ b];exact m _ _ e b
  refine a2 r J _ l f s (by rw[aD,Z]) (by rw[aJ u.symm];exact k) (t.tk tk) λc o e b=>?_;rw[aJ b];exact m _ _ (j _ _ e) b
structure aCV(K:W.Frag)(mg:Y4)(C a0 a1 a2 a3 a4 a5 a6 a7 a8 a9 a10 a11 a12 a13 a14 a15 a16 a17:WP)(ix:Nat):Prop where
 m_NoDeed:mg "NoDeed"=some (.ref a0)
 m_NoKey:mg "NoKey"=some (.ref a1)
 m_Other:mg "Other"=some (.ref a2)
 m_NoRow:mg "NoRow"=some (.ref a3)
 m_NoAsk:mg "NoAsk"=some (.ref a4)
 m_NoJournal:mg "NoJournal"=some (.ref a5)
 m_Busy:mg "Busy"=some (.ref a6)
 m_NoName:mg "NoName"=some (.ref a7)
 m_Late:mg "Late"=some (.ref a8)
 m_Down:mg "Down"=some (.ref a9)
 m_Up:mg "Up"=some (.ref a10)
 m_Unsafe:mg "Unsafe"=some (.ref a11)
 m_NoNumber:mg "NoNumber"=some (.ref a12)
 m_NoWay:mg "NoWay"=some (.ref a13)
 m_NoLine:mg "NoLine"=some (.ref a14)
 m_NoChange:mg "NoChange"=some (.ref a15)
 m_NoHouse:mg "NoHouse"=some (.ref a16)
 m_NoRows:mg "NoRows"=some (.ref a17)
 xk:qA K C
 k_NoDeed:W.kitOne K (.ref C) (.ref a0)=some (decide (0=ix))
 k_NoKey:W.kitOne K (.ref C) (.ref a1)=some (decide (1=ix))
 k_Other:W.kitOne K (.ref C) (.ref a2)=some (decide (2=ix))
 k_NoRow:W.kitOne K (.ref C) (.ref a3)=some (decide (3=ix))
 k_NoAsk:W.kitOne K (.ref C) (.ref a4)=some (decide (4=ix))
 k_NoJournal:W.kitOne K (.ref C) (.ref a5)=some (decide (5=ix))
 k_Busy:W.kitOne K (.ref C) (.ref a6)=some (decide (6=ix))
 k_NoName:W.kitOne K (.ref C) (.ref a7)=some (decide (7=ix))
 k_Late:W.kitOne K (.ref C) (.ref a8)=some (decide (8=ix))
 k_Down:W.kitOne K (.ref C) (.ref a9)=some (decide (9=ix))
 k_Up:W.kitOne K (.ref C) (.ref a10)=some (decide (10=ix))
 k_Unsafe:W.kitOne K (.ref C) (.ref a11)=some (decide (11=ix))
 k_NoNumber:W.kitOne K (.ref C) (.ref a12)=some (decide (12=ix))
 k_NoWay:W.kitOne K (.ref C) (.ref a13)=some (decide (13=ix))
 k_NoLine:W.kitOne K (.ref C) (.ref a14)=some (decide (14=ix))
 k_NoChange:W.kitOne K (.ref C) (.ref a15)=some (decide (15=ix))
 k_NoHouse:W.kitOne K (.ref C) (.ref a16)=some (decide (16=ix))
 k_NoRows:W.kitOne K (.ref C) (.ref a17)=some (decide (17=ix))
 k_VE:W.kitOne K (.ref C) (.type "ValueError")=some true
def Sj(C:WP)(wd:Str):Sp:=λc H Q _=>∃(a:WP)(d:Option WP),c=[.ref a]/\H a=some (.ext (sP a (.ref C) d))/\∀p b,Same H b->b p=some (.tup [.str "refused",.str wd])->Q (.ref p) b
def Wq(T:Txt K mg)(M:aCV K mg C a0 a1 a2 a3 a4 a5 a6 a7 a8 a9 a10 a11 a12 a13 a14 a15 a16 a17 5)(D:DefAt K mg "_law_mark" jC QZl):qH P w K mg base 1 "_law_mark" QZl (Sj C "journal"):=by
 have U8:=M.m_NoDeed;have BQ:=M.m_NoKey;have BR:=M.m_Other;have kl:=M.m_NoRow;have BS:=M.m_NoAsk;have E7:=M.m_NoJournal;have EL:=M.m_Busy;have yk:=M.m_NoName;have EM:=M.m_Late;have EN:=M.m_Down;have OU:=M.m_Up;have ym:=M.m_Unsafe;have rq:=M.m_NoNumber;have BU:=M.m_NoWay;have yn:=M.m_NoLine;have sd:=M.m_NoChange;have vw:=M.m_NoHouse;have yo:=M.m_NoRows;refine D.goH dM (λvs H b0 b6 h=>?_) (λb1 cdv A outer b2 H vs b0 hr h=>?_)
 ·obtain⟨b3,a,rfl,_⟩:=h;rfl
 ·obtain⟨b3,a,rfl,b,b4⟩:=h;have hu:A.units+3<cLine:=by have:=hr.2;have b7:(A.deeper (PyProof.Rows.envOfC "_law_mark" (aE jC) b2.heap.objs.size b1 cdv)).units=A.units+3:=rfl;omega
  refine⟨_,(mm (o0 (i:=1) dM.nd (qk (f8 (qd (u8 (K:=K)) rfl T.b_isinstance aR (f8 (lf 0) (f8 (tm rfl U8) li))) (f8 (qd (u8 (K:=K)) rfl T.b_isinstance aR (f8 (lf 0) (f8 (tm rfl BQ) li))) (f8 (qd (u8 (K:=K)) rfl T.b_isinstance aR (f8 (lf 0) (f8 (tm rfl BR) li))) (f8 (qd (u8 (K:=K)) rfl T.b_isinstance aR (f8 (lf 0) (f8 (tm rfl kl) li))) li)))))) (mm (o0 (i:=1) dM.nd (nw wo (lf 1) (qk (f8 (qd (u8 (K:=K)) rfl T.b_isinstance aR (f8 (lf 0) (f8 (tm rfl BS) li))) (f8 (qd (u8 (K:=K)) rfl T.b_isinstance aR (f8 (lf 0) (f8 (tm rfl E7) li))) (f8 (qd (u8 (K:=K)) rfl T.b_isinstance aR (f8 (lf 0) (f8 (tm rfl EL) li))) li)))))) (mm (o0 (i:=1) dM.nd (nw wo (lf 1) (qk (f8 (qd (u8 (K:=K)) rfl T.b_isinstance aR (f8 (lf 0) (f8 (tm rfl yk) li))) (f8 (qd (u8 (K:=K)) rfl T.b_isinstance aR (f8 (lf 0) (f8 (tm rfl EM) li))) (f8 (qd (u8 (K:=K)) rfl T.b_isinstance aR (f8 (lf 0) (f8 (tm rfl EN) li))) (f8 (qd (u8 (K:=K)) rfl T.b_isinstance aR (f8 (lf 0) (f8 (tm rfl OU) li))) li))))))) (mm (o0 (i:=1) dM.nd (nw wo (lf 1) (qk (f8 (qd (u8 (K:=K)) rfl T.b_isinstance aR (f8 (lf 0) (f8 (tm rfl ym) li))) (f8 (qd (u8 (K:=K)) rfl T.b_isinstance aR (f8 (lf 0) (f8 (tm rfl rq) li))) (f8 (qd (u8 (K:=K)) rfl T.b_isinstance aR (f8 (lf 0) (f8 (tm rfl BU) li))) li)))))) (mm (o0 (i:=1) dM.nd (nw wo (lf 1) (qk (f8 (qd (u8 (K:=K)) rfl T.b_isinstance aR (f8 (lf 0) (f8 (tm rfl yn) li))) (f8 (qd (u8 (K:=K)) rfl T.b_isinstance aR (f8 (lf 0) (f8 (tm rfl sd) li))) (f8 (qd (u8 (K:=K)) rfl T.b_isinstance aR (f8 (lf 0) (f8 (tm rfl vw) li))) li)))))) (mm (o0 (i:=1) dM.nd (nw wo (lf 1) (qk (f8 (qd (u8 (K:=K)) rfl T.b_isinstance aR (f8 (lf 0) (f8 (tm rfl yo) li))) li)))) (mm (qa (tf (uc (sw (qm (qd (u8 (K:=K)) rfl T.b_isinstance aR (f8 (lf 0) (f8 (R.dz rfl T.b_ValueError vG) li))))) (ul (pr wq (ua (K:=K) PySem.F.plainAttrs_list PySem.F.slot_list_count PySem.F.type_list_count R.jt (lf 1) (f8 tu li)) mh)))) (mq (mr (qc (f8 mn (f8 mn li))))) qb) (mq (mr (qc (f8 mn (f8 (qg (ud (K:=K)) (nw wo (qk (f8 mn (f8 mn (f8 mn (f8 mn (f8 mn (f8 mn (f8 mn li)))))))) (nw R.fc (qk (f8 mn li)) mh)) (ua (K:=K) PySem.F.plainAttrs_list PySem.F.slot_list_index PySem.F.type_list_index R.ju (lf 1) (f8 tu li))) li)))))))))))),?_⟩;refine⟨C,false,a,b,M.xk,.inr M.k_NoDeed,C,false,a,b,M.xk,.inr M.k_NoKey,C,false,a,b,M.xk,.inr M.k_Other,C,false,a,b,M.xk,.inr M.k_NoRow,eY rfl,λd h0=>?_⟩;have n:Same H (aH H d (.lst [.bl false,.bl false,.bl false,.bl false])):=aA h0;have O:(aH H d (.lst [.bl false,.bl false,.bl false,.bl false])) d=some (.lst [.bl false,.bl false,.bl false,.bl false]):=aD;dsimp only [aK];generalize aH H d (.lst [.bl false,.bl false,.bl false,.bl false])=p at n O;have q:=n _ _ b;refine⟨C,false,a,q,M.xk,.inr M.k_NoAsk,C,true,a,q,M.xk,.inr M.k_NoJournal,C,false,a,q,M.xk,.inr M.k_Busy,eY rfl,λr Q=>⟨_,_,aA Q _ _ O,aD,eY rfl,λe h1=>?_⟩⟩;have s:Same H (aH (aH p r (.lst [.bl false,.bl true,.bl false])) e (.lst [.bl false,.bl false,.bl false,.bl false,.bl false,.bl true,.bl false])):=n.trans ((aA Q).trans (aA h1));have g1:(aH (aH p r (.lst [.bl false,.bl true,.bl false])) e (.lst [.bl false,.bl false,.bl false,.bl false,.bl false,.bl true,.bl false])) e=some (.lst [.bl false,.bl false,.bl false,.bl false,.bl false,.bl true,.bl false]):=aD;dsimp only [aK,cons_append,nil_append];generalize aH (aH p r (.lst [.bl false,.bl true,.bl false])) e (.lst [.bl false,.bl false,.bl false,.bl false,.bl false,.bl true,.bl false])=t at s g1;have f:=s _ _ b;refine⟨C,false,a,f,M.xk,.inr M.k_NoName,C,false,a,f,M.xk,.inr M.k_Late,C,false,a,f,M.xk,.inr M.k_Down,C,false,a,f,M.xk,.inr M.k_Up,eY rfl,λm2 S=>⟨_,_,aA S _ _ g1,aD,eY rfl,λg h2=>?_⟩⟩;have u:Same H (aH (aH t m2 (.lst [.bl false,.bl false,.bl false,.bl false])) g (.lst [.bl false,.bl false,.bl false,.bl false,.bl false,.bl true,.bl false,.bl false,.bl false,.bl false,.bl false])):=s.trans ((aA S).trans (aA h2));have g2:(aH (aH t m2 (.lst [.bl false,.bl false,.bl false,.bl false])) g (.lst [.bl false,.bl false,.bl false,.bl false,.bl false,.bl true,.bl false,.bl false,.bl false,.bl false,.bl false])) g=some (.lst [.bl false,.bl false,.bl false,.bl false,.bl false,.bl true,.bl false,.bl false,.bl false,.bl false,.bl false]):=aD;dsimp only [aK,cons_append,nil_append];generalize aH (aH t m2 (.lst [.bl false,.bl false,.bl false,.bl false])) g (.lst [.bl false,.bl false,.bl false,.bl false,.bl false,.bl true,.bl false,.bl false,.bl false,.bl false,.bl false])=v at u g2;have x:=u _ _ b;refine⟨C,false,a,x,M.xk,.inr M.k_Unsafe,C,false,a,x,M.xk,.inr M.k_NoNumber,C,false,a,x,M.xk,.inr M.k_NoWay,eY rfl,λy U=>⟨_,_,aA U _ _ g2,aD,eY rfl,λj h3=>?_⟩⟩;have z:Same H (aH (aH v y (.lst [.bl false,.bl false,.bl false])) j (.lst [.bl false,.bl false,.bl false,.bl false,.bl false,.bl true,.bl false,.bl false,.bl false,.bl false,.bl false,.bl false,.bl false,.bl false])):=u.trans ((aA U).trans (aA h3));have g3:(aH (aH v y (.lst [.bl false,.bl false,.bl false])) j (.lst [.bl false,.bl false,.bl false,.bl false,.bl false,.bl true,.bl false,.bl false,.bl false,.bl false,.bl false,.bl false,.bl false,.bl false])) j=some (.lst [.bl false,.bl false,.bl false,.bl false,.bl false,.bl true,.bl false,.bl false,.bl false,.bl false,.bl false,.bl false,.bl false,.bl false]):=aD;dsimp only [aK,cons_append,nil_append];generalize aH (aH v y (.lst [.bl false,.bl false,.bl false])) j (.lst [.bl false,.bl false,.bl false,.bl false,.bl false,.bl true,.bl false,.bl false,.bl false,.bl false,.bl false,.bl false,.bl false,.bl false])=B at z g3;have E:=z _ _ b;refine⟨C,false,a,E,M.xk,.inr M.k_NoLine,C,false,a,E,M.xk,.inr M.k_NoChange,C,false,a,E,M.xk,.inr M.k_NoHouse,eY rfl,λF W=>⟨_,_,aA W _ _ g3,aD,eY rfl,λk h4=>?_⟩⟩;have G:Same H (aH (aH B F (.lst [.bl false,.bl false,.bl false])) k (.lst [.bl false,.bl false,.bl false,.bl false,.bl false,.bl true,.bl false,.bl false,.bl false,.bl false,.bl false,.bl false,.bl false,.bl false,.bl false,.bl false,.bl false])):=z.trans ((aA W).trans (aA h4));have X:(aH (aH B F (.lst [.bl false,.bl false,.bl false])) k (.lst [.bl false,.bl false,.bl false,.bl false,.bl false,.bl true,.bl false,.bl false,.bl false,.bl false,.bl false,.bl false,.bl false,.bl false,.bl false,.bl false,.bl false])) k=some (.lst [.bl false,.bl false,.bl false,.bl false,.bl false,.bl true,.bl false,.bl false,.bl false,.bl false,.bl false,.bl false,.bl false,.bl false,.bl false,.bl false,.bl false]):=aD;dsimp only [aK,cons_append,nil_append];generalize aH (aH B F (.lst [.bl false,.bl false,.bl false])) k (.lst [.bl false,.bl false,.bl false,.bl false,.bl false,.bl true,.bl false,.bl false,.bl false,.bl false,.bl false,.bl false,.bl false,.bl false,.bl false,.bl false,.bl false])=I at G X;have BM:=G _ _ b;refine⟨C,false,a,BM,M.xk,.inr M.k_NoRows,eY rfl,λJ Y=>⟨_,_,aA Y _ _ X,aD,eY rfl,λl h5=>?_⟩⟩;have L:Same H (aH (aH I J (.lst [.bl false])) l (.lst [.bl false,.bl false,.bl false,.bl false,.bl false,.bl true,.bl false,.bl false,.bl false,.bl false,.bl false,.bl false,.bl false,.bl false,.bl false,.bl false,.bl false,.bl false])):=G.trans ((aA Y).trans (aA h5));have c:(aH (aH I J (.lst [.bl false])) l (.lst [.bl false,.bl false,.bl false,.bl false,.bl false,.bl true,.bl false,.bl false,.bl false,.bl false,.bl false,.bl false,.bl false,.bl false,.bl false,.bl false,.bl false,.bl false])) l=some (.lst [.bl false,.bl false,.bl false,.bl false,.bl false,.bl true,.bl false,.bl false,.bl false,.bl false,.bl false,.bl false,.bl false,.bl false,.bl false,.bl false,.bl false,.bl false]):=aD;dsimp only [aK,cons_append,nil_append];generalize aH (aH I J (.lst [.bl false])) l (.lst [.bl false,.bl false,.bl false,.bl false,.bl false,.bl true,.bl false,.bl false,.bl false,.bl false,.bl false,.bl false,.bl false,.bl false,.bl false,.bl false,.bl false,.bl false])=H5 at L c;have EC:=L _ _ b;refine⟨C,true,a,EC,M.xk,M.k_VE,?_⟩;refine⟨.inl ⟨rfl,_,QYX c⟩,[false,false,false,false,false,true,false,false,false,false,false,false,false,false,false,false,false,false],c,?_⟩;refine⟨eY rfl,λl6 h6=>⟨eY rfl,λl7 Z=>⟨_,aD,Zd,Zd,Zd,λl8 h8=>⟨_,_,eZ (eZ aD Z) h8,aD,dD Zd,λl9 h9=>?_⟩⟩⟩⟩;have N:=((aA (o:=.lst [.str "deed",.str "key",.str "other",.str "row",.str "ask",.str "journal",.str "busy"]) h6).trans (aA (o:=.lst [.str "else"]) Z)).trans ((aA (o:=.lst (replicate (11:Int).toNat [V.str "else"]).flatten) h8).trans (aA (o:=.lst ([V.str "deed",.str "key",.str "other",.str "row",.str "ask",.str "journal",.str "busy"]++(replicate (11:Int).toNat [V.str "else"]).flatten)) h9));refine⟨.inl ⟨rfl,_,QYX (N _ _ c)⟩,[false,false,false,false,false,true,false,false,false,false,false,false,false,false,false,false,false,false],5,N _ _ c,rfl,(λm hm=>?_),?_⟩
  ·have:m=0∨m=1∨m=2∨m=3∨m=4:=by omega
   rcases this with rfl|rfl|rfl|rfl|rfl<;>simp
  refine⟨_,QYX aD,.str "journal",rfl,?_⟩;exact⟨Zs,λb5 H' s' g'=>b4 b5 H' ((L.trans N).trans s') g'⟩
structure MdT(K:W.Frag)(mg:Y4)(CJ CD:WP):Prop where
 mD:mg "DoorError"=some (.ref CD)
 mJ:mg "NoJournal"=some (.ref CJ)
 xm:W.exmOne K (.ref CJ) (.ref CD)=some true
 kJ:qA K CJ
 jj:W.kitOne K (.ref CJ) (.ref CJ)=some true
 hd:W.hasDictIn K CJ=true
 nu:W.findIn K (.ref CJ) "line"=some none
def Xy(C:WP):Sp:=λf H Q _=>∃(b:List (List Str))(z:Str),f=[.str (Md b z)]/\(∀g∈b,WL g)/\10∉z.cps.toList/\(Md b z).length<=100000/\b.length<=63 ∧
 (∀c,b.map eW=c.map some->∀l x h d e a,Same H a->H x=none->H d=none->a l=some (.lst [.ref x])->a x=some (.ins C h (jf d c.length))->a d=some (.lst e)->RowsV a c e->Q (.ref l) a) ∧
 (∀i:Nat,(b.map eW)[i]?=some none->(∀m,m<i->(b.map eW)[m]?≠some none)->∀u v a,Same H a->a u=some (.tup [.ref v,.int (i:Int)])->a v=some (.tup [.str "refused",.str "journal"])->Q (.ref u) a)
def Sk{C a F:WP}(T:Txt K mg)(Z:MdT K mg a F)(I:Qt P w K mg base 10 "Journal" C QZB [] (aCT C a))(s:qH P w K mg base 1 "_law_mark" QZl (Sj a "journal"))(D:DefAt K mg "_law_made" lG QZK):Callee P w K mg base 12 "_law_made" QZK (Xy C):=by
 refine D.gg eS (λa4 cdv a5 outer a6 H vs a7 a8 t a0=>?_)
 ·revert a0;refine yE2 λJ z=>yA7 λζ L M E N O Q=>?_;subst ζ;have S:Room 11 _:=t;have u:RoomH 1 _:=(t.mono (by decide:1<=11)).toH;have U:=Z.mD;have W:=Z.mJ;refine⟨_,(mm (o0 (i:=1) eS.nd wv) (mm (R.jv (K:=K) (i:=2) U rfl eS.nd (λpn Ex=>(mq (o0 (i:=1) eS.nd (qk (f8 (R.im I S rfl kU (f8 (lf 0) li)) li))))) (λa9=>(mm (o0 (i:=1) eS.nd (qc (f8 (R.ji s u rfl (f8 (lf 2) li)) (f8 wv li)))) (mq (qa (qm (qd (u8 (K:=K)) rfl T.b_isinstance aR (f8 (lf 2) (f8 (tm rfl W) li)))) (mq (o0 (i:=1) eS.nd (qc (f8 (R.ji s u rfl (f8 (lf 2) li)) (f8 (R.jx (K:=K) (lf 2)) li))))) qb))))) (mq (mr (lf 1))))),?_⟩;intro x d h X Y;have j:Same H (aH (aH H d (.own x)) x (.ins C d [])):=(aA X).trans (aA (by rw[aJ Y.symm];exact h));refine⟨x,d,J,z,rfl,aD,L,M,E,N,λd8 rm H' f us g l gl rv k=>⟨rfl,eY rfl,λa1 hl=>?_⟩,λi h1 h2 c G sG l=>⟨Z.xm,λe he=>?_⟩⟩
  ·have nlx:f≠x:=λz=>by rw[z,aD]at g;cases g
   have OV:H f=none:=by
    cases a2:H f with
    | none=>rfl
    | some o=>rw[j _ _ a2]at g;cases g
   have b:=aA (o:=.lst [.ref x]) hl;refine O d8 rm a1 x d f us _ (λa3 o e=>b _ _ (k a3 o (j _ _ e) (aF e h))) h OV aD (b _ _ l) (b _ _ gl) (rv.same b)
  ·have b:=aA (o:=.ext (sP e (.ref a) (some c))) he;have m:(aH G e (.ext (sP e (.ref a) (some c)))) e=some (.ext (sP e (.ref a) (some c))):=aD;have y:=(j.trans sG).trans b;have A:=b _ _ l;generalize aH G e (.ext (sP e (.ref a) (some c)))=G1 at b m y A ⊢;refine⟨e,some c,rfl,m,λv G2 n g2=>⟨Zs,λb0 G3 p g3=>?_⟩⟩;dsimp only [aK];have q:=p _ _ (n _ _ m);have ZG:([(("line":Str),V.int (i:Int))]).lookup ("line":Str)=some (.int (i:Int)):=by rw[lookup_cons];simp
   refine⟨a,true,_,q,Z.kJ,.inr Z.jj,?_⟩;refine⟨e,some c,rfl,q,λv' G4 r g4=>⟨e,a,c,_,.int (i:Int),rfl,r _ _ q,r _ _ (p _ _ (n _ _ A)),Z.kJ,Z.hd,Z.nu,ZG,Zs,λu' G5 B g5=>?_⟩⟩;exact Q i h1 h2 u' v' G5 ((((y.trans n).trans p).trans r).trans B) g5 (B _ _ g4)
def dQ(x y:Str):(x++y).length=x.length+y.length:=by
 have e:∀z:Str,z.length=z.cps.toList.length:=λz=>by simp[Str.length]
 rw[e,gC,gQ,<- e,<- e]
def aCW(z:Str)(lo a:Option Int):(tx (cP z.cps.toList lo a)).length<=z.length:=by
 rw[dC];have:=pT z.cps.toList lo a;have e:z.length=z.cps.toList.length:=by simp[Str.length]
 omega
def Ac(c:Nat):(tx [c]).length=1:=by rw[dC];rfl
def Sl:("0159azA =_-":Str).cps.toList.length=11/\∀c∈("0159azA =_-":Str).cps.toList,c≠10:=by decide +kernel
def Io(z:Str)(i:Int)(c0 c:Nat):List Str:=[tx (cP z.cps.toList none (some i))++tx (cP z.cps.toList (some (i+1)) none),tx (cP z.cps.toList none (some i))++tx [c0]++tx (cP z.cps.toList (some i) none),tx (cP z.cps.toList none (some i))++tx [c]++tx (cP z.cps.toList (some (i+1)) none)]
def Lv(z:Str)(i:Int):List Str:=[tx (cP z.cps.toList none (some i))++" "++tx (cP z.cps.toList (some i) none),""]
def pM{x y:Str}(a:10∉x.cps.toList)(b:10∉y.cps.toList):10∉(x++y).cps.toList:=by
 rw[gC];exact λh=>(Zma.mp h).elim a b
def aCX{z:Str}{i c0 c:Nat}(r:z.length<=255)(k:10∉z.cps.toList)(l:c0≠10)(m:c≠10):∀y∈Io z i c0 c++Lv z i,y.length<=260/\10∉y.cps.toList:=by
 have e:z.length=z.cps.toList.length:=by simp[Str.length]
 have n:((i:Int)+1)=((i+1:Nat):Int):=by omega
 have s:(tx (cP z.cps.toList none (some (i:Int)))).length<=i/\(tx (cP z.cps.toList none (some (i:Int)))).length<=z.length:=by rw[jV,dC,fM];omega
 have t:(tx (cP z.cps.toList (some (i:Int)) none)).length=z.length-i:=by rw[L2.dH,dC,length_drop];omega
 have u:(tx (cP z.cps.toList (some ((i:Int)+1)) none)).length=z.length-(i+1):=by rw[n,L2.dH,dC,length_drop];omega
 have a:∀lo f,10∉(tx (cP z.cps.toList lo f)).cps.toList:=λlo f h=>by
  rw[oZ]at h;unfold cP at h;exact k (mem_of_mem_drop (mem_of_mem_take h))
 have g:=Ac;have j:∀d:Nat,d≠10->10∉(tx [d]).cps.toList:=λd o h=>by
  rw[oZ]at h;exact o (Zms.mp h).symm
 have p:(" ":Str).length=1:=by decide +kernel
 have q:10∉(" ":Str).cps.toList:=by decide +kernel
 intro y b;unfold Io Lv at b;simp only [cons_append,nil_append,mem_cons,QZZ,or_false]at b;rcases b with rfl|rfl|rfl|rfl|rfl
 ·exact⟨by rw[dQ];omega,pM (a _ _) (a _ _)⟩
 ·exact⟨by rw[dQ,dQ,g];omega,pM (pM (a _ _) (j _ l)) (a _ _)⟩
 ·exact⟨by rw[dQ,dQ,g];omega,pM (pM (a _ _) (j _ m)) (a _ _)⟩
 ·exact⟨by rw[dQ,dQ,p];omega,pM (pM (a _ _) q) (a _ _)⟩
 ·exact⟨Zk,Zk⟩
def Sm:Sp:=λc H Q _=>∃(p:WP)(z:Str),c=[.ref p,.str z]/\PenAt H p/\0<z.length/\z.length<=255/\10∉z.cps.toList/\∀(a:Str) b,a.length<=260->10∉a.cps.toList->PenAt b p->K1 p H b->Q (.str a) b
def Wr(T:Txt K mg)(m:Callee P w K mg base 1 "_law_take" QZT fT)(D:DefAt K mg "_law_bent" lE QZJ):Callee P w K mg base 2 "_law_bent" QZJ Sm:=by
 refine D.gg hJ (λa4 cdv a5 outer a6 a7 vs a8 a9 n a0=>?_)
 ·revert a0;refine yE2 λp z=>yA6 λζ pn h0 N t a1=>?_;subst ζ;refine⟨_,(mm (o0 (i:=2) hJ.nd (mv m n rfl (f8 (lf 0) (f8 (qd R.dk rfl T.b_len aZ (f8 (lf 1) li)) li)))) (mm (o0 (i:=3) hJ.nd (qg R.iS mn (mv m n rfl (f8 (lf 0) (f8 mh li))))) (mm (o0 (i:=4) hJ.nd (qk (f8 (nw wx (ql FS (lf 1) re (qh (lf 2))) (ql FS (lf 1) (qh (nw tj (lf 2) mh)) re)) (f8 (nw wx (nw wx (ql FS (lf 1) re (qh (lf 2))) (qg R.iS (lf 1) (lf 2))) (ql FS (lf 1) (qh (lf 2)) re)) (f8 (nw wx (nw wx (ql FS (lf 1) re (qh (lf 2))) (lf 3)) (ql FS (lf 1) (qh (nw tj (lf 2) mh)) re)) li))))) (mm (o0 (i:=4) hJ.nd (nw wo (lf 4) (qk (f8 (nw wx (nw wx (ql FS (lf 1) re (qh (lf 2))) mn) (ql FS (lf 1) (qh (lf 2)) re)) (f8 mn li))))) (mq (mr (qg (ud (K:=K)) (lf 4) (mv m n rfl (f8 (lf 0) (f8 mh li)))))))))),?_⟩;refine⟨dD Zo,p,_,rfl,pn,Zo,Zo,λu H1 O ZH Q k1=>?_⟩;obtain⟨i,rfl⟩:=qX O;refine⟨p,11,rfl,Q,Zd,Zd,λq e x A S U=>⟨Zk,?_⟩⟩;obtain⟨c,B⟩:∃c,eK ("0159azA =_-":Str).cps.toList q=some c:=by
   obtain⟨v,b,_⟩:=fA (xs:=("0159azA =_-":Str).cps.toList) (i:=q) x (by rw[Sl.1];exact A);exact⟨v,b⟩
  refine⟨c,B,?_⟩;dsimp only [aK];show Mi _ _ _ [some (.ref p),some (.str z),some (.int (i:Int)),some (.str (tx [c])),none] e;have a:z.length<=sizeLine:=dD Zo;have Z1:z.length=z.cps.toList.length:=by simp[Str.length]
  have f:i<z.cps.toList.length:=by omega
  obtain⟨c0,W,X⟩:∃c0,eK z.cps.toList (i:Int)=some c0/\c0∈z.cps.toList:=by
   obtain⟨v,b,g⟩:=fA (xs:=z.cps.toList) (i:=(i:Int)) Zo Zo;exact⟨v,b,g⟩
  have h:=λlo f=>aCW z lo f
  have C:=Ac;have b1:(" ":Str).length=1:=by decide +kernel
  have e0:("":Str).length=0:=by decide +kernel
  have L2:∀lo f r s,(tx (cP z.cps.toList lo f)).length+(tx (cP z.cps.toList r s)).length<=sizeLine:=λlo f r s=>dD (by have:=h lo f;have:=h r s;omega)
  have EG:=h none (some (i:Int));have hA2:=h (some ((i:Int)+1)) none;have hA3:=h (some (i:Int)) none;have tc:=C c;have tc0:=C c0;refine⟨a,a,L2 _ _ _ _,a,a,c0,W,dD Zo,a,dD (by rw[dQ];omega),a,dD Zo,a,dD (by rw[dQ];omega),eY rfl,λj Y=>?_⟩;dsimp only [aK];have E:=aA (o:=.lst ((Io z i c0 c).map V.str)) Y;refine⟨a,dD Zo,a,dD (by rw[dQ];omega),eY rfl,λm2 k=>⟨_,_,eZ aD k,aD,eY rfl,λd l=>?_⟩⟩;dsimp only [aK];have k:(aH e j (.lst ((Io z i c0 c).map V.str))) m2=none:=k;have l:(aH (aH e j (.lst ((Io z i c0 c).map V.str))) m2 (.lst ((Lv z i).map V.str))) d=none:=l;have F:=aA (o:=.lst ((Lv z i).map V.str)) k;have G:=aA (o:=.lst ((Io z i c0 c++Lv z i).map V.str)) l;have H:=(S.same E).same F;have Z:d≠p:=H.ne l;have I:=H.same G;have J:=((k1.trans U).trans (K1.of E)).trans ((K1.of F).trans (K1.of G));have L:(aH (aH (aH e j (.lst ((Io z i c0 c).map V.str))) m2 (.lst ((Lv z i).map V.str))) d (.lst ((Io z i c0 c++Lv z i).map V.str))) d=some (.lst ((Io z i c0 c++Lv z i).map V.str)):=aD;show Ai _ _ [some (.ref p),some (.str z),some (.int (i:Int)),some (.str (tx [c])),some (.ref d)] (aH (aH (aH e j (.lst ((Io z i c0 c).map V.str))) m2 (.lst ((Lv z i).map V.str))) d (.lst ((Io z i c0 c++Lv z i).map V.str)));generalize aH (aH (aH e j (.lst ((Io z i c0 c).map V.str))) m2 (.lst ((Lv z i).map V.str))) d (.lst ((Io z i c0 c++Lv z i).map V.str))=H6 at I J L ⊢;refine⟨p,5,rfl,I,Zd,Zd,λa2 H' r0 u vm M=>⟨_,QYX (M _ _ L Z),?_⟩⟩;obtain⟨v,b,g⟩:=fA (xs:=(Io z i c0 c++Lv z i).map V.str) (i:=a2) r0 u;obtain⟨y,hy,rfl⟩:=Zmm.mp g;have CU:c∈("0159azA =_-":Str).cps.toList:=by
   obtain⟨v,b,g⟩:=fA (xs:=("0159azA =_-":Str).cps.toList) (i:=q) x (by rw[Sl.1];exact A);rw[B]at b;cases b;exact g
  obtain⟨y1,y2⟩:=aCX (i:=i) (c0:=c0) (c:=c) N t (λa3=>t (a3▸X)) (Sl.2 c CU) y hy;exact⟨.str y,b,a1 y H' y1 y2 vm (J.trans M)⟩
def Cy:Sp:=λc H Q _=>∃(p:WP)(z:Str),c=[.ref p,.str z]/\PenAt H p/\0<z.length/\z.length<=255/\10∉z.cps.toList/\∀(a:Str) b,a.length<=260->10∉a.cps.toList->PenAt b p->K1 p H b->Q (.str a) b
def Lw(T:Txt K mg)(d:Callee P w K mg base 1 "_law_take" QZT fT)(D:DefAt K mg "_law_torn" lF QZJ):Callee P w K mg base 2 "_law_torn" QZJ Cy:=by
 refine D.gg rZ (λf O A N s H S Q E e h=>?_)
 ·revert h;refine yE2 λp z=>yA6 λζ pn U W g q=>?_;subst ζ;refine⟨_,(mm (o0 (i:=2) rZ.nd (qk (f8 mn (f8 (ql FS (lf 1) re (qh (mv d e rfl (f8 (lf 0) (f8 (qd R.dk rfl T.b_len aZ (f8 (lf 1) li)) li))))) (f8 (lf 1) (f8 mn (f8 mn li))))))) (mq (mr (qg (ud (K:=K)) (lf 2) (mv d e rfl (f8 (lf 0) (f8 mh li))))))),?_⟩;have j:z.length<=sizeLine:=dD Zo;refine⟨j,p,_,rfl,pn,Zo,Zo,λa b X Y k k1=>⟨j,eY rfl,λm l=>?_⟩⟩;dsimp only [aK];have n:=aA (o:=.lst ([("":Str),tx (cP z.cps.toList none (some a)),z,"no row"," "].map V.str)) l;have t:=k.same n;have nm:m≠p:=k.ne l;have u:=k1.trans (K1.of n);have x:(aH b m (.lst ([("":Str),tx (cP z.cps.toList none (some a)),z,"no row"," "].map V.str))) m=some (.lst ([("":Str),tx (cP z.cps.toList none (some a)),z,"no row"," "].map V.str)):=aD;show Ai _ _ [some (.ref p),some (.str z),some (.ref m)] (aH b m (.lst ([("":Str),tx (cP z.cps.toList none (some a)),z,"no row"," "].map V.str)));generalize aH b m (.lst ([("":Str),tx (cP z.cps.toList none (some a)),z,"no row"," "].map V.str))=Z at t u x ⊢;refine⟨p,5,rfl,t,Zd,Zd,λr F G I J B=>⟨_,QYX (B _ _ x nm),?_⟩⟩;obtain⟨v,L,M⟩:=fA (xs:=[("":Str),tx (cP z.cps.toList none (some a)),z,"no row"," "].map V.str) (i:=r) G I;obtain⟨y,C,rfl⟩:=Zmm.mp M;have c:y.length<=260/\10∉y.cps.toList:=by
   simp only [mem_cons,QZZ,or_false]at C;rcases C with rfl|rfl|rfl|rfl|rfl
   ·exact⟨Zk,Zk⟩
   ·refine⟨iB (aCW z _ _) Zo,λh=>?_⟩;rw[oZ]at h;unfold cP at h;exact g (mem_of_mem_drop (mem_of_mem_take h))
   ·exact⟨Zo,g⟩
   ·exact⟨Zk,Zk⟩
   ·exact⟨Zk,Zk⟩
  exact⟨.str y,L,q y F c.1 c.2 J (u.trans B)⟩
def Sn:RP->TV
 | .sc v=>.sc v
 | .tp a=>.tp (a.map TV.sc)
def Lx(ps:List RP):TV:=.tp (ps.map Sn)
def FlatS.isSc{v:V}(h:FlatS v):isSc v=true:=by
 rcases h with⟨z,rfl,_⟩|⟨m,rfl,_⟩<;>rfl
def Xz{H:Hp}{n:Nat}:∀ {xs:List V},(∀y∈xs,FlatS y)->Paired (Rep H n) (xs.map TV.sc) xs
 | [],_=>.nil
 | x::r,h=>.cons (.scal (FlatS.isSc (h x iV))) (Xz λy a=>h y (fN _ a))
def Ws(a:RPok p)(h:PAt H p x):Rep H (n+1) (Sn p) x:=by
 cases p with
 | sc v=>
  have:x=v:=h;subst this;exact .scal (FlatS.isSc a)
 | tp c=>
  obtain⟨b,rfl,g⟩:=h;exact⟨b,c,rfl,g,Xz a.2⟩
def Cz{H:Hp}{n:Nat}:∀ {ps:List RP}{vs:List V},(∀p∈ps,RPok p)->Paired (PAt H) ps vs->Paired (Rep H (n+1)) (ps.map Sn) vs
 | [],_,_,.nil=>.nil
 | p::r,_,h,.cons a t=>.cons (Ws (h p iV) a) (Cz (λq b=>h q (fN _ b)) t)
def aBs{ps:List RP}(h:RowAt H a ps)(b:RowIs ps):Rep H (n+2) (Lx ps) (.ref a):=by
 obtain⟨scs,d,S⟩:=b.split;obtain⟨c,g,p⟩:=h;exact⟨a,c,rfl,g,Cz (RowS.ok S) p⟩
def aCY{v:V}(h:FlatS v):Uu n (.sc v):=by
 rcases h with⟨z,rfl,_⟩|⟨m,rfl,_⟩<;>cases n<;>trivial
def aCZ{ps:List RP}(c:RowIs ps):Uu (n+2) (Lx ps):=by
 obtain⟨scs,f,S⟩:=c.split;refine⟨?_,λt b=>?_⟩
 ·rw[aX,S.eq,gQ,aX,aX];have:=S.l2;have:=S.l5.2;omega
 ·obtain⟨p,d,rfl⟩:=Zmm.mp b;have a:=RowS.ok S p d
  cases p with
  | sc v=>exact aCY a
  | tp g=>
   refine⟨by rw[aX];have:=a.1.2;omega,λt b=>?_⟩;obtain⟨y,e,rfl⟩:=Zmm.mp b;exact aCY (a.2 y e)
def aC0:Uu n (.sc (.str z)):=by cases n<;>trivial
def Ip{H:Hp}{n:Nat}:∀ {b:List (List RP)}{vs:List V},(∀ps∈b,RowIs ps)->Paired (RowV H) b vs->Paired (Rep H (n+2)) (b.map Lx) vs
 | [],_,_,.nil=>.nil
 | p::r,_,h,.cons c t=>.cons (by obtain⟨a,rfl,d⟩:=c;exact aBs d (h p iV)) (Ip (λq e=>h q (fN _ e)) t)
def Iq(g:H l=some (.lst vs))(h:RowsV H a vs):Rep H (n+3) (.ls (a.map Lx)) (.ref l):=⟨l,vs,rfl,g,Ip h.2 h.1⟩
def aBt{n:Nat}{a:List (List RP)}(h:∀ps∈a,RowIs ps)(b:a.length<=1000):Uu (n+3) (.ls (a.map Lx)):=by
 refine⟨by rw[aX];exact b,λt c=>?_⟩;obtain⟨ps,d,rfl⟩:=Zmm.mp c;exact aCZ (h ps d)
def Ir(b:(m==("written":Str))=false)(c:(m==("safe_count":Str))=false):(jf a n).lookup m=none:=by
 unfold jf;rw[lookup_cons,b];dsimp only;rw[lookup_cons,c];rfl
def So(C:WP):Sp:=λg H Q _=>∃(x b h c:WP)(n:Int)(d e:List V)(a:List (List RP))(m:Nat),g=[.ref x,.ref c,.int n,.int m]/\H x=some (.ins C h (jf b n))/\H b=some (.lst d)/\RowsV H a d/\H c=some (.lst e)/\RowsV H a e/\a.length<=100/\m<=10/\∀f,Same H f->Q (.bl true) f
def Wt{C:WP}(T:Txt K mg)(a7:JT K C)(kn:Callee P w K mg base 1 "_law_line" QZG vC)(V0:Jy P w K mg base 1 C "rows" QZU (Ik C))(V1:Jy P w K mg base 6 C "text" QZU (Il C))(V2:Jy P w K mg base 1 C "safe" QZU (Se C))(u:Callee P w K mg base 5 "_law_same" QZP (yP 3))(D:DefAt K mg "_law_told" jD QZk):Callee P w K mg base 7 "_law_told" QZk (So C):=by
 refine D.gg jR (λa8 cdv a9 outer b0 a0 vs b1 b2 b a2=>?_)
 ·revert a2;refine yE9 λx v f y n a I c m=>yA9 λζ l J s z p H hm a3=>?_;subst ζ;refine⟨_,(mm (o0 (i:=4) jR.nd (ua (K:=K) PySem.F.plainAttrs_str PySem.F.slot_str_join PySem.F.type_str_join (S6 (K:=K)) mn (f8 (uf rfl (js:=[none]) (N:=QZG) (CompScope.by (aE jD) QYZ rfl rfl Zk) (aY rfl) (FM (K:=K) (lf 1)) (λC s₂ H₂ fp=>⟨(qi (i:=0) (show(QZG:List Str).Nodup by decide +kernel)),ug,(nw wx (mv kn b rfl (f8 (lf 0) li)) mn)⟩)) li))) (mm (IN PassesOwn.never rfl (R.db rfl T.b_range (f8 (lf 3) li)) (qi (i:=5) jR.nd) (mm (o0 (i:=6) jR.nd (R.fq V0 b (lf 0))) (mm (qa (tf (uc (sw (qm (mv u b rfl (f8 (lf 6) (f8 (lf 1) li))))) (uc (sw (qm (mv u b rfl (f8 (R.fq V1 b (lf 0)) (f8 (lf 4) li))))) (ul (sw (qm (mv u b rfl (f8 (R.fq V2 b (lf 0)) (f8 (lf 2) li))))))))) (mq (mr tu)) qb) (mq (AT (ua (K:=K) PySem.F.plainAttrs_list PySem.F.slot_list_append PySem.F.type_list_append PP (lf 6) (f8 (qc (f8 mn (f8 mh li))) li))))))) (mq (mr tu)))),?_⟩;have el:c.length=I.length:=p.1.length;refine⟨rfl,y,rfl,⟨_,QYX z⟩,?_⟩;refine bN (dX K y I) Zo (λj g d=>g=((c.take j).map λps=>cG ps++tx [10]).map V.str/\Same a0 d) (λj g d ⟨e,h⟩=>⟨QYX (h _ _ z),by rw[e,aX,aX,fM];omega⟩) ⟨rfl,Same.refl _⟩ (?_) (?_)
  ·rintro j a4 g d L ⟨e,h⟩;obtain⟨hj,ey⟩:=Zgs.mp L;refine yE0 (Paired.get' (j:=j) p.1 hj) (yE2 λM a5=>yA2 λO ra=>?_);rw[ey]at O;subst O;have Q:=p.2 _ (getElem_mem M);refine yE0 Q.split (yE2 λscs tts S=>?_);have U:=S.len;refine⟨a5,_,rfl,ra.same h,Q,λH2 s2=>⟨dD ?_,?_,h.trans s2⟩⟩
   ·have:("\n":Str).length=1:=by decide +kernel
    omega
   rw[Dc,kO M,hX,hX,e,Hh];rfl
  rintro g d ⟨e,h⟩;rw[<- el,qU (cE _)]at e;intro a1 U;refine⟨_,a1,c.map λps=>cG ps++tx [10],rfl,rfl,QYX (by rw[aD,e]),?_,?_⟩
  ·have h1:=Cw p.2;have e3:("":Str).length=0:=by decide +kernel
   rw[e3];omega
  rw[oW];dsimp only [aK];have W:=h.trans (aA (o:=.lst g) U);generalize aH d a1 (.lst g)=H1 at W ⊢;refine⟨m,rfl,Zo,Zo,?_⟩;refine pW (fR 0 (m:Int).toNat) (λi F d=>∃(A B:Option V),F=[some (.ref x),some (.ref y),some (.int n),some (.int m),some (.str (Hi c)),A,B]/\Same a0 d) (λ_ _ _ _=>trivial) ⟨_,_,rfl,W⟩ ?_ ?_
  ·refine λi a4 F G L=>yE2 λA B=>yA2 λζ k=>?_;subst ζ;dsimp only [aK];have X:=k _ _ l;have gl:=k _ _ J;refine⟨f,_,X,Ir Zk Zk,x,v,f,n,a,rfl,X,gl,λt Y=>?_⟩;dsimp only [aK];have Z:=aA (o:=.lst a) Y;have E:(aH G t (.lst a)) t=some (.lst a):=aD;have f5:=Y;generalize aH G t (.lst a)=G5 at Z E ⊢;have q:=k.trans Z;refine⟨_,_,.ls (c.map Lx),rfl,Iq E (s.same q),Iq (q _ _ z) (p.same q),aBt s.2 Zo,λG6 s6=>?_⟩;have r:=q.trans s6;refine⟨f,_,r _ _ l,Ir Zk Zk,x,v,f,n,a,c,rfl,r _ _ l,r _ _ J,s.same r,H,λG7 s7=>?_⟩;refine⟨_,_,.sc (.str (Hi c)),rfl,.scal rfl,.scal rfl,aC0,λG8 s8=>?_⟩;have UA:=(r.trans s7).trans s8;refine⟨f,_,UA _ _ l,Ir Zk Zk,x,v,f,n,rfl,UA _ _ l,?_⟩;refine⟨_,_,.sc (.int n),rfl,.scal rfl,.scal rfl,trivial,λG9 s9=>?_⟩;show aT _ _ _;dsimp only [aT];have UB:=((s6.trans s7).trans s8).trans s9;have UC:=UB _ _ E;refine⟨.inl ⟨rfl,_,QYX UC⟩,Zs,λa6 GA sA gA=>?_⟩;refine⟨t,a,.ref a6,rfl,rfl,sA _ _ UC,Ly (show a.length<=100 by rw[<- s.1.length];exact H) Zd,?_⟩;refine⟨_,_,rfl,λb3 o e=>?_⟩;rw[aJ (aF (k _ _ e) f5)];exact sA _ _ (UB _ _ (q _ _ e))
  ·rintro F G ⟨A,B,rfl,k⟩;exact a3 G k
def Sq(g:H a=some o)(d:∀xs,o≠.tup xs):TK H (aH H a b):=λc xs e=>by
 rw[aJ (λz=>by rw[z,g]at e;exact d xs (Option.some.inj e))];exact e
def Ya(h:PenAt H p)(k:K1 p H a):TK H a:=λc b e=>k _ _ e (PenAt.tup h e)
def RowsV.snoc{ps:List RP}(h:RowsV H b vs)(c:RowIs ps)(r:RowAt H a ps):RowsV H (b++[ps]) (vs++[.ref a]):=
 ⟨Paired.snoc h.1 ⟨a,rfl,r⟩,λq d=>(Zma.mp d).elim (h.2 q) λz=>by rw[Zms.mp z];exact c⟩
def Ft(a:List (List Str))(z:Str):Txt.join (tx []) (a.map λzs=>jw zs++tx [10])++z=Md a z:=by
 unfold Md;rw[Xh (Txt.join (tx []) (a.map λzs=>jw zs++tx [10])++z),Xh (Txt.join (tx [10]) (a.map jw++[z])),gC,pY,Bo,hX,map_map,map_map]
 congr 1
 have:=Hj (c:=10) z.cps.toList (a.map λzs=>(jw zs).cps.toList);rw[map_map]at this;have b:List.map (λp:Str=>p.cps.toList) [z]=[z.cps.toList]:=rfl;rw[b];refine Eq.trans ?_ this.symm
 congr 2
 apply map_congr_left;intro zs _;show(jw zs++tx [10]).cps.toList=_;rw[gC];simp
def Iu{a:List (List Str)}(h:∀zs∈a,WL zs):((a.map λzs=>jw zs++tx [10]).map (·.length)).sum<=261*a.length:=by
 induction a with
 | nil=>simp
 | cons zs r b=>
  have c:=b λy d=>h y (fN _ d)
  have f:=(h zs iV).len;have e:(jw zs++tx [10]).length=(jw zs).length+1:=by rw[dQ,Ac]
  simp only [map_cons,sum_cons,eJ];rw[e];simp only [map_map]at c ⊢;omega
def Wu{a:List (List Str)}{z:Str}(h:∀zs∈a,WL zs)(b:a.length<=63)(c:z.length<=260):(Md a z).length<=100000:=by
 rw[<- Ft,dQ];have e:∀y:Str,y.length=y.cps.toList.length:=λy=>by simp[Str.length]
 have d:(Txt.join (tx []) (a.map λzs=>jw zs++tx [10])).length<=261*a.length:=by
  rw[e,Bo,List.length_flatten,map_map];refine iB (le_of_eq ?_) (Iu h);rw[map_map,map_map];congr 1
 omega
def Iv{ps:List RP}(b:RowIs ps):0<(cG ps).length/\(cG ps).length<=255/\10∉(cG ps).cps.toList:=by
 obtain⟨scs,d,S⟩:=b.split;have a:=S.fine.1;have c:jH ps≠[]:=λe=>by rw[e]at a;simp at a
 have f:=jY c;have g:=S.len;refine⟨?_,Zo,S.no10⟩;show 0<(jw (jH ps)).length;omega
def Yb(a:z.length<=260)(b:10∉z.cps.toList):∃zs,WL zs/\z=jw zs:=by
 obtain⟨zs,c,d,rfl⟩:=Qq z;exact⟨zs,⟨c,d,a,b⟩,rfl⟩
def OR(H:Hp)(r:Option (List RP))(o:Option WP):Prop:=match r,o with
 | some ps,some a=>RowAt H a ps
 | none,none=>True
 | _,_=>False
def OR.same{H a:Hp}(s:Same H a):∀ {r:Option (List RP)}{o:Option WP},OR H r o->OR a r o
 | some _,some _,h=>RowAt.same s h
 | none,none,_=>trivial
 | some _,none,h=>h.elim
 | none,some _,h=>h.elim
def OR.tups{H:Hp}:∀ {b:List (Option (List RP))}{os:List (Option WP)},Paired (OR H) b os->Bv H os
 | [],[],_,a,h=>nomatch h
 | r::b,o::os,.cons h t,a,c=>by
  rcases mem_cons.mp c with e|e
  ·subst e;cases r with
   | none=>exact h.elim
   | some ps=>obtain⟨d,g,_⟩:=(show RowAt H a ps from h);exact⟨d,g⟩
  ·exact OR.tups t a e
def OR.rows{H:Hp}:∀ {b:List (List RP)}{os:List (Option WP)},Paired (OR H) (b.map some) os->(∀ps∈b,RowIs ps)->none∉os/\RowsV H b (os.map zG)
 | [],[],_,_=>⟨Zs,.nil,λ_ h=>nomatch h⟩
 | ps::b,o::os,.cons h t,c=>by
  obtain⟨d,f⟩:=OR.rows t λq g=>c q (fN _ g)
  cases o with
  | none=>exact h.elim
  | some a=>exact⟨λi=>(mem_cons.mp i).elim (λe=>by cases e) d,.cons ⟨a,rfl,h⟩ f.1,c⟩
theorem OR.non{H:Hp}:∀ {a:List (Option (List RP))}{os:List (Option WP)},Paired (OR H) a os->∀m:Nat,os[m]?=some none↔a[m]?=some none
 | [],[],_,m=>by simp
 | r::a,o::os,.cons h t,m=>by
  cases m with
  | zero=>cases r<;>cases o<;>first|exact h.elim|simp
  | succ m=>simpa using OR.non t m
def aBu(i:Nat):TV:=.tp [.tp [.sc (.str "refused"),.sc (.str "journal")],.sc (.int (i:Int))]
def Db{u v:WP}(a:H u=some (.tup [.ref v,.int (i:Int)]))(b:H v=some (.tup [.str "refused",.str "journal"])):Rep H 3 (aBu i) (.ref u):=
 ⟨u,_,rfl,a,.cons ⟨v,_,rfl,b,.cons (.scal rfl) (.cons (.scal rfl) .nil)⟩ (.cons (.scal rfl) .nil)⟩
def Wv:Uu 3 (aBu i):=by
 refine⟨Zs,Zfm.mpr ⟨⟨Zd,Zfm.mpr ⟨trivial,Zfm.mpr ⟨trivial,λ_ h=>nomatch h⟩⟩⟩,Zfm.mpr ⟨trivial,λ_ h=>nomatch h⟩⟩⟩
def Iw(K:W.Frag):Sp:=λc H Q _=>∃(a:WP)(b:List Int),c=[.ref a]/\SqL K H a (b.map V.int)/\b.length<=63/\∀d,Q (.bl true) d
def aBv{C:WP}(T:Txt K mg)(c2:JT K C)(CV:Callee P w K mg base 1 "_law_pen" QZv Xo)(vy:Callee P w K mg base 1 "_law_cell_at" QZu (Ph K))(BV:Callee P w K mg base 3 "_law_names" QZS wO)(EO:Callee P w K mg base 3 "_law_keys" QZS Bh)(CW:Callee P w K mg base 4 "_law_row" QZp Rm)(kn:Callee P w K mg base 1 "_law_line" QZG vC)(b9:Callee P w K mg base 1 "_law_take" QZT fT)(ER:Callee P w K mg base 2 "_law_torn" QZJ Cy)(ES:Callee P w K mg base 2 "_law_bent" QZJ Sm)(ET:Callee P w K mg base 5 "_law_read" QZK Id)(EU:Callee P w K mg base 12 "_law_made" QZK (Xy C))(yr:Callee P w K mg base 7 "_law_told" QZk (So C))(T3:Jy P w K mg base 1 C "write" QZw (Ij C))(M0:Callee P w K mg base 5 "_law_same" QZP (yP 3)){f:WP}{fd:FuncData}(F:Fun K "law" "law" mU f fd):oS P w K mg base sZ 13 f fd QZj (Iw K):=by
 refine F.gg fK (λcdv c3 outer c4 c0 vs c5 c6 g b2=>?_)
 ·revert b2;refine yE2 λM E=>yA4 λζ hS hlen b5=>?_;subst ζ;have D0:=g.units;refine⟨_,(mm (o0 (i:=1) fK.nd (mv CV g rfl (f8 (mv vy g rfl (f8 (lf 0) (f8 mh li))) (f8 mh li)))) (mm (o0 (i:=2) fK.nd (mv BV g rfl (f8 (lf 1) (f8 mh li)))) (mm (o0 (i:=3) fK.nd (mv EO g rfl (f8 (lf 1) (f8 mh li)))) (mm (o0 (i:=4) fK.nd (mv CW g rfl (f8 (lf 1) (f8 (lf 2) (f8 (lf 3) li))))) (mm (o0 (i:=5) fK.nd (mv ER g rfl (f8 (lf 1) (f8 (mv kn g rfl (f8 (lf 4) li)) li)))) (mm (o0 (i:=6) fK.nd (qk li)) (mm (IN PassesOwn.never rfl (R.eg (K:=K) rfl T.b_enumerate (ql (ut (K:=K)) (lf 0) (qh mh) (qh mh))) (K3 (K:=K) (n:=2) rfl (wu (qi (i:=7) fK.nd) (wu (qi (i:=8) fK.nd) NE))) (mm (o0 (i:=1) fK.nd (mv CV g rfl (f8 (lf 8) (f8 (nw tj (lf 7) mh) li)))) (mm (o0 (i:=9) fK.nd (mv kn g rfl (f8 (mv CW g rfl (f8 (lf 1) (f8 (lf 2) (f8 (lf 3) li)))) li))) (mm (qa (pr qf (mv b9 g rfl (f8 (lf 1) (f8 mh li))) mh) (mq (o0 (i:=9) fK.nd (mv ES g rfl (f8 (lf 1) (f8 (lf 9) li))))) qb) (mq (AT (ua (K:=K) PySem.F.plainAttrs_list PySem.F.slot_list_append PySem.F.type_list_append PP (lf 6) (f8 (lf 9) li)))))))) (mm (R.dw (i:=10) fK.nd rfl (Or.inl rfl) rfl (js:=[none]) (N:=QZg) (CompScope.by (aE mU) QZe rfl rfl Zk) (aY rfl) (FM (K:=K) (lf 6)) (λC s₂ H₂ fp=>⟨(qi (i:=0) (show(QZg:List Str).Nodup by decide +kernel)),ug,(mv ET g rfl (f8 (lf 0) li))⟩) rfl) (mm (o0 (i:=11) fK.nd (mv EU g rfl (f8 (nw wx (ua (K:=K) PySem.F.plainAttrs_str PySem.F.slot_str_join PySem.F.type_str_join (S6 (K:=K)) mn (f8 (uf rfl (js:=[none]) (N:=QZg) (CompScope.by (aE mU) QZe rfl rfl Zk) (aY rfl) (FM (K:=K) (lf 6)) (λC s₂ H₂ fp=>⟨(qi (i:=0) (show(QZg:List Str).Nodup by decide +kernel)),ug,(nw wx (lf 0) mn)⟩)) li)) (lf 5)) li))) (mm (qa (pr (R.ir D0) wv (lf 10)) (mq (mr (mv M0 g rfl (f8 (lf 11) (f8 (qc (f8 (qc (f8 mn (f8 mn li))) (f8 (ua (K:=K) PySem.F.plainAttrs_list PySem.F.slot_list_index PySem.F.type_list_index (R.iu D0) (lf 10) (f8 wv li)) li))) li))))) qb) (mm (qa (tf (uc (sw (qm (tq .lst (lf 11) rfl T.b_isinstance rfl T.b_list nE))) (ul (sw (qm (mv yr g rfl (f8 (ue K 11) (f8 (lf 10) (f8 (qd (sy (K:=K)) rfl T.b_len aZ (f8 (lf 10) li)) (f8 mh li)))))))))) (mq (mr tu)) qb) (mm (AT (R.jy T3 g (ue K 11) (f8 (lf 4) li))) (mq (mr (mv yr g rfl (f8 (ue K 11) (f8 (nw wo (lf 10) (qk (f8 (lf 4) li))) (f8 (qd (sy (K:=K)) rfl T.b_len aZ (f8 (lf 10) li)) (f8 mh li))))))))))))))))))),?_⟩;refine⟨M,E,0,rfl,hS,λa0=>⟨a0,0,rfl,λp H1 f1 s1 vj=>?_⟩⟩;refine⟨p,4,rfl,vj,Zd,λG zs H2 Z1 X5 FV ZL ZM rf k2=>?_⟩;refine⟨p,4,rfl,rf,Zd,λlk ks H3 DT qu ZN ZO UD BG k3=>?_⟩;dsimp only [aK];have X6:G≠p:=vj.ne ZL;have IU:lk≠p:=rf.ne ZO;have JK:=k3 _ _ ZM X6;have nsp:∀o,c0 M=some o->M≠p:=λo e=>aF e f1
  have hS3:SqL K H3 M (E.map V.int):=yS hS (λo e=>(k2.trans k3) _ _ (s1 _ _ e) (aF e f1));refine⟨p,G,lk,zs,ks,rfl,BG,JK,UD,FV,Zo,X5,Zo,qu,λt ps H4 ri ra vk k4=>?_⟩;dsimp only [aK];refine yE0 (Iv ri) (yA3 λZP ZQ ZR=>?_);refine⟨t,ps,rfl,ra,ri,λH5 U=>⟨p,cG ps,rfl,vk.same U,ZP,ZQ,ZR,λz' H6 zl zn S8 k6=>?_⟩⟩;dsimp only [aK];have g1:=k6 _ _ (U _ _ (k4 _ _ JK X6)) X6;have g2:=k6 _ _ (U _ _ (k4 _ _ UD IU)) IU;have ZS:=(ra.same U).tk (Ya (vk.same U) k6);have ZT:SqL K H6 M (E.map V.int):=yS hS (λo e=>k6 _ _ (U _ _ (k4 _ _ ((k2.trans k3) _ _ (s1 _ _ e) (aF e f1)) (aF e f1))) (aF e f1));refine⟨eY rfl,λc h6=>?_⟩;dsimp only [aK];have s7:=aA (o:=.lst []) h6;have g6:(aH H6 c (.lst [])) c=some (.lst []):=aD;generalize aH H6 c (.lst [])=H7 at s7 g6 ⊢;have ZU:SqL K H7 M (E.map V.int):=yS ZT (λo e=>s7 _ _ e);refine⟨_,ZU,λO h2=>?_⟩;have ec:cP (E.map V.int) (some (1:Int)) (some (41:Int))=(cP E (some (1:Int)) (some (41:Int))).map V.int:=by unfold cP;rw[map_take,map_drop,aX]
  have cl:=pT E (some (1:Int)) (some (41:Int));rw[ec];generalize cP E (some (1:Int)) (some (41:Int))=H at cl ⊢;have k:=aA (o:=.lst (H.map V.int)) h2;have S9:(aH H7 O (.lst (H.map V.int))) O=some (.lst (H.map V.int)):=aD;have ZV:c≠O:=aF g6 h2;have OX:G≠c:=aF g1 h6;have OY:lk≠c:=aF g2 h6;generalize aH H7 O (.lst (H.map V.int))=H8 at k S9 ⊢;have OZ:=s7.trans k;refine⟨_,QYX S9,?_⟩;refine uM (λi σ d=>∃(o1 o7 o8 o9:Option V)(b:List (List Str)),σ=[some (.ref M),o1,some (.ref G),some (.ref lk),some (.ref t),some (.str z'),some (.ref c),o7,o8,o9,none,none]/\d G=some (.lst (zs.map V.str))/\d lk=some (.lst (ks.map V.str))/\RowAt d t ps/\d c=some (.lst ((b.map jw).map V.str))/\(∀a∈b,WL a)/\b.length=i/\d O=some (.lst (H.map V.int)))
   (λi σ d ⟨_,_,_,_,_,_,_,_,_,_,_,_,b0⟩=>QYX b0) ⟨_,_,_,_,[],rfl,OZ _ _ g1,OZ _ _ g2,ZS.same OZ,k _ _ g6,(λ_ b2=>nomatch b2),rfl,S9⟩ ?_ ?_
  ·rintro i x σ b3 tt hx ⟨o1,o7,o8,o9,b,rfl,w1,w2,wr,X,Q,BW,wc⟩ ht;rw[jF]at hx;cases hc:H[i]? with
   | none=>rw[hc]at hx;cases hx
   | some cc=>
    rw[hc]at hx;cases hx;have ZE:i<H.length:=(Zgs.mp hc).1;have l:=aA (o:=.tup [.int (i:Int),.int cc]) ht;refine⟨tt,_,rfl,QYY aD,rfl,_,_,rfl,_,_,rfl,rfl,?_⟩;dsimp only [aK];generalize aH b3 tt (.tup [.int (i:Int),.int cc])=G1 at l ⊢;refine⟨cc,(i:Int)+1,rfl,λs G2 f2 s2 vm=>?_⟩;dsimp only [aK];have n1:G≠s:=aF (l _ _ w1) f2;have n2:lk≠s:=aF (l _ _ w2) f2;have n6:c≠s:=aF (l _ _ X) f2;have nc:O≠s:=aF (l _ _ wc) f2;have S:=l.trans s2;refine⟨s,G,lk,zs,ks,rfl,vm,S _ _ w1,S _ _ w2,FV,Zo,X5,Zo,qu,λb4 rs G3 UE ZW PB ZX=>?_⟩;refine⟨b4,rs,rfl,ZW,UE,λG4 X8=>?_⟩;dsimp only [aK];refine yE0 (Iv UE) (yA3 λwa wb wn=>?_);generalize cG rs=UG at wa wb wn ⊢;refine⟨s,8,rfl,PB.same X8,Zd,Zd,λc1 G5 r0 r1 qv k5=>?_⟩;have K5:K1 s G2 G5:=(ZX.trans (K1.of X8)).trans k5;have UH:∀(a:List Str)(r:Hp),WL a->K1 s G2 r->r c=some (.lst ((b.map jw).map V.str))/\((b.map jw).map V.str).length<sizeLine/\(aH r c (.lst ((b.map jw).map V.str++[.str (jw a)]))) G=some (.lst (zs.map V.str))/\(aH r c (.lst ((b.map jw).map V.str++[.str (jw a)]))) lk=some (.lst (ks.map V.str))/\RowAt (aH r c (.lst ((b.map jw).map V.str++[.str (jw a)]))) t ps/\(aH r c (.lst ((b.map jw).map V.str++[.str (jw a)]))) c=some (.lst (((b++[a]).map jw).map V.str))/\(∀b1∈b++[a],WL b1)/\(b++[a]).length=i+1/\(aH r c (.lst ((b.map jw).map V.str++[.str (jw a)]))) O=some (.lst (H.map V.int)):=λa r W K6=>by
     have AO:=K6 _ _ (S _ _ X) n6;refine⟨AO,?_,?_,?_,?_,?_,?_,?_,?_⟩
     ·rw[aX,aX,BW];exact Ly (by omega:i<=63) Zd
     ·rw[aJ (OX)];exact K6 _ _ (S _ _ w1) n1
     ·rw[aJ (OY)];exact K6 _ _ (S _ _ w2) n2
     ·exact((wr.same S).tk (Ya vm K6)).tk (Sq AO (λxs e=>nomatch e))
     ·rw[aD,hX,hX];rfl
     ·intro b1 hu;rcases Zma.mp hu with y|y
      ·exact Q b1 y
      ·rw[Zms.mp y];exact W
     ·rw[gQ,BW];rfl
     ·rw[aJ ZV.symm];exact K6 _ _ (S _ _ wc) nc
    show if decide (c1=0)=true then _ else _
    refine aV (λhb=>?_) (λhb=>?_)
    ·refine⟨s,UG,rfl,qv,wa,wb,wn,λz1 r ZY ZZ S8 JG=>?_⟩;dsimp only [aK];obtain⟨a,W,rfl⟩:=Yb ZY ZZ;refine yE0 (UH a r W (K5.trans JG)) (yA9 λa1 a2 a3 a4 a5 a6 a7 a8 a9=>?_);exact⟨.inl ⟨rfl,_,QYX a1⟩,c,_,.str (jw a),rfl,rfl,a1,a2,⟨_,_,_,_,b++[a],rfl,a3,a4,a5,a6,a7,a8,a9⟩⟩
    ·dsimp only [aT];obtain⟨a,W,rfl⟩:=Yb (z:=UG) Zo wn;refine yE0 (UH a G5 W K5) (yA9 λa1 a2 a3 a4 a5 a6 a7 a8 a9=>?_);exact⟨.inl ⟨rfl,_,QYX a1⟩,c,_,.str (jw a),rfl,rfl,a1,a2,⟨_,_,_,_,b++[a],rfl,a3,a4,a5,a6,a7,a8,a9⟩⟩
  ·refine λσ b3=>yE5 λo1 o7 o8 o9 b=>yA8 λζ w1 w2 wr X Q BW wc=>?_;subst ζ;rw[aX]at BW;refine⟨c,rfl,⟨_,QYX X⟩,?_⟩;have JL:b.length<=63:=by omega
   have UI:((b.map jw).map V.str).length=b.length:=by rw[aX,aX]
   refine bN (dX K c ((b.map jw).map V.str)) Zo (λj u d=>∃os:List (Option WP),u=os.map zG/\os.length=j/\Paired (OR d) ((b.take j).map eW) os/\Same b3 d) (λj u d ⟨os,e,b6,_,m⟩=>⟨QYX (m _ _ X),by rw[e,aX];omega⟩) ⟨[],rfl,rfl,.nil,Same.refl _⟩ (?_) (?_)
   ·refine λj y u d q=>yE1 λos=>yA4 λe CK Y m=>?_;rw[jF,jF]at q;cases A:b[j]? with
    | none=>rw[A]at q;cases q
    | some a=>
     rw[A]at q;cases q;have W:=Q a (sW A);have et:(b.take (j+1)).map eW=(b.take j).map eW++[eW a]:=by rw[Dc,A,hX];rfl
     refine⟨a,rfl,W.ne,W.sp,iB W.len Zd,λrs PD _ _ b7 G8 k rb=>?_,λPD G8 k=>?_⟩
     ·refine⟨os++[some b7],by rw[e,hX];rfl,by simp[CK],?_,m.trans k⟩;rw[et];exact Paired.snoc (Paired.map' (λ_ _=>OR.same k) Y) (by rw[PD];exact rb)
     ·refine⟨os++[none],by rw[e,hX];rfl,by simp[CK],?_,m.trans k⟩;rw[et];exact Paired.snoc (Paired.map' (λ_ _=>OR.same k) Y) (by rw[PD];exact trivial)
   refine λu d=>yE1 λos=>yA4 λe CK Y m=>?_;rw[UI]at CK Y;rw[qU (cE _)]at Y;subst e;intro Z xl;dsimp only [aK];have sA:=aA (o:=.lst (os.map zG)) xl;have gr:(aH d Z (.lst (os.map zG))) Z=some (.lst (os.map zG)):=aD;have PF:Paired (OR (aH d Z (.lst (os.map zG)))) (b.map eW) os:=Paired.map' (λ_ _=>OR.same sA) Y;have PH:=m.trans sA;generalize aH d Z (.lst (os.map zG))=HA at sA gr PF PH ⊢;have UJ:=PH _ _ X;have wrA:=wr.same PH;refine⟨rfl,c,rfl,⟨_,QYX UJ⟩,?_⟩;refine bN (dX K c ((b.map jw).map V.str)) Zo (λj u d=>u=((b.take j).map λa=>jw a++tx [10]).map V.str/\Same HA d) (λj u d ⟨e,m⟩=>⟨QYX (m _ _ UJ),by rw[e,aX,aX,fM];omega⟩) ⟨rfl,Same.refl _⟩ (?_) (?_)
   ·rintro j y u d q ⟨e,m⟩;rw[jF,jF]at q;cases A:b[j]? with
    | none=>rw[A]at q;cases q
    | some a=>
     rw[A]at q;cases q;have W:=Q a (sW A);have nl1:("\n":Str).length=1:=by decide +kernel
     refine⟨dD (by have:=W.len;omega),?_,m⟩;rw[Dc,A,hX,hX,e,Hh];rfl
   rintro u d ⟨e,m⟩;rw[UI,qU (cE _)]at e;subst e;intro lj hlj;have sJ:=aA (o:=.lst ((b.map λa=>jw a++tx [10]).map V.str)) hlj;have gJ:(aH d lj (.lst ((b.map λa=>jw a++tx [10]).map V.str))) lj=some (.lst ((b.map λa=>jw a++tx [10]).map V.str)):=aD;have LS:=m.trans sJ;generalize aH d lj (.lst ((b.map λa=>jw a++tx [10]).map V.str))=HJ at sJ gJ LS ⊢;have tl:=Wu Q JL zl;have te:(Txt.join (tx []) (b.map λa=>jw a++tx [10])).length+z'.length=(Md b z').length:=by rw[<- Ft,dQ]
   refine⟨_,lj,b.map λa=>jw a++tx [10],rfl,rfl,QYX gJ,?_,?_⟩
   ·have h1:=Iu Q;have e3:("":Str).length=0:=by decide +kernel
    rw[e3];omega
   rw[oW];refine⟨iB (le_of_eq te) (iB tl Zd),b,z',congrArg (λy=>[V.str y]) (Ft b z'),Q,zn,tl,JL,λI rm b6 x dx h a HB sB nx nlw gl gx JM rv=>?_,λi h1 h2 b1 v HB sB gu gv=>?_⟩
   ·dsimp only [aK];have GC:=LS.trans sB;have hri:∀rs∈I,RowIs rs:=rv.2;have J:Paired (OR HB) (I.map some) os:=rm▸Paired.map' (λ_ _=>OR.same GC) PF;obtain⟨qw,UK⟩:=OR.rows J hri;have B:=GC _ _ gr;refine⟨os,B,OR.tups J,?_⟩;show if decide (none∈os)=true then _ else _
    refine aV (λhb=>T7 (X4 hb) qw) (λ_=>?_);dsimp only [aT];have mw:I.length<=63:=by have:=congrArg length rm;simp only [aX]at this;omega
    have PJ:os.length=I.length:=by have:=J.length;simp only [aX]at this;exact this.symm
    have UL:(os.map zG).length=I.length:=by rw[aX,PJ]
    have UM:HB x=some (.ins C dx (jf h ((os.map zG).length:Int))):=by rw[UL];exact gx
    refine⟨.lst,.inl ⟨_,gl⟩,?_⟩;refine⟨_,QYX gl,.ref x,rfl,_,.inl (QYX B),x,h,dx,Z,_,a,os.map zG,I,2,rfl,UM,JM,rv,B,UK,Zo,Zd,λHC D=>?_⟩;have nll:b6≠h:=λz=>by
     rw[z,JM]at gl;cases gl;obtain⟨pp,_⟩:=rv
     cases pp with
     | cons b4 _=>
      obtain⟨b7,e,Y9,b0,_⟩:=b4;cases e;rw[gx]at b0;cases b0
    have nxl:x≠h:=λz=>by rw[z,JM]at gx;cases gx
    have UN:Z≠h:=aF (LS _ _ gr) nlw;have lus:a.length=I.length:=rv.1.length.symm;refine⟨_,QYX (D _ _ gl),.ref x,rfl,dx,_,D _ _ gx,Ir Zk Zk,x,h,dx,_,a,.ref t,rfl,D _ _ gx,D _ _ JM,Zo,?_⟩;have PK:TK HC (aH HC h (.lst (a++[.ref t]))):=Sq (D _ _ JM) (λxs e=>nomatch e);have kd:∀a0 o,HB a0=some o->a0≠h->(aH HC h (.lst (a++[.ref t]))) a0=some o:=λa0 o e hc=>by rw[aJ hc];exact D _ _ e
    have gw:(aH HC h (.lst (a++[.ref t]))) h=some (.lst (a++[.ref t])):=aD;have PL:RowAt (aH HC h (.lst (a++[.ref t]))) t ps:=((wrA.same GC).same D).tk PK;have UO:=(rv.same D).tk PK;have JN:=(UK.same D).tk PK;generalize aH HC h (.lst (a++[.ref t]))=HD at kd gw PL UO JN ⊢;refine⟨_,QYX (kd _ _ gl nll),.ref x,rfl,eY rfl,λm1 n1=>?_⟩;have UP:=aA (o:=.lst [.ref t]) n1;refine⟨_,_,UP _ _ (kd _ _ B UN),aD,dD (by rw[UL];simp;omega),λm2 n2=>?_⟩;have sm2:=aA (o:=.lst (os.map zG++[.ref t])) n2;have L:=UP.trans sm2;have UQ:(aH (aH HD m1 (.lst [.ref t])) m2 (.lst (os.map zG++[.ref t]))) m2=some (.lst (os.map zG++[.ref t])):=aD;generalize aH (aH HD m1 (.lst [.ref t])) m2 (.lst (os.map zG++[.ref t]))=HE at L UQ ⊢;refine⟨_,.inl (QYX (L _ _ (kd _ _ B UN))),x,h,dx,m2,_,a++[.ref t],os.map zG++[.ref t],I++[ps],1,rfl,L _ _ (kd _ _ UM nxl),L _ _ gw,RowsV.snoc (UO.same L) ri (PL.same L),UQ,RowsV.snoc (JN.same L) ri (PL.same L),by rw[gQ,length_singleton];omega,Zd,λHF sF=>b5 HF⟩
   ·dsimp only [aK];have GC:=LS.trans sB;have J:Paired (OR HB) (b.map eW) os:=Paired.map' (λ_ _=>OR.same GC) PF;have UR:os[i]?=some none:=(OR.non J i).mpr h1;have B:=GC _ _ gr;refine⟨os,B,OR.tups J,?_⟩;show if decide (none∈os)=true then _ else _
    refine aV (λ_=>?_) (λhb=>T7 (sW UR) (X3 hb));refine⟨Zs,λt9 G9 l g9=>⟨.inl ⟨rfl,_,QYX (l _ _ B)⟩,os,i,l _ _ B,OR.tups (Paired.map' (λ_ _=>OR.same l) J),UR,λb8 hm e=>h2 b8 hm ((OR.non J b8).mp e),Zs,λt8 G8 k g8=>?_⟩⟩;exact⟨_,_,aBu i,rfl,Db (k _ _ (l _ _ gu)) (k _ _ (l _ _ gv)),Db g8 (k _ _ g9),Wv,λG7 s7=>b5 G7⟩
end
structure FA(K:W.Frag)(x:Str)(st:Stmt):Prop where
 ex:∃(f:WP)(od an:Option WP)(sl:Array (Option WF))(oc kV dc pm cd ct:WF),W.nsIn K mainGlobals x=some (some (.ref f))/\K.lookup f=some ⟨oc,od,.func (W.fnOf x x (cJ st) (bB st) (aE st) .none kV dc pm an cd ct),sl⟩/\W.codeIn K cd x=true/\W.keepIn K (.ref f)=true
def FA.of{sl:Array (Option WF)}{e kV g h b i:WF}(a:W.nsIn K mainGlobals x=some (some (.ref f)))(l:K.lookup f=some ⟨e,od,.func (W.fnOf x x (cJ st) (bB st) (aE st) .none kV g h d b i),sl⟩)(c:W.codeIn K b x=true)(k:W.keepIn K (.ref f)=true):FA K x st:=⟨f,od,d,sl,e,kV,g,h,b,i,a,l,c,k⟩
def QAL:Nat->(List WF->Prop)->Prop
 |0,P=>P []
 |n+1,P=>∀a,QAL n λr=>P (a::r)
def qAL{P:List WF->Prop}:∀us{n},us.length=n->QAL n P->P us
 |[],_,rfl,h=>h
 |a::r,_,rfl,h=>qAL (P:=λr=>P (a::r)) r rfl (h a)
def qAl{n}(h:QAL n P):∀us,us.length=n->P us:=λus a=>qAL us a h
def FA.at{K:W.Frag}{x:Str}{st:Stmt}{ps:List Str}{h:Heap}{mg:Y4}(F:FA K x st)(X:K.In h)(G:h.Ns mainGlobals mg)(j:∀(kV g b:WF)(d:Option WP)(i e:WF)(us:List WF),us.length=ps.length->bindArgs (W.fnOf x x (cJ st) (bB st) (aE st) .none kV g b d i e) ⟨us,[]⟩=pure (ps.zip us):=by intro _ _ _ _ _ _;refine qAl ?_;(iterate 9 try intro _);rfl):DefAt K mg x st ps:=by
 refine yE0 F.ex (yE9 λf m d sl n kV o b p=>yE1 λe=>yA4 λa l c k=>?_);exact aAC X G a l c k j
structure MA(K:W.Frag)(C:WP)(m qual:Str)(st:Stmt):Prop where
 ex:∃(f:WP)(od an:Option WP)(sl:Array (Option WF))(oc kV dc pm cd ct:WF),W.findIn K (.ref C) m=some (some (.ref f))/\W.isFn K (.ref f)=true/\K.lookup f=some ⟨oc,od,.func (W.fnOf m qual (cJ st) (bB st) (aE st) .none kV dc pm an cd ct),sl⟩/\W.codeIn K cd qual=true/\W.keepIn K (.ref f)=true
def MA.of{sl:Array (Option WF)}{g kV h j d n:WF}(a:W.findIn K (.ref C) m=some (some (.ref f)))(i:W.isFn K (.ref f)=true)(l:K.lookup f=some ⟨g,od,.func (W.fnOf m b (cJ st) (bB st) (aE st) .none kV h j e d n),sl⟩)(c:W.codeIn K d b=true)(k:W.keepIn K (.ref f)=true):MA K C m b st:=⟨f,od,e,sl,g,kV,h,j,d,n,a,i,l,c,k⟩
def MA.at{K:W.Frag}{C:WP}{m b:Str}{st:Stmt}{ps:List Str}(F:MA K C m b st)(n:Cls K C)(o:∀(kV h d:WF)(e:Option WP)(j g:WF)(us:List WF),us.length=ps.length->bindArgs (W.fnOf m b (cJ st) (bB st) (aE st) .none kV h d e j g) ⟨us,[]⟩=pure (ps.zip us):=by intro _ _ _ _ _ _;refine qAl ?_;(iterate 9 try intro _);rfl):MethAt K C m b st ps:=by
 refine yE0 F.ex (yE9 λf p e sl q kV r d s=>yE1 λg=>yA5 λa i l c k=>?_);exact⟨n,_,_,oU l c k,⟨a,i,k⟩,(oU (st:=st) l c k).binds o⟩
def aBw{l:W.OpenLaw}{w:World}{K:W.Frag}{h:Heap}{mg:Y4}{J o:WP}(X:K.In h)(G:h.Ns mainGlobals mg)(hfa:mg "law"=some (.ref J)){EW L:Option WP}{EX:Array (Option WF)}{EY M N O p Q:WF}(Q2:FA K "is_name" nH)(V3:FA K "is_key" qL)(E8:FA K "number_of" jJ)(z9:FA K "shown_parts" dA)(M1:FA K "is_whole" kY)(B8:FA K "is_made_of" fE)(Q3:FA K "is_deed" nI)(E9:FA K "fits_word" gU)(F0:FA K "read_deed" jK)(Q4:FA K "asks_of" nJ)(F8:FA K "is_answer" gV)(n8:FA K "is_some_answer" cS)(F9:FA K "answer_of" gW)(Q5:FA K "word_of" nK)(kq:FA K "is_no" tH)(G0:FA K "bounds_of" jL)(B9:FA K "are_within" fF)(V4:FA K "is_row" mQ)(Q6:FA K "is_part" nM)(H9:FA K "shown_row" jM)(M3:FA K "read_row" jB)(C0:FA K "line_parts" iN)(Q7:FA K "deed_of" nN)(Q8:FA K "line_of" nO)(Q9:FA K "rows_of" nP)(R0:FA K "_law_pen" nQ)(M4:FA K "_law_take" kZ)(A0:FA K "_law_cell_at" gH)(J0:FA K "_law_words" jN)(J1:FA K "_law_names" eP)(M5:FA K "_law_keys" eL)(C1:FA K "_law_number" iO)(M6:FA K "_law_deed" lC)(C2:FA K "_law_answer" iP)(R1:FA K "_law_row" nR)(M7:FA K "_law_line" eM)(J2:FA K "_law_whole" jO)(A1:FA K "_law_is_word" dZ)(A2:FA K "_law_is_name" gK)(A3:FA K "_law_is_deed" eE)(u5:FA K "_law_is_answer" eI)(j3:FA K "_law_is_some_answer" cK)(C3:FA K "_law_is_row" iQ)(J3:FA K "_law_count" gX)(J4:FA K "_law_parts" jP)(M8:FA K "_law_read" lD)(M9:FA K "_law_same" fV)(N1:FA K "_law_mark" jC)(N2:FA K "_law_told" jD)(N3:FA K "_law_bent" lE)(N4:FA K "_law_torn" lF)(N5:FA K "_law_made" lG)(za:W.nsIn K mainGlobals "law"=some (some (.ref o)))(zb:K.lookup o=some ⟨EY,EW,.func (W.fnOf "law" "law" (cJ mU) (bB mU) (aE mU) .none M N O L p Q),EX⟩)(zc:W.codeIn K p "law"=true)(zd:W.keepIn K (.ref o)=true){b:WP}(N6:W.nsIn K mainGlobals "Journal"=some (some (.ref b)))(N7:W.plainGet K b Str.empty=true)(N8:W.hasDictIn K b=true)(N9:W.plainOver K b=true)(O0:W.findIn K (.ref b) "__setattr__"=some (some (.builtin "object.__setattr__")))(O1:W.makesIn K b=true)(O2:W.keepIn K (.ref b)=true)(m7:W.findIn K (.ref b) "written"=some none)(j4:W.findIn K (.ref b) "safe_count"=some none){i:WP}{K7 K8:Option WP}{K9:Array (Option WF)}{L4 L5 L6 L7 R L8:WF}{q:WP}(j7:W.findIn K (.ref b) "__init__"=some (some (.ref i)))(j8:W.isFn K (.ref i)=true)(j9:K.lookup i=some ⟨L4,K7,.func (W.fnOf "__init__" "Journal.__init__" (cJ bR) (bB bR) (aE bR) (.ref q) L5 L6 L7 K8 R L8),K9⟩)(k8:W.codeIn K R "Journal.__init__"=true)(v8:W.keepIn K (.ref i)=true)(u6:MA K b "write" "Journal.write" eG)(v9:MA K b "rows" "Journal.rows" fG)(w5:MA K b "text" "Journal.text" dI)(w9:MA K b "safe" "Journal.safe" fH){oy:Tok}{sh:Option WP}{S:List WF}{si:Nat}{oz:Array (Option WF)}(O3:K.lookup q=some ⟨.type "tuple",sh,.seq (toArray S) si,oz⟩)(O4:S=[.str ("") oy]){V:WP}(C4:W.nsIn K mainGlobals "DoorError"=some (some (.ref V))){f:WP}(r:W.nsIn K mainGlobals "NoDeed"=some (some (.ref f))){Y:WP}(V5:W.nsIn K mainGlobals "NoKey"=some (some (.ref Y))){Z:WP}(V6:W.nsIn K mainGlobals "Other"=some (some (.ref Z))){g:WP}(t:W.nsIn K mainGlobals "NoRow"=some (some (.ref g))){uy:WP}(V7:W.nsIn K mainGlobals "NoAsk"=some (some (.ref uy))){a:WP}(u:W.nsIn K mainGlobals "NoJournal"=some (some (.ref a))){ze:WP}(ku:W.nsIn K mainGlobals "Busy"=some (some (.ref ze))){pb:WP}(R4:W.nsIn K mainGlobals "NoName"=some (some (.ref pb))){zf:WP}(kz:W.nsIn K mainGlobals "Late"=some (some (.ref zf))){zg:WP}(lh:W.nsIn K mainGlobals "Down"=some (some (.ref zg))){JO:WP}(zh:W.nsIn K mainGlobals "Up"=some (some (.ref JO))){pf:WP}(R5:W.nsIn K mainGlobals "Unsafe"=some (some (.ref pf))){V8:WP}(J6:W.nsIn K mainGlobals "NoNumber"=some (some (.ref V8))){uz:WP}(V9:W.nsIn K mainGlobals "NoWay"=some (some (.ref uz))){ph:WP}(R6:W.nsIn K mainGlobals "NoLine"=some (some (.ref ph))){W0:WP}(J7:W.nsIn K mainGlobals "NoChange"=some (some (.ref W0))){Z3:WP}(O5:W.nsIn K mainGlobals "NoHouse"=some (some (.ref Z3))){px:WP}(R7:W.nsIn K mainGlobals "NoRows"=some (some (.ref px))){d:WP}{D1 D2:Option WP}{D3:Array (Option WF)}{D4 D5 D6 D7 n5 D8:WF}(u0:W.findIn K (.ref a) "__init__"=some (some (.ref d)))(j6:W.isFn K (.ref d)=true)(d9:K.lookup d=some ⟨D4,D1,.func (W.fnOf "__init__" "NoJournal.__init__" (cJ bF) (bB bF) (aE bF) .none D5 D6 D7 D2 n5 D8),D3⟩)(f9:W.codeIn K n5 "NoJournal.__init__"=true)(i6:W.keepIn K (.ref d)=true)(zi:W.excIn K g [.type "ValueError",.type "Exception",.type "BaseException",.type "object"] "ValueError.__new__"=true)(zj:W.exmOne K (.ref g) (.ref g)=some true)(sj:W.excIn K f [.type "ValueError",.type "Exception",.type "BaseException",.type "object"] "ValueError.__new__"=true)(zk:W.exmOne K (.ref f) (.ref f)=some true)(sk:Eh K a d [.type "ValueError",.type "Exception",.type "BaseException",.type "object"] "ValueError.__new__"=true)(zm:W.findIn K (.ref a) "__setattr__"=some (some (.builtin "object.__setattr__")))(zo:yT K a=true)(zp:W.hasDictIn K a=true)(zq:W.findIn K (.ref a) "line"=some none)(zr:W.takerIn K a "line"=some none)(EZ:W.findIn K (.ref a) "__getattribute__"=some (some (.builtin "BaseException.__getattribute__")))(FC:W.findIn K (.ref a) "__getattr__"=some none)(FD:W.findIn K (.ref a) "__class__"=some (some (.builtin "object.__class__")))(FE:W.specialIn K (.builtin "object.__class__") "__get__"=some (some (.builtin "getset_descriptor.__get__")))(FF:W.takesIn K (.builtin "object.__class__")=some true)(FG:W.mroIn K a (.type "object")=some true)(FH:W.mroIn K a (.type "BaseException")=some true)(FI:W.isClsIn K a=true)(FJ:W.exmOne K (.ref a) (.ref V)=some true)(sm:W.kitOne K (.ref a) (.type "ValueError")=some true)(O6:W.kitOne K (.ref a) (.ref f)=some false)(R8:W.kitOne K (.ref a) (.ref Y)=some false)(R9:W.kitOne K (.ref a) (.ref Z)=some false)(S0:W.kitOne K (.ref a) (.ref g)=some false)(S1:W.kitOne K (.ref a) (.ref uy)=some false)(p9:W.kitOne K (.ref a) (.ref a)=some true)(W2:W.kitOne K (.ref a) (.ref ze)=some false)(O7:W.kitOne K (.ref a) (.ref pb)=some false)(W3:W.kitOne K (.ref a) (.ref zf)=some false)(W4:W.kitOne K (.ref a) (.ref zg)=some false)(sq:W.kitOne K (.ref a) (.ref JO)=some false)(O8:W.kitOne K (.ref a) (.ref pf)=some false)(C5:W.kitOne K (.ref a) (.ref V8)=some false)(S2:W.kitOne K (.ref a) (.ref uz)=some false)(O9:W.kitOne K (.ref a) (.ref ph)=some false)(C6:W.kitOne K (.ref a) (.ref W0)=some false)(J8:W.kitOne K (.ref a) (.ref Z3)=some false)(P0:W.kitOne K (.ref a) (.ref px)=some false)(C7:W.nsIn K mainGlobals "ValueError"=some none)(zt:W.nsIn K mainGlobals "all"=some none)(zu:W.nsIn K mainGlobals "any"=some none)(sr:W.nsIn K mainGlobals "bool"=some none)(J9:W.nsIn K mainGlobals "enumerate"=some none)(zv:W.nsIn K mainGlobals "int"=some none)(C8:W.nsIn K mainGlobals "isinstance"=some none)(zw:W.nsIn K mainGlobals "len"=some none)(su:W.nsIn K mainGlobals "list"=some none)(zx:W.nsIn K mainGlobals "max"=some none)(zy:W.nsIn K mainGlobals "min"=some none)(ll:W.nsIn K mainGlobals "range"=some none)(zz:W.nsIn K mainGlobals "str"=some none)(lp:W.nsIn K mainGlobals "tuple"=some none)(AA:W.nsIn K mainGlobals "zip"=some none){vz:Tok}(S3:W.nsIn K mainGlobals "LETTERS"=some (some (.str ("abcdefghijklmnopqrstuvwxyz") vz))){we:Tok}(S4:W.nsIn K mainGlobals "FIGURES"=some (some (.str ("0123456789") we))){W5:Tok}(x5:W.nsIn K mainGlobals "LONGEST_NAME"=some (some (.int (8) W5))){X9:Tok}(A4:W.nsIn K mainGlobals "LONGEST_KEY"=some (some (.int (12) X9))){S5:Tok}(p8:W.nsIn K mainGlobals "LONGEST_NUMBER"=some (some (.int (13) S5))){FK:Tok}(sv:W.nsIn K mainGlobals "MOST"=some (some (.int (1000000000000) FK))){x:WP}{K0:List DictEntry}{Y0:Nat}(A6:W.nsIn K mainGlobals "NAME_COUNTS"=some (some (.ref x)))(A7:K.lookup x=some ⟨.type "dict",none,.dict (toArray K0) Y0,#[]⟩)(A8:Tab w.params K0 (WS))(A9:(x==sysModules)=false){K2:WP}{B6:List WF}{T5:Option WP}{W6:Nat}{T6:Array (Option WF)}(x6:W.nsIn K mainGlobals "UNLIKE_WORDS"=some (some (.ref K2)))(x8:K.lookup K2=some ⟨.type "tuple",T5,.seq (toArray B6) W6,T6⟩)(m9:Vals (UW) B6){y:WP}{pz:List DictEntry}{BY:Nat}(lu:W.nsIn K mainGlobals "PARTS"=some (some (.ref y)))(ma:K.lookup y=some ⟨.type "dict",none,.dict (toArray pz) BY,#[]⟩)(md:TabT K w.params pz (PTS))(mf:(y==sysModules)=false){z:WP}{Z4:List DictEntry}{AD:Nat}(W8:W.nsIn K mainGlobals "BOUNDS"=some (some (.ref z)))(W9:K.lookup z=some ⟨.type "dict",none,.dict (toArray Z4) AD,#[]⟩)(X0:TabT K w.params Z4 (BDS))(X1:(z==sysModules)=false)
  : ∃fd:FuncData,(∀(s:UV)(v:WF),BindsTo s fd ⟨[v],[]⟩ [("_law_script",v)])/\∀base:Heap,K.In base->base.Ns mainGlobals mg->oS l.prog w K mg base sZ 13 J fd QZj (Iw K):=by
 have a0:=hfa.symm.trans (W.mg_of X G za);cases a0;have T:Txt K mg:=⟨W.mg_none_of X G C7,W.mg_none_of X G zt,W.mg_none_of X G zu,W.mg_none_of X G sr,W.mg_none_of X G J9,W.mg_none_of X G zv,W.mg_none_of X G C8,W.mg_none_of X G zw,W.mg_none_of X G su,W.mg_none_of X G zx,W.mg_none_of X G zy,W.mg_none_of X G ll,W.mg_none_of X G zz,W.mg_none_of X G lp,W.mg_none_of X G AA,⟨_,W.mg_of X G S3⟩,⟨_,W.mg_of X G S4⟩,⟨_,W.mg_of X G x5⟩,⟨_,W.mg_of X G A4⟩,⟨_,W.mg_of X G p8⟩,⟨_,W.mg_of X G sv⟩⟩;have U:Top w.params K mg:=⟨⟨_,W.mg_of X G A6,⟨_,_,A7,A8,A9⟩⟩,⟨_,W.mg_of X G x6,λ_=>.inr ⟨_,_,_,x8,rfl,rfl,by rw[iA,<- m9.length];decide,m9⟩⟩,⟨_,W.mg_of X G lu,⟨_,_,ma,md,mf⟩⟩,⟨_,W.mg_of X G W8,⟨_,_,W9,X0,X1⟩⟩⟩;have j:Cls K b:=⟨N7,N8,N9,O0⟩;subst O4;have xa:ClsAt K mg "Journal" b "Journal.__init__" bR QZB [[]]:=⟨i,_,_,W.mg_of X G N6,⟨_,_,_,_,_,_,_,_,_,rfl,j9,k8⟩,⟨O1,j7,j8,O2⟩,by
  intro a1 hd;obtain rfl:=Zms.mp hd
  ·exact⟨[],λs k KI m=>by replace m:k.length=2:=(by simpa using m);revert k;refine qAl ?_;intro _ _;exact BindsTo.of_defaults (T:=q) rfl (KI _ _ O3) rfl rfl rfl,.nil⟩⟩
 have qo:InitAt K d "NoJournal.__init__" bF QZt:=⟨⟨_,oU d9 f9 i6,(oU (st:=bF) d9 f9 i6).binds (λ_ _ _ _ _ _ k m=>match k,m with|[_,_],_=>rfl)⟩,j6⟩;refine⟨W.fnOf "law" "law" (cJ mU) (bB mU) (aE mU) .none M N O L p Q,λs v=>.of_eq rfl,λbase _ _=>?_⟩;have JP:=oU (st:=mU) zb zc zd;have cp:=aBe (P:=l.prog) (w:=w) (base:=base) T (R0.at X G);have c:=Vl (P:=l.prog) (w:=w) (base:=base) T (M4.at X G);have ce:=Vm (P:=l.prog) (w:=w) (base:=base) T (A0.at X G);have A:=By T c (C1.at X G);have I:=Sc T c (J0.at X G);have cna:=Fp T I c (J1.at X G);have cke:=Lp T I c (M5.at X G);have cde:=Kx T c A (M6.at X G);have can:=Ca T c A (C2.at X G);have crd:=Wa T c A cde can (R1.at X G);have B:=Vn (P:=l.prog) (w:=w) (base:=base) T (B8.at X G);have C:=Fa T B (Q2.at X G);have c4k:=Kv T B (V3.at X G);have D:=Qy (P:=l.prog) (w:=w) (base:=base) T (M1.at X G);have c6:=Vo T U C (E9.at X G);have c7:=Fb T c6 D (Q3.at X G);have E:=Kw T B (E8.at X G);have cas:=Vp (P:=l.prog) (w:=w) (base:=base) T (Q4.at X G);have F:=Fc (P:=l.prog) (w:=w) (base:=base) T (Q5.at X G);have US:=Qz T C (kq.at X G);have cb:=Ky (P:=l.prog) (w:=w) (base:=base) T (G0.at X G);have cw:=Kz T D (B9.at X G);have ca:=zN T F US cas cb cw (F8.at X G);have cso:=Vr T F US ca (n8.at X G);have cpt:=Vs T U D C c4k c7 cso (Q6.at X G);have cro:=La T U F cpt ca (V4.at X G);have n:=Lb (P:=l.prog) (w:=w) (base:=base) T (J2.at X G);have JR:=Ra (P:=l.prog) (w:=w) (base:=base) T (A1.at X G);have H:=Fd T JR (A2.at X G);have cld:=Fg T H n (A3.at X G);have cla:=Vv T n (u5.at X G);have cls:=Ri T n H (j3.at X G);have clr:=Vy T n JR H cld cla cls (C3.at X G);have XN:XCls K mg "NoDeed" f:=⟨W.mg_of X G r,sj⟩;have XR:XCls K mg "NoRow" g:=⟨W.mg_of X G t,zi⟩;have XQ:qA K a:=⟨EZ,FC,FD,FE,FF,FG,FH,FI⟩;have PR:=zS T XN E c7 (F0.at X G);have cdo:=Ci T (W.mg_of X G r) zk PR (Q7.at X G);have cao:=Fm T E (F9.at X G);have clp:=Fn T cdo cao (C0.at X G);have crr:=zV T U XR clp E cro (M3.at X G);have cco:=Ru (P:=l.prog) (w:=w) (base:=base) T (J3.at X G);have cpl:=Fo T cco (J4.at X G);have crl:=Lo T cpl clr (M8.at X G);have UT:=Wh (P:=l.prog) (w:=w) (base:=base) T (M7.at X G);have XI:XClsI K mg "NoJournal" a d:=⟨W.mg_of X G u,sk⟩;have iJ:rM l.prog w K mg base 1 a d "line":=Wp ⟨zm,zo,zr⟩ qo;have e:JT K b:=⟨j,m7,j4⟩;have PU:=Si T (W.mg_of X G t) zj XI iJ crr (Q9.at X G);have cji:=aCU T e PU xa;have mk:=Wq (P:=l.prog) (w:=w) (base:=base) T ⟨W.mg_of X G r,W.mg_of X G V5,W.mg_of X G V6,W.mg_of X G t,W.mg_of X G V7,W.mg_of X G u,W.mg_of X G ku,W.mg_of X G R4,W.mg_of X G kz,W.mg_of X G lh,W.mg_of X G zh,W.mg_of X G R5,W.mg_of X G J6,W.mg_of X G V9,W.mg_of X G R6,W.mg_of X G J7,W.mg_of X G O5,W.mg_of X G R7,XQ,O6,R8,R9,S0,S1,p9,W2,O7,W3,W4,sq,O8,C5,S2,O9,C6,J8,P0,sm⟩ (N1.at X G);have cmd:=Sk T ⟨W.mg_of X G C4,W.mg_of X G u,FJ,XQ,p9,zp,zq⟩ (cji _ Zs) mk (N5.at X G);have cbe:=Wr T c (N3.at X G);have ctn:=Lw T c (N4.at X G);have cpa:=Fq (P:=l.prog) (w:=w) (base:=base) T (z9.at X G);have csh:=Wn T cpa (H9.at X G);have clo:=Fs T csh (Q8.at X G);have cjw:=Sf (P:=l.prog) (w:=w) (base:=base) (mg:=mg) e (u6.at j);have cjr:=Sg (P:=l.prog) (w:=w) (base:=base) T e (v9.at j);have cjs:=Wo (P:=l.prog) (w:=w) (base:=base) (mg:=mg) e (w9.at j);have cjt:=Sh T e clo (w5.at j);have UU:=Ho (P:=l.prog) (w:=w) (base:=base) T (M9.at X G) 3;have cto:=Wt T e UT cjr cjt cjs UU (N2.at X G);exact aBv T e cp ce cna cke crd UT c ctn cbe crl cmd cto cjw UU JP
def aDT{l:W.OpenLaw}{q:Program}{g:List Str}{i:(Str->Option WF)->Heap->Prop}{b:World->Heap->Prop}{d:DefRec}{K:Params->W.Frag}(j:l.most=some 63)(m:d.params.defaults=[])(o:∀(w:World)(h:Heap),b w h->(K w.params).In h)(F:∀(w:World)(mg:Y4)(c:WP)(h:Heap),(K w.params).In h->h.Ns mainGlobals mg->mg d.name=some (.ref c) →
   ∃e:FuncData,(∀(s:UV)(u:WF),BindsTo s e ⟨[u],[]⟩ [("_law_script",u)])/\∀base:Heap,(K w.params).In base->base.Ns mainGlobals mg->oS l.prog w (K w.params) mg base sZ 13 c e QZj (Iw (K w.params))) :
  W.WalkO q g i b l.row.toRowW d [] (λf vs=>PySem.call f vs):=
 L2.Gg (n:=63) (k:=13) (x:="_law_script") (CX:=λ_=>sZ) (sp:=λw=>Iw (K w.params)) j Zd m ⟨rfl,Zd,Zd⟩ o F (λ_ _ a p r _ t=>⟨a,p,rfl,t,r,λ_=>rfl⟩) λ_ _ _ _ _ z=>z
end KL
namespace PySem.W.Fast
def tw4681006492464212790:=0
def tw13973552927549834704:=0
def tw14045613865154389328:=0
def tw2485353937833926967:=0
def tw15129882209722651321:=0
def tw7391234033794938602:=0
def tw6905875539240858037:=0
def tw7021143893280921561:=0
def tw8450017251441960110:=0
def tw10349074862198796950:=0
def tw3701996920127461633:=0
def tw2197648729745644069:=0
def tw2594717468817000064:=0
def tw11946393073972206243:=0
def tw5823598428690112805:=0
def tw10168273921681554636:=0
def tw13397878855324068172:=0
def tw8556124984006572903:=0
def tw8679393749491607683:=0
def tw13093026121332081426:=0
def tw2355190510368294406:=0
def tw16142144756747375758:=0
def tw8119064231174019664:=0
def tw16519507885660767171:=0
def tw3614129360316760860:=0
def tw16680059631110274880:=0
def tw9448164788882870238:=0
def tw13785348079372415258:=0
def tw3915256123581814528:=0
def tw15731896229944135677:=0
def tw4412861853849679085:=0
def tw1558461488346645761:=0
def tw17192752801846893802:=0
def tw17348754323911729249:=0
def tw4380121001048214550:=0
def tw9893200563307689777:=0
def tw6402124224245011308:=0
def tw12470464598127109688:=0
def tw8398746640356210426:=0
def tw945756562030211830:=0
def tw17848533347920643328:=0
def tw4396693273971238093:=0
def tw10177388851174354811:=0
def tw14627064424883701613:=0
def tw5203121154036515232:=0
def tw7135201340433625957:=0
def tw13363847692933019865:=0
def tw11497182711045619169:=0
def tw4607038415097325492:=0
def tw11844563654044562415:=0
def tw9433847242995125708:=0
def tw17514452197897261428:=0
def tw14273737615839088769:=0
def tw14515427944909201421:=0
def tw15905263345202243442:=0
def tw18296415264172944955:=0
def tw7846370896614296051:=0
def tw8495980323746966995:=0
def tw16064855759252561235:=0
def tw11939791349255535956:=0
def tw16895230876579084581:=0
def tw17792437422633308795:=0
def tw16504499079512848831:=0
def tw15858010422417366066:=0
def tw9240071405158037412:=0
def tw4370148321235259862:=0
def tw14116197702571091461:=0
def tw7609146215414243929:=0
def tw9786370507044086595:=0
def tw3904604462786297740:=0
def tw5349530641904434972:=0
def tw12266081330491193373:=0
def tw2013024517667270113:=0
def tw3384008550351212859:=0
def tw13372585826365662299:=0
def tw10060188990781049738:=0
def tw4151061405326196520:=0
def tw14309975777210647663:=0
def tw3041314281447694564:=0
def tw9882378063370353230:=0
def tw17169220310761306334:=0
def tw11819881255861230971:=0
def tw12324799806401420813:=0
def tw13971167950802440376:=0
def tw5399612489081389788:=0
def tw8355055814317306221:=0
def tw2052163631928736202:=0
def tw16349922526118376743:=0
def tw5828219595670946842:=0
def tw12132484451004401068:=0
def tw12642810962596581181:=0
def tw1630482319149979249:=0
def tw6471766666817973838:=0
def tw687256126852318864:=0
def tw15905262776722847489:=0
def tw3020365014567693358:=0
def tw4253247453997676564:=0
def tw674497107525488657:=0
def tw12136152070733563652:=0
def tw6755452619943235782:=0
def tw18184730740664134620:=0
def tw15903806798693035074:=0
def tw13126701838661806690:=0
def tw11892649521100239569:=0
def tw7595768599170754986:=0
def tw2430303610995502275:=0
def tw975500787030518997:=0
def tw11658805065074636465:=0
def tw16962660990417930293:=0
def tw5356185428852007631:=0
def tw10036037805947653988:=0
def tw14954680762745926440:=0
def tw12166138077224989623:=0
def tw5336332928811611676:=0
def tw2861140331797448954:=0
def tw11391593568732500027:=0
def tw17011926039133074917:=0
def tw18205414236139737860:=0
def tw14852011118623145990:=0
def tw10288102101340682135:=0
def tw11287794840595040509:=0
def tw3712520702031209206:=0
def tw6271681596938311308:=0
def tw14093236138040354803:=0
def tw7394567871229495762:=0
def tw887612639327209237:=0
def tw17960361340509173708:=0
def tw1223187469844376519:=0
def tw6635606866893634994:=0
def tw15351216875013341728:=0
def tw11086379242579916849:=0
def tw91520043118831357:=0
def tw12154741927350674562:=0
def tw4564613106286867848:=0
def tw15045459406215578658:=0
def tw2841877956239729512:=0
def tw16876561851524227581:=0
def tw9988376968116504291:=0
def tw352316095163259544:=0
def tw14648235926458565748:=0
def tw15366521356041584415:=0
def tw13007920612084693418:=0
def tw18070541145400284596:=0
def tw1847267940231164623:=0
def tw12144775675415745692:=0
def tw7611320469253465200:=0
def tw15642909756254755402:=0
def tw1552904340950724987:=0
def tw16994381261814471287:=0
def tw13791404653743614055:=0
def tw4225291164556315711:=0
def tw12177559246922356059:=0
def tw16580988842697083294:=0
def tw17715792984957148031:=0
def tw16833908221019971818:=0
def tw9128377069758730279:=0
def tw17033134029434969930:=0
def tw8083156103336122024:=0
def tw6423925852442357889:=0
def tw16554982925622455676:=0
def tw14358249702612792488:=0
def tw8714890454685556236:=0
def tw4682223301890449089:=0
def tw3763672911673243120:=0
def tw1971558246952209124:=0
def tw496492830596184552:=0
def tw433743626104734420:=0
def tw13296239796954754150:=0
def tw286498730460827835:=0
def tw66054698948653943:=0
def tw10085196866528721613:=0
def tw9213673008922080636:=0
def tw8831282607688063970:=0
def tw9456987812124778897:=0
def tw2876526577469506613:=0
def tw15287721154464964575:=0
def tw15828598602013087461:=0
def tw150826592156524492:=0
def tw3975935780755856118:=0
def tw952274039757552624:=0
def tw2364938123993979825:=0
def tw8378573658141834086:=0
def tw17180371813682506887:=0
def tw14903782141509016515:=0
def tw2117948021542275881:=0
def tw4163994082515703331:=0
def tw18436688606750131601:=0
def tw3514597453545897756:=0
def tw3799260894548310908:=0
def tw15556805018539148127:=0
def tw6403352753304910323:=0
def tw305857956501739808:=0
def tw5045091511263517818:=0
def tw5989304305896812024:=0
def tw11279968988307644810:=0
def tw3995840622304870091:=0
def tw18221959297985777821:=0
def tw3830764206675381748:=0
def tw1676388981626372822:=0
def tw7258607821702954044:=0
def tw9196837374483429928:=0
def tw12345495691342995407:=0
def tw11740312385015016737:=0
def tw7304600231410856538:=0
def tw10620620705974857293:=0
def tw18102390739582620690:=0
def tw15464055803788005447:=0
def tw16990362907691294697:=0
def tw9524141193992718984:=0
def tw3427405066568584949:=0
def tw17217446148742728798:=0
def tw2314887925034195042:=0
def tw11152131628298880541:=0
def tw1756418281369289903:=0
def tw17598309172319384368:=0
def tw9904811994531312844:=0
def tw3341636066075707189:=0
def tw16423073213695667738:=0
def tw8410419571337453033:=0
def tw16183633810953209795:=0
def tw10268399732548893522:=0
def tw1116782420585674380:=0
def tw1440052971215666598:=0
def tw2844511184430009145:=0
def tw6692509427148398754:=0
def tw17531099790081252099:=0
def tw6055864950003947691:=0
def tw13393807211613126455:=0
def tw2334690231742008689:=0
def tw14136990522662273694:=0
def tw17584575801189693664:=0
def tw15609265676320624045:=0
def tw2743941388419709937:=0
def tw5711495744810718400:=0
def tw14441533316298623779:=0
def tw17412295475139386801:=0
def tw5136141467056585534:=0
def tw12956949274141078431:=0
def tw3491437856597583486:=0
def tw13101992599805494173:=0
def tw1597095087537802065:=0
def tw13981573513884505720:=0
def tw17807325056328519247:=0
def tw16266339440267470752:=0
def tw121734774212211975:=0
def tw5754285441665447116:=0
def tw11434614559895898819:=0
def tw17424441691540916688:=0
def tw15316943417827657983:=0
def tw3841653668728668344:=0
def tw14477594157970219740:=0
def tw9939564810535957700:=0
def tw2794379793033397309:=0
def tw5392633457235424931:=0
def tw17965381038108630655:=0
def tw2518716351950175797:=0
end PySem.W.Fast
open PySem PySem.W PyProof.Rows
set_option maxRecDepth 100000 in
set_option maxHeartbeats 0 in
theorem PySem.Challenge.cw_oncedoor_k35_journals_made_of_texts_holds : PySem.Challenge.rw_oncedoor_k35_journals_made_of_texts.Holds := by
 w_on;o_law;k_head;(case hw=>w_witness2)
 k_fill
 refine KL.aDT (l:=PySem.Challenge.rw_oncedoor_k35_journals_made_of_texts) rfl rfl (λw h Y=>W.kIn_of Y) ?F
 case F=>
  intro w mg fa h KX G DG;refine' KL.aBw KX G DG ?Q2 ?V3 ?E8 ?z9 ?M1 ?B8 ?Q3 ?E9 ?F0 ?Q4 ?F8 ?n8 ?F9 ?Q5 ?kq ?G0 ?B9 ?V4 ?Q6 ?H9 ?M3 ?C0 ?Q7 ?Q8 ?Q9 ?R0 ?M4 ?A0 ?J0 ?J1 ?M5 ?C1 ?M6 ?C2 ?R1 ?M7 ?J2 ?A1 ?A2 ?A3 ?u5 ?j3 ?C3 ?J3 ?J4 ?M8 ?M9 ?N1 ?N2 ?N3 ?N4 ?N5 ?za ?zb ?zc ?zd ?N6 ?N7 ?N8 ?N9 ?O0 ?O1 ?O2 ?m7 ?j4 ?j7 ?j8 ?j9 ?k8 ?v8 ?u6 ?v9 ?w5 ?w9 ?O3 ?O4 ?C4 ?B5 ?V5 ?V6 ?J5 ?V7 ?m8 ?ku ?R4 ?kz ?lh ?zh ?R5 ?J6 ?V9 ?R6 ?J7 ?O5 ?R7 ?u0 ?j6 ?d9 ?f9 ?i6 ?zi ?zj ?sj ?zk ?sk ?zm ?zo ?zp ?zq ?zr ?EZ ?FC ?FD ?FE ?FF ?FG ?FH ?FI ?FJ ?sm ?O6 ?R8 ?R9 ?S0 ?S1 ?p9 ?W2 ?O7 ?W3 ?W4 ?sq ?O8 ?C5 ?S2 ?O9 ?C6 ?J8 ?P0 ?C7 ?zt ?zu ?sr ?J9 ?zv ?C8 ?zw ?su ?zx ?zy ?ll ?zz ?lp ?AA ?S3 ?S4 ?x5 ?A4 ?p8 ?sv ?A6 ?A7 ?A8 ?A9 ?x6 ?x8 ?m9 ?lu ?ma ?md ?mf ?W8 ?W9 ?X0 ?X1
  case Q2|V3|E8|z9|M1|B8|Q3|E9|F0|Q4|F8|n8|F9|Q5|kq|G0|B9|V4|Q6|H9|M3|C0|Q7|Q8|Q9|R0|M4|A0|J0|J1|M5|C1|M6|C2|R1|M7|J2|A1|A2|A3|u5|j3|C3|J3|J4|M8|M9|N1|N2|N3|N4|N5=>refine' KL.FA.of ?a ?l ?c ?k;(case a=>k_is);(case l=>k_is);(case c=>k_is);case k=>k_is
  case za|zb|zc|zd|N6|N7|N8|N9|O0|O1|O2|m7|j4|j7|j8|j9|k8|v8=>k_is
  case u6|v9|w5|w9=>refine' KL.MA.of ?a ?i ?l ?c ?k;(case a=>k_is);(case i=>k_is);(case l=>k_is);(case c=>k_is);case k=>k_is
  case O3=>k_is
  case O4=>exact rfl
  case C4|B5|V5|V6|J5|V7|m8|ku|R4|kz|lh|zh|R5|J6|V9|R6|J7|O5|R7|u0|j6|d9|f9|i6=>k_is
  case zi=>k_exc
  case zj=>kts_exm
  case sj=>k_exc
  case zk=>kts_exm
  case sk=>kernel_rfl
  case zm=>k_is
  case zo=>kernel_rfl
  case zp|zq=>k_is
  case zr=>kernel_rfl
  case EZ|FC|FD|FE|FF|FG|FH|FI=>k_is
  case FJ=>kts_exm
  case sm|O6|R8|R9|S0|S1|p9|W2|O7|W3|W4|sq|O8|C5|S2|O9|C6|J8|P0=>kit_is
  case C7|zt|zu|sr|J9|zv|C8|zw|su|zx|zy|ll|zz|lp|AA|S3|S4|x5|A4|p8|sv|A6|A7=>k_is
  case A8=>repeat (first | exact True.intro | refine And.intro ⟨_,rfl⟩ (And.intro rfl (And.intro ⟨_,rfl⟩ ?_)))
  case A9=>decide
  case x6|x8=>k_is
  case m9=>repeat (first | exact .nil | refine .cons ⟨_,rfl⟩ ?_)
  case lu|ma=>k_is
  case md=>repeat (first | exact True.intro | refine And.intro ⟨_,rfl⟩ (And.intro rfl (And.intro ⟨_,_,_,_,_,rfl,(by k_is),(by repeat (first | exact .nil | refine .cons ⟨_,rfl⟩ ?_))⟩ (And.intro Zd ?_))))
  case mf=>decide
  case W8|W9=>k_is
  case X0=>repeat (first | exact True.intro | refine And.intro ⟨_,rfl⟩ (And.intro rfl (And.intro ⟨_,_,_,_,_,rfl,(by k_is),(by repeat (first | exact .nil | refine .cons ⟨_,rfl⟩ ?_))⟩ (And.intro Zd ?_))))
  case X1=>decide
