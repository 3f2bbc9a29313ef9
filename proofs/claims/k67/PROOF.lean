import PyProof.Rows.All
import KE.KDictOf
import KE.LcSums
import KE.KDictSum
import KE.RegKIsAll
import KE.KSortTup
import KE.KIntText
import KE.RegKTryMore
import PySem.Challenge.RW_oncedoor_k67_folds
set_option Elab.async false
set_option linter.all false
set_option maxRecDepth 100000
set_option maxHeartbeats 4000000
set_option compiler.extract_closed false
set_option genSizeOf false
section
set_option hygiene false
open Lean
local macro_rules|`(#check $s:str)=>do
 let mut x:Array Ident:=#[];let mut p:="";let mut l:=0
 for w in s.getString.splitOn " " do
  if let some n:=w.toNat? then
   if l=0 then l:=n+1
   else
    for i in [l-1:n] do x:=x.push (mkIdent (.mkSimple s!"tw{(Name.str `zHX s!"{p}{i}").hash}"))
    l:=0
  else p:=w
 `(structure PySem.W.Fast:Prop where($x*:True))
#check "o_ 43 47 49 421 423 674 676 721 723 1151 1154 1311 tree_ 47 48 70 71 85 86 100 101 115 116 130 131 145 146 160 161 175 176 190 191 205 206 220 221 235 236 250 251 272 273 294 295 316 317 359 360 420 421 491 492 568 569 623 624 673 674 720 721 793 794 817 818 866 867 916 917 1071 1072 1150 1151 1163 1164 1246 1247 1310 1311 sts_ 49 50 71 72 86 87 101 102 116 117 131 132 146 147 161 162 176 177 191 192 206 207 221 222 236 237 251 252 273 274 295 296 317 318 360 361 423 424 492 493 569 570 624 625 676 677 723 724 794 795 818 819 867 868 917 918 1154 1155 1164 1165 1247 1248 heap_ 39 40 46 47 1311 1312 view_ 39 40 env_ 41 42"
end
namespace PySem.W.Fast
def tw16840714137888142375:=0
def tw14846879811089655911:=0
end PySem.W.Fast
open PySem PySem.W PyProof.Rows in
set_option maxHeartbeats 0 in
open_top zHX for PySem.Challenge.rw_oncedoor_k67_folds
open List (toArray)
section
local macro_rules|`(!$x)=>`(some $x)
set_option hygiene false
local macro_rules|`($c:ident^1)=>`(W.keepIn K (.ref $c)=true)|`($c:ident^2)=>`(W.isFn K (.ref $c)=true)|`(0^$s:str)=>`(W.nsIn K mainGlobals $s)|`($c:ident^$s:str)=>`(W.findIn K (.ref $c) $s=some none)|`($c:ident^9 $a*)=>`($c (c:=#[a,f,e,g,h,b]) $a*)|`($c:ident^0 $a*)=>`($c (P:=l.prog) (w:=w) (mg:=mg) (base:=base) $a*)|`($c:ident^$n:num $a*)=>`($c P w K mg base $n $a*)
open Lean in
def zD(s:String)(a:List Term):MacroM Term:=do
 let t:="lc2  li0 lv2 rfl0 nv1 o00 pi1 pc0 ^pq1 px1 pv3 K0 C0 ui3           &u83 ut0 tz4 re3 sw2  f0 vj3 vk3 ^v62 wl4 wn1 a0 N0 wv0 xq0 xm5 m0 ww0 xz1 rs0 rO7 vm1 fp0 X0 scope0 xr3 c0 PassesOwn.never0 yh5 x0 X.env0 yk1 ^yj0  xn4 b0   s.heap.objs.size0 es0 j70 ^AT0 d0 envOfC5 eF7 tu0 hs0 AC1 AW0 yi0 c50 starEach2 backTo2 T.b_len0 AZ1 bN4 eI0 &vi2 ^xo1 aK2 A.deeper1 BA1 ^BE6 pos0   BG0  ns0  iA.nd0 ^BH0 BI0 u0 PySem.F.plainAttrs_list0 aB1 BC3 BK2 BL3 BN2 st0 q0 l0           Heap.lt_size1 bE2 GI2 BQ2 CM1  CN1 CO5 ^CP0 e0 j0 PySem.F.slot_list_append0 PySem.F.type_list_append0 b.length0 hr0 CS0 CQ0 i0 F0 S0 B0 L0 tupleKind1 R.da4 cpos0 tC1 R.gt0 R.cz0 H20 z0 M0 v0 keywordEach2 getMethod3  backToKw2 T.b_sorted0   rs.length0 Sum.inl1 R.gI2 dR.nd0 cW.nd0 R.le0 R.lt0 R.dh0 R.di0 bA2 pl0 AY0 fO0 as0 H0 g0 Q0 T.b_isinstance0 X.prog0 R.du7 dD.nd0 yT3 R.ne0 R.dz0 X.w0 j80   f70  q90  y0 G0 R.gR2 R.fg2 ^R.cx1 R.dm1 R.dl1 hV.nd0 eS.nd0 eT.nd0 qual0 R.sS0 R.ft0           hd0 BJ0 d50 A00 P0  w0 o0 t0 s0 A0 k0 O0 s.runs.map1 T.b_tuple0 T.b_range0 T.g_MOST0 T.b_str0 T.b_int0 R.gS2 R.ic1 R.eu1 R.fh2 R.fm1 R.de3 iV.nd0 nY.nd0 iY.nd0 eC.nd0 ew7 iW.nd0 Bf1 vr1 R.dw0  R.dy0 R.eg0   ^R.ed0 tT2 eU2 f81 prs0 s₂0 H₂0 Gi0 Gj0 vW0 wd0 oh0 b70 c70 fb0 T10 PySem.F.plainAttrs_str0 T.g_LETTERS0 ne_of_lt1 T.b_list0 T.b_dict0 T.b_all0 T.b_max0 R.ja5 ^R.jb1 R.je1   ^R.fu1".splitOn " "
 let mut k:List Term:=[];let mut h:=a;let mut e:=0;let mut b:=""
 for c in s.toList do
  let mut x:=""
  if e>2 then
   if c != ' ' then b:=b.push c
   else
    if e=4 then x:=b
    else k:=(if b.front.isDigit then Syntax.mkNumLit b else mkIdent b.toName)::k
    e:=0;b:=""
  else if c='`' then e:=3
  else if c='{' then e:=4
  else if c='~' then e:=1
  else if c='|' then e:=2
  else if c='?' then
   k:=h.head!::k;h:=h.tail
  else if c='_' then k:=(<-`(_))::k
  else if c.isDigit then k:=(<-`(f8 $(quote (c.toNat-48))))::k
  else
   x:=t.getD (c.toNat-33+94*e) "";e:=0
  if x != "" then
   let n:=x.back.toNat-48;let r:=(k.take n).reverse;let y:=(x.dropRight 1);let f:=mkIdent (y.dropWhile (fun c=>c='^'||c='&')).toName;let g:=r.toArray
   k:=(<-if x.front='^' then `($f (K:=K) $g*) else if x.front='&' then
     let i:=r.head!;let g:=r.tail.toArray
     `($f (i:=$i) $g*)
    else pure (Syntax.mkApp f g))::k.drop n
 return k.head!
open Lean in
local macro_rules|`(!$s:str)=>zD s.getString []|`(!$s:str $a*)=>zD s.getString a.toList
set_option hygiene true
local macro_rules|`(#[$es,*])=>`(⟨$es,*⟩)
local macro_rules|`(tactic|exists $es,*)=>`(tactic|refine ⟨$es,*, ?_⟩)
section
variable{a b c d e f g h i G:Prop}
theorem JB(h:a)(k:a->G):G:=k h
theorem JW(t:a->b->G):a/\b->G:=λh=>t h.1 h.2
theorem JE(t:a->b->c->G):a/\b/\c->G:=JW λx=>JW (t x)
theorem KJ(t:a->b->c->d->G):a/\b/\c/\d->G:=JW λx=>JE (t x)
theorem MJ(t:a->b->c->d->e->G):a/\b/\c/\d/\e->G:=JW λx=>KJ (t x)
theorem MI(t:a->b->c->d->e->f->G):a/\b/\c/\d/\e/\f->G:=JW λx=>MJ (t x)
theorem QZ(t:a->b->c->d->e->f->g->G):a/\b/\c/\d/\e/\f/\g->G:=JW λx=>MI (t x)
theorem UR(t:a->b->c->d->e->f->g->h->G):a/\b/\c/\d/\e/\f/\g/\h->G:=JW λx=>QZ (t x)
theorem TY(t:a->b->c->d->e->f->g->h->i->G):a/\b/\c/\d/\e/\f/\g/\h/\i->G:=JW λx=>UR (t x)
variable{α β γ δ ε ζ η θ ι:Sort _}
theorem JU{P:α->Prop}(t:∀x,P x->G):(∃x,P x)->G:=λh=>h.elim t
theorem JR{P:α->β->Prop}(t:∀a b,P a b->G):(∃a b,P a b)->G:=JU λx=>JU (t x)
theorem LB{P:α->β->γ->Prop}(t:∀a b c,P a b c->G):(∃a b c,P a b c)->G:=JU λx=>JR (t x)
theorem NF{P:α->β->γ->δ->Prop}(t:∀a b c d,P a b c d->G):(∃a b c d,P a b c d)->G:=JU λx=>LB (t x)
theorem QL{P:α->β->γ->δ->ε->Prop}(t:∀a b c d e,P a b c d e->G):(∃a b c d e,P a b c d e)->G:=JU λx=>NF (t x)
theorem RG{P:α->β->γ->δ->ε->ζ->Prop}(t:∀a b c d e f,P a b c d e f->G):(∃a b c d e f,P a b c d e f)->G:=JU λx=>QL (t x)
theorem S5{P:α->β->γ->δ->ε->ζ->η->Prop}(t:∀a b c d e f g,P a b c d e f g->G):(∃a b c d e f g,P a b c d e f g)->G:=JU λx=>RG (t x)
theorem RJ{P:α->β->γ->δ->ε->ζ->η->θ->Prop}(t:∀a b c d e f g h,P a b c d e f g h->G):(∃a b c d e f g h,P a b c d e f g h)->G:=JU λx=>S5 (t x)
theorem RH{P:α->β->γ->δ->ε->ζ->η->θ->ι->Prop}(t:∀a b c d e f g h i,P a b c d e f g h i->G):(∃a b c d e f g h i,P a b c d e f g h i)->G:=JU λx=>RJ (t x)
end
abbrev A2:=List PySem.Str
abbrev BD:=List (PySem.Str×Int)
abbrev DD:=List (PySem.Str×PySem.Str)
abbrev DJ:=Option Int
abbrev DO:=List Nat
abbrev Di:=List (Option Nat)
abbrev EZ:=List Int
abbrev ZB:=List<|PySem.Addr×PySem.Obj
abbrev Y7:=PySem.Value->PySem.Shared->Prop
abbrev X5:=PySem.Str->Option PySem.Value
def XV:=@PySem.wpAny_bind
def W1:=@PySem.wpAny_pure
def WP:=@Bool.false_ne_true
def WF:=@of_decide_eq_true
def UV:=@of_decide_eq_false
def UF:=@decide_eq_true
def T0:=@decide_eq_false
def TW:=@PySem.Heap.get?_push_size
abbrev TD:=PySem.Addr
abbrev BZ:=List TD
abbrev D6:=Option TD
abbrev GA:=List (PySem.Str×TD)
abbrev GL:=List (Int×TD)
abbrev PP:=PySem.Value
abbrev C4:=List PP
abbrev D0:=Option PP
abbrev FW:=List (PySem.Str×PP)
abbrev NE:=PySem.Shared
def LM:=@if_pos
def LK:=@if_neg
def IZ:=@absurd
def IY:=@Nat.le_of_ble_eq_true
def IN:=@List.mem_append_left
def GJ:=@List.mem_append_right
def GI:=@Nat.lt_of_lt_of_le
def GH:=@List.not_mem_nil
def GG:=@List.filterMap_append
def FS:=@List.filterMap_cons
def FM:=@List.flatMap_cons
abbrev EX:List PySem.Str:=["self"]
abbrev EV:List PySem.Str:=["deed"]
abbrev EU:List PySem.Str:=["thing"]
abbrev ET:List PySem.Str:=["rows"]
abbrev ES:List PySem.Str:=["self","row"]
abbrev ER:List PySem.Str:=["self","name"]
abbrev EQ:List PySem.Str:=["self","number","asker","key","deed","stage"]
abbrev EO:List PySem.Str:=["row"]
abbrev EN:List PySem.Str:=["book","deed"]
abbrev CZ:List PySem.Str:=["self","more"]
abbrev CY:List PySem.Str:=["self","turn"]
abbrev CW:List PySem.Str:=["_law_script"]
abbrev CV:List PySem.Str:=["_law_deck_here","_law_many"]
abbrev CU:List PySem.Str:=["rows","came"]
abbrev TZ:List PySem.Str:=["self","life","turn","up"]
abbrev T8:List PySem.Str:=["self","run"]
abbrev VR:List PySem.Str:=["thing","signs","longest"]
abbrev VU:List PySem.Str:=["self","rows"]
abbrev VW:List PySem.Str:=["self","text"]
abbrev WJ:List PySem.Str:=["word","names"]
abbrev WK:List PySem.Str:=["deed","answer"]
abbrev WQ:List PySem.Str:=["self","life"]
abbrev WR:List PySem.Str:=["self","pair","turn"]
abbrev WU:List PySem.Str:=["since","life","turn"]
abbrev XJ:List PySem.Str:=["rows","done","asked","came","still"]
abbrev XP:List PySem.Str:=["self","other"]
abbrev XX:List PySem.Str:=["self","name","life","houses"]
abbrev X6:List PySem.Str:=["self","run","answer"]
abbrev ZQ:List PySem.Str:=["thing","least","most"]
abbrev ZR:List PySem.Str:=["self","asker","key","number","deed"]
abbrev ZS:List PySem.Str:=["self","asker","key","turn","answer"]
abbrev ZT:List PySem.Str:=["self","pair"]
abbrev ZU:List PySem.Str:=["self","changes"]
abbrev Z4:List PySem.Str:=["rows","word"]
abbrev aW:List PySem.Str:=["self","turn","asker","key","deed"]
abbrev ai:List PySem.Str:=["self","number","way"]
abbrev aj:List PySem.Str:=["seen","deed"]
abbrev cL:List PySem.Str:=["self","rows","closed"]
abbrev cc:List PySem.Str:=["_law_deck_here"]
abbrev ey:List PySem.Str:=["self","asker","key","turn"]
abbrev fC:List PySem.Str:=["rows","life","turn","numbers","up","has","came","busy","kept"]
abbrev fD:List PySem.Str:=["rows","life","turn","numbers"]
abbrev fM:List PySem.Str:=["kept","life","turn"]
abbrev ff:List PySem.Str:=["rows","turn","numbers"]
abbrev fi:List PySem.Str:=["self","asker","key","deed"]
abbrev fv:List PySem.Str:=["self","number","turn","answer"]
abbrev fy:List PySem.Str:=["self","run","way"]
abbrev fz:List PySem.Str:=["_law_deck_here","_law_signs","_law_longest","_law_many","_law_word","_law_size","_law_at","_law_first","_law_ends"]
abbrev f6:List PySem.Str:=["_law_deck_here","_law_signs","_law_longest","_law_many"]
abbrev gA:List PySem.Str:=["_law_deck_here","_law_names","_law_houses"]
abbrev gG:List PySem.Str:=["_law_deck_here","_law_door","_law_state","_law_names","_law_houses"]
abbrev gi:List PySem.Str:=["_law_state","_law_book","_law_kept","_law_under","_law_turn"]
abbrev gm:List PySem.Str:=["_law_deck_here","_law_door","_law_book","_law_kept","_law_under","_law_turn"]
abbrev lL:List PySem.Str:=["rows","came","kept"]
abbrev la:List PySem.Str:=["_law_state","_law_book","_law_kept","_law_under","_law_turn","_law_rows","_law_number","_law_asker","_law_key","_law_deed_here","_law_stage"]
abbrev mQ:List PySem.Str:=["_law_deck_here","_law_door","_law_book","_law_kept","_law_under","_law_turn","_law_rows","_law_waiting"]
abbrev QZj:List PySem.Str:=["name","by","book"]
abbrev QZi:List PySem.Str:=["_law_name","_law_amount_here"]
abbrev tq:List PySem.Str:=["kept","life","turn","last","entry"]
abbrev um:List PySem.Str:=["_law_script","_law_deck_here","_law_letters","_law_words","_law_houses","_law_life","_law_door","_law_state","_law_k","_law_found","_law_told","_law_seen"]
abbrev QZf:List PySem.Str:=["_law_k","_law_deck_here","_law_signs"]
abbrev QZe:List PySem.Str:=["_law_k","_law_signs","_law_first","_law_ends"]
open List (mem_filter mem_range filterMap_cons mem_cons mem_append_left getElem_inj mem_filterMap mem_append_right any_eq_false map_cons append_nil nodup_cons of_mem_zip length filterMap_map length_drop map_nil all_cons any_cons length_singleton find?_cons cons_append length_nil filter_cons length_filter_le nodup_nil any_eq_true lookup_cons drop_zero all_eq_true map_take getElem_mem foldl_cons map_map toArray mem_of_mem_take pairwise_cons le_trans nil_perm perm_nil drop_length getD_eq_getElem?_getD map_congr_left not_mem_nil filter_eq_self filter range_succ toList_toArray ext_getElem pairwise_iff_getElem getElem_of_mem any_map all_map pairwise_map filter_append take_length mem_map_of_mem mem_or_eq_of_mem_set map_set getElem_set nodup_append append_assoc foldl_append filterMap_append flatMap_append flatMap_cons pairwise_append mem_flatMap sublist_cons_self nil_append)
open Nat (lt_of_lt_of_le ne_of_lt le_of_lt ne_of_gt le_of_eq lt_succ_self zero_le le_succ lt_trans lt_succ_of_lt le_of_ble_eq_true toDigits mod_lt le_succ_of_le lt_trichotomy sub_self)
def Zk{p:Prop}(h:p:=by decide +kernel):p:=h
def Zo{p:Prop}(h:p:=by omega):p:=h
def Zs{p:Prop}(h:p:=by simp):p:=h
def Zd{p:Prop}(h:p:=by decide):p:=h
def aV:=@List.length_map
def jM:=@PySem.Heap.get?_push_of_some
def NJ:=@List.getElem?_eq_some_iff
def hX:=@List.getElem?_eq_getElem
def cR:=@List.mem_cons_of_mem
def LA:=@List.mem_map
def dL:=@List.map_append
def mU:=@List.length_append
def eJ:=@List.getElem?_map
def c8:=@Int.eq_ofNat_of_zero_le
def gK:=@Nat.le_trans
def eG:=@List.mem_cons_self
def fK:=@List.size_toArray
def mV:=@List.length_take
def mW:=@List.take_of_length_le
def MN:=@List.mem_append
def LV:=@List.mem_singleton
def mY:=@List.length_cons
def yR:=@Nat.lt_of_le_of_lt
def bD:=@Nat.le_refl
def kI:=@List.mem_of_getElem?
namespace L2
open PySem PySem.Spec PyProof.Rows
abbrev OV(x:Str):Prop:=(x==("__debug__":Str))=false
abbrev bC:=Sum Int Str
abbrev FC:=List (List bC×TD×PP)
abbrev FU:=List bC
abbrev GQ:=List (bC×PP)
def qF:bC->PP->Bool
 | .inl k,v=>Value.isInt k v
 | .inr x,v=>Value.isStrOf x v
def aEy(w:World):bC->Int
 | .inl k=>hashInt k
 | .inr x=>hashStr w x
def bL:∀ {k:bC}{v:PP},qF k v=true->(∃i t,k=Sum.inl i/\v=Value.int i t)∨(∃x t,k=Sum.inr x/\v=Value.str x t)
 | .inl i,v,h=>by
  obtain⟨t,e⟩:=Value.isInt_shape (k:=i) (v:=v) h;exact .inl #[i,t,rfl,e]
 | .inr x,v,h=>by
  obtain⟨t,e⟩:=Value.isStrOf_shape (x:=x) (v:=v) h;exact .inr #[x,t,rfl,e]
def Kn(i:Int)(t:Tok):qF (.inl i) (.int i t)=true:=by simp[qF,Value.isInt]
def Ko(x:Str)(t:Tok):qF (.inr x) (.str x t)=true:=by simp[qF,Value.isStrOf]
def aAU(a b:Int):decide ((Sum.inl a:bC)=Sum.inl b)=(a==b):=by
 by_cases e:a=b
 .subst e;simp
 have h:¬ (Sum.inl a:bC)=Sum.inl b:=λq=>e (Sum.inl.inj q)
 rw[T0 h];exact(beq_eq_false_iff_ne.mpr e).symm
def aAV(a b:Str):decide ((Sum.inr a:bC)=Sum.inr b)=decide (a=b):=by
 by_cases e:a=b
 .subst e;simp
 have h:¬ (Sum.inr a:bC)=Sum.inr b:=λq=>e (Sum.inr.inj q)
 rw[T0 h,T0 e]
def aAW(a:Int)(b:Str):decide ((Sum.inl a:bC)=Sum.inr b)=false:=T0 (λq=>nomatch q)
def aAX(a:Str)(b:Int):decide ((Sum.inr a:bC)=Sum.inl b)=false:=T0 (λq=>nomatch q)
def bE(prog:Program)(w:World):PySem.KeyKind prog w bC where
 is:=qF
 hash:=aEy w
 inj:=λv a b g f=>by
  rcases bL g with⟨i,t,rfl,rfl⟩|⟨x,t,rfl,rfl⟩
  .rcases bL f with⟨j,u,rfl,e⟩|⟨y,u,rfl,e⟩
   .injection e with c _;rw[c]
   exact nomatch e
  rcases bL f with⟨j,u,rfl,e⟩|⟨y,u,rfl,e⟩
  .exact nomatch e
  injection e with c _;rw[c]
 byValue:=λk v h=>by
  rcases bL h with⟨i,t,rfl,rfl⟩|⟨x,t,rfl,rfl⟩<;>rfl
 pyHash:=λd h=>by
  rcases bL d with⟨i,t,rfl,rfl⟩|⟨x,t,rfl,rfl⟩
  .exact wpAny_pyHash_int h
  exact wpAny_pyHash_str h
 eqBool:=λl d h=>by
  rcases bL l with⟨i,t,rfl,rfl⟩|⟨x,t,rfl,rfl⟩
  .rcases bL d with⟨j,u,rfl,rfl⟩|⟨y,u,rfl,rfl⟩
   .rw[aAU]at h;exact wpAny_eqBool_int h
   rw[aAW]at h;exact SeqAt.EqAt.int_str i t y u _ _ _ _ h
  rcases bL d with⟨j,u,rfl,rfl⟩|⟨y,u,rfl,rfl⟩
  .rw[aAX]at h;exact SeqAt.EqAt.str_int x t j u _ _ _ _ h
  rw[aAV]at h;exact wpAny_eqBool_str h
 «strs»:=λk x t v h=>by
  rcases bL h with⟨i,u,rfl,e⟩|⟨y,u,rfl,e⟩
  .exact nomatch e
  injection e with c _
  subst c;cases v<;>rfl
def Ct(prog:Program)(w:World)(i:Int)(t:Tok):(bE prog w).is (.inl i) (.int i t)=true:=Kn i t
def Cu(prog:Program)(w:World)(x:Str)(t:Tok):(bE prog w).is (.inr x) (.str x t)=true:=Ko x t
inductive V where
 | non|bl (b:Bool)|int (i:Int)|str (x:Str)|byt (b:Array UInt8)|flt (b:UInt64)|ref (a:TD)|ty (n:String)
 deriving DecidableEq
abbrev A1:=List V
abbrev BW:=List (FU×V)
abbrev CB:=List (PySem.Str×V)
abbrev DI:=List (bC×V)
abbrev EY:=Option V
abbrev FF:=List (List V)
abbrev FJ:=List (TD×List V)
abbrev GP:=Option (List V)
abbrev GS:=List (PySem.Str×List V)
abbrev HD:=List (Option V)
abbrev HF:=List (A1)
abbrev HP:=List (TD×A1)
def RelV:V->PP->Prop
 | .non,u=>u=Value.none
 | .bl b,u=>u=Value.bool b
 | .int i,u=>∃t,u=Value.int i t
 | .str x,u=>∃t,u=Value.str x t
 | .byt b,u=>∃t,u=Value.bytes b t
 | .flt b,u=>∃t,u=Value.float b t
 | .ref a,u=>u=Value.ref a
 | .ty n,u=>u=Value.type n
abbrev Vals:A1->C4->Prop:=Paired RelV
def Vals.length(r:Vals xs us):xs.length=us.length:=Paired.length r
theorem Vals.get:∀ {xs:A1}{us:C4}{i:Nat}{x:V},Vals xs us->xs[i]?=!x->∃u,us[i]?=!u/\RelV x u
 | _,_,_,_,.nil,e=>by simp at e
 | _,_,0,_,.cons r _,e=>by simp at e;subst e;exact#[_,rfl,r]
 | _,_,i+1,x,.cons _ t,e=>by
  obtain⟨u,a,b⟩:=Vals.get (i:=i) (x:=x) t (by simpa using e);exact#[u,by simpa using a,b]
def Vals.set{x:V}{u:PP}(r:RelV x u):∀ {xs:A1}{us:C4} (i:Nat),Vals xs us->Vals (xs.set i x) (us.set i u)
 | _,_,_,.nil=>.nil
 | _,_,0,.cons _ t=>.cons r t
 | _,_,i+1,.cons q t=>.cons q<|Vals.set r i t
def Vals.append:∀ {xs ys:A1}{us a:C4},Vals xs us->Vals ys a->Vals (xs++ys) (us++a)
 | _,_,_,_,.nil,s=>s
 | _,_,_,_,.cons r t,s=>.cons r<|Vals.append t s
def Vals.take:∀ {xs:A1}{us:C4} (n:Nat),Vals xs us->Vals (xs.take n) (us.take n)
 | _,_,0,_=>.nil
 | _,_,_+1,.nil=>.nil
 | _,_,n+1,.cons r t=>.cons r<|Vals.take n t
def Vals.drop:∀ {xs:A1}{us:C4} (n:Nat),Vals xs us->Vals (xs.drop n) (us.drop n)
 | _,_,0,r=>r
 | _,_,_+1,.nil=>.nil
 | _,_,n+1,.cons _ t=>Vals.drop n t
def ND:EY->D0->Prop
 | some v,!u=>RelV v u
 | none,none=>True
 | _,_=>False
def KV{κ:Type}:List (κ×V)->List (κ×PP)->Prop:=Paired λ(p:κ×V) (q:κ×PP)=>p.1=q.1/\RelV p.2 q.2
def kV:bC->V
 | .inl i=>.int i
 | .inr x=>.str x
inductive HO where
 /-- a list -/
 | lst (xs:A1)
 /-- a tuple (never changes) -/
 | tup (xs:A1)
 /-- a dict whose keys are ints and texts;one whose keys are tuples of ints and texts (the empty one is both) -/
 | dK (kvs:DI)|dT (kvs:BW)
 /-- a set of ints: its members,its size -/
 | set (S:Int->Bool) (n:Nat)
 /-- an instance of the class at C,its dict at dx,its attributes -/
 | ins (C dx:TD) (fs:CB)
 /-- the dict of the instance at x -/
 | own (x:TD)
 /-- the dict of an exception -/
 | xd (fs:CB)
 /-- a bound method,f of x -/
 | met (f x:TD)
 /-- a range object lo,lo+1,.. below hi -/
 | rng (lo hi:Int)
 /-- a thing that is known to the object (the script;a dict while a loop walks it): read,never written while it is so -/
 | frz (o:Obj) (u:HO)
 /-- a code object's table -/
 | tbl (ps:Array Value)
 /-- any other thing,by what is true of its one object (a def of one's own: SetO a S n:=HO.ext λh=>..) -/
 | ext (φ:Heap->Prop)
abbrev DL:=List (TD×HO)
abbrev Hp:=Addr->Option HO
def aH(H:Hp)(a:TD)(o:HO):Hp:=λb=>if b=a then some o else H b
def aA:aH H a o a=!o:=by unfold aH;rw[LM rfl]
def aD(h:b≠a):aH H a o b=H b:=by unfold aH;rw[LK h]
def jN:aH (aH H a o) a u=aH H a u:=by
 funext b;unfold aH;split<;>rfl
def aL{H:Hp}(h:H a=!o)(h':H b=!u)(d:o≠u):a≠b:=by
 intro e;subst e;rw[h]at h';exact d<|Option.some.inj h'
def aE{H:Hp}(h:H a=!o)(h':H b=none):a≠b:=by
 intro e;subst e;rw[h]at h';cases h'
section
variable (P:Program) (w:World)
def KU(H:Hp)(h:Heap)(a:TD):HO->Prop
 | .lst b=>b.length<=sizeLine/\∃(d:C4)(n:Nat),Vals b d/\h.get? a=some {cls:=.type "list",data:=.seq d.toArray n }
 | .tup b=>b.length<=sizeLine/\∃d:C4,Vals b d/\IsTup h a d.toArray
 | .dK e=>e.length<=sizeLine/\(a==sysModules)=false/\∃vs,KV e vs/\h.DictOf (bE P w) a vs
 | .dT e=>e.length<=sizeLine/\(a==sysModules)=false/\∃b:FC,
   Paired (λ(p:FU×V) (q:FU×TD×PP)=>p.1=q.1/\H q.2.1=!(.tup<|p.1.map kV)/\RelV p.2 q.2.2) e b ∧
   ∃o j m,h.get? a=!o/\o.ExactDict/\o.data=.dict j m/\j.toList=b.map (!"|>|@~;~P{entryOfKey1 ")/\(b.map (·.1)).Nodup
 | .set S n=>h.SetOf (intKind P w) a S n
 | .ins C g fs=>H g=!.own a/\fs.length<=1000/\g≠a/\h.get? a=some (W.instObj C g) ∧
   ∃c,h.Ns1 g c/\(∀f,ND (fs.lookup f)<|c f)/\PySem.Within c (fs.map (·.1))
 | .own _=>∃o,h.get? a=!o
 | .xd fs=>∃c,h.Ns1 a c/\∀f,ND (fs.lookup f) (c f)
 | .rng lo r=>∃t u v,h.get? a=some {cls:=.type "range",data:=.fields (toArray [.int lo t,.int r u,.int 1 v]) }
 | .frz o u=>h.get? a=!o/\KU H h a u
 | .tbl ps=>h.get? a=some {cls:=.none,data:=.fields ps }
 | .met f x=>h.get? a=!(W.methodObj (.ref f)<|.ref x)
 | .ext i=>i h/\(∃o,h.get? a=!o)/\∀k l:Heap,i k->(∀o,k.get? a=!o->l.get? a=!o)->i l
def NW(H:Hp)(h:Heap):Prop:=∀a o,H a=!o->KU P w H h a o
end
section
variable {P:Program}{w:World}{H H':Hp}{h h':Heap}{a:TD}{o:HO}
def KU.lt(x:KU P w H h a o):a<h.objs.size:=by
 cases o with
 | lst c=>obtain⟨_,_,_,_,e⟩:=x;exact Heap.lt_size e
 | tup c=>obtain⟨_,_,_,p⟩:=x;exact p.lt
 | dK b=>revert x;refine JE λ_ _=>JU λ_=>JW λ_=>LB λo _ _=>JW λe _=>?_;exact Heap.lt_size e
 | dT b=>revert x;refine JE λ_ _=>JU λ_=>JW λ_=>LB λo _ _=>JW λe _=>?_;exact Heap.lt_size e
 | set S n=>revert x;refine NF λo _ _ _=>JW λe _=>?_;exact Heap.lt_size e
 | ins C d fs=>revert x;refine MJ λ_ _ _ e _=>?_;exact Heap.lt_size e
 | own y=>obtain⟨_,e⟩:=x;exact Heap.lt_size e
 | xd fs=>obtain⟨_,⟨_,_,_,e,_⟩,_⟩:=x;exact Heap.lt_size e
 | rng lo g=>revert x;refine LB λ_ _ _ e=>?_;exact Heap.lt_size e
 | frz i u=>obtain⟨e,_⟩:=x;exact Heap.lt_size e
 | tbl ps=>exact Heap.lt_size (show h.get? a=some _ from x)
 | met f y=>exact Heap.lt_size (show h.get? a=some _ from x)
 | ext j=>obtain⟨_,⟨_,e⟩,_⟩:=x;exact Heap.lt_size e
def Paired.mapP{c d:Type}{F G:c->d->Prop}:∀ {l₁:List c}{l₂:List d},Paired F l₁ l₂->(∀a b,F a b->G a b)->Paired G l₁ l₂
 | _,_,.nil,_=>.nil
 | _,_,.cons r t,f=>.cons (f _ _ r)<|Paired.mapP t f
def KU.stay(x:KU P w H h a o)(k:∀b u,(b=a∨H b=!.own a)->h.get? b=!u->h'.get? b=!u)(B:∀b,H b=!.own a->H' b=!.own a)(D:∀b xs,H b=!.tup xs->H' b=!.tup xs):KU P w H' h' a o:=by
 induction o with
 | lst xs=>obtain⟨z,l,n,r,e⟩:=x;exact#[z,l,n,r,k _ _ (.inl rfl) e]
 | tup xs=>obtain⟨z,l,r,g,e,c⟩:=x;exact#[z,l,r,g,k _ _ (.inl rfl) e,c]
 | dK A=>revert x;refine JE λz y=>JU λvs=>JW λr=>LB λg i j=>JW λe c=>?_;exact#[z,y,vs,r,g,i,j,k _ _ (.inl rfl) e,c]
 | dT A=>
  revert x;refine JE λz y=>JU λxs=>JW λr=>LB λg i j=>JW λe c=>?_;exact#[z,y,xs,Paired.mapP r λp q z=>#[z.1,D _ _ z.2.1,z.2.2],g,i,j,k _ _ (.inl rfl) e,c]
 | set S n=>revert x;refine NF λg i j t=>JW λe c=>?_;exact#[g,i,j,t,k _ _ (.inl rfl) e,c]
 | ins C G fs=>
  revert x;refine MJ λd z ne e=>JU λm=>JW λζ r=>?_;obtain⟨s,i,j,E,c⟩:=ζ;exact#[B _ d,z,ne,k _ _ (.inl rfl) e,m,#[s,i,j,k _ _ (.inr d) E,c],r]
 | own y=>obtain⟨g,e⟩:=x;exact#[g,k _ _ (.inl rfl) e]
 | xd fs=>obtain⟨m,⟨s,i,j,e,c⟩,r⟩:=x;exact#[m,#[s,i,j,k _ _ (.inl rfl) e,c],r]
 | rng lo I=>revert x;refine LB λt u v e=>?_;exact#[t,u,v,k _ _ (.inl rfl) e]
 | frz g u F=>obtain⟨e,q⟩:=x;exact#[k _ _ (.inl rfl) e,F q]
 | tbl ps=>
  have e:h.get? a=some {cls:=.none,data:=.fields ps }:=x;show h'.get? a=some {cls:=.none,data:=.fields ps };exact k a _ (.inl rfl) e
 | met f y=>
  have e:h.get? a=!(W.methodObj (.ref f)<|.ref y):=x;show h'.get? a=!(W.methodObj (.ref f)<|.ref y);exact k a _ (.inl rfl) e
 | ext J=>obtain⟨p,⟨o,e⟩,st⟩:=x;exact#[st _ _ p λo q=>k _ _ (.inl rfl) q,#[o,k _ _ (.inl rfl) e],st]
def NW.lt(x:NW P w H h)(e:H a=!o):a<h.objs.size:=(x a o e).lt
def NW.fresh(x:NW P w H h)(e:h.objs.size<=a):H a=none:=by
 cases q:H a with
 | none=>rfl
 | some u=>exact IZ (GI (x.lt q) e)<|Nat.lt_irrefl _
def NW.kept(x:NW P w H h)(k:∀b u,h.get? b=!u->h'.get? b=!u):NW P w H h':=λa o e=>
 (x a o e).stay (λb u _ q=>k b u q) (λ_ q=>q) λ_ _ q=>q
def NW.laid(x:NW P w H h)(k:∀b u,h.get? b=!u->h'.get? b=!u)(g:h.objs.size<=a)(new:KU P w (aH H a o) h' a o):NW P w (aH H a o) h':=λb u e=>by
 have d:=x.fresh g;by_cases f:b=a
 .subst f;rw[aA]at e;cases e;exact new
 rw[aD f]at e;exact(x b u e).stay (λc v _ q=>k c v q) (λc q=>by rw[aD (aE q d)];exact q) λc i q=>by rw[aD (aE q d)];exact q
end
def Rd(H:Hp)(a:TD)(u:HO):Prop:=H a=!u∨∃o,H a=!.frz o u
def Rd.ok(r:Rd H a u)(x:NW P w H h):KU P w H h a u:=by
 rcases r with r|⟨o,r⟩
 .exact x a u r
 obtain⟨_,q⟩:=x a _ r;exact q
def c9:Option HO->Prop
 | some (.lst _)=>True
 | some (.dK _)=>True
 | some (.dT _)=>True
 | some (.set _ _)=>True
 | some (.ins _ _ _)=>True
 | some (.ext _)=>True
 | _=>False
section
variable {P:Program}{w:World}{H:Hp}{h h':Heap}{x e:TD}{o':HO}
def NW.write(ok:NW P w H h)(a:c9 (H x))(j:e=x∨H e=!.own x)(k:∀b u,b≠e->h.get? b=!u->h'.get? b=!u)(n:∃u,h'.get? e=!u)(new:KU P w (aH H x o') h' x o'):NW P w (aH H x o') h':=λb u q=>by
 have l:∀c y,H c=!.own y->c≠x:=λc y r z=>by subst z;rw[r]at a;exact a
 have o:∀c d,H c=!.tup d->c≠x:=λc d r z=>by subst z;rw[r]at a;exact a
 by_cases f:b=x
 .subst f;rw[aA]at q;cases q;exact new
 rw[aD f]at q;by_cases g:b=e
 .have m:H b=!.own x:=by
   rcases j with z|z
   .exact IZ (g.trans z) f
   rw[g];exact z
  rw[q]at m;cases m;obtain⟨v,p⟩:=n;exact#[v,by rw[g];exact p]
 refine(ok b u q).stay (λc v i r=>k c v ?_ r) (λc r=>by rw[aD (l c b r)];exact r) λc d r=>by rw[aD (o c d r)];exact r
 rcases i with rfl|i
 .exact g
 rintro rfl;rcases j with z|z
 .exact l c b i z
 rw[i]at z;cases z;exact f rfl
end
structure Un(fs ex:BZ)(H H':Hp)(h h':Heap):Prop where
 keep:∀b o,h.get? b=!o->H b=none->b∉fs->b∉ex->h'.get? b=!o
 slot:∀b o,h.get? b=!o->H b=none->b∈fs->b∉ex->∃sl,h'.get? b=some {o with slots:=sl }
 free:∀b o,h.get? b=!o->H b=none->b∉ex->H' b=none
 there:∀b o,h.get? b=!o->b∉ex->∃o',h'.get? b=!o'
 tups:∀b xs,H b=!.tup xs->H' b=!.tup xs
 frzs:∀b o u,H b=!.frz o u->H' b=!.frz o u
 tbls:∀b ps,H b=!.tbl ps->∃more,H' b=!(.tbl<|ps++more)
section
variable {fs VQ ex ex':BZ}{H H1 H2:Hp}{h h1 h2 h':Heap}{a x e:TD}{o:HO}
def Un.any(u:Un fs ex H H1 h h1)(q:h.get? b=!c)(n:H b=none)(d:b∉ex):∃sl,h1.get? b=some {c with slots:=sl }:=by
 by_cases f:b∈fs
 .exact u.slot b c q n f d
 exact#[c.slots,u.keep b c q n f d]
def Un.kept(k:∀b u,h.get? b=!u->h'.get? b=!u):Un fs ex H H h h':=
 #[λb c q _ _ _=>k b c q,λb c q _ _ _=>#[c.slots,k b c q],λ_ _ _ n _=>n,λb c q _=>#[c,k b c q],λ_ _ q=>q,λ_ _ _ q=>q,λ_ ps q=>#[(toArray []),by rw[q];simp]]
def Un.refl:Un fs ex H H h h:=Un.kept λ_ _ q=>q
def Un.laid(k:∀b u,h.get? b=!u->h'.get? b=!u)(d:h.objs.size<=a)(c:H a=none):Un fs ex H (aH H a o) h h' where
 keep:=λb u q _ _ _=>k b u q
 slot:=λb u q _ _ _=>#[u.slots,k b u q]
 free:=λb u q n _=>by rw[aD (!"~.~:e~<|s")];exact n
 there:=λb u q _=>#[u,k b u q]
 tups:=λb f q=>by rw[aD (aE q c)];exact q
 frzs:=λb u f q=>by rw[aD (aE q c)];exact q
 tbls:=λb ps q=>#[(toArray []),by rw[aD (aE q c),q];simp]
def Un.write(c:c9 (H x))(j:e=x∨H e=!.own x)(k:∀b u,b≠e->h.get? b=!u->h'.get? b=!u)(l:∃u,h'.get? e=!u):Un fs ex H (aH H x o) h h':=by
 have f:∀b,H b=none->b≠x:=λb n z=>by subst z;rw[n]at c;exact c
 have g:∀b,H b=none->b≠e:=λb n z=>by
  subst z;rcases j with r|r
  .exact f b n r
  rw[n]at r;cases r
 have d:∀b u,H b=!u->¬ c9 (!u)->b≠x:=λb u q nm z=>by subst z;rw[q]at c;exact nm c
 refine#[λb u q n _ _=>k b u (g b n) q,λb u q n _ _=>#[u.slots,k b u (g b n) q],λb u q n _=>by rw[aD (f b n)];exact n,λb u q _=>?_,
  λb m q=>by rw[aD (d b _ q λz=>z)];exact q,λb u m q=>by rw[aD (d b _ q λz=>z)];exact q,λb ps q=>#[(toArray []),by rw[aD (d b _ q λz=>z),q];simp]]
 by_cases i:b=e
 .subst i;exact l
 exact#[u,k b u i q]
end
def hA(h:Heap)(H:Hp):List Addr:=(List.range h.objs.size).filter λa=>(H a).isSome
def Al(h:Heap)(H:Hp):Heap:=W.hideAll h<|hA h H
def Kq(h:Heap)(H:Hp):(Al h H).objs.size=h.objs.size:=W.hideAll_size _ _
def Og(e:h.get? b=!o)(n:H b=none):(Al h H).get? b=!o:=
 W.hideAll_get _ e λa=>by
  have q:(H b).isSome=true:=(mem_filter.mp a).2;rw[n]at q;simp at q
def Vx(e:(Al h H).get? b=!o):h.get? b=!o/\H b=none:=by
 have a:h.get? b=!o:=W.of_hideAll (hA h H) e;exists a
 cases q:H b with
 | none=>rfl
 | some x=>
  have c:b∈hA h H:=mem_filter.mpr #[mem_range.mpr<|Heap.lt_size a,by simp[q]];have z:(Al h H).get? b=none:=W.hideAll_none (hA h H) c;rw[z]at e;cases e
structure Mod(K:W.Frag)(mg:X5)(base:Heap):Prop where
 kin:K.In base
 glob:base.Ns mainGlobals mg
 blt:∃mb,base.Ns builtinsNs mb/\∀x:Str,x≠"__name__"->mb x=bootBuiltins x
 nolimit:base.NoLimit
structure Cx where
 prog:Program
 w:World
 K:W.Frag
 mg:Str->Option Value
 base:Heap
 A:Around
 N:A2
 s₀:Shared
 H₀:Hp
 env:Env
 outer:List Env
 stack:List Env
 ex:List Addr
 fn:Str->Bool
 calm:Bool
 pn:List (TD×Obj)
 xe:PP->NE->Prop
def Oh(l:List Env):List Addr:=l.filterMap (·.frame)
abbrev Cx.fs(X:Cx):List Addr:=Oh X.outer
def VY(sc:Scope)(x:Str):Prop:=sc.names.lookup x=some .local∨sc.names.lookup x=some .cell∨sc.names.lookup x=some .free
def Loc(sc:Scope)(x:Str):Prop:=sc.names.lookup x=some .local∨sc.names.lookup x=some .cell
def aEz(env:Env)(h:Heap)(m:X5)(x:Str)(u:PP):Prop:=
 (env.kindOf x=some .local/\m x=!u)∨((env.kindOf x=some .cell∨env.kindOf x=some .free)/\∃c,env.cells.lookup x=!c/\h.IsCell c (!u))
structure Cx.Ok(X:Cx):Prop where
 mod:Mod X.K X.mg X.base
 kind:X.env.scope.kind=.function
 glob:X.env.globals=mainGlobals
 blt:X.env.builtins=builtinsNs
 above:X.s₀.heap.objs.size<=X.env.locals
 inj:∀x y c,X.env.cells.lookup x=!c->X.env.cells.lookup y=!c->x=y
 has:∀x,(X.env.kindOf x=some .cell∨X.env.kindOf x=some .free)->∃c,X.env.cells.lookup x=!c
 cab:∀x c,X.fn x=true->X.env.cells.lookup x=!c->X.s₀.heap.objs.size<=c
 hd:X.calm=true->X.A.handled=none
 frames:X.A.frames=!X.stack
 stk:X.stack=X.outer∨(X.stack=X.env::X.outer/\X.env.frame=!X.env.locals)
 exf:∀b∈X.ex,b≠X.env.locals/\∀x c,X.env.cells.lookup x=!c->c≠b
 bs:∀b o,X.base.get? b=!o->X.s₀.heap.get? b=!o/\X.H₀ b=none
 bsz:X.base.objs.size<=X.s₀.heap.objs.size
 noex:∀b o,X.base.get? b=!o->b∉X.ex
 exfs:∀b∈X.ex,b∉X.fs
 funs:X.s₀.heap.FunFrames X.base X.outer
 frf:∀b∈X.fs,X.H₀ b=none
structure Inv(X:Cx)(pins:ZB)(σ:List (EY))(H:Hp)(s:NE):Prop where
 ok:X.Ok
 os:s.os=X.s₀.os
 bare:AllBare s.gens
 base:Un X.fs X.ex X.H₀ H X.s₀.heap s.heap
 loc:∃m,s.heap.Ns X.env.locals m/\∀(i:Nat)(x:Str)(v:V),X.N[i]?=!x->σ[i]?=!!v->VY X.env.scope x->∃u,RelV v u/\aEz X.env s.heap m x u
 cell:∀x c,X.env.cells.lookup x=!c->∃v,s.heap.IsCell c v
 free:H X.env.locals=none
 freeC:∀x c,X.env.cells.lookup x=!c->H c=none
 pin:∀p∈X.pn++pins,s.heap.get? p.1=some p.2/\H p.1=none/\p.1≠X.env.locals/\p.1∉X.fs/\∀v,p.2.data≠.cell v
 hok:NW X.prog X.w H s.heap
 len:σ.length=X.N.length
section
variable {X:Cx}{pins:ZB}{σ:List (EY)}{H H':Hp}{s:NE}{h':Heap}
def Cx.Ok.nofr(ok:X.Ok)(e:X.base.get? b=!o):b∉X.fs:=λa=>by
 have:=(ok.funs.mem a).1;rw[e]at this;cases this
def Inv.bs(I:Inv X pins σ H s):∀b o,X.base.get? b=!o->s.heap.get? b=!o/\H b=none:=λb o e=>
 #[I.base.keep b o (I.ok.bs b o e).1 (I.ok.bs b o e).2 (I.ok.nofr e)<|I.ok.noex b o e,I.base.free b o (I.ok.bs b o e).1 (I.ok.bs b o e).2<|I.ok.noex b o e]
def Inv.bk(I:Inv X pins σ H s):∀b o,X.base.get? b=!o->s.heap.get? b=!o:=λb o e=>(I.bs b o e).1
def Inv.mod(I:Inv X pins σ H s):Mod X.K X.mg X.base:=I.ok.mod
def Inv.kIn(I:Inv X pins σ H s):X.K.In s.heap:=I.ok.mod.kin.keeps I.bk
def Inv.fr(I:Inv X pins σ H s):∃m,Fr X.base X.env.locals s.heap m:=
 let #[m,a,_]:=I.loc
 #[m,a,I.bk,gK I.ok.bsz I.ok.above]
def Inv.lt(I:Inv X pins σ H s):X.env.locals<s.heap.objs.size:=let #[_,a,_]:=I.loc;a.lt
def Inv.sz(I:Inv X pins σ H s):X.s₀.heap.objs.size<=s.heap.objs.size:=gK I.ok.above<|le_of_lt I.lt
def Inv.nofs(I:Inv X pins σ H s)(h:s.heap.objs.size<=a):a∉X.fs:=λb=>by
 obtain⟨_,o,c,_⟩:=I.ok.funs.mem b;exact IZ (!"U~:`I.sz `h {gK2 ~<")<|Nat.lt_irrefl _
def Inv.cne(I:Inv X pins σ H s):∀x c,X.env.cells.lookup x=!c->c≠X.env.locals:=λx c e z=>by
 obtain⟨v,o,a,hd⟩:=I.cell x c e;obtain⟨m,⟨f,g,h,b,d,_⟩,_⟩:=I.loc;rw[z,b]at a;cases a;rw[d]at hd;cases hd
def Inv.funs(I:Inv X pins σ H s):s.heap.FunFrames X.base X.outer:=by
 have all:∀(l:List Env),(∀b∈Oh l,b∈X.fs)->X.s₀.heap.FunFrames X.base l->s.heap.FunFrames X.base l:=by
  intro l;induction l with
  | nil=>intro _ _;trivial
  | cons n r g=>
   intro f h;obtain⟨i,⟨L,o,a,j,k,hd⟩,m⟩:=h;have c:L∈X.fs:=f L (by unfold Oh;rw[FS,a];exact eG);obtain⟨sl,e⟩:=I.base.slot L o k (I.ok.frf L c) c λz=>I.ok.exfs L z c
   exact#[i,#[L,_,a,j,e,hd],g (λb d=>f b (by unfold Oh;rw[FS,a];exact cR _ d)) m]
 exact all X.outer (λ_ d=>d) I.ok.funs
def Inv.stack(I:Inv X pins σ H s):s.heap.FunFrames X.base X.stack:=by
 rcases I.ok.stk with e|⟨e,a⟩
 .rw[e];exact I.funs
 rw[e];obtain⟨m,b,_⟩:=I.loc;refine .cons (by rw[I.ok.kind];decide) a b ?_ I.funs;exact Heap.get?_none_of_le<|gK I.ok.bsz I.ok.above
def Inv.stkSub(I:Inv X pins σ H s):∀b∈Oh X.stack,b∈X.env.locals::X.fs:=λb a=>by
 rcases I.ok.stk with e|⟨e,c⟩
 .rw[e]at a;exact cR _ a
 rw[e]at a;unfold Oh at a;rw[FS,c]at a;exact a
def Inv.stkFree(I:Inv X pins σ H s):∀b∈Oh X.stack,H b=none:=λb hb=>by
 rcases mem_cons.mp (I.stkSub b hb) with e|hb
 .rw[e];exact I.free
 obtain⟨_,o,a,_⟩:=I.ok.funs.mem hb;exact I.base.free b o a (I.ok.frf b hb) λz=>I.ok.exfs b z hb
def Inv.step{ch:BZ}(I:Inv X pins σ H s)(j:∀b∈ch,(b∈X.ex∨X.s₀.heap.objs.size<=b)/\b≠X.env.locals/\(∀x c,X.env.cells.lookup x=!c->c≠b)/\∀p∈X.pn++pins,p.1≠b)(keep:∀b o,b≠X.env.locals->b∉X.fs->b∉ch->s.heap.get? b=!o->H b=none->h'.get? b=!o)(slot:∀b o,b≠X.env.locals->b∈X.fs->b∉ch->s.heap.get? b=!o->H b=none->∃sl,h'.get? b=some {o with slots:=sl })(free:∀b o,b∉ch->s.heap.get? b=!o->H b=none->H' b=none)(F:∀b o,b∉ch->s.heap.get? b=!o->∃o',h'.get? b=!o')(tups:∀b xs,H b=!.tup xs->H' b=!.tup xs)(G:∀b o u,H b=!.frz o u->H' b=!.frz o u)(J:∀b ps,H b=!.tbl ps->∃more,H' b=!(.tbl<|ps++more))(M:∀m,s.heap.Ns X.env.locals m->h'.Ns X.env.locals m)(K:NW X.prog X.w H' h')(N:AllBare g') :
  Inv X pins σ H' {s with heap:=h',gens:=g',drawn:=d',toks:=t' }:=by
 have B:∀b o,X.s₀.heap.get? b=!o->b≠X.env.locals:=λb o e=>ne_of_lt (!"~C~:`I.ok.above ~<")
 have y:∀b o,X.s₀.heap.get? b=!o->b∉X.ex->b∉ch:=λb o e a g=>by
  rcases(j b g).1 with z|z
  .exact a z
  exact IZ (!"~C~:~W~<") (Nat.lt_irrefl _)
 have A:∀x c,X.env.cells.lookup x=!c->∀v,s.heap.IsCell c v->h'.IsCell c v:=λx c e v #[o,h,hd]=>by
  have t:c∉ch:=λz=>(j c z).2.2.1 x c e rfl
  by_cases C:c∈X.fs
  .obtain⟨sl,q⟩:=slot c o (I.cne x c e) C t h<|I.freeC x c e;exact#[_,q,hd]
  exact#[o,keep c o (I.cne x c e) C t h<|I.freeC x c e,hd]
 refine#[I.ok,I.os,N,#[λb o e n g a=>?_,λb o e n g a=>?_,λb o e n a=>?_,λb o e a=>?_,λb xs e=>tups b xs<|I.base.tups b xs e,λb o xs e=>G b o xs<|I.base.frzs b o xs e,λb ps e=>?_],?_,λx c e=>?_,?_,λx c e=>?_,λp D=>?_,K,I.len]
 .exact keep b o (B b o e) g (y b o e a) (I.base.keep b o e n g a)<|I.base.free b o e n a
 .obtain⟨sl,f⟩:=I.base.slot b o e n g a;obtain⟨L,w⟩:=slot b _ (B b o e) g (y b o e a) f<|I.base.free b o e n a;exact#[L,w]
 .obtain⟨o',f⟩:=I.base.there b o e a;exact free b o' (y b o e a) f<|I.base.free b o e n a
 .obtain⟨o',f⟩:=I.base.there b o e a;exact F b o' (y b o e a) f
 .obtain⟨O,f⟩:=I.base.tbls b ps e;obtain⟨m2,w⟩:=J b _ f;exact#[O++m2,by rw[w,Array.append_assoc]]
 .obtain⟨m,P,Q⟩:=I.loc;refine#[m,M m P,λi x v f w R=>?_];obtain⟨u,r,l⟩:=Q i x v f w R;exists u,r;rcases l with l|⟨k,c,e,z⟩
  .exact .inl l
  exact .inr #[k,c,e,A x c e _ z]
 .obtain⟨v,z⟩:=I.cell x c e;exact#[v,A x c e v z]
 .obtain⟨m,⟨o,_,_,h,_⟩,_⟩:=I.loc;exact free _ o (λz=>(j _ z).2.1 rfl) h I.free
 .obtain⟨v,o,h,hd⟩:=I.cell x c e;exact free c o (λz=>(j c z).2.2.1 x c e rfl) h<|I.freeC x c e
 refine JB (I.pin p D) (MJ λe n ne E d=>?_);have t:p.1∉ch:=λz=>(j p.1 z).2.2.2 p D rfl
 exact#[keep p.1 p.2 ne E t e n,free p.1 p.2 t e n,ne,E,d]
def Inv.un(I:Inv X pins σ H s)(u:Un X.fs [] H H' s.heap h')(f:NW X.prog X.w H' h'):Inv X pins σ H' {s with heap:=h',toks:=t' }:=by
 obtain⟨m,⟨o,l,p,c,r⟩,_⟩:=id I.loc;obtain⟨sl,g⟩:=u.any c I.free Zs;exact I.step (g':=s.gens) (d':=s.drawn) (ch:=[]) (λ_ z=>nomatch z) (λb o _ a _ e n=>u.keep b o e n a Zs) (λb o _ a _ e n=>u.slot b o e n a Zs) (λb o _ e n=>u.free b o e n Zs) (λb o _ e=>u.there b o e Zs) u.tups u.frzs u.tbls (λq h=>by
  revert h;refine LB λt i j=>JW λd k=>?_;rw[c]at d;cases d;exact#[_,i,j,g,k]) f I.bare
def Inv.call(I:Inv X pins σ H s)(u:Un (Oh X.stack) ch H H' s.heap h')(i:NW X.prog X.w H' h')(j:AllBare g')(f:∀b∈ch,(b∈X.ex∨X.s₀.heap.objs.size<=b)/\b≠X.env.locals/\(∀x c,X.env.cells.lookup x=!c->c≠b)/\∀p∈X.pn++pins,p.1≠b) :
  Inv X pins σ H' {s with heap:=h',gens:=g',drawn:=d',toks:=t' }:=by
 obtain⟨m,⟨o,w,y,g,r⟩,_⟩:=id I.loc;obtain⟨sl,d⟩:=u.any g I.free λz=>(f _ z).2.1 rfl
 exact I.step (ch:=ch) f (λb o d k a e n=>u.keep b o e n (λz=>(mem_cons.mp<|I.stkSub b z).elim d k) a) (λb o _ _ a e n=>u.any e n a) (λb o a e n=>u.free b o e n a) (λb o a e=>u.there b o e a) u.tups u.frzs u.tbls (λA l=>by
  revert l;refine LB λB q t=>JW λh v=>?_;rw[g]at h;cases h;exact#[_,q,t,d,v]) i j
def Inv.turned{it:TD}(I:Inv X pins σ H s)(k:∀b o,b≠it->s.heap.get? b=!o->h'.get? b=!o)(g:H it=none)(f:it≠X.env.locals)(h:it∈X.ex∨X.s₀.heap.objs.size<=it)(i:∀x c,X.env.cells.lookup x=!c->c≠it)(j:∀p∈X.pn++pins,p.1≠it):Inv X pins σ H {s with heap:=h',toks:=t' }:=by
 have d:∀b u,H b=!u->b≠it:=λb u e z=>by rw[z,g]at e;cases e
 refine I.step (g':=s.gens) (d':=s.drawn) (ch:=[it]) (λb l=>?_) (λb o _ _ a e _=>k b o (λz=>a (by simp[z])) e) (λb o _ _ a e _=>#[o.slots,k b o (λz=>a (by simp[z])) e]) (λ_ _ _ _ n=>n)
  (λb o a e=>#[o,k b o (λz=>a (by simp[z])) e]) (λ_ _ e=>e) (λ_ _ _ e=>e) (λb ps e=>#[(toArray []),by rw[e];simp]) (λm t=>?_) (λb u e=>?_) I.bare
 .have e:b=it:=by simpa using l
  subst e;exact#[h,f,i,j]
 .revert t;refine LB λo w y=>JW λA r=>?_;exact#[o,w,y,k _ o (Ne.symm f) A,r]
 refine(I.hok b u e).stay (λc v a q=>k c v ?_ q) (λ_ q=>q) λ_ _ q=>q;rcases a with z|z
 .rw[z];exact d b u e
 exact d c _ z
def Inv.tok(I:Inv X pins σ H s)(t:Nat):Inv X pins σ H {s with toks:=t }:=I.un (h':=s.heap) (t':=t) Un.refl I.hok
def Inv.kept(I:Inv X pins σ H s)(k:∀b u,s.heap.get? b=!u->h'.get? b=!u):Inv X pins σ H {s with heap:=h',toks:=t' }:=I.un (Un.kept k)<|I.hok.kept k
def Inv.laid(I:Inv X pins σ H s)(k:∀b u,s.heap.get? b=!u->h'.get? b=!u)(c:s.heap.objs.size<=a)(new:KU X.prog X.w (aH H a o) h' a o) :
  Inv X pins σ (aH H a o) {s with heap:=h',toks:=t' }:=I.un (Un.laid k c<|I.hok.fresh c)<|I.hok.laid k c new
def Inv.write(I:Inv X pins σ H s)(a:c9 (H x))(c:e=x∨H e=!.own x)(k:∀b u,b≠e->s.heap.get? b=!u->h'.get? b=!u)(d:∃u,h'.get? e=!u)(new:KU X.prog X.w (aH H x o) h' x o):Inv X pins σ (aH H x o) {s with heap:=h',toks:=t' }:=I.un (Un.write a c k d)<|I.hok.write a c k d new
def Inv.weak(I:Inv X pins σ H s)(b:a.length=σ.length)(w:∀(i:Nat) v,a[i]?=!!v->σ[i]?=!!v):Inv X pins a H s:=
 #[I.ok,I.os,I.bare,I.base,let #[m,c,d]:=I.loc;#[m,c,λi x v e f g=>d i x v e (w i v f) g],I.cell,I.free,I.freeC,I.pin,I.hok,b.trans I.len]
def Inv.pins_of(I:Inv X pins σ H s)(h:∀p∈a,s.heap.get? p.1=some p.2/\H p.1=none/\p.1≠X.env.locals/\p.1∉X.fs/\∀v,p.2.data≠.cell v):Inv X a σ H s:=
 #[I.ok,I.os,I.bare,I.base,I.loc,I.cell,I.free,I.freeC,λp b=>(MN.mp b).elim (λz=>I.pin p<|IN _ z)<|h p,I.hok,I.len]
def Cv{N:A2}(c:N.Nodup){i j:Nat}(a:N[i]?=!x)(b:N[j]?=!x):i=j:=by
 obtain⟨f,d⟩:=NJ.mp a;obtain⟨g,e⟩:=NJ.mp b;exact(getElem_inj c).mp<|d.trans e.symm
def yS{i:Nat}{v:V}(I:Inv X pins σ H s)(Y:X.N.Nodup)(C:X.N[i]?=!x)(l:Loc X.env.scope x)(r:RelV v u)(a0:∀G,Inv X pins (σ.set i<|!v) H G->(∃a,Heap.SameBut a s.heap G.heap/\(a=X.env.locals∨X.env.cells.lookup x=!a))->Q () G)(hf:X.fn x=true∨X.env.scope.names.lookup x=some .local:=by first|exact .inl rfl|exact .inr rfl|assumption):wpAny a1 A (storeName X.env x u) Q E s:=by
 obtain⟨a2,J,Z⟩:=id I.loc;have ZL:(X.env.scope.kind == .class||(X.env.scope.kind == .module&&X.env.locals != X.env.globals))=false:=by rw[I.ok.kind];rfl
 have U:i<σ.length:=by rw[I.len];exact(NJ.mp C).1
 have cne:=I.cne;have T:∀ {a:TD}{h':Heap},(∃o,s.heap.get? a=!o/\H a=none)->Heap.SameBut a s.heap h'->NW X.prog X.w H h':=λ{a h'} ha f b ob e=>by
  obtain⟨_,_,BX⟩:=ha;refine(I.hok b ob e).stay (λc D h q=>(f.2 c ?_).trans q) (λ_ q=>q) λ_ _ q=>q;rintro rfl;rcases h with rfl|h
  .rw[BX]at e;cases e
  rw[BX]at h;cases h
 rcases l with t|t
 .refine wpAny_storeName_local t J (λh' DG f=>?_) ZL;refine JB (id J) (LB λoL _ _=>JW λhoL _=>?_);refine a0 _ #[I.ok,I.os,I.bare,#[λb o e n w l=>?_,λb o e n w l=>?_,I.base.free,λb o e l=>?_,I.base.tups,I.base.frzs,I.base.tbls],#[_,DG,λj y K g m L=>?_],λy c e=>?_,I.free,I.freeC,λp M=>?_,T #[oL,hoL,I.free] f,by simpa using I.len] #[_,f,.inl rfl]
  .exact(f.2 b<|ne_of_lt<|GI (Heap.lt_size e) I.ok.above).trans<|I.base.keep b o e n w l
  .obtain⟨sl,g⟩:=I.base.slot b o e n w l;exact#[sl,(f.2 b<|ne_of_lt<|GI (Heap.lt_size e) I.ok.above).trans g]
  .obtain⟨N,g⟩:=I.base.there b o e l;exact#[N,(f.2 b<|ne_of_lt<|GI (Heap.lt_size e) I.ok.above).trans g]
  .by_cases B:j=i
   .subst B;rw[C]at g;cases g;rw[List.getElem?_set_self U]at m;cases m;exact#[u,r,.inl #[t,Zs]]
   rw[List.getElem?_set_ne (Ne.symm B)]at m;obtain⟨O,P,q⟩:=Z j y K g m L;exists O,P;rcases q with⟨k,e⟩|⟨k,c,e,z⟩
   .refine .inl #[k,?_];have:y≠x:=λe=>B (Cv Y g<|e▸C)
    simp[this,e]
   exact .inr #[k,c,e,z.sameBut f<|cne y c e]
  .obtain⟨D,z⟩:=I.cell y c e;exact#[D,z.sameBut f<|cne y c e]
  refine JB (I.pin p M) (MJ λe n ne R d=>?_);exact#[(f.2 p.1 ne).trans e,n,ne,R,d]
 have S:X.fn x=true:=by
  rcases hf with z|z
  .exact z
  rw[z]at t;cases t
 obtain⟨c,h⟩:=I.ok.has x<|.inl t;obtain⟨D,z⟩:=I.cell x c h;refine wpAny_storeName_cell I.ok.kind t h z λh' GO f=>?_;obtain⟨oc,VS,ZM⟩:=id z;refine a0 {s with heap:=h' } #[I.ok,I.os,I.bare,#[λb o e n w l=>?_,λb o e n w l=>?_,I.base.free,λb o e l=>?_,I.base.tups,I.base.frzs,I.base.tbls],#[a2,J.sameBut f<|Ne.symm<|cne x c h,λj y K g m L=>?_],λy F e=>?_,I.free,I.freeC,λp M=>?_,T #[oc,VS,I.freeC x c h] f,by simpa using I.len] #[c,f,.inr h]
 .exact(f.2 b<|ne_of_lt<|GI (Heap.lt_size e)<|I.ok.cab x c S h).trans<|I.base.keep b o e n w l
 .obtain⟨sl,g⟩:=I.base.slot b o e n w l;exact#[sl,(f.2 b<|ne_of_lt<|GI (Heap.lt_size e)<|I.ok.cab x c S h).trans g]
 .obtain⟨N,g⟩:=I.base.there b o e l;exact#[N,(f.2 b<|ne_of_lt<|GI (Heap.lt_size e)<|I.ok.cab x c S h).trans g]
 .by_cases B:j=i
  .subst B;rw[C]at g;cases g;rw[List.getElem?_set_self U]at m;cases m;exact#[u,r,.inr #[.inl t,c,h,GO]]
  rw[List.getElem?_set_ne (Ne.symm B)]at m;obtain⟨O,P,q⟩:=Z j y K g m L;exists O,P;rcases q with q|⟨k,F,e,z'⟩
  .exact .inl q
  refine .inr #[k,F,e,z'.sameBut f ?_];rintro rfl;exact B<|Cv Y g<|I.ok.inj _ _ _ e h▸C
 .by_cases W:F=c
  .subst W;exact#[_,GO]
  obtain⟨w2,z2⟩:=I.cell y F e;exact#[w2,z2.sameBut f W]
 refine JB (I.pin p M) (MJ λe n ne R d=>?_);refine#[(f.2 p.1 ?_).trans e,n,ne,R,d];intro q;rw[q,VS]at e;have q':oc=p.2:=Option.some.inj e;exact d D (by rw[<- q'];exact ZM)
def Cw{i:Nat}{v:V}(I:Inv X pins σ H s)(b:X.N.Nodup)(c:X.N[i]?=!x)(d:Loc X.env.scope x)(r:RelV v u)(h:∀a,Inv X pins (σ.set i<|!v) H a->Q () a)(e:X.fn x=true∨X.env.scope.names.lookup x=some .local:=by first|exact .inl rfl|exact .inr rfl|assumption):wpAny M A (storeName X.env x u) Q E s:=
 yS I b c d r (λa f _=>h a f) e
def Inv.call'(I:Inv X pins σ H s)(f:a.os=s.os)(u:Un (Oh X.stack) ch H H' s.heap a.heap)(d:NW X.prog X.w H' a.heap)(g:AllBare a.gens)(h:∀b∈ch,(b∈X.ex∨X.s₀.heap.objs.size<=b)/\b≠X.env.locals/\(∀x c,X.env.cells.lookup x=!c->c≠b)/\∀p∈X.pn++pins,p.1≠b):Inv X pins σ H' a:=by
 obtain⟨h',g',d',t',i⟩:=a;have e:i=s.os:=f;subst e;exact I.call (g':=g') (t':=t') (d':=d') u d g h
end
abbrev XK:=Value->D6->Hp->Prop
abbrev St:=List<|EY
abbrev VK:=V->Hp->Prop
abbrev TE:=St->Hp->VK->Prop
variable {X:Cx}{pins:ZB}{σ:St}{H H':Hp}{pos apos cpos:Pos}{w:World}{P:Program}{E:Y7}{A:Around}{te ta tb:TE}
abbrev GN:=List (TE×TE)
abbrev TT:=St->Hp->(Bool->Hp->Prop)->Prop
abbrev TA:=St->Hp->(A1->Hp->Prop)->Prop
structure iE where
 nx:St->Hp->Prop
 rt:VK
 bk:St->Hp->Prop:=λ_ _=>False
 ct:St->Hp->Prop:=λ_ _=>False
abbrev TS:=iE->St->Hp->Prop
def EP(X:Cx)(b:ZB)(d:St)(Q:VK)(u:PP)(c:NE):Prop:=∃v a,Inv X b d a c/\RelV v u/\Q v a
def TP(X:Cx)(c:ZB)(e:St)(Q:Bool->Hp->Prop)(b:Bool)(d:NE):Prop:=∃a,Inv X c e a d/\Q b a
def AP(X:Cx)(b:ZB)(d:St)(Q:A1->Hp->Prop)(us:C4)(c:NE):Prop:=∃vs a,Inv X b d a c/\Vals vs us/\Q vs a
def SP(X:Cx)(c:ZB)(D:iE)(f:Flow)(d:NE):Prop:=
 match f with
 | .next=>∃ b a,Inv X c b a d/\D.nx b a
 | .brk=>∃ b a,Inv X c b a d/\D.bk b a
 | .cont=>∃ b a,Inv X c b a d/\D.ct b a
 | .ret u=>∃v b a,Inv X c b a d/\RelV v u/\D.rt v a
def PE(X:Cx)(e:Expr)(t:TE):Prop:=
 ∀(b:ZB)(s:NE)(a:St)(H:Hp)(Q:VK),Inv X b a H s->t a H Q->wpAny (model X.prog X.w) X.A (eval e X.env) (EP X b a Q) X.xe s
def PT(X:Cx)(e:Expr)(t:TT):Prop:=
 ∀(b:ZB)(s:NE)(a:St)(H:Hp)(Q:Bool->Hp->Prop),Inv X b a H s->t a H Q->wpAny (model X.prog X.w) X.A (isTrue e X.env<|eval e X.env) (TP X b a Q) X.xe s
def PW(X:Cx)(e:Expr)(t:TT):Prop:=
 ∀(whole:Sem Value)(b:ZB)(s:NE)(a:St)(H:Hp)(Q:Bool->Hp->Prop),Inv X b a H s->t a H Q->wpAny (model X.prog X.w) X.A (isTrue e X.env whole) (TP X b a Q) X.xe s
def PW.pt{t:TT}(h:PW X e t):PT X e t:=h _
def PA(X:Cx)(es:List Expr)(t:TA):Prop:=
 ∀(c:Pos)(b:ZB)(s:NE)(a:St)(H:Hp)(Q:A1->Hp->Prop),Inv X b a H s->t a H Q->wpAny (model X.prog X.w) X.A (!"UbYno{spliced1 ") (AP X b a Q) X.xe s
def PS(X:Cx)(st:Stmt)(t:TS):Prop:=
 ∀(a:ZB)(s:NE)(b:St)(H:Hp)(D:iE),Inv X a b H s->t D b H->wpAny (model X.prog X.w) X.A (exec st X.env) (SP X a D) X.xe s
def RI(X:Cx)(st:List Stmt)(t:TS):Prop:=
 ∀(a:ZB)(s:NE)(b:St)(H:Hp)(D:iE),Inv X a b H s->t D b H->wpAny (model X.prog X.w) X.A (execs st X.env) (SP X a D) X.xe s
def bR{t:Sem c}{s:NE}(h:wpAny M A t Q E s)(d:∀a s,Q a s->b a s):wpAny M A t b E s:=wpAny_mono h d λ_ _ x=>x
section
def bin(l:PE X a g)(m:PE X b tb){s:NE}{R:V->V->Hp->Prop}(I:Inv X d c H s)(h:g c H λx H1=>tb c H1 λy H2=>R x y H2){i:Type}{Q:i->NE->Prop}{f:PP->PP->Sem i}(n:∀v u e x y H2,Inv X d c H2 e->RelV x v->RelV y u->R x y H2->wpAny (model X.prog X.w) X.A (f v u) Q X.xe e) :
  wpAny (model X.prog X.w) X.A (eval a X.env) (λv j=>wpAny (model X.prog X.w) X.A (eval b X.env) (λu k=>wpAny (model X.prog X.w) X.A (f v u) Q X.xe k) X.xe j) X.xe s:=by
 refine bR (l d s c H _ I h) ?_;refine λv o=>JR λx H1=>JE λp q r=>?_;refine bR (m d o c H1 _ p r) ?_;refine λu e=>JR λy H2=>JE λt w z=>?_;exact n v u e x y H2 t q w z
def mi(i:Nat):TE:=λa H Q=>∃v,a[i]?=!!v/\Q v H
def tC(v:V):TE:=λ_ H Q=>Q v H
def aA0{i:Nat}(j:X.N[i]?=!x)(k:VY X.env.scope x)(hd:OV x:=by decide)(n:(x==("__classdict__":Str))=false:=by decide):PE X (.Name x pos) (mi i):=by
 intro g s t H Q I h;obtain⟨v,e,h⟩:=h;obtain⟨m,o,p⟩:=I.loc;obtain⟨u,r,l⟩:=p i x v j e k;have b:EP X g t Q u s:=#[v,H,I,r,h];rcases l with⟨a,q⟩|⟨a,c,d,f⟩
 .exact wpAny_Name (wpAny_loadName_local I.ok.kind a o q b) hd
 rcases a with a|a
 .exact wpAny_Name (wpAny_loadName_cell I.ok.kind a d f b) hd
 exact wpAny_Name (wpAny_loadName_free I.ok.kind a d f b n) hd
def aA1{i j pos}:PE X (.Constant (.int i) j pos) (tC<|.int i):=λ_ _ _ H _ I h=>wpAny_Constant_int #[.int i,H,I.tok _,#[_,rfl],h]
def aCZ{b j pos}:PE X (.Constant (.bool b) j pos) (tC<|.bl b):=λ_ _ _ H _ I h=>Constant_bool #[.bl b,H,I,rfl,h]
def aA2{j pos}:PE X (.Constant .none j pos) (tC .non):=λ_ _ _ H _ I h=>Constant_none #[.non,H,I,rfl,h]
def aA3{x j pos}:PE X (.Constant (.str x) j pos) (tC<|.str x):=λ_ _ _ H _ I h=>Calls.Constant_str #[.str x,H,I.tok _,#[_,rfl],h]
def Gl(X:Cx)(x:Str):Prop:=X.env.kindOf x=some .globalImplicit
def uO{s:NE}(I:Inv X a d H s)(b:Gl X x)(c:X.mg x=!u)(h:Q u s)(hd:OV x:=by decide):wpAny (model X.prog X.w) X.A (eval (.Name x pos) X.env) Q E s:=
 Calls.Name_function_global I.ok.kind b (Calls.loadGlobal_global (by rw[I.ok.glob];exact I.mod.glob.keeps I.bk) c h) hd
def vG{s:NE}{i:St}(I:Inv X a i H s)(b:Gl X x)(c:X.mg x=none)(d:bootBuiltins x=!u)(h:Q u s)(e:x≠"__name__":=by decide)(hd:OV x:=by decide):wpAny (model X.prog X.w) X.A (eval (.Name x pos) X.env) Q E s:=by
 obtain⟨j,f,g⟩:=I.mod.blt;exact Calls.Name_function_global I.ok.kind b (Calls.loadGlobal_builtin (by rw[I.ok.glob];exact I.mod.glob.keeps I.bk) c (by rw[I.ok.blt];exact f.keeps I.bk) ((g x e).trans d) h) hd
def Am{v:V}(a:Gl X x)(b:X.mg x=!u)(r:RelV v u)(hd:OV x:=by decide):PE X (.Name x pos) (tC v):=
 λ_ _ _ H _ I h=>uO I a b #[v,H,I,r,h] hd
def Vy{v:V}(a:Gl X x)(b:X.mg x=none)(c:bootBuiltins x=!u)(r:RelV v u)(d:x≠"__name__":=by decide)(hd:OV x:=by decide):PE X (.Name x pos) (tC v):=
 λ_ _ _ H _ I h=>vG I a b c #[v,H,I,r,h] d hd
variable {a b:Expr}
def PC(X:Cx)(op:CmpOp)(a b:Expr)(t:TE):Prop:=
 ∀(d:ZB)(s:NE)(c:St)(H:Hp)(Q:VK),Inv X d c H s->t c H Q →
  wpAny (model X.prog X.w) X.A (eval a X.env) (λv e=>wpAny (model X.prog X.w) X.A (eval b X.env) (λu f=>wpAny (model X.prog X.w) X.A (compareOp op v u) (EP X d c Q) X.xe f) X.xe e) X.xe s
def tB(t:TE):TT:=λe H Q=>t e H λx d=>∃c,x=.bl c/\Q c d
def aEA{op:CmpOp}{t:TE}(h:PC X op a b t)(e:behindInMarks op b=false:=by first|exact o _ Zd Zd|rfl):PT X (.Compare a [op] [b] pos) (tB t):=by
 intro f s n H Q I g;refine wpAny_isTrue_Compare1 (bR (h f s n H _ I g) λv p e=>bR e λu r i=>bR i ?_) e;refine λc w=>JR λx j=>JE λk l m=>?_;obtain⟨d,rfl,q⟩:=m;cases l;exact wpAny_truthy_bool #[j,k,q]
def aA4{t:TE}(h:PE X e t)(f:∀whole,isTrue e X.env whole=(do let v←whole;standAt e.pos;holding [v] (truthy v)):=by intro _;rfl):PT X e (tB t):=by
 intro c s m H Q I g;refine isTrue_plain (bR (h c s m H _ I g) ?_)<|f _;refine λv n=>JR λx i=>JE λj k l=>?_;obtain⟨d,rfl,q⟩:=l;cases k;exact wpAny_truthy_bool #[i,j,q]
variable {tA JN:TT}{rest:List Expr}
def Vz(t u:TT):TT:=λe H Q=>t e H λc d=>if c=true then u e d Q else Q false d
def uq(t u:TT):TT:=λe H Q=>t e H λc d=>if c=true then Q true d else u e d Q
def uu(t:TT):TT:=λe H Q=>t e H λc d=>Q (not c) d
def Wa(f:PT X a tA):PW X (.BoolOp .And [a] pos) tA:=by
 intro i d s g H Q I h;refine isTrue_and (bR (f d s g H Q I h) λc j e=>?_)
 cases c with
 | true=>exact isTrue_and_nil e
 | false=>exact e
def aA5(f:PT X a tA):PW X (.BoolOp .Or [a] pos) tA:=by
 intro i d s g H Q I h;refine isTrue_or (bR (f d s g H Q I h) λc j e=>?_)
 cases c with
 | false=>exact isTrue_or_nil e
 | true=>exact e
def aA6(j:PT X a tA)(k:PW X (.BoolOp .And (b::rest) pos) JN):PW X (.BoolOp .And (a::b::rest) pos) (Vz tA JN):=by
 intro l d s i H Q I h;refine isTrue_and<|bR (j d s i H _ I h) ?_;rintro c m ⟨e,f,g⟩
 cases c with
 | true=>exact k l d m i e Q f g
 | false=>exact#[e,f,g]
def aC1(j:PT X a tA)(k:PW X (.BoolOp .Or (b::rest) pos) JN):PW X (.BoolOp .Or (a::b::rest) pos) (uq tA JN):=by
 intro l d s i H Q I h;refine isTrue_or<|bR (j d s i H _ I h) ?_;rintro c m ⟨e,f,g⟩
 cases c with
 | true=>exact#[e,f,g]
 | false=>exact k l d m i e Q f g
def aA7(e:PT X a tA):PT X (.UnaryOp .Not a pos) (uu tA):=by
 intro d s g H Q I h;exact isTrue_not<|e d s g H (λc f=>Q (not c) f) I h
def Oi(ta tb:TE):TE:=λe H Q=>ta e H λx d=>∃c,x=.bl c/\if c=true then tb e d Q else Q (.bl false) d
def mr(ta tb:TE):TE:=λe H Q=>ta e H λx d=>∃c,x=.bl c/\if c=true then Q (.bl true) d else tb e d Q
def aA9{op}{t:TE}(h:PE X a t):PE X (.BoolOp op [a] pos) t:=λc s e H Q I d=>BoolOp_one<|h c s e H Q I d
def aBa(j:PE X a ta)(k:PE X (.BoolOp .And (b::rest) pos) tb):PE X (.BoolOp .And (a::b::rest) pos) (Oi ta tb):=by
 intro e s i H Q I h;refine BoolOp_and<|bR (j e s i H _ I h) ?_;refine λv l=>JR λx f=>JE λg m d=>?_;obtain⟨c,rfl,d⟩:=d;cases m;refine wpAny_truthy_bool ?_
 cases c with
 | true=>exact k e l i f Q g d
 | false=>exact#[.bl false,f,g,rfl,d]
def aC2(j:PE X a ta)(k:PE X (.BoolOp .Or (b::rest) pos) tb):PE X (.BoolOp .Or (a::b::rest) pos) (mr ta tb):=by
 intro e s i H Q I h;refine BoolOp_or<|bR (j e s i H _ I h) ?_;refine λv l=>JR λx f=>JE λg m d=>?_;obtain⟨c,rfl,d⟩:=d;cases m;refine wpAny_truthy_bool ?_
 cases c with
 | false=>exact k e l i f Q g d
 | true=>exact#[.bl true,f,g,rfl,d]
end
def MO(K:W.Frag)(H:Hp)(a:TD)(xs:A1):Prop:=
 Rd H a (.lst xs)∨
  ∃(o:Obj)(b:Array Value)(n:Nat),K.lookup a=!o/\o.cls=.type "list"/\o.dict=none/\o.data=.seq b n/\b.size<=sizeLine/\Vals xs b.toList
def O7(K:W.Frag)(H:Hp)(a:TD)(xs:A1):Prop:=
 Rd H a (.tup xs)∨
  ∃(o:Obj)(b:Array Value)(n:Nat),K.lookup a=!o/\o.cls=.type "tuple"/\o.data=.seq b n/\b.size<=sizeLine/\Vals xs b.toList
def aEB:PP->EY
 | .none=>some .non
 | .bool b=>some (.bl b)
 | .int i _=>some (.int i)
 | .str x _=>some (.str x)
 | .bytes b _=>some (.byt b)
 | .float b _=>some (.flt b)
 | .ref a=>some (.ref a)
 | .type n=>some (.ty n)
 | _=>none
def RelV.abs(r:RelV x u):aEB u=!x:=by
 cases x with
 | non=>cases r;rfl
 | bl _=>cases r;rfl
 | int _=>obtain⟨t,rfl⟩:=r;rfl
 | str _=>obtain⟨t,rfl⟩:=r;rfl
 | byt _=>obtain⟨t,rfl⟩:=r;rfl
 | flt _=>obtain⟨t,rfl⟩:=r;rfl
 | ref _=>cases r;rfl
 | ty _=>cases r;rfl
def RelV.inj(r:RelV x u)(q:RelV y u):x=y:=Option.some.inj<|r.abs.symm.trans q.abs
theorem Vals.inj:∀ {xs ys:A1}{us:C4},Vals xs us->Vals ys us->xs=ys
 | _,_,_,.nil,.nil=>rfl
 | _,_,_,.cons r t,.cons a b=>by rw[r.inj a,Vals.inj t b]
section
variable {s:NE}{a:TD}{xs ys:A1}
def MO.of{K:W.Frag}(h:H a=!.lst xs):MO K H a xs:=.inl<|.inl h
def JX:=@MO.of
def O7.of{K:W.Frag}(h:H a=!.tup xs):O7 K H a xs:=.inl<|.inl h
def JV:=@O7.of
def Inv.list(I:Inv X pins σ H s)(h:MO X.K H a xs):∃its:C4,Vals xs its/\PlainL s.heap a its.toArray/\xs.length<=sizeLine:=by
 rcases h with h|⟨o,its,n,b,c,hd,d,f,r⟩
 .obtain⟨z,its,n,r,e⟩:=h.ok I.hok;exact#[its,r,#[_,n,e,rfl,rfl,rfl],z]
 exists its.toList,r,#[o,n,I.kIn a o b,c,hd,by simpa using d];have e:=r.length;simp only [Array.length_toList]at e;omega
def Inv.tuple(I:Inv X pins σ H s)(h:O7 X.K H a xs):∃its:C4,Vals xs its/\IsTup s.heap a its.toArray/\xs.length<=sizeLine:=by
 rcases h with h|⟨o,its,n,b,c,d,f,r⟩
 .obtain⟨z,its,r,p⟩:=h.ok I.hok;exact#[its,r,p,z]
 exists its.toList,r,#[o,I.kIn a o b,c,n,by simpa using d];have e:=r.length;simp only [Array.length_toList]at e;omega
def Inv.list_inj(I:Inv X pins σ H s)(h:MO X.K H a xs)(h':MO X.K H a ys):xs=ys:=by
 obtain⟨g,r,⟨o,n,e,_,_,d⟩,_⟩:=I.list h;obtain⟨f,i,⟨k,l,b,_,_,c⟩,_⟩:=I.list h';rw[e]at b;cases b;rw[d]at c;injection c with j _
 have:g=f:=by simpa using congrArg Array.toList j
 subst this;exact r.inj i
def Inv.tuple_inj(I:Inv X pins σ H s)(h:O7 X.K H a xs)(h':O7 X.K H a ys):xs=ys:=by
 obtain⟨g,r,⟨o,e,_,n,d⟩,_⟩:=I.tuple h;obtain⟨f,i,⟨k,b,_,l,c⟩,_⟩:=I.tuple h';rw[e]at b;cases b;rw[d]at c;injection c with j _
 have:g=f:=by simpa using congrArg Array.toList j
 subst this;exact r.inj i
end
abbrev Cx.wish(X:Cx)(E:Y7):Cx:={X with xe:=E }
abbrev Cx.nox(X:Cx):Cx:=X.wish λ_ _=>False
def Cx.Ok.wish(ok:X.Ok)(E:Y7):(X.wish E).Ok:=
 #[ok.mod,ok.kind,ok.glob,ok.blt,ok.above,ok.inj,ok.has,ok.cab,ok.hd,ok.frames,ok.stk,ok.exf,ok.bs,ok.bsz,ok.noex,ok.exfs,ok.funs,ok.frf]
def Cx.Ok.unwish(ok:(X.wish E).Ok):X.Ok:=
 #[ok.mod,ok.kind,ok.glob,ok.blt,ok.above,ok.inj,ok.has,ok.cab,ok.hd,ok.frames,ok.stk,ok.exf,ok.bs,ok.bsz,ok.noex,ok.exfs,ok.funs,ok.frf]
section
variable {s:NE}
def Inv.wish(I:Inv X pins σ H s)(E:Y7):Inv (X.wish E) pins σ H s:=#[I.ok.wish E,I.os,I.bare,I.base,I.loc,I.cell,I.free,I.freeC,I.pin,I.hok,I.len]
def Inv.unwish(I:Inv (X.wish E) pins σ H s):Inv X pins σ H s:=#[I.ok.unwish,I.os,I.bare,I.base,I.loc,I.cell,I.free,I.freeC,I.pin,I.hok,I.len]
def SP.unwish(h:SP (X.wish E) pins D f c):SP X pins D f c:=by
 cases f with
 | next=>obtain⟨a,b,I,q⟩:=h;exact#[a,b,I.unwish,q]
 | brk=>obtain⟨a,b,I,q⟩:=h;exact#[a,b,I.unwish,q]
 | cont=>obtain⟨a,b,I,q⟩:=h;exact#[a,b,I.unwish,q]
 | ret u=>revert h;refine LB λv a b=>JE λI r q=>?_;exact#[v,a,b,I.unwish,r,q]
def RI.nox{st:List Stmt}{t:TS}(h:RI X.nox st t):RI X st t:=λpins s σ H D I a=>
 wpAny_mono (h pins s σ H D (I.wish _) a) (λ_ _ q=>q.unwish) λ_ _ z=>False.elim z
end
section
variable {st:Stmt}{rest:List Stmt}{t u:TS}{e:Expr}
def kJ:TS:=λD a H=>D.nx a H
def Oj(t u:TS):TS:=λD a H=>t {D with nx:=u D } a H
def Wb:RI X [] kJ:=λ_ _ a H _ I h=>wpAny_execs_nil #[a,H,I,h]
def Ol(c:PS X st t)(d:RI X rest u):RI X (st::rest) (Oj t u):=by
 intro a s k H D I h;refine wpAny_execs_cons (bR (c a s k H {D with nx:=u D } I h) λf g q=>?_)
 cases f with
 | next=>
  revert q;refine JR λb i=>JW λj q=>?_;exact d a g b i D j q
 | ret v=>exact q
 | brk=>exact q
 | cont=>exact q
def Wc(b:PS X st t):RI X [st] t:=by
 intro a s c H D I h;refine wpAny_execs_cons (bR (b a s c H D I h) λf d q=>?_)
 cases f with
 | next=>exact wpAny_execs_nil q
 | ret v=>exact q
 | brk=>exact q
 | cont=>exact q
def Inv.quiet{s:NE}(I:Inv X a b H s):interactive X.env=false:=by simp[interactive,I.ok.kind]
def ux(te:TE):TS:=λD a H=>te a H λ_ b=>D.nx a b
def Wd(c:PE X e te)(hs:swapsWith e none pos.line X.env=pure false:=by rfl):PS X (.Expr e pos) (ux te):=by
 intro b s a H D I h;exact wpAny_Expr_any (bR (c b s a H _ I h) λv i #[x,d,f,j,g]=>#[a,d,f,g]) I.quiet hs
def u1(te:TE):TS:=λD a H=>te a H D.rt
def aBb(c:PE X e te):PS X (.Return (!e) pos) (u1 te):=by
 intro b s a H D I h;exact wpAny_Return_some<|bR (c b s a H _ I h) λv j #[x,d,f,g,i]=>#[x,a,d,f,g,i]
def Om(c:TT)(t u:TS):TS:=λD a H=>c a H λb d=>if b=true then t D a d else u D a d
def aC4{i:TT}(n:PT X c i)(o:RI X a t)(p:RI X b u):PS X (.If c a b pos) (Om i t u):=by
 intro f s g H D I h;refine wpAny_If<|bR (n f s g H _ I h) ?_;rintro d j ⟨k,l,m⟩
 cases d with
 | true=>exact o f j g k D l m
 | false=>exact p f j g k D l m
end
abbrev TG:=V->St->Hp->(St->Hp->Prop)->Prop
abbrev Ik:=A1->St->Hp->(St->Hp->Prop)->Prop
def PG(X:Cx)(e:Expr)(t:TG):Prop:=
 ∀(a:ZB)(s:NE)(d:St)(H:Hp)(v:V)(u:PP)(Q:St->Hp->Prop),Inv X a d H s->RelV v u->t v d H Q →
  wpAny (model X.prog X.w) X.A (assign e X.env u) (λ_ f=>∃ b c,Inv X a b c f/\Q b c) X.xe s
def dt(X:Cx)(f:List Expr)(t:Ik):Prop:=
 ∀(a:ZB)(s:NE)(e:St)(H:Hp)(vs:A1)(c:C4)(Q:St->Hp->Prop),Inv X a e H s->Vals vs c->t vs e H Q →
  wpAny (model X.prog X.w) X.A (assignInOrder ((assignEach f X.env).map (·.2)) c) (λ_ g=>∃ b d,Inv X a b d g/\Q b d) X.xe s
abbrev Kr:=V->V->V->Hp->(Hp->Prop)->Prop
def We(X:Cx)(t:Kr):Prop:=
 ∀(a:ZB)(s:NE)(e:St)(H:Hp)(o i v:V)(b c u:PP)(Q:Hp->Prop),Inv X a e H s->RelV o b->RelV i c->RelV v u->t o i v H Q →
  wpAny (model X.prog X.w) X.A (setItem b c u) (λ_ f=>∃d,Inv X a e d f/\Q d) X.xe s
def aI(i:Nat):TG:=λv a H Q=>Q (a.set i<|!v) H
def Wf{i:Nat}(a:X.N.Nodup)(b:X.N[i]?=!x)(c:Loc X.env.scope x)(d:X.fn x=true∨X.env.scope.names.lookup x=some .local:=by first|exact .inl rfl|exact .inr rfl|assumption):PG X (.Name x pos) (aI i):=by
 intro f s j H v u Q I r h;exact wpAny_assign_Name<|Cw I a b c r (λg e=>#[_,H,e,h]) d
def aBc:Ik:=λvs a H Q=>vs=[]/\Q a H
def On(t:TG)(u:Ik):Ik:=λvs c H Q=>∃v r,vs=v::r/\t v c H λa b=>u r a b Q
def Wg:dt X [] aBc:=by
 intro b s a H vs c Q I r h;obtain⟨e,h⟩:=h;subst e;cases r;exact assignInOrder_nil #[a,H,I,h]
def Oo{t:TG}(c:PG X e t)(d:dt X es u)(hs:(assignEach (e::es) X.env).map (·.2)=assign e X.env::(assignEach es X.env).map (·.2):=by rfl):dt X (e::es) (On t u):=by
 intro a s m H vs n Q I r h;revert h;refine JR λv vr=>JW λf h=>?_;subst f;cases r with
 | cons r g=>
  rw[hs];refine assignInOrder_cons<|bR (c a s m H _ _ _ I r h) ?_;refine λ_ i=>JR λb j=>JW λk l=>?_;exact d a i b j _ _ Q k g l
def Wh(K:W.Frag)(n:Nat)(t:Ik):TG:=λv c H Q=>∃a b,v=.ref a/\O7 K H a b/\b.length=n/\t b c H Q
def aBd{k:Nat}{t:Ik}{n:Nat}(i:X.calm=true)(h:dt X es t)(j:(assignEach es X.env).length=n:=by rfl)(l:(assignEach es X.env).findIdx? (·.1)=none:=by rfl):PG X (.Tuple es k pos) (Wh X.K n t):=by
 intro d s g H v u Q I r c;revert c;refine JR λa m=>KJ λp q w c=>?_;subst p;cases r;refine JB (I.tuple q) (JU λB=>JE λf x C=>?_);refine assign_Tuple_tuple (I.ok.hd i) x (by simp[j,<- w,f.length]) l λy z=>?_;have A:Inv X d g H {s with heap:=y }:=I.kept (t':=s.toks) λb o e=>z b o (ne_of_lt<|Heap.lt_size e) e
 exact h d _ g H m _ Q A (by simpa using f) c
def mu(b c:TE)(t:Kr):TG:=λv a H Q=>b a H λo d=>c a d λi e=>t o i v e λf=>Q a f
def aBf{o i:Expr}{t:Kr}(g:PE X o e)(j:PE X i f)(hs:We X t)(k:∀v,assign (.Subscript o i pos) X.env v=(do
   let a←holding [v] (eval o X.env)
   let b←holding [v,a] (eval i X.env)
   standAt pos
   holding [v,a,b] (setItem a b v)
   release [v,a,b] []):=by intro _;rfl):PG X (.Subscript o i pos) (mu e f t):=by
 intro d s c H v u Q I r h;rw[k];refine XV<|wpAny_holding<|bR (g d s c H _ I h) ?_;refine λa l=>JR λx m=>JE λn p q=>?_;refine XV<|wpAny_holding<|bR (j d l c m _ n q) ?_;refine λb w=>JR λy z=>JE λA B C=>?_;refine XV<|wpAny_standAt<|XV<|wpAny_holding<|bR (hs d w c z x y v a b u _ A p B r C) ?_;rintro _ G ⟨D,E,F⟩;exact wpAny_release #[c,D,E,F]
def Op(b:TE)(g:TG):TS:=λD a H=>b a H λx c=>g x a c D.nx
def aBg(f:PE X e c)(i:PG X a g)(hs:swapsWithSole [a] e pos.line X.env=pure false:=by rfl)(j:swappedStores [a] e X.env=pure none:=by rfl)(k:(assignEach [a] X.env).map (·.2)=[assign a X.env]:=by rfl):PS X (.Assign [a] e pos) (Op c g):=by
 intro b s d H D I h;refine wpAny_Assign_stores (bR (f b s d H _ I h) ?_) hs j;refine λv l=>JR λx m=>JE λn o p=>?_;rw[k];exact bR (i b l d m x v _ n o p) λ_ r q=>q
def aBh{i:Nat}(d:X.N.Nodup)(f:X.N[i]?=!x)(g:Loc X.env.scope x)(j:PE X e b)(hs:swapsWith e (!.Name x a) pos.line X.env=pure false:=by rfl)(k:X.fn x=true∨X.env.scope.names.lookup x=some .local:=by first|exact .inl rfl|exact .inr rfl|assumption) :
  PS X (.Assign [.Name x a] e pos) (Op b<|aI i):=by
 intro c s q H D I h;refine wpAny_Assign_Name (bR (j c s q H _ I h) ?_) hs;refine λv r=>JR λy l=>JE λm n o=>?_;exact Cw m d f g n (λt p=>#[_,l,p,o]) k
structure It where
 go:Nat->Hp->Prop
 yld:Nat->Hp->V->Hp->Prop
 stop:Nat->Hp->Prop
def rP(X:Cx)(a:ZB)(H:Hp)(b:TD):Prop:=
 H b=none/\b≠X.env.locals/\b∉X.fs/\(b∈X.ex∨X.s₀.heap.objs.size<=b)/\(∀x c,X.env.cells.lookup x=!c->c≠b)/\∀p∈X.pn++a,p.1≠b
def Inv.fpOk{s:NE}(I:Inv X d h H s)(a:s.heap.objs.size<=b)(f:H' b=none):rP X d H' b:=by
 refine#[f,ne_of_gt<|GI I.lt a,I.nofs a,.inr<|gK I.sz a,λx c e z=>?_,λp g z=>?_]
 .obtain⟨v,q⟩:=I.cell x c e;exact IZ (GI q.lt (by rw[z];exact a))<|Nat.lt_irrefl _
 exact IZ (GI (Heap.lt_size (I.pin p g).1) (by rw[z];exact a))<|Nat.lt_irrefl _
structure vH(P:Program)(w:World)(K:W.Frag)(tg:Expr)(J:It)(fp:BZ)(it:TD)(tn:Nat->Heap->Prop):Prop where
 mem:it∈fp
 obj:∀i h,tn i h->∀b∈fp,∃o,h.get? b=!o/\∀v,o.data≠.cell v
 keep:∀i h h',tn i h->(∀b∈fp,∀o,h.get? b=!o->h'.get? b=!o)->tn i h'
 item:∀(X:Cx),X.prog=P->X.w=w->X.K=K->X.calm=true->∀(i:Nat)(pins:ZB)(s:NE)(σ:St)(H:Hp)(E:Y7),Inv X pins σ H s->(∀b∈fp,rP X pins H b)->tn i s.heap->J.go i H →
  wpAny (model P w) X.A (pyNext<|.ref it) (λr s1=>∃u,r=some u ∧
   wpAny (model P w) X.A (letOwnedTupleGo tg (.ref it) u) (λ_ s2=>∃x H',Inv X pins σ H' s2/\RelV x u/\J.yld i H x H'/\tn (i+1) s2.heap/\∀b∈fp,H' b=none) E s1) E s
 done:∀(X:Cx),X.prog=P->X.w=w->X.K=K->X.calm=true->∀(i:Nat)(pins:ZB)(s:NE)(σ:St)(H:Hp)(E:Y7),Inv X pins σ H s->(∀b∈fp,rP X pins H b)->tn i s.heap->J.stop i H →
  wpAny (model P w) X.A (pyNext<|.ref it) (λr s1=>r=none/\Inv X pins σ H s1) E s
 self:∀(A:Around)(i:Nat)(s:NE)(Q:Y7)(E:Y7),tn i s.heap->Q (.ref it) s->wpAny (model P w) A (pyIter<|.ref it) Q E s
abbrev TI:=St->Hp->(It->Hp->Prop)->Prop
def u2(X:Cx)(c:ZB)(i:St)(g:Expr)(R:It->Hp->Prop)(h:PP)(d:NE):Prop:=
 ∃(it:TD)(e:BZ)(f:Nat->Heap->Prop)(J:It)(a:Hp),h=.ref it/\Inv X c i a d/\vH X.prog X.w X.K g J e it f/\f 0 d.heap/\(∀b∈e,rP X c a b)/\R J a
def PI(X:Cx)(c iter:Expr)(d:TI):Prop:=
 ∀(b:ZB)(s:NE)(a:St)(H:Hp)(R:It->Hp->Prop),Inv X b a H s->d a H R →
  wpAny (model X.prog X.w) X.A (eval iter X.env) (λv e=>wpAny (model X.prog X.w) X.A (pyIter v) (u2 X b a c R) X.xe e) X.xe s
def tP{s:NE}{it:TD}{n:String}{vs:Array Value}(c:s.heap.get? it=!o)(d:o.cls=.type n)(hd:o.data=.fields vs)(e:["enumerate","zip","dict_itemiterator","dict_reverseitemiterator","odict_iterator","itertools.zip_longest","itertools.pairwise"].contains n=false)(a:Q () s):wpAny M A (letOwnedTupleGo b (.ref it) u) Q E s:=by
  unfold letOwnedTupleGo;cases b<;>first
    | exact W1 a
    | (cases u <;> first
        | exact W1 a
        | (refine XV (wpAny_load c ?_)
           rw[d,hd];show wpAny M A (if (["enumerate","zip","dict_itemiterator","dict_reverseitemiterator","odict_iterator","itertools.zip_longest","itertools.pairwise"].contains n&&vs[0]? == some (rawInt _))=true then _ else _) Q E s;rw[LK (by intro h;rw[e,Bool.false_and]at h;cases h)];exact W1 a))
def UE(K:W.Frag)(a:TD):It:=
 #[λi H=>∃b x,MO K H a b/\b[i]?=!x,λi H x c=>c=H/\∀b,MO K H a b->b[i]?=!x,λi H=>∃b,MO K H a b/\b.length<=i]
def m5(K:W.Frag)(a:TD):It:=
 #[λi H=>∃b x,O7 K H a b/\b[i]?=!x,λi H x c=>c=H/\∀b,O7 K H a b->b[i]?=!x,λi H=>∃b,O7 K H a b/\b.length<=i]
def hB(lo:Int)(n:Nat):It:=#[λi _=>i<n,λi H x a=>a=H/\x=.int (lo+i),λi _=>n<=i]
def Kt{P:Program}{w:World}{K:W.Frag}{N:Expr}(a it:TD):vH P w K N (UE K a) [it] it (λi h=>h.IsListIter it a i) where
 mem:=by simp
 obj:=λi h st b f=>by
  have e:b=it:=by simpa using f
  subst e;revert st;refine JU λo=>JE λe c d=>?_;exact#[o,e,λv z=>by rw[d]at z;cases z]
 keep:=λi h g st k=>st.at λo e=>k it Zs o e
 item:=by
  intro X m n q G i F s L H E I j st r;subst m n q;revert r;refine JR λO x=>JW λl t=>?_;refine JB (I.list l) (JU λM=>JE λy p Q=>?_);obtain⟨u,R,S⟩:=y.get t;refine JB (j it Zs) (MI λA f1 f2 B C D=>?_);refine wpAny_pyNext_list_item st p.isList (x:=u) (by simpa using R) λg J T=>?_;have U:Inv X F L H {s with heap:=g }:=I.turned (t':=s.toks) (λb o f e=>(T.2 b f).trans e) A f1 B C D;refine JB (id J) (JU λo=>JE λe c d=>?_);exact#[u,rfl,tP (s:={s with heap:=g }) e c d Zd #[x,H,U,S,#[rfl,λZ V=>by rw[I.list_inj V l];exact t],J,λb f=>(j b f).1]]
 done:=by
  intro X m n q G i F s L H E I j st r;subst m n q;obtain⟨O,l,t⟩:=r;obtain⟨M,y,p,Q⟩:=I.list l;refine JB (j it Zs) (MI λA f1 f2 B C D=>?_);have hl:=y.length;exact wpAny_pyNext_list_end (I.ok.hd G) st p.isList (by simp;omega) λg Y=>#[rfl,I.turned (t':=s.toks) (λb o f e=>Y b o f e) A f1 B C D]
 self:=λ_ _ _ _ _ st h=>wpAny_pyIter_listiter st h
def Fm{P:Program}{w:World}{K:W.Frag}{N:Expr}(a it:TD):vH P w K N (m5 K a) [it] it (λi h=>h.IsTupleIter it a i) where
 mem:=by simp
 obj:=λi h st b f=>by
  have e:b=it:=by simpa using f
  subst e;revert st;refine JU λo=>JE λe c d=>?_;exact#[o,e,λv z=>by rw[d]at z;cases z]
 keep:=λi h g st k=>st.at λo e=>k it Zs o e
 item:=by
  intro X n q r J i G s M H E I j st t;subst n q r;revert t;refine JR λO x=>JW λl y=>?_;refine JB (I.tuple l) (JU λm=>JE λA p Q=>?_);obtain⟨u,R,S⟩:=A.get y;refine JB (j it Zs) (MI λB f1 f2 C D F=>?_);refine wpAny_pyNext_tuple_item st (show s.heap.IsTuple a m.toArray from p) (x:=u) (by simpa using R) λg L T=>?_;have U:Inv X G M H {s with heap:=g }:=I.turned (t':=s.toks) (λb o f e=>(T.2 b f).trans e) B f1 C D F;refine JB (id L) (JU λo=>JE λe c d=>?_);exact#[u,rfl,tP (s:={s with heap:=g }) e c d Zd #[x,H,U,S,#[rfl,λZ V=>by rw[I.tuple_inj V l];exact y],L,λb f=>(j b f).1]]
 done:=by
  intro X n q r J i G s M H E I j st t;subst n q r;obtain⟨O,l,y⟩:=t;obtain⟨m,A,p,Q⟩:=I.tuple l;refine JB (j it Zs) (MI λB f1 f2 C D F=>?_);have hl:=A.length;exact wpAny_pyNext_tuple_end (I.ok.hd J) st (show s.heap.IsTuple a m.toArray from p) (by simp;omega) λg Y=>#[rfl,I.turned (t':=s.toks) (λb o f e=>Y b o f e) B f1 C D F]
 self:=λ_ _ _ _ _ st h=>wpAny_pyIter_tupleiter st h
def Fn{P:Program}{w:World}{K:W.Frag}{B:Expr}(it:TD)(lo:Int)(n:Nat):vH P w K B (hB lo n) [it] it (λi h=>IsRangeIter h it (lo+(i:Nat)*1) ((n:Int)-(i:Nat)) 1) where
 mem:=by simp
 obj:=λi h st b a=>by
  have e:b=it:=by simpa using a
  subst e;exact#[_,st,λv z=>by
   have C:Data.fields _=Data.cell v:=z;cases C]
 keep:=λi h c st k=>k it Zs _ st
 item:=by
  intro X f g j l i x s A H E I d st m;subst f g j;refine JB (d it Zs) (MI λp f1 f2 q r u=>?_);have W:=Walks.range (prog:=X.prog) (w:=X.w) (I.ok.hd l) it lo 1 n;refine W.item i s _ _ m st λv c tk D y F=>?_;obtain⟨t,rfl⟩:=D;have G:Inv X x A H {s with heap:=c,toks:=tk }:=I.turned (λb o a e=>F b o (by simpa using a) e) p f1 q r u;refine#[_,rfl,tP (s:={s with heap:=c,toks:=tk }) (n:="range_iterator") y rfl rfl Zd #[.int<|lo+i,H,G,#[t,?_],#[rfl,rfl],y,λb a=>(d b a).1]];rw[Int.mul_one]
 done:=by
  intro X f g j l i x s A H E I d st m;subst f g j;refine JB (d it Zs) (MI λp f1 f2 q r u=>?_);exact wpAny_pyNext_range_end (I.ok.hd l) st (by have:n<=i:=m;omega) λc J=>#[rfl,I.turned (t':=s.toks) (λb o a e=>J b o a e) p f1 q r u]
 self:=λ_ _ _ _ _ st h=>wpAny_pyIter_rangeiter st h
section
variable {tg:Expr}
def Oq(K:W.Frag)(c:TE):TI:=λe H R=>c e H λx b=>∃a,x=.ref a/\(∃d,MO K b a d)/\R (UE K a) b
def m6(K:W.Frag)(c:TE):TI:=λe H R=>c e H λx b=>∃a,x=.ref a/\(∃d,O7 K b a d)/\R (m5 K a) b
def Wi(i:PE X l f):PI X tg l (Oq X.K f):=by
 intro g s t H R I h;refine bR (i g s t H _ I h) ?_;refine λv c=>JR λx j=>JE λd k m=>?_
 obtain⟨a,e,⟨w,n⟩,q⟩:=m;subst e;cases k;obtain⟨u,y,p,z⟩:=d.list n;refine wpAny_pyIter_list p.isList ?_;refine#[c.heap.objs.size,[c.heap.objs.size],_,_,j,rfl,d.kept (t':=c.toks) λb o e=>jM _ e,Kt a _,#[_,TW _ rfl,rfl,rfl],λb r=>?_,q];have e:b=c.heap.objs.size:=by simpa using r
 subst e;exact d.fpOk (bD _)<|d.hok.fresh<|bD _
def aBj(j:PE X l f):PI X tg l (m6 X.K f):=by
 intro g s u H R I h;refine bR (j g s u H _ I h) ?_;refine λv c=>JR λx k=>JE λd m n=>?_
 obtain⟨a,e,⟨w,r⟩,q⟩:=n;subst e;cases m;obtain⟨i,y,p,z⟩:=d.tuple r;refine wpAny_pyIter_tuple (show c.heap.IsTuple a i.toArray from p) ?_;refine#[c.heap.objs.size,[c.heap.objs.size],_,_,k,rfl,d.kept (t':=c.toks) λb o e=>jM _ e,Fm a _,#[_,TW _ rfl,rfl,rfl],λb t=>?_,q];have e:b=c.heap.objs.size:=by simpa using t
 subst e;exact d.fpOk (bD _)<|d.hok.fresh<|bD _
def Os{s:NE}{lo a:Int}{t u v:Tok}{tk:Nat}(I:Inv X c f H s)(g:-(2^62)<=lo)(h:lo<2^62)(i:-(2^62)<=a)(j:a<2^62)(q:R (hB lo (a-lo).toNat) H):wpAny (model X.prog X.w) X.A (pyIter<|.ref s.heap.objs.size) (u2 X c f tg R) E {s with heap:=s.heap.push {cls:=.type "range",data:=.fields (toArray [.int lo t,.int a u,.int 1 v]) },toks:=tk }:=by
 refine wpAny_pyIter_range (IsRange.new ..) (small_one g h i j) ?_;have d:Inv X c f H {s with heap:=s.heap.push {cls:=.type "range",data:=.fields (toArray [.int lo t,.int a u,.int 1 v]) },toks:=tk }:=I.kept λb o e=>jM _ e
 refine#[(s.heap.push {cls:=.type "range",data:=.fields (toArray [.int lo t,.int a u,.int 1 v]) }).objs.size,[(s.heap.push {cls:=.type "range",data:=.fields (toArray [.int lo t,.int a u,.int 1 v]) }).objs.size],_,_,H,rfl,
  d.kept (t':=tk) λb o e=>jM _ e,Fn _ lo (a - lo).toNat,?_,λb k=>?_,q]
 .have l:lo+((0:Nat):Int)*1=lo:=by simp
  have m:(((a-lo).toNat:Nat):Int)-((0:Nat):Int)=Builtin.Range.rangeSize lo a 1:=by rw[rangeSize_one];split<;>omega
  show IsRangeIter _ _ (lo+((0:Nat):Int)*1) ((((a-lo).toNat:Nat):Int)-((0:Nat):Int)) 1;rw[l,m];exact TW _ rfl
 have e:b=(s.heap.push {cls:=.type "range",data:=.fields (toArray [.int lo t,.int a u,.int 1 v]) }).objs.size:=by simpa using k
 subst e;exact d.fpOk (bD _)<|d.hok.fresh<|bD _
def vl(a:TA):TI:=λc H R=>a c H λvs b=>∃j:Int,vs=[.int j]/\-(2^62)<=j/\j<2^62/\R (hB 0 j.toNat) b
def Ku(f:Gl X "range")(g:X.mg "range"=none)(i:PA X [a] c)(hs:starEach [a] X.env=[(false,eval a X.env)]:=by rfl):PI X tg (.Call (.Name "range" p) [a] [] pos) (vl c):=by
 intro d s o H R I h;refine Call_<|vG I f g boot_range<|PyProof.Rows.callWith_type1 (bR (i pos d s o H _ I h) ?_) hs rfl;refine λu v=>JR λvs w=>JE λk l b=>?_;revert b;refine JU λj=>KJ λe b m q=>?_;subst e;cases l with
 | cons r n=>
  cases n;obtain⟨t,rfl⟩:=r;exact call_range_1<|Os k Zo Zo b m (by simpa using q)
def vp(f:TI)(g:TG)(tb:TS):TS:=λD a H=>f a H λJ h=>∃W:Nat->Nat->St->Hp->Prop,(∃m,W 0 m a h)/\∀i m a H,W i m a H →
 (J.stop i H/\D.nx a H)∨(J.go i H/\∃N:St->Hp->Prop,(∀ c b,N c b->∃d,d<m/\W (i+1) d c b)/\∀x b,J.yld i H x b->g x a b λe j=>tb {D with nx:=N,ct:=N,bk:=D.nx } e j)
def vI(fp:BZ)(h:Heap):List (TD×Obj):=fp.filterMap λb=>(h.get? b).map λo=>(b,o)
def lF(a:b∈fp)(e:h.get? b=!o):(b,o)∈vI fp h:=mem_filterMap.mpr #[b,a,by rw[e];rfl]
def Kv(a:p∈vI fp h):p.1∈fp/\h.get? p.1=some p.2:=by
 obtain⟨b,c,e⟩:=mem_filterMap.mp a
 cases q:h.get? b with
 | none=>rw[q]at e;cases e
 | some o=>
  rw[q]at e;have d:(b,o)=p:=Option.some.inj e;subst d;exact#[c,q]
def Inv.pinned{s:NE}(I:Inv X a g H s)(h:∀b∈fp,rP X a H b)(i:∀b∈fp,∃o,s.heap.get? b=!o/\∀v,o.data≠.cell v):Inv X (a++vI fp s.heap) g H s:=
 I.pins_of λp j=>(MN.mp j).elim (λz=>I.pin p<|GJ _ z) λz=>by
  obtain⟨c,e⟩:=Kv z;refine JB (h p.1 c) (KJ λk f1 f2 _=>?_);obtain⟨o,f,d⟩:=i p.1 c;rw[e]at f;cases f;exact#[e,k,f1,f2,d]
def Inv.unpinned{s:NE}(I:Inv X (a++pl) b H s):Inv X a b H s:=I.pins_of λp c=>I.pin p<|GJ _<|IN _ c
def aBk{tb:TS}(q:PassesOwn (model X.prog X.w) X.A X.env X.xe)(D:X.calm=true)(O:PI X tg iter C)(P:PG X tg g)(c:RI X B tb)(hs:∀x,foldedSetIterable iter X.env x=pure x:=by intro _;rfl):PS X (.For tg iter B [] pos) (vp C g tb):=by
 intro k s M a0 a7 a1 a2;refine wpAny_For (bR (O k s M a0 _ a1 a2) λv s1 Q=>bR Q λVT s2 R=>?_) hs;revert R;refine QL λit r E a8 S=>MI λe U T V f2=>JU λW=>JW λζ turn=>?_;obtain⟨Y,Z⟩:=ζ;subst e;have w:∀ {h:Hp},(∀b∈r,h b=none)->∀b∈r,rP X k h b:=λhn b c=>#[hn b c,(f2 b c).2]
 refine codeAny_forLoop_any (λn F=>∃i l h,Inv X k l h F/\E i F.heap/\(∀b∈r,h b=none)/\W i n l h) ?_ Y #[0,M,S,U,V,λb c=>(f2 b c).1,Z];refine λn G=>LB λi p u=>KJ λH I J w3=>?_;rcases turn i n p u w3 with⟨stop,qn⟩|⟨go,a3,hN,step⟩
 .refine wpAny_passesOwn q<|bR (T.done X rfl rfl rfl D i k G p u X.xe H (w J) I stop) ?_;rintro a4 s4 ⟨y,I4⟩;subst y;exact wpAny_execs_nil #[p,u,I4,qn]
 refine wpAny_passesOwn q<|bR (T.item X rfl rfl rfl D i k G p u X.xe H (w J) I go) ?_;rintro a4 s4 ⟨a5,y,h4⟩;subst y;refine wpAny_passesOwn q<|bR h4 ?_;refine λ_ K=>JR λx L=>MJ λI5 r5 y5 z ZN=>?_;have ZO:=I5.pinned (w ZN)<|T.obj _ _ z;refine wpAny_passesOwn q<|bR (P _ K p L x a5 _ ZO r5<|step x L y5) ?_;refine λ_ s6=>JR λN H6=>JW λI6 q6=>?_;refine wpAny_passesOwn q<|bR (c _ s6 N H6 _ I6 q6) λa6 A j=>?_;have again:∀ {a:St}{d:Hp},Inv X (k++vI r K.heap) a d A->a3 a d->∃m,m<n/\∃i l h,Inv X k l h A/\E i A.heap/\(∀b∈r,h b=none)/\W i m l h:=λ{a d} f t=>by
  obtain⟨m',hm,w7⟩:=hN a d t;refine#[m',hm,i+1,a,d,f.unpinned,T.keep _ _ _ z λb c o e=>(f.pin (b,o)<|GJ _<|GJ _<|lF c e).1,λb c=>?_,w7];obtain⟨o,e,a9⟩:=T.obj _ _ z b c;exact(f.pin (b,o)<|GJ _<|GJ _<|lF c e).2.1
 cases a6 with
 | next=>revert j;refine JR λa d=>JW λf t=>?_;exact again f t
 | cont=>revert j;refine JR λa d=>JW λf t=>?_;exact again f t
 | brk=>revert j;refine JR λa d=>JW λf j=>?_;exact#[a,d,f.unpinned,j]
 | ret v=>revert j;refine LB λx7 a d=>JE λf r7 j=>?_;exact#[x7,a,d,f.unpinned,r7,j]
end
abbrev R2:=V->V->Hp->VK->Prop
def LZ(X:Cx)(f:PP->PP->Sem Value)(r:R2):Prop:=
 ∀(a:ZB)(s:NE)(b:St)(H:Hp)(x y:V)(v u:PP)(Q:VK),Inv X a b H s->RelV x v->RelV y u->r x y H Q →
  wpAny (model X.prog X.w) X.A (f v u) (EP X a b Q) X.xe s
def X7(X:Cx)(f:PP->Sem Value)(r:V->Hp->VK->Prop):Prop:=
 ∀(a:ZB)(s:NE)(b:St)(H:Hp)(x:V)(v:PP)(Q:VK),Inv X a b H s->RelV x v->r x H Q →
  wpAny (model X.prog X.w) X.A (f v) (EP X a b Q) X.xe s
def LQ(X:Cx)(f:PP)(r:A1->Hp->VK->Prop):Prop:=
 ∀(a:ZB)(s:NE)(d:St)(H:Hp)(b:A1)(c:C4)(Q:VK),Inv X a d H s->Vals b c->r b H Q →
  wpAny (model X.prog X.w) X.A (call f c) (EP X a d Q) X.xe s
def yT(r:R2)(b tb:TE):TE:=λa H Q=>b a H λx c=>tb a c λy d=>r x y d Q
def nc(r:V->Hp->VK->Prop)(a:TE):TE:=λc H Q=>a c H λx b=>r x b Q
def rI(C:Int->Int->Prop)(g:Int->Int->V):R2:=λx y H Q=>∃i j,x=.int i/\y=.int j/\C i j/\Q (g i j) H
def Wj(g:Int->Int->V):R2:=λx y H Q=>∃i j,x=.int i/\y=.int j/\Q (g i j) H
def rU(g:Int->V):V->Hp->VK->Prop:=λx H Q=>∃i,x=.int i/\Q (g i) H
section
variable {a b c:Expr}{tc:TE}
def nf(k:PE X a ta)(l:PE X b tb){s:NE}{R:V->V->Hp->Prop}(I:Inv X e d H s)(h:ta d H λx H1=>tb d H1 λy H2=>R x y H2){f:PP->PP->Sem Value}(m:∀v u g x y H2,Inv X e d H2 g->RelV x v->RelV y u->R x y H2->wpAny (model X.prog X.w) X.A (f v u) Q X.xe g) :
  wpAny (model X.prog X.w) X.A (eval a X.env) (λv i=>wpAny (model X.prog X.w) X.A (eval b X.env) (λu j=>wpAny (model X.prog X.w) X.A (f v u) Q X.xe j) X.xe i) X.xe s:=by
 refine bR (k e s d H _ I h) ?_;refine λv n=>JR λx H1=>JE λo p q=>?_;refine bR (l e n d H1 _ o q) ?_;refine λu g=>JR λy H2=>JE λr t w=>?_;exact m v u g x y H2 r p t w
def aC7{op:Operator}(e:LZ X (binaryOp op) r)(f:PE X a ta)(g:PE X b tb):PE X (.BinOp a op b pos) (yT r ta tb):=by
 intro d s n H Q I h;exact wpAny_BinOp<|nf f g I h λv u i x y j k l m q=>e d i n j x y v u Q k l m q
def aC8{op:UnaryOp}(f:X7 X (unaryOp op) r)(g:PE X a ta):PE X (.UnaryOp op a pos) (nc r ta):=by
 intro d s e H Q I h;exact UnaryOp_<|bR (g d s e H _ I h) λv i #[x,j,k,l,m]=>f d i e j x v Q k l m
def hH{g:Int->Int->Int}(rule:∀(i j:Int)(t u:Tok)(s:NE)(Q:Y7)(E:Y7),C i j->Q (.int (g i j) s.toks) {s with toks:=s.toks+1 }->wpAny (model X.prog X.w) X.A (f (.int i t)<|.int j u) Q E s) :
  LZ X f (rI C λi j=>.int<|g i j):=by
 intro m s n H x y v u Q I d e h;revert h;refine JR λi j=>KJ λζ η k q=>?_;subst ζ η;obtain⟨t,rfl⟩:=d;obtain⟨l,rfl⟩:=e;exact rule i j t l s _ _ k #[.int<|g i j,H,I.tok _,#[_,rfl],q]
def vq{g:Int->Int->Int}(rule:∀(i j:Int)(t u:Tok)(s:NE)(Q:Y7)(E:Y7),Q (.int (g i j) s.toks) {s with toks:=s.toks+1 }->wpAny (model X.prog X.w) X.A (f (.int i t)<|.int j u) Q E s) :
  LZ X f (Wj λi j=>.int<|g i j):=by
 intro l s m H x y v u Q I d e h;revert h;refine JR λi j=>JE λζ η q=>?_;subst ζ η;obtain⟨t,rfl⟩:=d;obtain⟨k,rfl⟩:=e;exact rule i j t k s _ _ #[.int<|g i j,H,I.tok _,#[_,rfl],q]
def Wk{g:Int->Int->Bool}(rule:∀(i j:Int)(t u:Tok)(s:NE)(Q:Y7)(E:Y7),Q (.bool<|g i j) s->wpAny (model X.prog X.w) X.A (f (.int i t)<|.int j u) Q E s) :
  LZ X f (Wj λi j=>.bl<|g i j):=by
 intro l s m H x y v u Q I d e h;revert h;refine JR λi j=>JE λζ η q=>?_;subst ζ η;obtain⟨t,rfl⟩:=d;obtain⟨k,rfl⟩:=e;exact rule i j t k s _ _ #[.bl<|g i j,H,I,rfl,q]
def nh(i j:Int):Prop:=0<=j/\j<=1000000/\i.natAbs<2^64
def RU(i j:Int):Prop:=(-(2^64)<i/\i<2^64)∨(-(2^64)<j/\j<2^64)
def RU.ok{i j:Int}(h:RU i j):IntMulOk i j:=by
 rcases h with⟨d,e⟩|⟨d,e⟩
 .exact .of_left<|intBits_le_64 d e
 exact .of_right<|intBits_le_64 d e
def aBn:LZ X (binaryOp .Add) (Wj λi j=>.int<|i+j):=vq λ_ _ _ _ _ _ _ q=>add_int q
def aBo:LZ X (binaryOp .Sub) (Wj λi j=>.int<|i-j):=vq λ_ _ _ _ _ _ _ q=>sub_int q
def aBp:LZ X (binaryOp .Mult) (rI RU λi j=>.int<|i*j):=hH λ_ _ _ _ _ _ _ d q=>mul_int q d.ok
def aBq:LZ X (binaryOp .Mod) (rI (λ_ j=>0<j) λi j=>.int<|i%j):=hH λi j _ _ _ _ _ d q=>by
 have e:(0:Int)<j:=d;exact mod_int' Zo (by rw[Int.fmod_eq_emod_of_nonneg i Zo];exact q)
def aBr:LZ X (binaryOp .Pow) (rI nh λi j=>.int<|i^j.toNat):=hH λ_ _ _ _ _ _ _ d q=>pow_int_small d.1 d.2.1 d.2.2 q
def unI{g:Int->Int}(rule:∀(i:Int)(t:Tok)(s:NE)(Q:Y7)(E:Y7),Q (.int (g i) s.toks) {s with toks:=s.toks+1 }->wpAny (model X.prog X.w) X.A (f<|.int i t) Q E s) :
  X7 X f (rU λi=>.int<|g i):=by
 intro e s j H x v Q I d h;obtain⟨i,rfl,q⟩:=h;obtain⟨t,rfl⟩:=d;exact rule i t s _ _ #[.int<|g i,H,I.tok _,#[_,rfl],q]
def aBs:X7 X (unaryOp .USub) (rU λi=>.int<|-i):=unI λ_ _ _ _ _ q=>neg_int q
end
def scal:V->V->Bool
 | .non,.non=>true|.non,.int _=>true|.int _,.non=>true|.non,.bl _=>true|.bl _,.non=>true|.non,.str _=>true|.str _,.non=>true
 | .int _,.int _=>true|.bl _,.bl _=>true|.str _,.str _=>true|.byt _,.byt _=>true
 | .int _,.str _=>true|.str _,.int _=>true|.bl _,.str _=>true|.str _,.bl _=>true
 | _,_=>false
def rEq:R2:=λx y H Q=>scal x y=true/\Q (.bl<|decide (x=y)) H
def rNe:R2:=λx y H Q=>scal x y=true/\Q (.bl<|(not (decide (x=y)))) H
def Il{i j:Int}:decide (V.int i=V.int j)=(i==j):=by
 rw[Bool.eq_iff_iff];simp
def Ot{i j:Bool}:decide (V.bl i=V.bl j)=(i==j):=by
 rw[Bool.eq_iff_iff];simp
def Im{i j:Str}:decide (V.str i=V.str j)=(i==j):=by
 rw[Bool.eq_iff_iff];simp
def Io{i j:Array UInt8}:decide (V.byt i=V.byt j)=(i.toList==j.toList):=by
 rw[Bool.eq_iff_iff];cases i;cases j;simp
section
variable {a b c:Expr}{tc:TE}
def bG{s:NE}{k f:Bool}(I:Inv X d g H s)(q:Q (.bl k) H)(e:k=f):EP X d g Q (.bool f) s:=by
 subst e;exact#[.bl k,H,I,rfl,q]
def vt:LZ X (compareOp .Eq) rEq:=by
 intro k s l H x y v u Q I g d h;obtain⟨f,q⟩:=h
 cases x with
 | non=>
  cases g
  cases y with
  | non=>cases d;exact PySem.EqNone.eq_none_none (bG I q Zs)
  | bl j=>cases d;exact PySem.EqNone.eq_none_bool (bG I q Zs)
  | int j=>obtain⟨e,rfl⟩:=d;exact PySem.EqNone.eq_none_int (bG I q Zs)
  | str j=>obtain⟨e,rfl⟩:=d;exact PySem.EqNone.eq_none_str (bG I q Zs)
  | _=>exact IZ (show false=true from f) WP
 | bl i=>
  cases g
  cases y with
  | non=>cases d;exact PySem.EqNone.eq_bool_none (bG I q Zs)
  | bl j=>cases d;exact eq_bool (bG I q Ot)
  | str j=>obtain⟨e,rfl⟩:=d;exact PySem.EqMixed.eq_bool_str (bG I q Zs)
  | _=>exact IZ (show false=true from f) WP
 | int i=>
  obtain⟨t,rfl⟩:=g
  cases y with
  | non=>cases d;exact PySem.EqNone.eq_int_none (bG I q Zs)
  | int j=>obtain⟨e,rfl⟩:=d;exact eq_int (bG I q Il)
  | str j=>obtain⟨e,rfl⟩:=d;exact PySem.EqMixed.eq_int_str (bG I q Zs)
  | _=>exact IZ (show false=true from f) WP
 | str i=>
  obtain⟨t,rfl⟩:=g
  cases y with
  | non=>cases d;exact PySem.EqNone.eq_str_none (bG I q Zs)
  | bl j=>cases d;exact PySem.EqMixed.eq_str_bool (bG I q Zs)
  | int j=>obtain⟨e,rfl⟩:=d;exact PySem.EqMixed.eq_str_int (bG I q Zs)
  | str j=>obtain⟨e,rfl⟩:=d;exact eq_str (bG I q Im)
  | _=>exact IZ (show false=true from f) WP
 | byt i=>
  obtain⟨t,rfl⟩:=g
  cases y with
  | byt j=>obtain⟨e,rfl⟩:=d;exact W.eq_bytes (bG I q Io)
  | _=>exact IZ (show false=true from f) WP
 | _=>cases y<;>exact IZ (show false=true from f) WP
def vu:LZ X (compareOp .NotEq) rNe:=by
 intro k s l H x y v u Q I g d h;obtain⟨f,q⟩:=h
 cases x with
 | non=>
  cases g
  cases y with
  | non=>cases d;exact PySem.EqNone.ne_none_none (bG I q Zs)
  | bl j=>cases d;exact PySem.EqNone.ne_none_bool (bG I q Zs)
  | int j=>obtain⟨e,rfl⟩:=d;exact PySem.EqNone.ne_none_int (bG I q Zs)
  | str j=>obtain⟨e,rfl⟩:=d;exact PySem.EqNone.ne_none_str (bG I q Zs)
  | _=>exact IZ (show false=true from f) WP
 | bl i=>
  cases g
  cases y with
  | non=>cases d;exact PySem.EqNone.ne_bool_none (bG I q Zs)
  | bl j=>cases d;exact ne_bool (bG I q<|congrArg not Ot)
  | str j=>obtain⟨e,rfl⟩:=d;exact PySem.EqMixed.ne_bool_str (bG I q Zs)
  | _=>exact IZ (show false=true from f) WP
 | int i=>
  obtain⟨t,rfl⟩:=g
  cases y with
  | non=>cases d;exact PySem.EqNone.ne_int_none (bG I q Zs)
  | int j=>obtain⟨e,rfl⟩:=d;exact ne_int (bG I q<|congrArg not Il)
  | str j=>obtain⟨e,rfl⟩:=d;exact PySem.EqMixed.ne_int_str (bG I q Zs)
  | _=>exact IZ (show false=true from f) WP
 | str i=>
  obtain⟨t,rfl⟩:=g
  cases y with
  | non=>cases d;exact PySem.EqNone.ne_str_none (bG I q Zs)
  | bl j=>cases d;exact PySem.EqMixed.ne_str_bool (bG I q Zs)
  | int j=>obtain⟨e,rfl⟩:=d;exact PySem.EqMixed.ne_str_int (bG I q Zs)
  | str j=>obtain⟨e,rfl⟩:=d;exact ne_str (bG I q<|congrArg not Im)
  | _=>exact IZ (show false=true from f) WP
 | byt i=>
  obtain⟨t,rfl⟩:=g
  cases y with
  | byt j=>obtain⟨e,rfl⟩:=d;exact W.ne_bytes (bG I q<|congrArg not Io)
  | _=>exact IZ (show false=true from f) WP
 | _=>cases y<;>exact IZ (show false=true from f) WP
def aDa:LZ X (compareOp .Lt) (Wj λi j=>.bl<|decide (i<j)):=Wk λ_ _ _ _ _ _ _ q=>lt_int q
def aDb:LZ X (compareOp .LtE) (Wj λi j=>.bl<|decide (i<=j)):=Wk λ_ _ _ _ _ _ _ q=>le_int q
def aDc:LZ X (compareOp .Gt) (Wj λi j=>.bl<|decide (j<i)):=Wk λ_ _ _ _ _ _ _ q=>gt_int q
def aDd:LZ X (compareOp .GtE) (Wj λi j=>.bl<|decide (j<=i)):=Wk λ_ _ _ _ _ _ _ q=>ge_int q
def Kw:LZ X (compareOp .In) (λx y H Q=>∃i j,x=.str i/\y=.str j/\Q (.bl<|(not ((Builtin.Str.occurrences j i 0 j.length 1).isEmpty))) H):=by
 intro f s k H x y v u Q I d e h;revert h;refine JR λi j=>JE λζ η q=>?_;subst ζ η;obtain⟨t,rfl⟩:=d;obtain⟨g,rfl⟩:=e;exact in_str<|bG I q rfl
def aBt:LZ X (compareOp .Is) (λx y H Q=>y=.non/\Q (.bl<|decide (x=.non)) H):=by
 intro f s g H x y v u Q I d e h;obtain⟨rfl,q⟩:=h;cases e;refine is_none_gen<|bG I q ?_;cases x<;>first
  | (cases d;rfl)
  | (obtain⟨t,rfl⟩:=d;rfl)
def Wl:LZ X (compareOp .IsNot) (λx y H Q=>y=.non/\Q (.bl<|(not (decide (x=.non)))) H):=by
 intro f s g H x y v u Q I d e h;obtain⟨rfl,q⟩:=h;cases e;refine isnot_none_gen<|bG I q ?_;cases x<;>first
  | (cases d;rfl)
  | (obtain⟨t,rfl⟩:=d;rfl)
def Ao(b:Expr){op:CmpOp}(h:op≠.In:=by decide)(d:op≠.NotIn:=by decide):behindInMarks op b=false:=by
 have e:(op==CmpOp.In)=false:=by cases op<;>first|rfl|exact IZ rfl h
 have f:(op==CmpOp.NotIn)=false:=by cases op<;>first|rfl|exact IZ rfl d
 cases b<;>simp[behindInMarks,e,f]
def Wm{op:CmpOp}(e:LZ X (compareOp op) r)(f:PE X a ta)(g:PE X b tb)(i:behindInMarks op b=false):PE X (.Compare a [op] [b] pos) (yT r ta tb):=by
 intro d s o H Q I h;exact wpAny_Compare1 (nf f g I h λv u j x y k l m n q=>e d j o k x y v u Q l m n q) i
def Ip(t:TE):TT:=λe H Q=>t e H λx d=>∃k,x=.bl k/\Q k d
def Wn{op:CmpOp}(g:LZ X (compareOp op) r)(i:PE X a ta)(j:PE X b tb)(l:behindInMarks op b=false):PT X (.Compare a [op] [b] pos) (Ip<|yT r ta tb):=by
 intro d s f H Q I h;refine wpAny_isTrue_Compare1 (bR (i d s f H _ I h) λv m #[x,n,o,p,q]=>bR (j d m f n _ o q) λu t #[y,w,A,B,C]=>
  bR (g d t f w x y v u _ A p B C) λc J #[z,D,E,F,k,e,G]=>?_) l
 subst e;cases F;exact wpAny_truthy_bool #[D,E,G]
def Ap(r r':R2)(ta tb tc:TE):TE:=λd H Q=>ta d H λx f=>tb d f λy g=>r x y g λz e=>∃k,z=.bl k ∧
 (if k=true then tc d e λh i=>r' y h i Q else Q (.bl false) e)
def Ou{op i:CmpOp}(o:LZ X (compareOp op) r)(p:LZ X (compareOp i) r')(q:PE X a ta)(t:PE X b tb)(w:PE X c tc)(A:lastMarks [op,i] [b,c]=false:=by with_unfolding_all rfl):PE X (.Compare a [op,i] [b,c] pos) (Ap r r' ta tb tc):=by
 intro f s g H Q I h;refine Compare_chain (bR (q f s g H _ I h) λv B #[x,C,D,E,F]=>chain_link<|bR (t f B g C _ D F) λu G #[y,J,K,j,L]=>
  bR (o f G g J x y v u _ K E j L) λd M #[z,l,m,N,k,e,n]=>?_) A
 subst e;cases N;refine wpAny_truthy_bool ?_
 cases k with
 | false=>exact ite_ff #[.bl false,l,m,rfl,n]
 | true=>exact ite_tt<|chain_last<|bR (w f M g l _ m n) λO P #[R,S,T,U,V]=>p f P g S y R u O Q T j U V
def Ov{op f:CmpOp}(m:LZ X (compareOp op) r)(n:LZ X (compareOp f) r')(o:PE X a ta)(p:PE X b tb)(q:PE X c tc)(t:lastMarks [op,f] [b,c]=false:=by with_unfolding_all rfl):PT X (.Compare a [op,f] [b,c] pos) (Ip<|Ap r r' ta tb tc):=by
 intro d s e H a1 I h;refine isTrue_chain (bR (o d s e H _ I h) λv w #[x,z,A,B,C]=>test_link<|bR (p d w e z _ A C) λu D #[y,E,F,g,G]=>
  bR (m d D e E x y v u _ F B g G) λa2 J #[a3,i,j,K,k,a0,l]=>?_) t
 subst a0;cases K;refine wpAny_truthy_bool ?_
 cases k with
 | false=>
  obtain⟨k',L,M⟩:=l;cases L;exact ite_ff #[i,j,M]
 | true=>
  refine ite_tt<|test_last<|bR (q d J e i _ j l) λN O #[P,Q,R,S,T]=>bR (n d O e Q y P u N _ R g S T) ?_;refine λd' s5=>JR λz2 U=>JE λV W=>JU λk2=>JW λY Z=>?_;subst Y;cases W;exact wpAny_truthy_bool #[U,V,Z]
def rQ:(sizeLine:Nat)<2^63:=by rw[sizeLine_eq];decide
def Fo:LZ X (binaryOp .Add) (λx y H Q=>∃i j,x=.str i/\y=.str j/\i.length+j.length<=sizeLine/\Q (.str<|i++j) H):=by
 intro k s l H x y v u Q I d e h;revert h;refine JR λi j=>KJ λζ η f q=>?_;subst ζ η;obtain⟨t,rfl⟩:=d;obtain⟨g,rfl⟩:=e;exact add_str (λg tk=>#[.str<|i++j,H,I.tok _,#[_,rfl],q]) f
def gX(r:Vals [x] us):∃u,us=[u]/\RelV x u:=by
 cases r with
 | cons d e=>cases e;exact#[_,rfl,d]
def Kx:LQ X (.type "int") (λxs H Q=>(∃i,xs=[.int i]/\Q (.int i) H)∨∃k,xs=[.bl k]/\Q (.int (if k then 1 else 0)) H):=by
 intro e s g H xs f Q I r h;rcases h with⟨i,rfl,q⟩|⟨k,rfl,q⟩
 .obtain⟨u,rfl,t,rfl⟩:=gX r;exact call_int_int #[.int i,H,I,#[_,rfl],q]
 obtain⟨u,rfl,d⟩:=gX r;cases d;exact call_int_bool #[.int (if k then 1 else 0),H,I.tok _,#[_,rfl],q]
def Aq:LQ X (.type "str") (λxs H Q=>∃i,xs=[.int i]/\i.natAbs.log2<1920/\Q (.str<|toString i) H):=by
 intro e s g H xs f Q I r h;obtain⟨i,rfl,d,q⟩:=h;obtain⟨u,rfl,t,rfl⟩:=gX r;exact PySem.P.str_of_int d #[.str _,H,I.tok _,#[_,rfl],q]
end
structure RD(h:Heap)(x dx C:TD)(mA:X5):Prop where
 obj:h.get? x=!W.instObj C dx
 ns:h.Ns1 dx mA
 ne:dx≠x
def Ky{h:Heap}(n:h.Ns1 b c):∃d,h.get? b=!d/\∀name,W.lookIn name d=!c name:=by
 refine JB n (LB λo f p=>MJ λg hd i _ j=>?_);refine#[o,g,λname=>?_];have e:=j name;unfold nsFind findBy at e;rw[<- Array.find?_toList]at e;unfold W.lookIn;rw[hd];dsimp only;split
 .rename_i y q;rw[q]at e;exact congrArg some e
 rename_i q;rw[q]at e;have a:f.toList.any (·.refKey)=false:=by
  rw[any_eq_false];intro y k;obtain⟨z,t,l⟩:=i y<|Array.mem_toList_iff.mp k;simp[DictEntry.refKey,l]
 have m:¬ f.toList.any (·.refKey)=true:=by rw[a];exact WP
 rw[LK m];exact congrArg some e
def RD.look(I:RD h x b C c):∃a,W.InstAt h x (W.instObj C b) C (!a)/\∀name,W.lookIn name a=!c name:=
 let #[a,d,e]:=Ky I.ns
 #[a,#[I.obj,rfl,rfl,d],e]
section
variable {prog:Program}{s:NE}{K:W.Frag}{x dx C f:TD}{mA:X5}{name:Str}{v:PP}
def Wo(X:K.In s.heap)(I:RD s.heap x dx C mA)(b:W.plainGet K C name=true)(c:W.hasDictIn K C=true)(d:W.findIn K (.ref C) name=!none)(e:mA name=!v)(g:W.handedIn v=true)(h:Q v {s with toks:=s.toks+1 }) :
  wpAny (model prog w) A (getAttr (.ref x) name a) Q E s:=by
 obtain⟨j,J,i⟩:=I.look;exact W.get_value X J (W.plainGet_of b).1 (W.findObj_own c d rfl (by rw[i,e])) g h
def Ow(X:K.In s.heap)(I:RD s.heap x dx C mA)(a:W.plainGet K C name=true)(b:W.findIn K (.ref C) name=!(!.ref f))(c:f^2)(d:mA name=none)(h:Q (.ref f,[.ref x]) s) :
  wpAny (model prog w) A (getMethod (.ref x) name pl) Q E s:=by
 obtain⟨e,J,g⟩:=I.look;exact W.method_fn X J (W.plainGet_of a).1 (W.plainGet_of a).2 b (beq_iff_eq.mp c) (by show(W.lookIn name e).map (·.isSome)=!false;rw[g,d];rfl) h
def Wp(X:K.In s.heap)(I:RD s.heap x dx C mA)(hs:W.findIn K (.ref C) "__setattr__"=!(!.builtin "object.__setattr__"))(k:W.plainOver K C=true)(l:W.takerIn K C name=!none)(m:W.hasDictIn K C=true)(n:PySem.Within mA c)(hsz:c.length<=sizeLine)(h:∀h',RD h' x dx C (λy=>if y=name then some v else mA y)->Heap.SameBut dx s.heap h'->Q () {s with heap:=h',toks:=s.toks+2 }) :
  wpAny (model prog w) A (setAttr (.ref x) name v) Q E s:=by
 obtain⟨z,J,B⟩:=I.look;refine W.set_plain X J hs<|W.osa_open (s:={s with toks:=s.toks+1 }) (r:=none) X J k l λb=>?_;obtain⟨D,o,p⟩:=W.any_some m;have q:s.heap.get? x=some #[.ref C,!dx,.plain,(toArray [])]:=I.obj;refine XV<|W1<|XV<|XV<|wpAny_loadPart q<|XV<|W.Looks.here (s:={s with toks:=s.toks+1 }) (W.looks_clsIn X o) ?_;rw[p];refine W1 (a:=some dx)<|XV<|W1<|XV ?_;refine wpAny_nsSet1 (s:={s with toks:=s.toks+1 }) I.ns λh' d e=>?_;refine JB (d.count<|PySem.Within.cons name v n) (LB λF t u=>JE λg i j=>?_);refine XV<|wpAny_lookBehind g (by rw[i];exact pastItsLine_dict<|gK j (by rw[mY];omega)) ?_;exact W1<|h _ #[(e.2 _<|Ne.symm I.ne).trans I.obj,d,I.ne] e
def Ox{vs:C4}(X:K.In s.heap)(c:W.makesIn K C=true)(e:W.findIn K (.ref C) "__init__"=!(!.ref f))(i:W.typeIn K (.ref f)=!.type "function")(h:codeAny (model prog w) (A.under<|.builtin "type.__call__" #[.ref C::vs,a]) (.call (.ref f) #[.ref (s.heap.objs.size+1)::vs,a]) (W.InitBack (s.heap.objs.size+1) R)
   {s with heap:=(s.heap.push W.emptyDict).push (W.instObj C s.heap.objs.size) }) :
  codeAny (model prog w) A (.call (.ref C) #[vs,a]) R s:=by
 obtain⟨j,g,d,t,os⟩:=s;exact W.make_core (W.makes_of X c) (W.looks_findIn X e) (λb=>W.bind_fn X b i) (.inl rfl) h
end
def bI(f:Str)(v:V):CB->CB
 | []=>[(f,v)]
 | (g,x)::r=>if g=f then (g,v)::r else (g,x)::bI f v r
theorem tQ(f g:Str)(v:V):∀fs:CB,(bI f v fs).lookup g=if g=f then some v else fs.lookup g
 | []=>by
  show List.lookup g [(f,v)]=_;by_cases h:g=f
  .have a:(g==f)=true:=beq_iff_eq.mpr h;simp only [List.lookup,a,LM h]
  have a:(g==f)=false:=beq_eq_false_iff_ne.mpr h;simp only [List.lookup,a,LK h]
 | (k,x)::r=>by
  have c:=tQ f g v r;rw[show bI f v ((k,x)::r)=(if k=f then (k,v)::r else (k,x)::bI f v r) from rfl];by_cases b:k=f
  .rw[LM b];by_cases h:g=k
   .have a:(g==k)=true:=beq_iff_eq.mpr h;simp only [List.lookup,a,LM (h.trans b)]
   have a:(g==k)=false:=beq_eq_false_iff_ne.mpr h;simp only [List.lookup,a,LK (λe:g=f=>h<|e.trans b.symm)]
  rw[LK b];by_cases h:g=k
  .have a:(g==k)=true:=beq_iff_eq.mpr h;simp only [List.lookup,a,LK (λe:g=f=>b<|h.symm.trans e)]
  have a:(g==k)=false:=beq_eq_false_iff_ne.mpr h;simp only [List.lookup,a];exact c
def rR(f:Str)(v:V):∀fs:CB,f∈(bI f v fs).map (·.1)/\∀g,g∈fs.map (·.1)->g∈(bI f v fs).map (·.1)
 | []=>#[by simp[bI],λg h=>by simp at h]
 | (k,x)::r=>by
  obtain⟨b,c⟩:=rR f v r;rw[show bI f v ((k,x)::r)=(if k=f then (k,v)::r else (k,x)::bI f v r) from rfl];by_cases a:k=f
  .rw[LM a];subst a;exact#[Zs,λg h=>by simpa using h]
  rw[LK a];refine#[?_,λg h=>?_]
  .rw[map_cons];exact cR _ b
  rw[map_cons]at h ⊢;rcases mem_cons.mp h with e|e
  .exact mem_cons.mpr<|.inl e
  exact cR _<|c g e
theorem tR(f:Str)(v:V):∀fs:CB,(bI f v fs).length<=fs.length+1
 | []=>by simp[bI]
 | (k,x)::r=>by
  have b:=tR f v r;rw[show bI f v ((k,x)::r)=(if k=f then (k,v)::r else (k,x)::bI f v r) from rfl];by_cases a:k=f
  .rw[LM a,mY,mY];omega
  rw[LK a,mY,mY];omega
def ND.some_of{v:V}(r:ND (!v) o):∃u,o=!u/\RelV v u:=by
 cases o with
 | none=>exact(show False from r).elim
 | some u=>exact#[u,rfl,r]
def ND.none_of(r:ND none o):o=none:=by
 cases o with
 | none=>rfl
 | some u=>exact(show False from r).elim
def Kz{v:V}(r:RelV v u):W.handedIn u=true:=by
 cases v with
 | non=>cases(show u=Value.none from r);rfl
 | bl b=>cases(show u=Value.bool b from r);rfl
 | int i=>obtain⟨t,e⟩:=(show ∃t,u=Value.int i t from r);cases e;rfl
 | str x=>obtain⟨t,e⟩:=(show ∃t,u=Value.str x t from r);cases e;rfl
 | byt b=>obtain⟨t,e⟩:=(show ∃t,u=Value.bytes b t from r);cases e;rfl
 | flt b=>obtain⟨t,e⟩:=(show ∃t,u=Value.float b t from r);cases e;rfl
 | ref a=>cases(show u=Value.ref a from r);rfl
 | ty n=>cases(show u=Value.type n from r);rfl
section
variable {h h':Heap}{a C dx:TD}{fs VQ:CB}
def uP(c:NW P w H h)(e:H a=!.ins C dx fs):∃b,RD h a dx C b/\(∀f,ND (fs.lookup f)<|b f)/\PySem.Within b (fs.map (·.1))/\fs.length<=1000/\H dx=!.own a:=by
 refine JB (show KU P w H h a (.ins C dx fs) from c a _ e) (MJ λd z ne g=>JU λb=>JE λn r q=>?_);exact#[b,#[g,n,ne],r,q,z,d]
end
structure PM(K:W.Frag)(C:TD):Prop where
 pg:W.plainGet K C Str.empty=true
 hd:W.hasDictIn K C=true
 po:W.plainOver K C=true
 sa:W.findIn K (.ref C) "__setattr__"=!(!.builtin "object.__setattr__")
def PM.get{K:W.Frag}(c:PM K C)(f:Str):W.plainGet K C f=true:=c.pg
def KA(K:W.Frag)(C:TD)(f:Str):Prop:=W.findIn K (.ref C) f=!none
def KA.taker{K:W.Frag}(n:KA K C f):W.takerIn K C f=!none:=by
 unfold W.takerIn;rw[show W.findIn K (.ref C) f=some none from n];rfl
structure Oy(K:W.Frag)(C:TD)(m:Str)(f:TD):Prop where
 at_:W.findIn K (.ref C) m=!(!.ref f)
 fn:f^2
 kp:f^1
section
variable {s:NE}{a C dx:TD}{fs:CB}{f:Str}{v:V}
def Fp(I:Inv X pins σ H s)(e:H a=!.ins C dx fs)(c:PM X.K C)(n:KA X.K C f)(l:fs.lookup f=!v)(h:∀u d,Inv X pins σ H d->RelV v u->Q u d):wpAny (model X.prog X.w) A (getAttr (.ref a) f b) Q E s:=by
 refine JB (uP I.hok e) (JU λi=>MJ λO r _ _ _=>?_);obtain⟨u,j,g⟩:=ND.some_of (v:=v) (o:=i f) (by rw[<- l];exact r f);exact Wo I.kIn O (c.get f) c.hd n j (Kz g)<|h u _ (I.tok _) g
def pS(I:Inv X pins σ H s)(e:H a=!.ins C dx fs)(c:PM X.K C)(k:Oy X.K C m g)(l:fs.lookup m=none)(h:Q (.ref g,[.ref a]) s):wpAny (model X.prog X.w) A (getMethod (.ref a) m pl) Q E s:=by
 refine JB (uP I.hok e) (JU λb=>MJ λO r _ _ _=>?_);have d:b m=none:=ND.none_of (by rw[<- l];exact r m);exact Ow I.kIn O (c.get m) k.at_ k.fn d h
def Fq(I:Inv X pins σ H s)(e:H a=!.ins C dx fs)(c:PM X.K C)(n:KA X.K C f)(G:fs.length<1000)(m:RelV y u)(h:∀i,Inv X pins σ (aH H a<|.ins C dx<|bI f y fs) i->Q () i):wpAny (model X.prog X.w) A (setAttr (.ref a) f u) Q E s:=by
 refine JB (uP I.hok e) (JU λj=>MJ λO r k _ l=>?_);have p:(fs.map (·.1)).length<=sizeLine:=by rw[aV,sizeLine_eq];omega
 refine Wp I.kIn O c.sa c.po n.taker c.hd k p λt d w=>h _ ?_;have hd:∃o,t.get? dx=!o:=let #[o,_,_,B,_]:=d.ns;#[o,B];refine I.write (x:=a) (e:=dx) (by rw[e];exact True.intro) (.inr l) (λb q D z=>(w.2 b D).trans z) hd ?_;refine#[by rw[aD O.ne];exact l,?_,O.ne,d.obj,_,d.ns,λg=>?_,λg F=>?_]
 .have:=tR f y fs;omega
 .show ND ((bI f y fs).lookup g) (if g=f then some u else j g);rw[tQ];by_cases q:g=f
  .rw[LM q,LM q];exact m
  rw[LK q,LK q];exact r g
 by_cases q:g=f
 .rw[q];exact(rR f y fs).1
 refine(rR f y fs).2 g<|k g λz=>F ?_;show(if g=f then some u else j g)=none;rw[LK q];exact z
def Inv.made(I:Inv X pins σ H s):Inv X pins σ (!"~oa?{aH3 ??{aH3 " (.own<|s.heap.objs.size+1) (s.heap.objs.size+1) (.ins C s.heap.objs.size []))
  {s with heap:=(s.heap.push W.emptyDict).push (W.instObj C s.heap.objs.size) }:=by
 have c:(s.heap.push W.emptyDict).get? s.heap.objs.size=!W.emptyDict:=TW s.heap rfl;have d:((s.heap.push W.emptyDict).push<|W.instObj C s.heap.objs.size).get? (s.heap.objs.size+1)=!W.instObj C s.heap.objs.size:=by
  have:=TW (s.heap.push W.emptyDict) (o:=W.instObj C s.heap.objs.size) rfl
  rwa [Heap.size_push]at this
 have g:(s.heap.push W.emptyDict).Ns s.heap.objs.size (λ_=>none):=#[W.emptyDict,(toArray []),_,c,rfl,(λe h=>IZ h Zs),λ_=>rfl];have i:=I.laid (a:=s.heap.objs.size) (o:=.own (s.heap.objs.size+1)) (h':=s.heap.push W.emptyDict) (t':=s.toks) (λb u q=>jM _ q) (bD _) #[_,c];refine i.laid (a:=s.heap.objs.size+1) (o:=.ins C s.heap.objs.size []) (t':=s.toks) (λb u q=>jM _ q) (le_of_eq<|Heap.size_push _ _) ?_;have ne:s.heap.objs.size≠s.heap.objs.size+1:=ne_of_lt<|lt_succ_self _;refine#[by rw[aD ne,aA],zero_le _,ne,d,λ_=>none,(Heap.Ns1.of_empty g).at λo q=>jM _ q,λ_=>True.intro,λy j=>IZ rfl j]
def Wq{s:NE}(c:attributeBase e f env (eval e env)=eval e env)(h:wpAny (model prog w) A (eval e env) (λo b=>wpAny (model prog w) A (getAttr o f true) Q E b) E s):wpAny (model prog w) A (eval (.Attribute e f pos) env) Q E s:=
 Attribute_any_ h (by rw[arm_eval_Attribute,c])
end
section
variable {s:NE}{Q:Y7}{c:PP}{b:Bool}
inductive qG(K:W.Frag)(H:Hp):V->PP->Prop where
 | non:qG K H .non (.type "NoneType")
 | bl (x:Bool):qG K H (.bl x) (.type "bool")
 | int (i:Int):qG K H (.int i) (.type "int")
 | str (x:Str):qG K H (.str x) (.type "str")
 | flt (x:UInt64):qG K H (.flt x) (.type "float")
 | lst {a:TD}{xs:A1} (e:H a=!.lst xs):qG K H (.ref a) (.type "list")
 | frz {a:TD}{o:Obj}{xs:A1} (e:H a=!(.frz o<|.lst xs)):qG K H (.ref a) (.type "list")
 | tup {a:TD}{xs:A1} (e:H a=!.tup xs):qG K H (.ref a) (.type "tuple")
 | dK {a:TD}{kvs:DI} (e:H a=!.dK kvs):qG K H (.ref a) (.type "dict")
 | dT {a:TD}{kvs:BW} (e:H a=!.dT kvs):qG K H (.ref a) (.type "dict")
 | ins {a C dx:TD}{fs:CB} (e:H a=!.ins C dx fs) (cl:PM K C) (ha:W.findIn K (.ref C) "__class__"=!(!.builtin "object.__class__"))
   (hn:W.specialIn K (.builtin "object.__class__") "__get__"=!(!.builtin "getset_descriptor.__get__")) (htk:W.takesIn K (.builtin "object.__class__")=!true)
   (hm:W.mroIn K C (.type "object")=!true):qG K H (.ref a) (.ref C)
def Lb{u t:PP}(I:Inv X pins σ H s)(d:RelV x u)(ty:qG X.K H x t)(e:W.kitOne X.K t c=!b)(h:∀tk,Q (.bool b) {s with toks:=tk }) :
  wpAny (model X.prog X.w) A (call (.builtin "isinstance") [u,c]) Q E s:=by
 cases ty with
 | non=>cases(show u=Value.none from d);exact W.kia_one W.kitx_none I.kIn True.intro e nofun h
 | bl y=>cases(show u=Value.bool y from d);exact W.kia_one W.kitx_bool I.kIn True.intro e nofun h
 | int i=>obtain⟨t,q⟩:=(show ∃t,u=Value.int i t from d);cases q;exact W.kia_one W.kitx_int I.kIn True.intro e nofun h
 | str y=>obtain⟨t,q⟩:=(show ∃t,u=Value.str y t from d);cases q;exact W.kia_one W.kitx_str I.kIn True.intro e nofun h
 | flt y=>obtain⟨t,q⟩:=(show ∃t,u=Value.float y t from d);cases q;exact W.kia_one W.kitx_float I.kIn True.intro e nofun h
 | @lst a j f=>
  cases(show u=Value.ref a from d);refine JB (show KU X.prog X.w H s.heap a (.lst j) from I.hok a _ f) (JW λ_=>JR λ_ n=>JW λ_ g=>?_);exact W.kia_one W.kitx_list I.kIn #[_,g,rfl] e nofun h
 | @frz a v j f=>
  cases(show u=Value.ref a from d);refine JB (show KU X.prog X.w H s.heap a (.frz v<|.lst j) from I.hok a _ f) (JE λ_ _=>JR λ_ n=>JW λ_ g=>?_);exact W.kia_one W.kitx_list I.kIn #[_,g,rfl] e nofun h
 | @tup a j f=>
  cases(show u=Value.ref a from d);obtain⟨_,_,_,p⟩:=(show KU X.prog X.w H s.heap a (.tup j) from I.hok a _ f);obtain⟨o,g,k,_⟩:=p;exact W.kia_one W.kitx_tuple I.kIn #[o,g,k] e nofun h
 | @dK a l f=>
  cases(show u=Value.ref a from d);refine JB (show KU X.prog X.w H s.heap a (.dK l) from I.hok a _ f) (JE λ_ _=>JU λvs=>JW λ_ p=>?_);revert p;refine LB λo w z=>JE λg k _=>?_;exact W.kia_one W.kitx_dict I.kIn #[o,g,k.1] e nofun h
 | @dT a l f=>
  cases(show u=Value.ref a from d);refine JB (show KU X.prog X.w H s.heap a (.dT l) from I.hok a _ f) (JE λ_ _=>JU λj=>JW λ_=>LB λo w z=>JE λg k _=>?_);exact W.kia_one W.kitx_dict I.kIn #[o,g,k.1] e nofun h
 | @ins a C G fs f m B D r F=>
  cases(show u=Value.ref a from d);obtain⟨K,O,_⟩:=uP I.hok f;obtain⟨L,J,_⟩:=O.look;exact W.kia_one (W.kitx_own (m.get _) m.hd B D r F) I.kIn J e nofun h
end
structure LO(k:Nat)(A:Around):Prop where
 hd:A.handled=none
 dp:A.depth+3*k+5<recursionLimit
 un:A.units+16*k+200<cLine
def LO.mono{j k:Nat}(r:LO k A)(h:j<=k):LO j A:=#[r.hd,by have:=r.dp;omega,by have:=r.un;omega]
def LO.deeper{k:Nat}(r:LO (k+1) A)(env:Env):LO k (A.deeper env):=
 #[r.hd,by have:=r.dp;show A.depth+1+3*k+5<_;omega,by have:=r.un;show A.units+3+16*k+200<_;omega]
def Fs:(A.under<|.builtin "type.__call__" #[.ref C::us,a]).depth=A.depth+1:=by
 first|rfl|simp[Around.under,Code.weight,Code.isCreation,Code.isGuard,Code.isCaller,Code.frames,Code.isFrame,guardIds]
def Ft:(A.under<|.builtin "type.__call__" #[.ref C::us,a]).units=A.units+1:=by
 first|rfl|simp[Around.under,Code.cUnits,Code.frames,Code.isFrame]
def LO.make{k:Nat}(r:LO (k+1) A)(C:TD)(us:C4)(a:FW):LO k (A.under<|.builtin "type.__call__" #[.ref C::us,a]):=
 #[r.hd,by have:=r.dp;rw[Fs];omega,by have:=r.un;rw[Ft];omega]
def LO.depth{k:Nat}(r:LO k A):A.depth<recursionLimit:=by have:=r.dp;omega
def LO.units{k:Nat}(r:LO k A):A.units+64<cLine:=by have:=r.un;omega
def LO.units0{k:Nat}(r:LO k A):A.units<cLine:=by have:=r.un;omega
def iF:TA:=λ_ H Q=>Q [] H
def tT(b:TE)(c:TA):TA:=λa H Q=>b a H λx d=>c a d λe f=>Q (x::e) f
section
variable {e:Expr}{es:List Expr}{t:TA}
def Fu:PA X [] iF:=λ_ _ _ _ H Q I h=>Calls.spliced_nil #[[],H,I,.nil,h]
def Ar(c:PE X e te)(d:PA X es t)(hs:starEach (e::es) X.env=(false,eval e X.env)::starEach es X.env:=by rfl):PA X (e::es) (tT te t):=by
 intro pos a s b H Q I h;rw[hs];show wpAny _ _ (spliced ((false,eval e X.env)::backTo pos (starEach es X.env))) _ _ s;refine Calls.spliced_cons<|bR (c a s b H _ I h) ?_;refine λu f=>JR λx g=>JE λi j k=>?_;exact bR (d pos a f b g _ i k) λq r #[l,m,n,o,p]=>#[x::l,m,n,.cons j o,p]
def vv(t:TA):TE:=λc H Q=>t c H λa b=>a.length<=sizeLine/\∀p,b p=none->Q (.ref p) (aH b p<|.tup a)
def vy(t:TA):TE:=λc H Q=>t c H λa b=>a.length<=sizeLine/\∀p,b p=none->Q (.ref p) (aH b p<|.lst a)
def aBu{g}(h:PA X es t):PE X (.Tuple es g pos) (vv t):=by
 intro f s m H Q I i;refine wpAny_Tuple_spliced<|bR (h pos f s m H _ I i) λj a #[k,c,d,r,z,q]=>#[by rw[<- r.length];exact z,?_];have l:c a.heap.objs.size=none:=d.hok.fresh<|bD _;refine#[.ref a.heap.objs.size,aH c a.heap.objs.size<|.tup k,d.laid (t':=a.toks) (λb u e=>jM _ e) (bD _) ?_,rfl,q _ l];exact#[z,j,r,#[_,TW _ rfl,rfl,_,rfl]]
def aBv(h:PA X es t):PE X (.List es pos) (vy t):=by
 intro f s l H Q I g;refine wpAny_List_spliced<|bR (h pos f s l H _ I g) λi a #[j,c,d,r,z,q]=>#[by rw[<- r.length];exact z,?_];have k:c a.heap.objs.size=none:=d.hok.fresh<|bD _;refine#[.ref a.heap.objs.size,aH c a.heap.objs.size<|.lst j,d.laid (t':=a.toks) (λb u e=>jM _ e) (bD _) ?_,rfl,q _ k];exact#[z,i,0,r,TW _ rfl]
end
abbrev Sp:=A1->Hp->VK->XK->Prop
abbrev Oz:=List Env->Hp->NE->XK->PP->NE->Prop
structure RF(P:Program)(w:World)(K:W.Frag)(mg:X5)(base:Heap)(A:Around)(outer:List Env)(s:NE)(H:Hp):Prop where
 frames:A.frames=!outer
 mod:Mod K mg base
 bs:∀b o,base.get? b=!o->s.heap.get? b=!o/\H b=none
 bsz:base.objs.size<=s.heap.objs.size
 funs:s.heap.FunFrames base outer
 frf:∀b∈Oh outer,H b=none
 hok:NW P w H s.heap
 bare:AllBare s.gens
def CE(c:List Env)(P:Program)(w:World)(H:Hp)(s:NE)(Q:VK)(u:PP)(a:NE):Prop:=
 ∃v b,a.os=s.os/\AllBare a.gens/\Un (Oh c) [] H b s.heap a.heap/\NW P w b a.heap/\RelV v u/\Q v b
def CR(CX:Oz)(a:List Env)(P:Program)(w:World)(H:Hp)(s:NE)(Q:VK)(E:XK)(r:Result)(b:NE):Prop:=
 match r with
 | .ok (.ret u)=>CE a P w H s Q u b
 | .ok _=>False
 | .error e=>CX a H s E e b
structure MY(P:Program)(w:World)(K:W.Frag)(mg:X5)(base:Heap)(CX:Oz)(k:Nat)(f:TD)(fd:FuncData)(ps:A2)(sp:Sp):Prop where
 len:∀vs H Q E,sp vs H Q E->vs.length=ps.length
 run:∀(A:Around)(outer:List Env)(s:NE)(H:Hp)(args:Args)(us:C4)(vs:A1)(Q:VK)(E:XK),LO k A->RF P w K mg base A outer s H->BindsTo s fd args (ps.zip us)->Vals vs us->sp vs H Q E →
  codeAny (model P w) A (.call (.ref f) args) (CR CX outer P w H s Q E) s
def MY.imp{K:W.Frag}{k:Nat}{ps:A2}(F:MY P w K mg base CX k f a ps sp)(h:∀vs H Q E,b vs H Q E->sp vs H Q E):MY P w K mg base CX k f a ps b:=
 #[λvs H Q E q=>F.len vs H Q E<|h _ _ _ _ q,λA c s H d e vs Q E g i j l m=>F.run A c s H d e vs Q E g i j l<|h _ _ _ _ m]
def RF.make{K:W.Frag}{s:NE}(e:RF P w K mg base A a s H)(C:TD)(us:C4)(b:FW) :
  RF P w K mg base (A.under<|.builtin "type.__call__" #[.ref C::us,b]) a s H:=#[by first|exact e.frames|(simpa [Around.under,Code.envs,Code.isFrame,pushEnvs]using e.frames),e.mod,e.bs,e.bsz,e.funs,e.frf,e.hok,e.bare]
section
variable {s s':NE}
def Inv.env0(I:Inv X pins σ H s):RF X.prog X.w X.K X.mg X.base X.A X.stack s H:=
 #[I.ok.frames,I.ok.mod,I.bs,gK I.ok.bsz I.sz,I.stack,I.stkFree,I.hok,I.bare]
def Inv.after(I:Inv X pins σ H s)(h:CE X.stack X.prog X.w H s Q u s'):EP X pins σ Q u s':=by
 revert h;refine JR λv f=>MI λos a un c r q=>?_;obtain⟨i,g,d,t,e⟩:=s';obtain rfl:e=s.os:=os;exact#[v,f,I.call (h':=i) (g':=g) (d':=d) (t':=t) (ch:=[]) un c a λb z=>IZ z Zs,r,q]
end
def aDg(sp:Sp)(dvs:A1)(E:XK)(t:TA):TE:=λb H Q=>t b H λvs a=>sp (vs++dvs) a Q E
def Iq(C:TD)(sp:Sp)(dvs:A1)(E:XK)(t:TA):TE:=λd H Q=>t d H λvs b=>∀x a,b x=none->b a=none->a≠x →
 sp (.ref x::(vs++dvs)) (aH (aH b a<|.own x) x<|.ins C a []) (λv c=>v=.non/\Q (.ref x) c) E
def Binds(K:W.Frag)(b:FuncData)(ps:A2)(ds:C4):Prop:=
 ∀(s:NE)(a:C4),K.In s.heap->(a++ds).length=ps.length->BindsTo s b #[a,[]] (ps.zip<|a++ds)
def Binds.all{K:W.Frag}{ps:A2}(h:∀us:C4,us.length=ps.length->bindArgs a #[us,[]]=pure (ps.zip us)):Binds K a ps []:=λs us _ b=>by
 rw[append_nil]at b ⊢;exact .of_eq<|h us b
def rS(CX:Oz)(X:Cx)(E:XK):Prop:=∀(b:ZB)(c:St)(H:Hp)(s:NE)(e:PP)(a:NE),Inv X b c H s->CX X.stack H s E e a->X.xe e a
section
variable {CX:Oz}{k:Nat}{f C:TD}{fd:FuncData}{ps:A2}{sp:Sp}{dvs:A1}{ds:C4}{E:XK}{x m:Str}{p:Pos}{e o:Expr}{es:List Expr}{t:TA}
def As{s:NE}{vs:A1}(F:MY X.prog X.w X.K X.mg X.base CX k f fd ps sp)(g:LO k X.A)(i:Binds X.K fd ps ds)(hd:Vals dvs ds)(j:rS CX X E)(I:Inv X b c H s)(r:Vals vs us)(h:sp (vs++dvs) H Q E):wpAny (model X.prog X.w) X.A (call (.ref f) us) (EP X b c Q) X.xe s:=by
 have d:Vals (vs++dvs) (us++ds):=r.append hd;have l:(us++ds).length=ps.length:=by rw[<- d.length];exact F.len _ _ _ _ h
 refine wpAny_call (codeAny_mono (F.run X.A X.stack s H #[us,[]] (us++ds) (vs++dvs) Q E g I.env0 (i s us I.kIn l) d h) λr n a=>?_)
 cases r with
 | error e=>exact j b c H s e n I a
 | ok q=>
  cases q with
  | ret u=>exact I.after a
  | next=>exact False.elim a
  | brk=>exact False.elim a
  | cont=>exact False.elim a
def Wr(F:MY X.prog X.w X.K X.mg X.base CX k f fd ps sp)(c:LO k X.A)(d:Gl X x)(g:X.mg x=!.ref f)(i:W.keepIn X.K (.ref f)=true)(j:Binds X.K fd ps ds)(hd:Vals dvs ds)(l:rS CX X E)(n:PA X (e::es) t)(u:OV x:=by decide)(v:starEach (e::es) X.env=(false,eval e X.env)::starEach es X.env:=by rfl)(w:(backTo pos<|starEach es X.env).any (·.1)=false:=by rfl) :
  PE X (.Call (.Name x p) (e::es) [] pos) (aDg sp dvs E t):=by
 intro b s y H Q I h;refine wpAny_Call_Name_kw<|uO I d g ?_ u;refine W.callWith_K (h₀:=X.base) I.ok.mod.kin i (bR (n pos b s y H _ I h) λz A #[vs,B,a,r,q]=>#[a.kIn,?_]) v w;exact As F c j hd l a r q
structure Mk(K:W.Frag)(C f:TD):Prop where
 makes:W.makesIn K C=true
 init:W.findIn K (.ref C) "__init__"=!(!.ref f)
 fn:f^2
 kp:C^1
def Cy{s:NE}{vs:A1}(M:Mk X.K C f)(F:MY X.prog X.w X.K X.mg X.base CX k f fd ps sp)(l:LO (k+1) X.A)(n:Binds X.K fd ps ds)(hd:Vals dvs ds)(q:rS CX X E)(I:Inv X d g H s)(r:Vals vs us)(h:∀x b,H x=none->H b=none->b≠x->sp (.ref x::(vs++dvs)) (aH (aH H b<|.own x) x<|.ins C b []) (λv H2=>v=.non/\Q (.ref x) H2) E) :
  wpAny (model X.prog X.w) X.A (call (.ref C) us) (EP X d g Q) X.xe s:=by
 have i:=h (s.heap.objs.size+1) s.heap.objs.size (I.hok.fresh<|le_succ _) (I.hok.fresh<|bD _)<|ne_of_lt<|lt_succ_self _;have c:=Inv.made (C:=C) I;have j:Vals (V.ref (s.heap.objs.size+1)::(vs++dvs)) (Value.ref (s.heap.objs.size+1)::(us++ds)):=.cons rfl<|r.append hd;have w:(Value.ref (s.heap.objs.size+1)::us++ds).length=ps.length:=by
  have e:=j.length;rw[F.len _ _ _ _ i]at e;exact e.symm
 refine wpAny_call (Ox (f:=f) I.kIn M.makes M.init (beq_iff_eq.mp M.fn)<|codeAny_mono (F.run _ X.stack _ _ #[Value.ref (s.heap.objs.size+1)::us,[]] (Value.ref (s.heap.objs.size+1)::(us++ds)) _ _ E (l.make C us [])
  (c.env0.make C us []) (n _ (Value.ref (s.heap.objs.size+1)::us) c.kIn w) j i) λr y a=>?_)
 cases r with
 | error e=>exact q d g _ _ e y c a
 | ok z=>
  cases z with
  | ret u=>
   refine JB (c.after a) (JR λv A=>KJ λB D G J=>?_);subst G;exact#[D,#[V.ref<|s.heap.objs.size+1,A,B,rfl,J]]
  | next=>exact False.elim a
  | brk=>exact False.elim a
  | cont=>exact False.elim a
def Ws(M:Mk X.K C f)(F:MY X.prog X.w X.K X.mg X.base CX k f fd ps sp)(c:LO (k+1) X.A)(d:Gl X x)(g:X.mg x=!.ref C)(i:Binds X.K fd ps ds)(hd:Vals dvs ds)(j:rS CX X E)(l:PA X (e::es) t)(n:OV x:=by decide)(u:starEach (e::es) X.env=(false,eval e X.env)::starEach es X.env:=by rfl)(v:(backTo pos<|starEach es X.env).any (·.1)=false:=by rfl) :
  PE X (.Call (.Name x p) (e::es) [] pos) (Iq C sp dvs E t):=by
 intro b s w H Q I h;refine wpAny_Call_Name_kw<|uO I d g ?_ n;refine W.callWith_K (h₀:=X.base) I.ok.mod.kin M.kp (bR (l pos b s w H _ I h) λy z #[vs,A,a,r,q]=>#[a.kIn,?_]) u v;exact Cy M F c i hd j a r q
def Pa(M:Mk X.K C f)(F:MY X.prog X.w X.K X.mg X.base CX k f fd ps sp)(a:LO (k+1) X.A)(b:Gl X x)(c:X.mg x=!.ref C)(d:Binds X.K fd ps ds)(hd:Vals dvs ds)(g:rS CX X E)(i:OV x:=by decide):PE X (.Call (.Name x p) [] [] pos) (Iq C sp dvs E iF):=by
 intro j s l H Q I h;refine wpAny_Call_Name_kw<|uO I b c ?_ i;exact W.callWith_K0 I.kIn M.kp<|Cy (us:=[]) M F a d hd g I .nil h
end
structure aG(N P:A2)(sc:Scope):Prop where
 kind:sc.kind=.function
 co:sc.isCoroutine=false
 gen:sc.isGenerator=false
 nd:N.Nodup
 pre:N.take P.length=P
 par:∀x∈P,sc.names.lookup x=some .local∨sc.names.lookup x=some .cell
 nofree:∀y∈sc.names,y.2≠.free
theorem yU{kindOf:Str->Option NameKind}{x:Str}:∀ {binds:FW}{m:X5},(∀v,(x,v)∉binds)->bindL kindOf binds m x=m x
 | [],_,_=>rfl
 | (n,v)::r,m,h=>by
  unfold bindL;rw[yU λw a=>h w (cR _ a)];split
  .have:x≠n:=by rintro rfl;exact h v eG
   simp[this]
  rfl
theorem yV{kindOf:Str->Option NameKind}{x:Str}:∀ {binds:FW}{m:X5},(∀v,(x,v)∉binds)->bindC kindOf binds m x=m x
 | [],_,_=>rfl
 | (n,v)::r,m,h=>by
  unfold bindC;rw[yV λw a=>h w (cR _ a)];split
  .rfl
  have:x≠n:=by rintro rfl;exact h v eG
  simp[this]
theorem yW{kindOf:Str->Option NameKind}{x:Str}{v:PP}:∀ {P:A2}{vs:C4}{i:Nat}{m:X5},P.Nodup->P[i]?=!x->vs[i]?=!v->kindOf x=some .local →
  bindL kindOf (P.zip vs) m x=!v
 | [],_,_,_,_,h,_,_=>by simp at h
 | _::_,[],_,_,_,_,h,_=>by simp at h
 | p::P,w::vs,0,m,nd,a,b,c=>by
  simp at a b;subst a;subst b;show bindL kindOf ((p,w)::P.zip vs) m p=_;unfold bindL;rw[yU λv d=>(nodup_cons.mp nd).1 (of_mem_zip d).1,LM c];simp
 | p::P,w::vs,i+1,m,nd,a,b,c=>by
  show bindL kindOf ((p,w)::P.zip vs) m x=_;unfold bindL;exact yW (i:=i) (nodup_cons.mp nd).2 (by simpa using a) (by simpa using b) c
theorem yX{kindOf:Str->Option NameKind}{x:Str}{v:PP}:∀ {P:A2}{vs:C4}{i:Nat}{m:X5},P.Nodup->P[i]?=!x->vs[i]?=!v->kindOf x≠some .local →
  bindC kindOf (P.zip vs) m x=!v
 | [],_,_,_,_,h,_,_=>by simp at h
 | _::_,[],_,_,_,_,h,_=>by simp at h
 | p::P,w::vs,0,m,nd,a,b,c=>by
  simp at a b;subst a;subst b;show bindC kindOf ((p,w)::P.zip vs) m p=_;unfold bindC;rw[yV λv d=>(nodup_cons.mp nd).1 (of_mem_zip d).1,LK c];simp
 | p::P,w::vs,i+1,m,nd,a,b,c=>by
  show bindC kindOf ((p,w)::P.zip vs) m x=_;unfold bindC;exact yX (i:=i) (nodup_cons.mp nd).2 (by simpa using a) (by simpa using b) c
def start(N:A2)(vs:A1):St:=vs.map some++List.replicate (N.length-vs.length) none
def pT(CX:Oz)(P:Program)(w:World)(K:W.Frag)(mg:X5)(base:Heap)(N:A2)(b:Str)(a:Scope)(f:TD)(c:PP)(A:Around)(outer:List Env)(s:NE)(H:Hp)(E:XK):Cx where
 prog:=P
 w:=w
 K:=K
 mg:=mg
 base:=base
 A:=A.deeper (!"^Fa@Uf")
 N:=N
 s₀:=s
 H₀:=H
 env:=envOfC b a s.heap.objs.size f c
 outer:=outer
 stack:=envOfC b a s.heap.objs.size f c::outer
 ex:=[]
 calm:=true
 fn:=λ_=>true
 pn:=[]
 xe:=λe g=>wpAny (model P w) (!"^Fa@Ufw") (!"^Fa@Uf~C{leaving2 ") (λ_ d=>CX outer H s E e d) (λh d=>CX outer H s E h d) g
def Cz{sc:Scope}{n:Nat}(h:sc.names.lookup x=some .cell):∃c,(cellsFrom n sc.names []).lookup x=!c:=by
 have q:=W.cellsFrom_some sc.names n []<|.inl h;exact Option.isSome_iff_exists.mp q
def Lc{K:W.Frag}{N ps:A2}{j:Scope}{t:PP}{s I:NE}{E:XK}{vs:A1}(S:aG N ps j)(hd:A.handled=none)(g:RF P w K mg base A D s H)(Q:vs.length=ps.length)(r:Vals vs us)(x:InCallC s s.heap.objs.size (bindL (!"|A~Da@|Bf").kindOf (ps.zip us) λ_=>none) (cellsFrom (s.heap.objs.size+1) j.names []) (bindC (!"|A~Da@|Bf").kindOf (ps.zip us) λ_=>none) I) :
  Inv (pT CX P w K mg base N o j f t A D s H E) [] (start N vs) H I:=by
 have R:ps.length<=N.length:=by have:=congrArg length S.pre;rw[mV]at this;omega
 refine JB x.done (JR λB tk=>JW λζ J=>?_);subst ζ;have F:∀b:TD,b∉(pT CX P w K mg base N o j f t A D s H E).ex:=λb z=>IZ (show b∈([]:BZ) from z) Zs
 exists #[g.mod,S.kind,rfl,rfl,bD _,λy z c B d=>?_,λy l=>?_,λy c _ h=>?_,λ_=>hd,Around.frames_deeper g.frames,.inr #[rfl,rfl],λb z=>IZ z<|F b,g.bs,g.bsz,λb _ _=>F b,λb z=>IZ z<|F b,g.funs,g.frf],
  rfl,g.bare,Un.kept J,#[_,x.toInCall.ns,λi y v B d T=>?_],λy c h=>#[_,x.cell y c h],g.hok.fresh<|bD _,λy c h=>?_,λp m=>IZ (show p∈([]:List (Addr × Obj)) from m) Zs,g.hok.kept J
 .exact name_of_addr x.apart (PySem.mem_of_lookup B)<|PySem.mem_of_lookup d
 .have l:j.names.lookup y=some .cell∨j.names.lookup y=some .free:=l;rcases l with l|l
  .exact Cz l
  exact IZ rfl<|S.nofree _<|PySem.mem_of_lookup l
 .exact le_of_lt<|x.above y c<|PySem.mem_of_lookup h
 .have C:i<vs.length:=by
   unfold start at d;by_cases C:i<vs.length
   .exact C
   rw[List.getElem?_append_right (by simpa using C)]at d;rw[List.getElem?_replicate]at d;split at d<;>cases d
  have M:vs[i]?=!v:=by
   unfold start at d;rw[List.getElem?_append_left (by simpa using C),eJ]at d
   cases e:vs[i]? with
   | none=>rw[e]at d;cases d
   | some a=>rw[e]at d;cases d;rfl
  obtain⟨u,L,O⟩:=r.get M;have m:ps[i]?=!y:=by
   rw[<- S.pre,List.getElem?_take_of_lt Zo];exact B
  have G:ps.Nodup:=by rw[<- S.pre];exact S.nd.sublist (List.take_sublist _ _)
  exists u,O;rcases S.par y (kI m) with k|k
  .exact .inl #[k,yW G m L k]
  obtain⟨c,e⟩:=Cz (n:=s.heap.objs.size+1) k;refine .inr #[.inl k,c,e,?_];have q:=x.cell y c e;rw[yX G m L (by show j.names.lookup y≠_;rw[k];decide)]at q;exact q
 .exact g.hok.fresh<|le_of_lt<|x.above y c<|PySem.mem_of_lookup h
 unfold start;show _=N.length;rw[mU,aV,List.length_replicate];omega
def v5{K:W.Frag}{k:Nat}{D kV B F d G U:PP}{I X:D6}{N ps:A2}(lk:K.lookup f=some #[U,X,.func<|W.fnOf name c z l a D kV B F I d G,R])(Y:W.codeIn K d c=true)(S:aG N ps a)(len:∀vs H Q E,sp vs H Q E->vs.length=ps.length)(Z:∀(A:Around)(g:List Env)(s:NE)(H:Hp)(vs:A1)(Q:VK)(E:XK),LO k (!"UFa@efw")->sp vs H Q E →
   ∃t,RI (pT CX P w K mg base N c a f d A g s H E) l t/\t {nx:=λ_ H'=>Q .non H',rt:=Q } (start N vs) H) :
  MY P w K mg base CX (k+1) f (W.fnOf name c z l a D kV B F I d G) ps sp:=by
 refine#[len,λA g s H args us vs Q E m i hb a0 L=>?_];have hl:=len _ _ _ _ L;have M:K.In s.heap:=i.mod.kin.keeps λb o e=>(i.bs b o e).1
 have T:s.heap.NoLimit:=i.mod.nolimit.keeps λb o e=>(i.bs b o e).1
 have QO:∀y∈ps.zip us,a.names.lookup y.1=some .local∨(a.names.lookup y.1=some .cell/\((cellsFrom (s.heap.objs.size+1) a.names []).lookup y.1).isSome=true):=λ#[n,v] hy=>by
  rcases S.par n (of_mem_zip hy).1 with q|q
  .exact .inl q
  exact .inr #[q,W.cellsFrom_some _ _ _<|.inl q]
 refine codeAny_call_function m.depth (M _ _ lk) rfl S.co S.gen rfl (W.codeRec_of M Y)<|hb _ _ _ _ ?_;refine wpAny_newFunctionEnv_cells S.kind QO λenv he O x=>?_;subst he;refine#[T.keeps x.toInCall.keep,codeAny_func ?_];obtain⟨t,ht,hq⟩:=Z A g s H vs Q E (m.deeper _) L;have a1:Inv (pT CX P w K mg base N c a f d A g s H E) [] (start N vs) H O:=Lc S m.hd i hl a0 x;refine wpAny_mono (ht [] O (start N vs) H _ a1 hq) (λfl p h=>?_) λe p h=>h;have C:∀ {j:St}{H':Hp}{v:V}{u:PP},Inv (pT CX P w K mg base N c a f d A g s H E) [] j H' p->RelV v u->Q v H'->CE g P w H s Q u p:=
  λ{j H' v u} J r q=>#[v,H',J.os,J.bare,J.base,J.hok,r,q]
 cases fl with
 | ret u=>
  revert h;refine LB λv j H'=>JE λJ r q=>?_;exact C J r q
 | next=>
  revert h;refine JR λj H'=>JW λJ q=>?_;exact C (v:=V.non) (u:=Value.none) J rfl q
 | brk=>
  revert h;refine JR λ_ _=>JW λ_ q=>?_;exact False.elim q
 | cont=>
  revert h;refine JR λ_ _=>JW λ_ q=>?_;exact False.elim q
section
variable {x:Str}{p:Pos}{e:Expr}{es:List Expr}{t:TA}{id T:String}{r:A1->Hp->VK->Prop}
def YF(r:A1->Hp->VK->Prop)(t:TA):TE:=λb H Q=>t b H λvs a=>r vs a Q
def Db(c:LQ X (.builtin id) r)(d:Gl X x)(f:X.mg x=none)(g:bootBuiltins x=!.builtin id)(i:PA X (e::es) t)(j:x≠"__name__":=by decide)(k:OV x:=by decide)(l:starEach (e::es) X.env=(false,eval e X.env)::starEach es X.env:=by rfl)(m:(backTo pos<|starEach es X.env).any (·.1)=false:=by rfl):PE X (.Call (.Name x p) (e::es) [] pos) (YF r t):=by
 intro a s b H Q I h;refine wpAny_Call_Name_kw<|vG I d f g ?_ j k;exact PyProof.Rows.callWith_builtin1 (bR (i pos a s b H _ I h) λn o #[vs,q,u,v,w]=>c a o b q vs n Q u v w) l m
def Ld(c:LQ X (.type T) r)(d:Gl X x)(f:X.mg x=none)(g:bootBuiltins x=!.type T)(i:PA X (e::es) t)(j:x≠"__name__":=by decide)(k:OV x:=by decide)(l:starEach (e::es) X.env=(false,eval e X.env)::starEach es X.env:=by rfl)(m:(backTo pos<|starEach es X.env).any (·.1)=false:=by rfl):PE X (.Call (.Name x p) (e::es) [] pos) (YF r t):=by
 intro a s b H Q I h;refine wpAny_Call_Name_kw<|vG I d f g ?_ j k;exact PyProof.Rows.callWith_type1 (bR (i pos a s b H _ I h) λn o #[vs,q,u,v,w]=>c a o b q vs n Q u v w) l m
end
end L2
variable {X:L2.Cx}{pins:ZB}{σ:L2.St}{H H':L2.Hp}{pos apos cpos:PySem.Pos}{w:PySem.World}{P:PySem.Program}{E:Y7}{A:PySem.Around}{te ta tb:L2.TE}
namespace HT
open PySem PyProof.Rows
section
variable {prog:Program}{s:NE}
def cat_tup{t b:TD}{vs a:C4}(o:IsTup s.heap t vs.toArray)(p:IsTup s.heap b a.toArray)(h:vs≠[])(q:a=[]->Q (.ref t) s)(r:a≠[]->Q (.ref s.heap.objs.size) {s with heap:=s.heap.push {cls:=.type "tuple",data:=.seq (vs++a).toArray } })(hsz:vs.length+a.length<=sizeLine):wpAny (model prog w) A (binaryOp .Add (.ref t)<|.ref b) Q E s:=by
 obtain⟨⟨cls,dd,data,sl⟩,c,i,n,hd⟩:=id o;obtain⟨⟨u,j,data2,k⟩,d,l,m,g⟩:=id p;simp only at i hd l g;subst i hd l g;have e:vs.toArray++a.toArray=(vs++a).toArray:=by simp
 by_cases f:a=[]
 .exact concat_meets #[_,c,rfl] #[_,d,rfl] noFill_tuple_add seq_tuple_add PySem.F.slot_tuple_add PySem.F.entry_tuple_add (PySem.F.args_tuple_add_2 _ _)
   (tuple_addW1 t b vs.toArray a.toArray n m dd j sl k (by simpa using h) (by simp[f])) #[c,d,q f]
 refine concat_meets #[_,c,rfl] #[_,d,rfl] noFill_tuple_add seq_tuple_add PySem.F.slot_tuple_add PySem.F.entry_tuple_add (PySem.F.args_tuple_add_2 _ _)
  (tuple_addW2 t b vs.toArray a.toArray n m dd j sl k (by simpa using h) (by simpa using f) (by rw[fK,fK];exact hsz)) #[c,d,?_]
 rw[e];exact r f
def sIx(n d:Nat):DJ->Nat
 | none=>d
 | some v=>if v<0 then (v+(n:Int)).toNat else min v.toNat n
def sIx_none(n d:Nat):sIx n d none=d:=rfl
def sIx_nat(n d k:Nat):sIx n d (!(k:Int))=min k n:=by
 show(if (k:Int)<0 then ((k:Int)+(n:Int)).toNat else min (k:Int).toNat n)=min k n;rw[LK Zo,Int.toNat_natCast]
def aBw(n d:Nat)(hd:d<=n)(o:DJ):sIx n d o<=n:=by
 cases o with
 | none=>exact hd
 | some v=>
  show(if v<0 then (v+(n:Int)).toNat else min v.toNat n)<=n;by_cases a:v<0
  .rw[LM a];omega
  rw[LK a];exact Nat.min_le_right _ _
def Ir(v:Int)(n d:Nat):(if v<0 then max (v+(n:Int)) 0 else min v (n:Int))=((sIx n d (!v):Nat):Int):=by
 show(if v<0 then max (v+(n:Int)) 0 else min v (n:Int))=(((if v<0 then (v+(n:Int)).toNat else min v.toNat n):Nat):Int);by_cases a:v<0
 .simp only [LM a];omega
 simp only [LK a];omega
def Fv(lo a:DJ)(n:Nat):Builtin.Slice.sliceAdjust lo a 1 (n:Int)=(((sIx n 0 lo:Nat):Int),((sIx n n a:Nat):Int)):=by
 have b:¬ ((1:Int)<0):=by omega
 unfold Builtin.Slice.sliceAdjust;simp only [b,if_false];refine Prod.ext ?_ ?_
 .cases lo with
  | none=>rfl
  | some v=>exact Ir v n 0
 cases a with
 | none=>rfl
 | some v=>exact Ir v n n
def Fw(i j:Nat):Builtin.Slice.slicePlaces (i:Int) (j:Int) 1=j-i:=by
 unfold Builtin.Slice.slicePlaces;have a:(1:Int)>0:=by omega
 simp only [a,if_true,Int.ediv_one];split<;>omega
def vJ{v:PP}(p:IsPart v o)(h:Q o s):wpAny (model prog w) A (Builtin.Slice.slicePartIndex v) Q E s:=by
 cases p with
 | none=>exact slicePart_none h
 | int i t=>exact slicePart_int h
def sliceApplied_gen{sl:TD}{lo a:DJ}{n:Nat}(hs:s.heap.IsSliceOf sl b c .none)(pl:IsPart b lo)(f:IsPart c a)(h:Q (((sIx n 0 lo:Nat):Int),1,sIx n n a-sIx n 0 lo) s):wpAny (model prog w) A (Builtin.Slice.sliceApplied (.ref sl)<|pure (n:Int)) Q E s:=by
 refine JB (id hs) (JU λos=>JE λd g e=>?_);unfold Builtin.Slice.sliceApplied Builtin.Slice.sliceFields;refine XV<|XV<|wpAny_field d e (x:=b) rfl<|XV<|wpAny_field d e (x:=c) rfl<|XV<|wpAny_field d e (x:=.none) rfl<|W1 ?_;refine XV<|slicePart_none ?_;show wpAny _ _ (if ((1:Int)==0)=true then _ else _) _ _ s;rw[LK Zd];refine XV<|vJ pl<|XV<|vJ f<|XV<|W1 ?_;show wpAny _ _ (match Builtin.Slice.sliceAdjust lo a 1 (n:Int) with|(lo,a)=>pure (lo,(1:Int),Builtin.Slice.slicePlaces lo a 1)) _ _ s;rw[Fv lo a n];show wpAny _ _ (pure (((sIx n 0 lo:Nat):Int),(1:Int),Builtin.Slice.slicePlaces ((sIx n 0 lo:Nat):Int) ((sIx n n a:Nat):Int) 1)) _ _ s;rw[Fw];exact W1 h
def Pb(xs:Array Value)(i k:Nat):((List.range k).filterMap λ(m:Nat)=>xs[((i:Int)+(m:Int)*1).toNat]?).toArray=((xs.toList.drop i).take k).toArray:=by
 have e:(λ(m:Nat)=>xs[((i:Int)+(m:Int)*1).toNat]?)=λm=>xs[i+m]?:=by
  funext m
  have:((i:Int)+(m:Int)*1).toNat=i+m:=by omega
  rw[this]
 rw[e];have:=pick_run xs i k;rw[filterMap_map]at this;have a:((λx=>xs[x]?)∘λx=>i+x)=λm=>xs[i+m]?:=rfl
 rw[a]at this;rw[this]
def getItem_tuple_cut{t sl:TD}{lo b:DJ}(c:IsTup s.heap t a)(hs:s.heap.IsSliceOf sl e f .none)(pl:IsPart e lo)(g:IsPart f b)(i:¬ (sIx a.size 0 lo=0/\sIx a.size a.size b=a.size))(h:Q (.ref s.heap.objs.size) {s with heap:=s.heap.push {cls:=.type "tuple",data:=.seq ((a.toList.drop<|sIx a.size 0 lo).take<|sIx a.size a.size b-sIx a.size 0 lo).toArray } })(hsz:a.size<=sizeLine):wpAny (model prog w) A (getItem (.ref t)<|.ref sl) Q E s:=by
 have d:sizeOk (.seq ((a.toList.drop<|sIx a.size 0 lo).take<|sIx a.size a.size b-sIx a.size 0 lo).toArray):=by
  show((a.toList.drop<|sIx a.size 0 lo).take<|sIx a.size a.size b-sIx a.size 0 lo).toArray.size<=sizeLine;rw[fK,mV,length_drop,Array.length_toList];omega
 have o:sIx a.size a.size b<=a.size:=aBw _ _ (bD _) b;obtain⟨os,j,k,p⟩:=id hs;have l:s.TypeIs (.ref sl) "slice":=#[os,j,k];unfold getItem;try with_reducible refine wpAny_holding ?_
 first|refine XV (W1 ?_)|skip
 refine XV<|wpAny_sequenceKey c.typeIs Zd ?_;refine XV (wpAny_callSpecial?_slot (name:=Str.ofString "__getitem__") c.typeIs PyProof.Rows.slot_tuple_getitem
  (wpAny_call_entry PyProof.Rows.slot_tuple_getitem c.typeIs entry_tuple_getitem ?_<|args_tuple_getitem _ _))
 show wpAny _ _ (Builtin.Tuple.tupleItemsOf (.ref t)>>=_) _ _ s;refine XV<|tupleItemsOf_ c ?_;refine XV<|wpAny_typeOf l ?_;rw[LM Zd];refine XV<|sliceApplied_gen hs pl g ?_;have n:¬ ((((sIx a.size 0 lo:Nat):Int)==0&&(1:Int)==1&&(sIx a.size a.size b-sIx a.size 0 lo)==a.size)=true):=by
  intro q;rw[Bool.and_eq_true,Bool.and_eq_true]at q;have r:((sIx a.size 0 lo:Nat):Int)=0:=eq_of_beq q.1.1;have u:sIx a.size a.size b-sIx a.size 0 lo=a.size:=eq_of_beq q.2;exact i #[Zo,Zo]
 show wpAny _ _ (if (((sIx a.size 0 lo:Nat):Int)==0&&(1:Int)==1&&(sIx a.size a.size b-sIx a.size 0 lo)==a.size)=true then _ else _) _ _ s;rw[LK n,Pb];first
  | exact XV (m:=Builtin.Tuple.tupleExact _) (wpAny_newObj_type (W1 #[_,rfl,W1 h]) d)
  | exact XV (m:=Builtin.Tuple.tupleExact _) (wpAny_newObj_type (XV<|W1<|W1 #[_,rfl,W1 h]) d)
  | exact XV (XV (m:=Builtin.Tuple.tupleExact _)<|wpAny_newObj_type (W1<|W1 #[_,rfl,W1 h]) d)
  | exact XV<|XV (m:=Builtin.Tuple.tupleExact _)<|wpAny_newObj_type (W1 #[_,rfl,W1 h]) d
end
end HT
namespace L2
open PySem PySem.Spec PyProof.Rows
abbrev TO:=St->Hp->(DJ->Hp->Prop)->Prop
def PO(X:Cx)(e:Option Expr)(t:TO):Prop:=
 ∀(b:ZB)(s:NE)(a:St)(H:Hp)(Q:DJ->Hp->Prop),Inv X b a H s->t a H Q →
  wpAny (model X.prog X.w) X.A (evalPart e X.env) (λu d=>∃o c,Inv X b a c d/\IsPart u o/\Q o c) X.xe s
def Iu:TO:=λ_ H Q=>Q none H
def Pc(t:TE):TO:=λb H Q=>t b H λx a=>∃i,x=.int i/\Q (!i) a
def vK:∀ {us:C4},Vals (a.map V.int) us->IntsAre us a:=by
 induction a with
 | nil=>intro us r;rw[map_nil]at r;cases r;exact .nil
 | cons n a b=>
  intro us r;rw[map_cons]at r;cases r with
  | cons c d=>
   obtain⟨t,e⟩:=c;subst e;exact .cons n t<|b d
section
variable {e:Expr}{lo hi:Option Expr}{tl th:TO}{p2:Pos}
def Wt:PO X none Iu:=by
 intro a s b H Q I h;rw[evalPart_none];exact W1 #[none,H,I,.none,h]
def Wu(h:PE X e te):PO X (!e) (Pc te):=by
 intro a s j H Q I b;rw[evalPart_some];refine bR (h a s j H _ I b) ?_;refine λu k=>JR λx c=>JE λd f g=>?_
 obtain⟨i,rfl,q⟩:=g;obtain⟨t,rfl⟩:=f;exact#[!i,c,d,.int i t,q]
def RZ(X:Cx)(r:V->DJ->DJ->Hp->VK->Prop):Prop:=
 ∀(a:ZB)(s:NE)(d:St)(H:Hp)(x:V)(v b c:PP)(lo hi:DJ)(sl:TD)(Q:VK),Inv X a d H s->RelV x v->s.heap.IsSliceOf sl b c .none->IsPart b lo->IsPart c hi->r x lo hi H Q →
  ∃T id,typeLookup (.type T) "__getitem__"=pure (!.builtin id)/\s.TypeIs v T/\wpAny (model X.prog X.w) X.A (getItem v<|.ref sl) (EP X a d Q) X.xe s
def wa(r:V->DJ->DJ->Hp->VK->Prop)(te:TE)(tl th:TO):TE:=λa H Q=>te a H λx b=>tl a b λl c=>th a c λu d=>r x l u d Q
def Pd(j:RZ X r)(k:PE X e te)(m:PO X lo tl)(n:PO X hi th):PE X (.Subscript e (.Slice lo hi none p2) pos) (wa r te tl th):=by
 intro c s d H Q I h;refine Subscript_<|bR (k c s d H _ I h) ?_;refine λv o=>JR λx p=>JE λt w y=>?_;refine wpAny_Slice<|bR (m c o d p _ t y) λf z #[l,A,B,C,D]=>bR (n c z d A _ B D) ?_;refine λg a=>JR λu i=>JE λE F G=>?_;rw[evalPart_none];refine W1 ?_;have J:Inv X c d i {a with heap:=a.heap.push {cls:=.type "slice",data:=.fields (toArray [f,g,.none]) } }:=E.kept (t':=a.toks) λb N q=>jM _ q
 refine JB (j c {a with heap:=a.heap.push {cls:=.type "slice",data:=.fields (toArray [f,g,.none]) } } d i x v f g l u a.heap.objs.size Q J w (Heap.IsSliceOf.new ..) C F G) (JR λT id=>JE λK L M=>?_);show wpAny (model X.prog X.w) X.A (subscriptTail e (.Slice lo hi none p2) v<|.ref a.heap.objs.size) (EP X c d Q) X.xe {a with heap:=a.heap.push {cls:=.type "slice",data:=.fields (toArray [f,g,.none]) } };exact tail_any (ops:=[.ref a.heap.objs.size,v]) L K M (by with_unfolding_all rfl)
def Le(xs:A1)(lo hi:DJ):A1:=(xs.drop<|HT.sIx xs.length 0 lo).take<|HT.sIx xs.length xs.length hi-HT.sIx xs.length 0 lo
def tV(xs:A1)(lo hi:DJ):(Le xs lo hi).length<=xs.length:=by
 unfold Le;rw[mV,length_drop];omega
def aEE(K:W.Frag):V->DJ->DJ->Hp->VK->Prop:=λx lo hi H Q=>∃a b,x=.ref a/\O7 K H a b ∧
 ¬ (HT.sIx b.length 0 lo=0/\HT.sIx b.length b.length hi=b.length)/\∀p,H p=none->Q (.ref p) (aH H p<|.tup<|Le b lo hi)
def aBx:RZ X (aEE X.K):=by
 intro t s z H x v u w lo hi sl Q I j k l m h;revert h;refine JR λa c=>KJ λζ n p q=>?_;subst ζ;cases j;refine JB (I.tuple n) (JU λi=>JE λr f g=>?_);have d:i.toArray.size=c.length:=by rw[fK];exact r.length.symm
 exists "tuple",_,PyProof.Rows.slot_tuple_getitem.lookup,f.typeIs;refine HT.getItem_tuple_cut f k l m (by rw[d];exact p) ?_ (by rw[d];exact g);rw[d];refine#[.ref s.heap.objs.size,_,I.laid (t':=s.toks) (o:=.tup (Le c lo hi)) (λb y q=>jM _ q) (bD _) ?_,rfl,q _<|I.hok.fresh<|bD _];exact#[gK (tV c lo hi) g,_,(r.drop<|HT.sIx c.length 0 lo).take<|HT.sIx c.length c.length hi-HT.sIx c.length 0 lo,IsTup.new _ _]
def aDh(K:W.Frag):R2:=λx y H Q=>∃a b d c,x=.ref a/\y=.ref b/\O7 K H a d/\O7 K H b c/\d≠[]/\d.length+c.length<=sizeLine ∧
 (c=[]->Q (.ref a) H)/\(c≠[]->∀p,H p=none->Q (.ref p) (aH H p<|.tup<|d++c))
def Vals.nil_iff(r:Vals xs us):us=[]↔xs=[]:=by
 cases r with
 | nil=>simp
 | cons _ _=>simp
def Wv:LZ X (binaryOp .Add) (aDh X.K):=by
 intro A s E H x y v u Q I g i h;revert h;refine NF λa b j k=>UR λζ η l m n f p r=>?_;subst ζ η;cases g;cases i;obtain⟨B,d,t,_⟩:=I.tuple l;obtain⟨C,c,p2,_⟩:=I.tuple m;refine HT.cat_tup t p2 (λz=>n<|d.nil_iff.mp z) (λz=>#[.ref a,H,I,rfl,p<|c.nil_iff.mp z]) (λz=>?_) (by rw[<- d.length,<- c.length];exact f);refine#[.ref s.heap.objs.size,_,I.laid (t':=s.toks) (o:=.tup (j++k)) (λb D q=>jM _ q) (bD _) ?_,rfl,r (λw=>z<|c.nil_iff.mpr w) _<|I.hok.fresh<|bD _];exact#[by rw[mU];exact f,_,d.append c,IsTup.new _ _]
end
def UG(n:Nat)(i:Int):Option Nat:=if 0<=i then (if i<n then some i.toNat else none) else if -(n:Int)<=i then some (i+n).toNat else none
def pI{a:Type}(xs:List a)(i:Int):Option a:=(UG xs.length i).bind λj=>xs[j]?
def Iv{n:Nat}{i:Int}{j:Nat}(h:UG n i=!j):seqIndex? i n=!j/\j<n/\-(n:Int)<=i/\i<n:=by
 unfold UG at h;by_cases b:0<=i
 .rw[LM b]at h;by_cases a:i<n
  .rw[LM a]at h;have e:i.toNat=j:=Option.some.inj h;exact#[by rw[seqIndex_of b a,e],Zo,Zo,a]
  rw[LK a]at h;cases h
 rw[LK b]at h;by_cases a:-(n:Int)<=i
 .rw[LM a]at h;have e:(i+n).toNat=j:=Option.some.inj h;exact#[by rw[seqIndex_neg Zo a,e],Zo,a,Zo]
 rw[LK a]at h;cases h
def Au{i:Int}{v:a}(h:pI xs i=!v):∃j,seqIndex? i xs.length=!j/\xs[j]?=!v/\j<xs.length/\-(xs.length:Int)<=i/\i<xs.length:=by
 unfold pI at h;cases e:UG xs.length i with
 | none=>rw[e]at h;cases h
 | some j=>
  rw[e]at h;refine JB (Iv e) (KJ λb c d f=>?_);exact#[j,b,h,c,d,f]
def eW{j:Nat}{v:a}(h:xs[j]?=!v):pI xs (j:Int)=!v:=by
 have b:j<xs.length:=(NJ.mp h).1;have e:UG xs.length (j:Int)=!j:=by
  unfold UG;rw[LM Zo,LM Zo];simp
 unfold pI;rw[e];exact h
def Av(b:Expr):Prop:=∀o i,subscripted b false o i=operate [o,i] (getItem o i)
def RM(X:Cx)(r:R2):Prop:=
 ∀(c slice:Expr)(a:ZB)(s:NE)(b:St)(H:Hp)(x y:V)(v u:PP)(Q:VK),Inv X a b H s->RelV x v->RelV y u->r x y H Q →
  subscripted slice false v u=operate [v,u] (getItem v u)->wpAny (model X.prog X.w) X.A (subscriptTail c slice v u) (EP X a b Q) X.xe s
def YG(X:Cx)(id:String)(r:V->A1->Hp->VK->Prop):Prop:=
 ∀(a:ZB)(s:NE)(d:St)(H:Hp)(x:V)(b:A1)(v:PP)(c:C4)(Q:VK),Inv X a d H s->RelV x v->Vals b c->r x b H Q →
  wpAny (model X.prog X.w) X.A (call (.builtin id) (v::c)) (EP X a d Q) X.xe s
section
variable {a b:Expr}
def aDi(d:RM X r)(e:PE X a ta)(f:PE X b tb)(hs:Av b):PE X (.Subscript a b pos) (yT r ta tb):=by
 intro c s m H Q I h;exact Subscript_<|nf e f I h λv u g x y i j k l q=>d a b c g m i x y v u Q j k l q<|hs _ _
def aEF(K:W.Frag):R2:=λx y H Q=>∃p c i v,x=.ref p/\y=.int i/\MO K H p c/\pI c i=!v/\Q v H
def aEG(K:W.Frag):R2:=λx y H Q=>∃p c i v,x=.ref p/\y=.int i/\O7 K H p c/\pI c i=!v/\Q v H
def aEH:R2:=λx y H Q=>∃z i c,x=.str z/\y=.int i/\z.length<=sizeLine/\pI z.cps.toList i=!c/\Q (.str #[(toArray [c])]) H
def Ww:RM X (aEF X.K):=by
 intro M slice f s n H x y v u Q I A B h k;revert h;refine NF λp N i z=>MJ λζ η C D q=>?_;subst ζ η;cases A;obtain⟨t,rfl⟩:=B;obtain⟨o,r,d,O⟩:=I.list C;refine JB (Au D) (JU λj=>MJ λc E P F G=>?_);obtain⟨w,l,J⟩:=r.get E;have K:=r.length;have R:=rQ;have g:EP X f n Q w s:=#[z,H,I,J,q];by_cases m:0<=i
 .have e:i.toNat=j:=by
   rw[seqIndex_of m G]at c;exact Option.some.inj c
  exact item_listR d.isList m Zo (by rw[e];simpa using l) g k
 have e:(i+(o.toArray.size:Int)).toNat=j:=by
  rw[seqIndex_neg Zo F]at c;rw[fK,<- K];exact Option.some.inj c
 exact subscriptTail_builtinR (x:=w) d.isList.typeIs slot_list_getitem.lookup
  (wpAny_getItem_list_neg (Q:=λr L=>r=w/\EP X f n Q r L) d.isList Zo (by rw[fK]<;>omega) Zo (by rw[e];simpa using l) #[rfl,g]) k
def aBy:RM X (aEG X.K):=by
 intro F slice c s e H x y v u Q I g k h l;revert h;refine NF λp J i z=>MJ λζ η m n q=>?_;subst ζ η;cases g;obtain⟨t,rfl⟩:=k;obtain⟨G,r,d,K⟩:=I.tuple m;refine JB (Au n) (JU λj=>MJ λo A L M N=>?_);obtain⟨w,B,C⟩:=r.get A;have D:=r.length;have O:=rQ;have f:EP X c e Q w s:=#[z,H,I,C,q];exact subscriptTail_builtinR (x:=w) d.typeIs slot_tuple_getitem.lookup
  (getItem_tuple (j:=j) (Q:=λr E=>r=w/\EP X c e Q r E) d Zo Zo (by rw[fK,<- D];exact o) (by simpa using B) #[rfl,f]) l
def aBz:RM X aEH:=by
 intro w slice A s F H x y v u Q I e f h g;revert h;refine LB λz i c=>MJ λζ η B k q=>?_;subst ζ η;obtain⟨t,rfl⟩:=e;obtain⟨C,rfl⟩:=f;refine JB (Au k) (JU λj=>MJ λd l D m n=>?_);have o:z.cps.toList.length=z.length:=by simp[Str.length]
 rw[o]at d m n;have E:=rQ;exact tail_any (typeIs_str s z t) slot_str_getitem.lookup (getItem_str (c:=c) (by
  have p:decide (i < -(2 ^ 63:Int))=false:=T0 Zo;have r:decide (i ≥ 2 ^ 63)=false:=T0 Zo;rw[p,r,Bool.or_false]) (by rw[d];simpa using l) #[.str #[(toArray [c])],H,I.tok _,#[_,rfl],q]) g
def Fx(its:C4)(n j:Nat)(u:PP):Obj.mapSeq (·.setIfInBounds j u) {cls:=.type "list",data:=.seq its.toArray n }={cls:=.type "list",data:=.seq (its.set j u).toArray n }:=by
 simp[Obj.mapSeq]
def Inv.lst{s:NE}(I:Inv X c d H s)(h:H p=!.lst xs) :
  ∃(its:C4)(n:Nat),Vals xs its/\s.heap.get? p=some {cls:=.type "list",data:=.seq its.toArray n }/\xs.length<=sizeLine:=by
 refine JB (I.hok p _ h) (JW λz=>JR λits n=>JW λr e=>?_);exact#[its,n,r,e,z]
def Inv.lstUpd{i:St}{s:NE}{its its':C4}{n c:Nat}(I:Inv X d i H s)(h:H p=!.lst xs)(j:s.heap.get? p=some {cls:=.type "list",data:=.seq its.toArray n })(g:f {cls:=.type "list",data:=.seq its.toArray n }={cls:=.type "list",data:=.seq its'.toArray c })(r:Vals ys its')(hz:ys.length<=sizeLine)(t:Nat) :
  Inv X d i (aH H p<|.lst ys) {s with heap:=s.heap.update p f,toks:=t }:=by
 have e:(s.heap.update p f).get? p=some {cls:=.type "list",data:=.seq its'.toArray c }:=by
  rw[Heap.get?_update_self f j (by rw[g]<;>rfl),g]
 refine I.write (x:=p) (e:=p) (by rw[h];trivial) (.inl rfl) (λb u k q=>(Heap.get?_update_other _ _<|Ne.symm k).trans q) #[_,e] ?_;exact#[hz,its',c,r,e]
def aAw:V->V->V->Hp->(Hp->Prop)->Prop:=λo i v H Q=>∃p c k j,o=.ref p/\i=.int k/\H p=!.lst c/\UG c.length k=!j/\Q (aH H p<|.lst<|c.set j v)
def Pe:We X aAw:=by
 intro z s G H o i v J K u Q I A B C h;revert h;refine NF λp D k j=>MJ λζ η l E q=>?_;subst ζ η;cases A;obtain⟨t,rfl⟩:=B;refine JB (I.lst l) (JR λg n=>JE λr d F=>?_);refine JB (Iv E) (KJ λc L m w=>?_);have e:=r.length;have M:=rQ;have x:Inv X z G (aH H p<|.lst<|D.set j v) {s with heap:=s.heap.update p (Obj.mapSeq (·.setIfInBounds j u)) }:=
  I.lstUpd l d (Fx g n j u) (r.set C j) (by rw[List.length_set];exact F) s.toks
 by_cases y:0<=k
 .have f:k.toNat=j:=by
   rw[seqIndex_of y w]at c;exact Option.some.inj c
  exact W.ki_setAt d y Zo (by rw[fK,<- e];exact w) (by rw[f];exact#[_,x,q])
 have f:(k+(g.toArray.size:Int)).toNat=j:=by
  rw[seqIndex_neg Zo m]at c;rw[fK,<- e];exact Option.some.inj c
 exact W.ki_setBack d Zo (by rw[fK,<- e];exact m) Zo (by rw[f];exact#[_,x,q])
def Aw(lo c:DJ)(n:Nat):(sliceBounds lo c none n).1=((HT.sIx n 0 lo:Nat):Int)/\(sliceBounds lo c none n).2.1=((HT.sIx n n c:Nat):Int)/\(sliceBounds lo c none n).2.2=1:=by
 refine#[?_,?_,rfl]
 .cases lo with
  | none=>simp[sliceBounds,HT.sIx]
  | some i=>
   simp only [sliceBounds,HT.sIx,Option.getD_none,show(1:Int)>0 by decide,if_true];by_cases h:i<0
   .simp only [h,if_true]<;>omega
   simp only [h,if_false]<;>omega
 cases c with
 | none=>simp[sliceBounds,HT.sIx]
 | some i=>
  simp only [sliceBounds,HT.sIx,Option.getD_none,show(1:Int)>0 by decide,if_true];by_cases h:i<0
  .simp only [h,if_true]<;>omega
  simp only [h,if_false]<;>omega
def yB(its:C4)(lo c:DJ):slicePick its.toArray lo c none=((its.drop<|HT.sIx its.length 0 lo).take<|HT.sIx its.length its.length c-HT.sIx its.length 0 lo).toArray:=by
 refine JB (Aw lo c its.toArray.size) (JE λd e f=>?_);unfold slicePick;rw[d,e,f];simp only [sliceRange_one,pick_run,fK]<;>rfl
def aEI(K:W.Frag):V->DJ->DJ->Hp->VK->Prop:=λx lo d H Q=>∃a c,x=.ref a/\MO K H a c/\∀p,H p=none->Q (.ref p) (aH H p<|.lst<|Le c lo d)
def Wx:RZ X (aEI X.K):=by
 intro n s y H x v t u lo d sl Q I g i j k h;revert h;refine JR λa c=>JE λζ l q=>?_;subst ζ;cases g;refine JB (I.list l) (JU λp=>JE λr e m=>?_);have f:=r.length;exists "list",_,slot_list_getitem.lookup,e.isList.typeIs;refine wpAny_getItem_list_slice e.isList i j k .none Zs ?_ (by rw[fK]<;>omega);rw[yB,<- f];refine#[.ref s.heap.objs.size,_,I.laid (t':=s.toks) (o:=.lst (Le c lo d)) (λb w q=>jM _ q) (bD _) ?_,rfl,q _<|I.hok.fresh<|bD _];exact#[gK (tV c lo d) m,_,0,(r.drop<|HT.sIx c.length 0 lo).take<|HT.sIx c.length c.length d-HT.sIx c.length 0 lo,TW _ rfl]
def eM:V->Bool
 | .non=>true
 | .bl _=>true
 | .int _=>true
 | .str _=>true
 | _=>false
def Dc:V->V->Bool
 | .non,.non=>true
 | .bl a,.bl b=>a==b
 | .bl a,.int b=>(if a then 1 else 0)==b
 | .int a,.bl b=>a==(if b then 1 else 0)
 | .int a,.int b=>a==b
 | .str a,.str b=>a==b
 | _,_=>false
def Fy{s:NE}{u v:PP}(e:RelV y u)(c:RelV x v)(g:eM y=true)(f:eM x=true):SeqAt.EqAt A s u v (Dc y x):=by
 cases y with
 | non=>
  cases e
  cases x with
  | non=>cases c;exact SeqAt.EqAt.same _
  | bl b=>cases c;exact SeqAt.EqAt.none_bool b
  | int b=>obtain⟨t,rfl⟩:=c;exact SeqAt.EqAt.none_int b t
  | str b=>obtain⟨t,rfl⟩:=c;exact SeqAt.EqAt.none_str b t
  | _=>exact IZ (show false=true from f) WP
 | bl a=>
  cases e
  cases x with
  | non=>cases c;exact SeqAt.EqAt.bool_none a
  | bl b=>cases c;exact SeqAt.EqAt.bool_bool a b
  | int b=>obtain⟨t,rfl⟩:=c;exact SeqAt.EqAt.bool_int a b t
  | str b=>obtain⟨t,rfl⟩:=c;exact SeqAt.EqAt.bool_str a b t
  | _=>exact IZ (show false=true from f) WP
 | int a=>
  obtain⟨d,rfl⟩:=e
  cases x with
  | non=>cases c;exact SeqAt.EqAt.int_none a d
  | bl b=>cases c;exact SeqAt.EqAt.int_bool a d b
  | int b=>obtain⟨t,rfl⟩:=c;exact SeqAt.EqAt.int_int a d b t
  | str b=>obtain⟨t,rfl⟩:=c;exact SeqAt.EqAt.int_str a d b t
  | _=>exact IZ (show false=true from f) WP
 | str a=>
  obtain⟨d,rfl⟩:=e
  cases x with
  | non=>cases c;exact SeqAt.EqAt.str_none a d
  | bl b=>cases c;exact SeqAt.EqAt.str_bool a d b
  | int b=>obtain⟨t,rfl⟩:=c;exact SeqAt.EqAt.str_int a d b t
  | str b=>obtain⟨t,rfl⟩:=c;exact SeqAt.EqAt.str_str a d b t
  | _=>exact IZ (show false=true from f) WP
 | _=>exact IZ (show false=true from g) WP
def Fz(x:V)(u:PP):Bool:=match u with
 | .none=>Dc .non x
 | .bool b=>Dc (.bl b) x
 | .int i _=>Dc (.int i) x
 | .str z _=>Dc (.str z) x
 | _=>false
def Pf(r:RelV y u)(f:eM y=true):Fz x u=Dc y x:=by
 cases y with
 | non=>cases r;rfl
 | bl b=>cases r;rfl
 | int i=>obtain⟨t,rfl⟩:=r;rfl
 | str z=>obtain⟨t,rfl⟩:=r;rfl
 | _=>exact IZ (show false=true from f) WP
theorem qH{x:V}:∀ {xs:A1}{us:C4},Vals xs us->xs.all eM=true->us.any (Fz x)=xs.any λy=>Dc y x
 | _,_,.nil,_=>rfl
 | y::xs,u::us,.cons r t,f=>by
  rw[all_cons,Bool.and_eq_true]at f;rw[any_cons,any_cons,Pf r f.1,qH t f.2]
theorem mZ{A:Around}{s:NE}{x:V}{v:PP}(d:RelV x v)(e:eM x=true):∀ {xs:A1}{us:C4},Vals xs us->xs.all eM=true->∀u∈us,SeqAt.EqAt A s u v (Fz x u)
 | _,_,.nil,_=>λu c=>by cases c
 | y::xs,u::us,.cons r t,f=>λg c=>by
  rw[all_cons,Bool.and_eq_true]at f;rcases mem_cons.mp c with rfl|c
  .rw[Pf r f.1];exact Fy r d f.1 e
  exact mZ d e t f.2 g c
def vL(x:V)(xs:A1):Bool:=xs.any λy=>Dc y x
def YI(K:W.Frag)(d:Bool):R2:=λx y H Q=>∃p c,y=.ref p/\(MO K H p c∨O7 K H p c)/\eM x=true/\c.all eM=true/\Q (.bl (if d then (not (vL x c)) else vL x c)) H
def Lf:LZ X (compareOp .In) (YI X.K false):=by
 intro l s n H x y v u Q I g j h;revert h;refine JR λp m=>MJ λζ d i fs q=>?_;subst ζ;cases j;rcases d with d|d
 .obtain⟨c,r,e,k⟩:=I.list d;refine SeqAt.in_listAt (Fz x) e.isList (λw f=>mZ g i r fs w (by simpa using f)) #[.bl _,H,I,rfl,?_];rw[show c.toArray.any (Fz x)=c.any (Fz x) by simp,qH r fs];exact q
 obtain⟨c,r,e,k⟩:=I.tuple d;refine SeqAt.in_tupleAt (Fz x) e (λw f=>mZ g i r fs w (by simpa using f)) #[.bl _,H,I,rfl,?_];rw[show c.toArray.any (Fz x)=c.any (Fz x) by simp,qH r fs];exact q
def Ax:LZ X (compareOp .NotIn) (YI X.K true):=by
 intro l s n H x y v u Q I g j h;revert h;refine JR λp m=>MJ λζ d i fs q=>?_;subst ζ;cases j;rcases d with d|d
 .obtain⟨c,r,e,k⟩:=I.list d;refine SeqAt.notIn_listAt (Fz x) e.isList (λw f=>mZ g i r fs w (by simpa using f)) #[.bl _,H,I,rfl,?_];rw[show c.toArray.any (Fz x)=c.any (Fz x) by simp,qH r fs];exact q
 obtain⟨c,r,e,k⟩:=I.tuple d;refine SeqAt.notIn_tupleAt (Fz x) e (λw f=>mZ g i r fs w (by simpa using f)) #[.bl _,H,I,rfl,?_];rw[show c.toArray.any (Fz x)=c.any (Fz x) by simp,qH r fs];exact q
def Ay:LQ X (.builtin "len") (λxs H Q=>∃p ys,xs=[.ref p]/\(MO X.K H p ys∨O7 X.K H p ys)/\Q (.int ys.length) H):=by
 intro k s n H xs l Q I r h;revert h;refine JR λp ys=>JE λζ c q=>?_;subst ζ;obtain⟨u,rfl,i⟩:=gX r;cases i;have m:=rQ;rcases c with c|c
 .obtain⟨g,e,f,j⟩:=I.list c;have d:=e.length;exact Calls.call_len_list f.isList (by simp only [fK]<;>omega) #[.int ys.length,H,I.tok _,#[s.toks+1,by rw[fK,d]],q]
 obtain⟨g,e,f,j⟩:=I.tuple c;have d:=e.length;exact len_tuple f (by simp only [fK]<;>omega) #[.int ys.length,H,I.tok _,#[s.toks+1,by rw[fK,d]],q]
def Az:LQ X (.builtin "len") (λxs H Q=>∃z,xs=[.str z]/\z.length<=sizeLine/\Q (.int z.length) H):=by
 intro c s g H xs d Q I r h;obtain⟨z,rfl,e,q⟩:=h;obtain⟨u,rfl,t,rfl⟩:=gX r;have f:=rQ;exact len_str Zo #[.int z.length,H,I.tok _,#[_,rfl],q]
def Ba:LQ X (.type "list") (λxs H Q=>∃p ys,xs=[.ref p]/\(MO X.K H p ys∨O7 X.K H p ys)/\∀l,H l=none->Q (.ref l) (aH H l<|.lst ys)):=by
 intro y s B H xs C Q I r h;revert h;refine JR λp ys=>JE λζ i q=>?_;subst ζ;obtain⟨u,rfl,A⟩:=gX r;cases A;have w:∀(d:C4),Vals ys d->ys.length<=sizeLine->∀(c:Heap)(f:Nat),(∀b x,s.heap.get? b=!x->c.get? b=!x) →
   c.get? s.heap.objs.size=some {cls:=.type "list",dict:=none,data:=.seq d.toArray f,slots:=(toArray []) }->EP X y B Q (.ref s.heap.objs.size) {s with heap:=c }:=λd g j c f k e=>
  #[.ref s.heap.objs.size,_,I.laid (t':=s.toks) k (bD _) (show KU X.prog X.w _ c _ (.lst ys) from#[j,d,f,g,e]),rfl,q _<|I.hok.fresh<|bD _]
 rcases i with i|i
 .obtain⟨d,g,m,j⟩:=I.list i;have z:=g.length;obtain⟨o,t,v,n,hd⟩:=m.isList;exact call_list_seq p (.inl rfl) t v hd (λc f k e=>w d g j c f k e) (by simp only [fK]<;>omega)
 obtain⟨d,g,m,j⟩:=I.tuple i;have z:=g.length;obtain⟨o,t,v,n,hd⟩:=m;exact call_list_seq p (.inr rfl) t v hd (λc f k e=>w d g j c f k e) (by simp only [fK]<;>omega)
def yC:LQ X (.type "tuple") (λxs H Q=>∃p ys,xs=[.ref p]/\((MO X.K H p ys/\∀l,H l=none->Q (.ref l) (aH H l<|.tup ys))∨(O7 X.K H p ys/\Q (.ref p) H))):=by
 intro j s n H xs y Q I r h;revert h;refine JR λp ys=>JW λζ h=>?_;subst ζ;obtain⟨u,rfl,t⟩:=gX r;cases t;rcases h with⟨f,q⟩|⟨f,q⟩
 .obtain⟨d,g,i,k⟩:=I.list f;have x:=g.length;refine call_tuple_list i.isList (λc v=>?_) (by simp only [fK]<;>omega);have m:Inv X j n H {s with heap:=c }:=I.kept (t':=s.toks) v;have w:Inv X j n (aH H c.objs.size<|.tup ys) {s with heap:=c.push {cls:=.type "tuple",data:=.seq d.toArray } }:=
   m.laid (t':=s.toks) (λb o e=>jM _ e) (bD _) (show KU X.prog X.w _ _ _ (.tup ys) from#[k,d,g,IsTup.new _ _])
  exact#[.ref c.objs.size,_,w,rfl,q _<|m.hok.fresh<|bD _]
 obtain⟨d,g,i,k⟩:=I.tuple f;exact call_tuple_same i #[.ref p,H,I,rfl,q]
def wb(K:W.Frag)(T:String)(x:V)(H:Hp):Prop:=match x with
 | .str _=>T="str"
 | .int _=>T="int"
 | .ref p=>(T="list"/\∃d,MO K H p d)∨(T="tuple"/\∃o,K.lookup p=!o/\o.cls=.type "tuple"/\o.dict=none)∨
   (T="dict"/\((∃c,H p=!.dK c)∨∃c,H p=!.dT c))∨(T="set"/\∃S n,H p=!.set S n)
 | _=>False
def aBB{k:ZB}{s:NE}{v:PP}(I:Inv X k u H s)(r:RelV x v)(ty:wb X.K T x H) :
  s.TypeIs v T/\∀a,v=.ref a->∃h,s.heap.get? a=!h/\h.dict=none:=by
 cases x with
 | str z=>
  obtain⟨t,rfl⟩:=r;cases(show T="str" from ty);exact#[typeIs_str s z t,λ_ e=>nomatch e]
 | int i=>
  obtain⟨t,rfl⟩:=r;cases(show T="int" from ty);exact#[typeIs_int s i t,λ_ e=>nomatch e]
 | ref p=>
  cases r;rcases ty with⟨rfl,y,m⟩|⟨rfl,o,d,q,hd⟩|⟨rfl,d⟩|⟨rfl,S,n,d⟩
  .obtain⟨w,_,j,_⟩:=I.list m;refine#[j.isList.typeIs,λa e=>?_];cases e;revert j;refine JR λo n=>KJ λe c hd _=>?_;exact#[o,e,hd]
  .refine#[#[o,I.kIn p o d,q],λa e=>?_];cases e;exact#[o,I.kIn _ o d,hd]
  .have z:∃o,s.heap.get? p=!o/\o.ExactDict:=by
    rcases d with⟨l,d⟩|⟨l,d⟩
    .refine JB (I.hok p _ d) (JE λ_ _=>JU λ_=>JW λ_=>LB λo _ _=>JE λe f _=>?_);exact#[o,e,f]
    refine JB (I.hok p _ d) (JE λ_ _=>JU λ_=>JW λ_=>LB λo _ _=>JE λe f _=>?_);exact#[o,e,f]
   obtain⟨o,e,f⟩:=z;refine#[#[o,e,f.1],λa g=>?_];cases g;exact#[o,e,f.2.1]
  refine JB (I.hok p _ d) (NF λo _ _ _=>JE λe f _=>?_);refine#[#[o,e,f.1],λa g=>?_];cases g;exact#[o,e,f.2.1]
 | _=>exact False.elim ty
def hP(K:W.Frag)(T:String)(r:V->A1->Hp->VK->Prop)(e:TE)(t:TA):TE:=λd H Q=>e d H λx c=>wb K T x c/\t d c λf g=>r x f g Q
variable {o e:Expr}{es:List Expr}{to:TE}{t:TA}{name:Str}{T id:String}{r:V->A1->Hp->VK->Prop}
def aDj(j:PlainAttrs T)(slot:Slot T name id)(k:typeOf (.builtin id)=pure (.type "method_descriptor"))(l:YG X id r)(m:PE X o to)(n:PA X (e::es) t)(p:attributeBase o name X.env (eval o X.env)=eval o X.env:=by rfl)(q:((!"~R?Yno" (e::es)).all (λx=>(not (x.1)))&&(backToKw cpos<|keywordEach [] X.env).all (λx=>x.1.isSome)
   && decide ((e::es).length+([]:List Keyword).length+(if ([]:List Keyword).isEmpty then 0 else 1)<30))=true:=by rfl)(u:(apos.endLine == cpos.line)=true:=by rfl)(hs:starEach (e::es) X.env=(false,eval e X.env)::starEach es X.env:=by rfl)(w:(backTo cpos<|starEach es X.env).any (·.1)=false:=by rfl) :
  PE X (.Call (.Attribute o name apos) (e::es) [] cpos) (hP X.K T r to t):=by
 intro c s d H Q I h;refine wpAny_Call_method_late p q u rfl<|bR (m c s d H _ I h) ?_;refine λv y=>JR λx z=>KJ λf g ty A=>?_;obtain⟨B,C⟩:=aBB f g ty;exists T,id,j,slot,k,B,C;have i:=n cpos c y d z _ f A;rw[hs]at i ⊢;refine Calls.callWith_builtin (by show(false||(backTo cpos<|starEach es X.env).any (·.1))=false;rw[w]<;>rfl)<|Calls.evalArgs_plain ?_;exact bR i λD E #[vs,F,G,J,K]=>l c E d F x vs v D Q G g J K
/- N.append(e),list.index O a P tuple .. M YG L of 06m -/
end
def hQ(X:Cx)(id:String)(r:V->A1->Hp->VK->Prop):Prop:=
 ∀(a:ZB)(s:NE)(d:St)(H:Hp)(x:V)(b:A1)(v:PP)(c:C4)(Q:VK),Inv X a d H s->RelV x v->Vals b c->r x b H Q →
  wpAny (model X.prog X.w) X.A (call (.builtin id) (v::c)) (EP X a d Q) X.xe s
def Vals.one:∀ {x:V}{us:C4},Vals [x] us->∃u,us=[u]/\RelV x u
 | _,_,.cons r .nil=>#[_,rfl,r]
def Vals.two(h:Vals [x,y] us):∃u v,us=[u,v] ∧ RelV x u ∧ RelV y v:=by
 cases h with|cons r t=>cases t with|cons q t=>cases t;exact#[_,_,rfl,r,q]
def Vals.eraseIdx:∀ {xs:A1}{us:C4} (i:Nat),Vals xs us->Vals (xs.eraseIdx i) (us.eraseIdx i)
 | _,_,_,.nil=>.nil
 | _,_,0,.cons _ t=>t
 | _,_,i+1,.cons r t=>.cons r<|Vals.eraseIdx i t
theorem yY{a:Type}:∀(l:List a)(i:Nat),(l.eraseIdx i).length<=l.length
 | [],_=>bD _
 | _::_,0=>le_succ _
 | _::r,i+1=>Nat.succ_le_succ<|yY r i
section
variable {s:NE}{l b:TD}{xs ys zs:A1}
def Inv.lset{its its':C4}{n:Nat}(I:Inv X pins σ H s)(a:H l=!.lst xs)(e:s.heap.get? l=some {cls:=.type "list",data:=.seq its.toArray n })(c:f its.toArray=its'.toArray)(d:Vals ys its')(hz:ys.length<=sizeLine) :
  Inv X pins σ (aH H l<|.lst ys) {s with heap:=s.heap.update l<|Obj.mapSeq f,toks:=t' }:=by
 have q:=PySem.IsL.update e f;rw[c]at q;refine I.write (x:=l) (e:=l) (by rw[a];exact trivial) (.inl rfl) (λi u g h=>(Heap.get?_update_other s.heap (Obj.mapSeq f)<|Ne.symm g).trans h) #[_,q] ?_;exact#[hz,its',_,d,q]
def Inv.lnew(I:Inv X pins σ H s)(a:Vals ys its)(hz:ys.length<=sizeLine) :
  Inv X pins σ (aH H s.heap.objs.size<|.lst ys) {s with heap:=s.heap.push {cls:=.type "list",data:=.seq its.toArray },toks:=t' }:=
 I.laid (λ_ _ q=>jM _ q) (bD _) #[hz,its,0,a,TW _ rfl]
def Inv.fresh(I:Inv X pins σ H s):H s.heap.objs.size=none:=I.hok.fresh<|bD _
def Inv.lstM(I:Inv X pins σ H s)(a:H l=!.lst xs):xs.length<=sizeLine/\∃(its:C4)(n:Nat),Vals xs its/\xs.length=its.length/\s.heap.get? l=some {cls:=.type "list",data:=.seq its.toArray n }:=by
 refine JB (I.hok l _ a) (JW λz=>JR λits n=>JW λr e=>?_);exact#[z,its,n,r,r.length,e]
def Pg{n:Nat}(h:n<=sizeLine):Builtin.List.listTooLong n=false:=by
 unfold Builtin.List.listTooLong;exact T0 Zo
end
def Iw:V->A1->Hp->VK->Prop:=λx vs H Q=>∃l a y,x=.ref l/\vs=[y]/\H l=!.lst a/\a.length<sizeLine/\Q .non (aH H l<|.lst<|a++[y])
def Lg:hQ X "list.append" Iw:=by
 intro g s o H x vs v i Q I c d h;revert h;refine LB λl j y=>MJ λζ η b k q=>?_;subst ζ η;cases c;obtain⟨u,rfl,f⟩:=d.one;refine JB (I.lstM b) (JW λz=>JR λa n=>JE λr m e=>?_);refine call_meets F.slot_list_append #[_,e,rfl] F.entry_list_append (F.args_list_append_2 _ _) (PySem.list_append l a.toArray n u (by rw[fK];omega)) #[e,?_];refine#[.non,_,I.lset (its':=a++[u]) b e Zs (r.append<|.cons f .nil) ?_,rfl,q];rw[mU,length_singleton];omega
def Wy:V->A1->Hp->VK->Prop:=λx vs H Q=>∃l b a c,x=.ref l/\vs=[.ref b]/\H l=!.lst a/\H b=!.lst c/\a.length+c.length<=sizeLine/\Q .non (aH H l<|.lst<|a++c)
def aCP:hQ X "list.extend" Wy:=by
 intro w s J H x vs v y Q I g i h;revert h;refine NF λl b A B=>MI λζ η d j C q=>?_;subst ζ η;cases g;obtain⟨u,rfl,k⟩:=i.one;cases k;refine JB (I.lstM d) (JW λz=>JR λa n=>JE λr D e=>?_);refine JB (I.lstM j) (JW λE=>JR λc m=>JE λo G p=>?_);have f:a.toArray.size+c.toArray.size<=sizeLine:=by rw[fK,fK];omega
 have t:¬ ((not a.toArray.isEmpty)&&Builtin.List.listTooLong (a.toArray.size+c.toArray.size))=true:=by
  rw[Pg f,Bool.and_false];exact WP
 refine call_meets F.slot_list_extend #[_,e,rfl] F.entry_list_extend (F.args_list_extend_2 _ _)
  (AutoSeq1.list_extend_list_list_0 l a.toArray n b c.toArray m t (by rw[fK];omega) Zo) #[e,p,?_]
 refine#[.non,_,I.lset (its':=a++c) d e Zs (r.append o) ?_,rfl,q];rw[mU];omega
def Ph:V->A1->Hp->VK->Prop:=λx vs H Q=>∃l a i k y,x=.ref l/\vs=[.int i]/\H l=!.lst a/\-(2^63)<=i/\i<2^63/\seqIndex? i a.length=!k/\a[k]?=!y/\Q y (aH H l<|.lst<|a.eraseIdx k)
def Pi:hQ X "list.pop" Ph:=by
 intro D s G H x vs v E Q I c d h;revert h;refine QL λl f i k y=>UR λζ η b g j m o q=>?_;subst ζ η;cases c;obtain⟨u,rfl,p⟩:=d.one;obtain⟨t,rfl⟩:=p;refine JB (I.lstM b) (JW λz=>JR λa n=>JE λr A e=>?_);obtain⟨w,B,C⟩:=r.get o;refine call_meets F.slot_list_pop #[_,e,rfl] F.entry_list_pop (F.args_list_pop_2 _ _)
  (MeetsSeq.list_pop_at l a.toArray n i t k w (fitsIndex_both g j) (by rw[fK,<- A];exact m) (by rw[<- Array.getElem?_toList];exact B) (by rw[fK];omega)) #[e,?_]
 refine#[y,_,I.lset (its':=a.eraseIdx k) b e ?_ (r.eraseIdx k) ?_,C,q]
 .show a.toArray.eraseIdxIfInBounds k=(a.eraseIdx k).toArray;rw[List.eraseIdxIfInBounds_toArray]
 have:=yY f k;omega
def aEJ:R2:=λx y H Q=>∃l b a c,x=.ref l/\y=.ref b/\H l=!.lst a/\H b=!.lst c/\a.length+c.length<=sizeLine/\∀p,H p=none->Q (.ref p) (aH H p<|.lst<|a++c)
def aBC:LZ X (binaryOp .Add) aEJ:=by
 intro o s E H x y v u Q I d f h;revert h;refine NF λl b p t=>MI λζ η g i w q=>?_;subst ζ η;cases d;cases f;refine JB (I.lstM g) (JW λz=>JR λa n=>JE λr A e=>?_);refine JB (I.lstM i) (JW λB=>JR λc C=>JE λj D k=>?_);refine PySem.P.add_list e k ?_ (by rw[fK,fK];omega);have m:a.toArray++c.toArray=(a++c).toArray:=by simp
 rw[m];exact#[.ref _,_,I.lnew (t':=s.toks) (r.append j) (by rw[mU];omega),rfl,q _ I.fresh]
section
variable {κ:Type} [DecidableEq κ]
def bA(kvs:List (κ×V))(k:κ):EY:=(kvs.find? λa=>decide (a.1=k)).map (·.2)
def cB(kvs:List (κ×V))(k:κ)(v:V):List (κ×V):=
 if (kvs.any λa=>decide (a.1=k))=true then kvs.map (λa=>if a.1=k then (a.1,v) else a) else kvs++[(k,v)]
def cM(kvs:List (κ×V))(k:κ):List (κ×V):=kvs.filter λa=>decide (a.1≠k)
def cH{k:κ}(e:p.1=k):bA (p::r) k=some p.2:=by simp[bA,find?_cons,e]
def cI{k:κ}(e:¬ p.1=k):bA (p::r) k=bA r k:=by simp[bA,find?_cons,e]
theorem dM(k:κ):∀kvs:List (κ×V),(kvs.any λa=>decide (a.1=k))=(bA kvs k).isSome
 | []=>rfl
 | p::r=>by
  rw[any_cons];by_cases e:p.1=k
  .simp only [cH e,UF e,Bool.true_or,Option.isSome_some]
  rw[cI e,T0 e,Bool.false_or];exact dM k r
theorem De(k j:κ)(y:V):∀kvs:List (κ×V),bA (kvs.map λa=>if a.1=k then (a.1,y) else a) j=(bA kvs j).map λx=>if j=k then y else x
 | []=>rfl
 | p::r=>by
  have b:=De k j y r;rw[map_cons];by_cases h:p.1=k
  .rw[LM h];by_cases e:p.1=j
   .rw[cH (p:=(p.1,y)) e,cH e,Option.map_some,LM (e.symm.trans h)]
   rw[cI (p:=(p.1,y)) e,cI e,b]
  rw[LK h];by_cases e:p.1=j
  .rw[cH (p:=p) e,cH e,Option.map_some,LK (λz=>h<|e.trans z)]
  rw[cI (p:=p) e,cI e,b]
theorem yZ(k j:κ)(y:V):∀kvs:List (κ×V),bA kvs k=none->bA (kvs++[(k,y)]) j=if j=k then some y else bA kvs j
 | [],_=>by
  by_cases e:k=j
  .rw[LM e.symm];exact cH (p:=(k,y)) e
  rw[LK (λz=>e z.symm)];exact cI (p:=(k,y)) e
 | p::r,a=>by
  rw[cons_append];have b:¬ p.1=k:=λz=>by rw[cH z]at a;cases a
  rw[cI b]at a;have c:=yZ k j y r a;by_cases e:p.1=j
  .rw[cH e,cH e,LK (λz=>b<|e.trans z)]
  rw[cI e,cI e,c]
def kK(kvs:List (κ×V))(k j:κ)(y:V):bA (cB kvs k y) j=if j=k then some y else bA kvs j:=by
 unfold cB;by_cases a:(kvs.any λb=>decide (b.1=k))=true
 .rw[LM a,De];rw[dM]at a;by_cases e:j=k
  .obtain⟨x,c⟩:=Option.isSome_iff_exists.mp a;rw[LM e,e,c,Option.map_some,LM rfl]
  rw[LK e];cases bA kvs j with
  | none=>rfl
  | some x=>rw[Option.map_some,LK e]
 rw[LK a];refine yZ k j y kvs ?_;rw[dM]at a;cases q:bA kvs k with
 | none=>rfl
 | some x=>rw[q]at a;exact(a rfl).elim
def fL(kvs:List (κ×V))(k:κ)(v:V):(cB kvs k v).length<=kvs.length+1:=by
 unfold cB;split
 .rw[aV];omega
 rw[mU,mY,length_nil];omega
def kL{k:κ}(v:V)(h:bA kvs k=none):cB kvs k v=kvs++[(k,v)]:=by
 unfold cB;rw[dM,h];exact LK Zd
def ND.isSome_eq(r:ND o u):o.isSome=u.isSome:=by
 cases o with
 | none=>cases u with
  | none=>rfl
  | some _=>exact(show False from r).elim
 | some _=>cases u with
  | none=>exact(show False from r).elim
  | some _=>rfl
def ND.getD(r:ND o u)(rd:RelV d d'):RelV (o.getD d) (u.getD d'):=by
 cases o with
 | none=>cases u with
  | none=>exact rd
  | some _=>exact(show False from r).elim
 | some _=>cases u with
  | none=>exact(show False from r).elim
  | some _=>exact r
def KV.val{vs:List (κ×PP)}(r:KV kvs vs)(k:κ):ND (bA kvs k) (valueAt vs k):=by
 unfold KV at r;induction r with
 | nil=>exact True.intro
 | @cons p q ps a h t f=>
  obtain⟨d,g⟩:=h;by_cases e:p.1=k
  .have c:q.1=k:=d.symm.trans e;have b:valueAt (q::a) k=some q.2:=by simp[valueAt,find?_cons,c]
   rw[cH e,b];exact g
  have c:¬ q.1=k:=λz=>e (d.trans z)
  have b:valueAt (q::a) k=valueAt a k:=by simp[valueAt,find?_cons,c]
  rw[cI e,b];exact f
def KV.any{vs:List (κ×PP)}(r:KV kvs vs)(k:κ):(kvs.any λa=>decide (a.1=k))=vs.any λa=>decide (a.1=k):=by
 unfold KV at r;induction r with
 | nil=>rfl
 | cons h t b=>rw[any_cons,any_cons,b,h.1]
def KV.repl{vs:List (κ×PP)}(r:KV kvs vs)(k:κ)(c:RelV y u) :
  KV (kvs.map λa=>if a.1=k then (a.1,y) else a) (vs.map λa=>if a.1=k then (a.1,u) else a):=by
 unfold KV at r ⊢
 induction r with
 | nil=>exact .nil
 | @cons p q ps g h t d=>
  rw[map_cons,map_cons];refine .cons ?_ d;obtain⟨b,f⟩:=h;by_cases e:p.1=k
  .rw[LM e,LM (b.symm.trans e)];exact#[b,c]
  rw[LK e,LK (λz=>e<|b.trans z)];exact#[b,f]
def KV.put{vs:List (κ×PP)}(r:KV kvs vs)(k:κ)(a:RelV y u):KV (cB kvs k y) (stored vs k u):=by
 unfold cB stored;rw[r.any k];by_cases e:(vs.any λb=>decide (b.1=k))=true
 .rw[LM e,LM e];exact r.repl k a
 rw[LK e,LK e];exact Paired.snoc r #[rfl,a]
def KV.drop{vs:List (κ×PP)}(r:KV kvs vs)(k:κ):KV (cM kvs k) (without vs k):=by
 unfold KV at r ⊢;unfold cM without;induction r with
 | nil=>exact .nil
 | @cons p q ps i h t d=>
  obtain⟨c,f⟩:=h;rw[filter_cons,filter_cons];by_cases e:p.1=k
  .have a:¬ decide (p.1≠k)=true:=by simp[e]
   have b:¬ decide (q.1≠k)=true:=by simp[c.symm.trans e]
   rw[LK a,LK b];exact d
  have g:¬ q.1=k:=λz=>e (c.trans z)
  have a:decide (p.1≠k)=true:=by simp[e]
  have b:decide (q.1≠k)=true:=by simp[g]
  rw[LM a,LM b];exact .cons #[c,f] d
def KV.keys{vs:List (κ×PP)}(r:KV kvs vs):kvs.map (·.1)=vs.map (·.1):=by
 unfold KV at r;induction r with
 | nil=>rfl
 | cons h t a=>rw[map_cons,map_cons,a,h.1]
def KV.length{vs:List (κ×PP)}(r:KV kvs vs):kvs.length=vs.length:=Paired.length r
def qI(kvs:List (κ×V))(k:κ):(cM kvs k).length<=kvs.length:=length_filter_le _ _
end
def pJ{k:bC}(r:RelV (kV k) u):(bE P w).is k u=true:=by
 cases k with
 | inl i=>obtain⟨t,e⟩:=(show ∃t,u=Value.int i t from r);subst e;exact Ct P w i t
 | inr x=>obtain⟨t,e⟩:=(show ∃t,u=Value.str x t from r);subst e;exact Cu P w x t
def zA{P:Program}{w:World}:∀ {ks:FU}{us:C4},Vals (ks.map kV) us->ItemsAre (bE P w) ks us
 | [],_,r=>by rw[map_nil]at r;cases r;exact .nil
 | k::ks,_,r=>by
  rw[map_cons]at r;cases r with
  | cons h t=>exact .cons (pJ h)<|zA t
abbrev KT(H:Hp):BW->FC->Prop:=Paired λp q=>p.1=q.1/\H q.2.1=!(.tup<|p.1.map kV)/\RelV p.2 q.2.2
def KT.val(r:KT H kvs xs)(k:FU):ND (bA kvs k) ((atKey xs k).map (·.2)):=by
 induction r with
 | nil=>exact True.intro
 | @cons p q ps a h t f=>
  revert h;refine JE λd _ g=>?_;by_cases e:p.1=k
  .have c:q.1=k:=d.symm.trans e;have b:atKey (q::a) k=some q.2:=by simp[atKey,find?_cons,c]
   rw[cH e,b];exact g
  have c:¬ q.1=k:=λz=>e (d.trans z)
  have b:atKey (q::a) k=atKey a k:=by simp[atKey,find?_cons,c]
  rw[cI e,b];exact f
def KT.repl(r:KT H kvs xs)(k:FU)(d:RelV y u) :
  KT H (kvs.map λb=>if b.1=k then (b.1,y) else b) (xs.map<|putAt k u):=by
 induction r with
 | nil=>exact .nil
 | @cons p q ps i h t f=>
  rw[map_cons,map_cons];refine .cons ?_ f;revert h;refine JE λa c g=>?_;unfold putAt;by_cases e:p.1=k
  .rw[LM e,LM (a.symm.trans e)];exact#[a,c,d]
  rw[LK e,LK (λz=>e<|a.trans z)];exact#[a,c,g]
def KT.put(r:KT H kvs xs)(k:FU)(c:H b=!(.tup<|k.map kV))(a:RelV y u) :
  KT H (cB kvs k y) (storedH xs k b u):=by
 have e:(kvs.any λd=>decide (d.1=k))=(atKey xs k).isSome:=by
  rw[dM,(r.val k).isSome_eq,Option.isSome_map]
 unfold cB storedH;rw[e];by_cases q:(atKey xs k).isSome=true
 .rw[LM q,LM q];exact r.repl k a
 rw[LK q,LK q];exact Paired.snoc r #[rfl,c,a]
def KT.keeps(r:KT H kvs xs)(a:∀b ys,H b=!.tup ys->H' b=!.tup ys):KT H' kvs xs:=
 Paired.mapP r λ_ _ z=>#[z.1,a _ _ z.2.1,z.2.2]
section
variable {h:Heap}{a:TD}
def wc(ok:NW P w H h)(e:Rd H a u):KU P w H h a u:=e.ok ok
def qJ(ok:NW P w H h)(e:Rd H a (.dK kvs)):kvs.length<=sizeLine/\(a==sysModules)=false/\∃vs,KV kvs vs/\h.DictOf (bE P w) a vs:=
 show KU P w H h a (.dK kvs) from wc ok e
def Df(ok:NW P w H h)(e:H a=!.dK kvs):kvs.length<=sizeLine/\(a==sysModules)=false/\∃vs,KV kvs vs/\h.DictOf (bE P w) a vs:=qJ ok<|.inl e
def nF{ks:FU}(ok:NW P w H h)(e:H a=!(.tup<|ks.map kV)):(tupleKind<|bE P w).is h ks a:=by
 obtain⟨_,b,r,o,c,d,n,f⟩:=(show KU P w H h a (.tup<|ks.map kV) from ok a _ e);exact#[o,b.toArray,n,c,d,f,by simpa using zA r]
def vM(ok:NW P w H h)(e:Rd H a (.dT kvs)):kvs.length<=sizeLine/\(a==sysModules)=false ∧
  ∃xs,KT H kvs xs/\h.DictOfH (!"|>|@~;~P") a xs:=by
 refine JB (show KU P w H h a (.dT kvs) from wc ok e) (JE λz y=>JU λxs=>JW λr=>LB λo d f=>MJ λg i j k n=>?_);refine#[z,y,xs,r,o,d,f,g,i,j,k,λx b=>?_,n];have all:∀ {l:BW}{m:FC},KT H l m->∀x∈m,(!"|>|@~;~P").is h x.1 x.2.1:=by
  intro l m q;induction q with
  | nil=>intro x b;exact nomatch b
  | @cons p q ps u c t s=>
   intro x b;rcases mem_cons.mp b with e|b
   .subst e;exact nF ok (by rw[<- c.1];exact c.2.1)
   exact s x b
 exact all r x b
def Pj(ok:NW P w H h)(e:H a=!.dT kvs):kvs.length<=sizeLine/\(a==sysModules)=false ∧
  ∃xs,KT H kvs xs/\h.DictOfH (!"|>|@~;~P") a xs:=vM ok<|.inl e
end
def LP(H:Hp)(a:TD)(y:V)(r:EY):Prop:=
 (∃c k,Rd H a (.dK c)/\y=kV k/\r=bA c k)∨∃c k b,Rd H a (.dT c)/\y=.ref b/\H b=!(.tup<|k.map kV)/\r=bA c k
def NZ(H:Hp)(a:TD)(y v:V)(H':Hp):Prop:=
 (∃c k,H a=!.dK c/\y=kV k/\c.length<sizeLine/\H'=aH H a (.dK<|cB c k v))∨
 ∃c k b,H a=!.dT c/\y=.ref b/\H b=!(.tup<|k.map kV)/\c.length<sizeLine/\H'=aH H a (.dT<|cB c k v)
def LP.k{k:bC}(e:H a=!.dK kvs):LP H a (kV k) (bA kvs k):=.inl #[kvs,k,.inl e,rfl,rfl]
def LP.t{k:FU}(e:H a=!.dT kvs)(c:H b=!(.tup<|k.map kV)):LP H a (.ref b) (bA kvs k):=.inr #[kvs,k,b,.inl e,rfl,c,rfl]
def NZ.k{k:bC}{v:V}(e:H a=!.dK kvs)(b:kvs.length<sizeLine):NZ H a (kV k) v (aH H a<|.dK<|cB kvs k v):=.inl #[kvs,k,e,rfl,b,rfl]
def NZ.t{k:FU}{v:V}(e:H a=!.dT kvs)(c:H b=!(.tup<|k.map kV))(d:kvs.length<sizeLine) :
  NZ H a (.ref b) v (aH H a<|.dT<|cB kvs k v):=.inr #[kvs,k,b,e,rfl,c,d,rfl]
section
variable {s:NE}{a:TD}{y v:V}{u r:PP}{o:EY}
def Inv.big(I:Inv X pins σ H s):sysModules<s.heap.objs.size:=by
 have h:mainGlobals<s.heap.objs.size:=(I.mod.glob.keeps I.bk).lt;exact lt_trans Zd h
def Lh(t:A.units+1<cLine)(I:Inv X pins σ H s)(g:LP H a y (!v))(m:RelV y u)(h:∀c n,Inv X pins σ H n->RelV v c->Q c n) :
  wpAny (model X.prog X.w) A (getItem (.ref a) u) Q E s:=by
 rcases g with⟨q,k,e,f,l⟩|⟨q,k,b,e,f,w,l⟩
 .subst f;refine JB (qJ I.hok e) (JE λz hd=>JU λvs=>JW λd dd=>?_);obtain⟨c,i,j⟩:=ND.some_of (v:=v) (o:=valueAt vs k) (by rw[l];exact d.val k);exact wpAny_getItem_of (pJ m) dd.mapOf i<|h c _ (I.tok _) j
 subst f;cases(show u=Value.ref b from m);refine JB (vM I.hok e) (JE λz hd=>JU λx=>JW λd dd=>?_);obtain⟨c,i,j⟩:=ND.some_of (v:=v) (o:=(atKey x k).map (·.2)) (by rw[l];exact d.val k);obtain⟨p,B,C⟩:=Option.map_eq_some_iff.mp i;refine wpAny_getItem_heap (tupleKind_room_in1 t) (nF I.hok w) dd B ?_;rw[C];exact h c _ (I.tok _) j
def wg(m:A.units+1<cLine)(I:Inv X pins σ H s)(g:LP H a y o)(f:RelV y u)(h:∀i,Inv X pins σ H i->Q (.bool o.isSome) i) :
  wpAny (model X.prog X.w) A (compareOp .In u<|.ref a) Q E s:=by
 rcases g with⟨j,k,e,d,l⟩|⟨j,k,b,e,d,n,l⟩
 .subst d;refine JB (qJ I.hok e) (JE λz hd=>JU λvs=>JW λc dd=>?_);refine wpAny_in_of (pJ f) hd dd.mapOf ?_;rw[<- (c.val k).isSome_eq,<- l];exact h _<|I.tok _
 subst d;cases(show u=Value.ref b from f);refine JB (vM I.hok e) (JE λz hd=>JU λp=>JW λc dd=>?_);refine wpAny_in_heap (tupleKind_room_in1 m) (nF I.hok n) hd dd ?_;have q:=(c.val k).isSome_eq;rw[Option.isSome_map]at q;rw[<- q,<- l];exact h _<|I.tok _
def Ix(m:A.units+1<cLine)(I:Inv X pins σ H s)(g:LP H a y o)(f:RelV y u)(h:∀i,Inv X pins σ H i->Q (.bool<|(not o.isSome)) i) :
  wpAny (model X.prog X.w) A (compareOp .NotIn u<|.ref a) Q E s:=by
 rcases g with⟨j,k,e,d,l⟩|⟨j,k,b,e,d,n,l⟩
 .subst d;refine JB (qJ I.hok e) (JE λz hd=>JU λvs=>JW λc dd=>?_);refine wpAny_notIn_of (pJ f) hd dd.mapOf ?_;rw[<- (c.val k).isSome_eq,<- l];exact h _<|I.tok _
 subst d;cases(show u=Value.ref b from f);refine JB (vM I.hok e) (JE λz hd=>JU λp=>JW λc dd=>?_);refine wpAny_notIn_heap (tupleKind_room_in1 m) (nF I.hok n) hd dd ?_;have q:=(c.val k).isSome_eq;rw[Option.isSome_map]at q;rw[<- q,<- l];exact h _<|I.tok _
def oI(I:Inv X pins σ H s)(d:c9 (H a))(hs:Heap.SameBut a s.heap h')(f:∃q,h'.get? a=!q)(new:KU X.prog X.w (aH H a c) h' a c) :
  Inv X pins σ (aH H a c) {s with heap:=h',toks:=t' }:=
 I.write (x:=a) (e:=a) d (.inl rfl) (λb q g z=>(hs.2 b g).trans z) f new
def Bb{vs:GQ}(z:kvs.length<=sizeLine)(hd:(a==sysModules)=false)(b:KV kvs vs)(dd:h'.DictOf (bE P w) a vs) :
  KU P w H' h' a (.dK kvs):=#[z,hd,vs,b,dd]
def Li(J:A.units+1<cLine)(I:Inv X pins σ H s)(g:NZ H a y v H')(x:RelV y u)(B:RelV v r)(h:∀C,Inv X pins σ H' C->Q () C) :
  wpAny (model X.prog X.w) A (setItem (.ref a) u r) Q E s:=by
 rcases g with⟨d,k,e,m,l,n⟩|⟨d,k,b,e,m,D,l,n⟩
 .subst m n;refine JB (Df I.hok e) (JE λz hd=>JU λvs=>JW λf dd=>?_);have p:vs.length<=sizeLine:=by rw[<- f.length];exact z
  have t:(cB d k v).length<=sizeLine:=by have:=fL d k v;omega
  refine wpAny_setItem_pairs (hsz:=p) (pJ x) dd λF i w=>h _ ?_;have K:∃q,F.get? a=!q:=let #[q,_,_,j,_]:=i;#[q,j];exact oI I (by rw[e];exact True.intro) w K<|Bb t hd (f.put k B) i
 subst m n;cases(show u=Value.ref b from x);refine JB (Pj I.hok e) (JE λz hd=>JU λL=>JW λf dd=>?_);have p:L.length<=sizeLine:=by rw[<- Paired.length f];exact z
 have t:(cB d k v).length<=sizeLine:=by have:=fL d k v;omega
 refine wpAny_setItem_heap (hsz:=p) (tupleKind_room_in1 J) (nF I.hok D) dd λF i w=>h _ ?_;revert i;refine LB λq M N=>MI λj O P R _ S=>?_;refine oI I (by rw[e];exact True.intro) w #[q,j] #[t,hd,_,(f.put k D B).keeps λc T G=>?_,q,M,N,j,O,P,R,S];rw[aD (aL G e nofun)];exact G
end
section
variable {s:NE}{a:TD}{kvs:DI}{k:bC}{u:PP}
def aCQ(I:Inv X pins σ H s)(e:H a=!.dK kvs)(f:RelV (kV k) u)(l:(bA kvs k).isSome=true)(h:∀c,Inv X pins σ (aH H a<|.dK<|cM kvs k) c->Q () c) :
  wpAny (model X.prog X.w) A (delItem (.ref a) u) Q E s:=by
 refine JB (Df I.hok e) (JE λz hd=>JU λvs=>JW λb dd=>?_);refine wpAny_delItem_slot dd.typeIs Zd PySem.F.slot_dict_delitem
  (call_meetsIn PySem.F.slot_dict_delitem dd.typeIs PySem.F.entry_dict_delitem (PySem.F.args_dict_delitem_2 _ _) (meets_dict_delitem_pairs (bE X.prog X.w) a<|pJ f) #[vs,dd,by rw[<- b.length];exact z,by rw[<- (b.val k).isSome_eq];exact l,λg d i=>h _ ?_])
 have j:∃q,g.get? a=!q:=let #[q,_,_,m,_]:=d;#[q,m];exact oI I (by rw[e];exact True.intro) i j<|Bb (gK (qI kvs k) z) hd (b.drop k) d
def aDl{v:V}{more:C4}(I:Inv X pins σ H s)(e:H a=!.dK kvs)(d:RelV (kV k) u)(l:bA kvs k=!v)(f:more=[]∨∃x,more=[x])(h:∀b g,Inv X pins σ (aH H a<|.dK<|cM kvs k) g->RelV v b->Q b g):wpAny (model X.prog X.w) A (call (.builtin "dict.pop") (.ref a::u::more)) Q E s:=by
 refine JB (Df I.hok e) (JE λz hd=>JU λvs=>JW λc dd=>?_);obtain⟨b,m,n⟩:=ND.some_of (v:=v) (o:=valueAt vs k) (by rw[<- l];exact c.val k);have p:(keyPart u).isSome=true:=by
  cases k with
  | inl i=>obtain⟨t,q⟩:=(show ∃t,u=Value.int i t from d);subst q;rfl
  | inr x=>obtain⟨t,q⟩:=(show ∃t,u=Value.str x t from d);subst q;rfl
 have r:argsOk "dict.pop" #[.ref a::u::more,[]]:=by
  rcases f with q|⟨x,q⟩
  .subst q;exact PySem.F.args_dict_pop_2 _ _
  subst q;exact PySem.F.args_dict_pop_3 _ _ _
 refine call_meetsIn PySem.F.slot_dict_pop dd.typeIs PySem.F.entry_dict_pop r (!"~s~y~;Fe{pJ1 `more @`p {meets_dict_pop_there6 ")
  #[vs,b,dd,by rw[<- c.length];exact z,m,λw j y=>h b _ ?_ n]
 have B:∃q,w.get? a=!q:=let #[q,_,_,C,_]:=j;#[q,C];exact oI I (by rw[e];exact True.intro) y B<|Bb (gK (qI kvs k) z) hd (c.drop k) j
end
def nj(i:Expr):Prop:=∀a b,subscripted i false a b=operate [a,b] (getItem a b)
def Wz{s:NE}{T id:String}(l:typeLookup (.type T) "__getitem__"=pure (!.builtin id))(hs:nj slice)(h:wpAny (model prog w) A (eval b env) (λo e=>wpAny (model prog w) A (eval slice env) (λi a=>a.TypeIs o T/\wpAny (model prog w) A (getItem o i) Q E a) E e) E s) :
  wpAny (model prog w) A (eval (.Subscript b slice pos) env) Q E s:=by
 refine Subscript_<|wpAny_mono h (λo e j=>wpAny_mono j (λi a c=>?_) λ_ _ x=>x) λ_ _ x=>x;obtain⟨g,c⟩:=c;unfold subscriptTail;refine XV ?_;rw[getitemInPython_of_ne g.not_modules];refine XV<|wpAny_specialOf g l ?_;have d:wpAny (model prog w) A (subscripted slice false o i) (λr f=>wpAny (model prog w) A (letTemporaryGo b o r>>=λ_=>pure r) Q E f) E a:=by
  rw[hs o i];exact wpAny_operating (wpAny_mono c (λr f k=>XV<|wpAny_letTemporaryGo<|W1 k) λ_ _ x=>x)
 first
  | exact W1 (XV d)
  | exact XV (W1<|XV d)
  | exact XV d
def Dg{s:NE}(I:Inv X c f H s)(g:LP H a y o):s.TypeIs (.ref a) "dict":=by
 rcases g with⟨d,k,e,_,_⟩|⟨d,k,b,e,_,_,_⟩
 .refine JB (qJ I.hok e) (JE λ_ _=>JU λvs=>JW λ_ dd=>?_);exact dd.typeIs
 refine JB (vM I.hok e) (JE λ_ _=>JU λh=>JW λ_ dd=>?_);exact dd.typeIs
def wh(d ty:TE):TE:=λc H Q=>d c H λx e=>ty c e λy b=>∃a v,x=.ref a/\LP b a y (!v)/\Q v b
section
variable {o i e value:Expr}{pos' MX:Pos}{td ty tv:TE}
def Xa(f:X.A.units+1<cLine)(j:PE X o td)(k:PE X i ty)(hs:nj i):PE X (.Subscript o i pos) (wh td ty):=by
 intro b s d H Q I h;refine Wz PySem.F.slot_dict_getitem.lookup hs<|bR (j b s d H _ I h) λu l #[x,m,n,p,q]=>bR (k b l d m _ n q) ?_;refine λC D=>JR λy r=>JE λc t=>JR λa v=>JE λw g z=>?_;subst w;obtain rfl:u=Value.ref a:=p;exact#[Dg c g,Lh f c g t λE F A B=>#[v,r,A,B,z]]
end
def Dh(h:Heap)(a:sysModules<h.objs.size):KU P w H (h.push {cls:=.type "dict",data:=.dict (toArray []) }) h.objs.size (.dK []):=
 #[zero_le _,beq_eq_false_iff_ne.mpr<|Ne.symm<|ne_of_lt a,[],.nil,Heap.DictOf.new h]
def Pk(h:Heap)(a:sysModules<h.objs.size):KU P w H (h.push {cls:=.type "dict",data:=.dict (toArray []) }) h.objs.size (.dT []):=
 #[zero_le _,beq_eq_false_iff_ne.mpr<|Ne.symm<|ne_of_lt a,[],.nil,_,(toArray []),0,TW _ rfl,#[rfl,rfl,rfl],rfl,rfl,nodup_nil]
def Pl:TE:=λ_ H Q=>∀p,H p=none->Q (.ref p) (aH H p<|.dK [])
def Pn:TE:=λ_ H Q=>∀p,H p=none->Q (.ref p) (aH H p<|.dT [])
def Po:PE X (.Dict [] [] pos) Pl:=λb s c H Q I h=>
 wpAny_Dict_empty #[.ref s.heap.objs.size,_,I.laid (a:=s.heap.objs.size) (o:=.dK []) (t':=s.toks) (λ_ _ q=>jM _ q) (bD _)<|Dh s.heap I.big,rfl,h _<|I.hok.fresh<|bD _]
def Pp:PE X (.Dict [] [] pos) Pn:=λb s c H Q I h=>
 wpAny_Dict_empty #[.ref s.heap.objs.size,_,I.laid (a:=s.heap.objs.size) (o:=.dT []) (t':=s.toks) (λ_ _ q=>jM _ q) (bD _)<|Pk s.heap I.big,rfl,h _<|I.hok.fresh<|bD _]
def Ga:GN->St->Hp->(List (V×V)->Hp->Prop)->Prop
 | [],_,H,Q=>Q [] H
 | (tk,tv)::r,a,H,Q=>tk a H λx b=>tv a b λy c=>Ga r a c λps d=>Q ((x,y)::ps) d
abbrev VV:List (V×V)->List (PP×PP)->Prop:=Paired λp q=>RelV p.1 q.1/\RelV p.2 q.2
def d3(X:Cx)(pos:Pos)(keys:List (Option Expr))(d:List Expr)(e:GN):Prop:=
 ∀(b:ZB)(s:NE)(a:St)(H:Hp)(Q:List (V×V)->Hp->Prop),Inv X b a H s->Ga e a H Q →
  wpAny (model X.prog X.w) X.A (evalPairs<|pairTrees keys d X.env pos) (λvs f=>∃ps c,Inv X b a c f/\VV ps vs/\Q ps c) X.xe s
def Xb:d3 X pos [] [] []:=λa s b H Q I h=>pairTrees_nil_walk #[[],H,I,.nil,h]
def Pq{k v:Expr}{ks:List (Option Expr)}{vs:List Expr}{tk tv:TE}(e:PE X k tk)(f:PE X v tv)(g:d3 X pos ks vs c) :
  d3 X pos (some k::ks) (v::vs) ((tk,tv)::c):=λa s b H Q I h=>
 pairTrees_cons_walk (bR (e a s b H _ I h) λu i #[x,j,l,m,n]=>bR (f a i b j _ l n) λB o #[y,p,q,r,t]=>
  bR (g a o b p _ q t) λC D #[ps,w,z,d,A]=>#[(x,y)::ps,w,z,.cons #[m,r] d,A])
def aK(kvs more:DI):DI:=more.foldl (λb a=>cB b a.1 a.2) kvs
def KV.merge:∀ {more:DI}{rs:GQ}{kvs:DI}{vs:GQ},KV more rs->KV kvs vs->KV (aK kvs more) (merged vs rs):=by
 intro more rs kvs vs r;unfold KV at r;induction r generalizing kvs vs with
 | nil=>intro q;exact q
 | @cons p q ps c h t a=>
  intro b;have e:KV (cB kvs p.1 p.2) (stored vs q.1 q.2):=by
   have:=b.put p.1 h.2;rw[<- h.1];exact this
  exact a e
theorem gQ:∀(more kvs:DI),(aK kvs more).length<=kvs.length+more.length
 | [],kvs=>by show kvs.length<=kvs.length+0;omega
 | p::r,kvs=>by
  have a:=gQ r<|cB kvs p.1 p.2;have b:=fL kvs p.1 p.2;show(aK (cB kvs p.1 p.2) r).length<=_;rw[mY];omega
theorem vN{P:Program}{w:World}:∀ {kvs:DI}{d:List (PP×PP)},VV (kvs.map λe=>(kV e.1,e.2)) d->∃rs,Carries (bE P w) d rs/\KV kvs rs
 | [],_,r=>by rw[map_nil]at r;cases r;exact#[[],True.intro,.nil]
 | p::kvs,_,r=>by
  rw[map_cons]at r;cases r with
  | @cons a b g bs h t=>
   obtain⟨rs,c,q⟩:=vN (P:=P) (w:=w) t;obtain⟨i,f⟩:=b;exact#[(p.1,f)::rs,#[pJ h.1,rfl,c],.cons #[rfl,h.2] q]
def wq(d:GN):TE:=λe H Q=>∀p,H p=none->Ga d e (aH H p<|.dK []) λps b=>b p=!.dK []/\∃a:DI,ps=a.map (λc=>(kV c.1,c.2))/\a.length<=15/\Q (.ref p) (aH b p<|.dK<|aK [] a)
def Xc{keys:List (Option Expr)}(h:d3 X pos keys b d)(l:keys.all (·.isSome)=true)(m:keys.length=b.length)(n:keys≠[])(p:keys.length<=15):PE X (.Dict keys b pos) (wq d):=by
 intro j s G H Q I q;have r:=I.hok.fresh<|bD s.heap.objs.size;have t:=I.laid (a:=s.heap.objs.size) (o:=.dK []) (h':=s.heap.push {cls:=.type "dict",data:=.dict (toArray []) }) (t':=s.toks) (λ_ _ q=>jM _ q) (bD _)<|Dh s.heap I.big;refine wpAny_Dict_walk (knd:=bE X.prog X.w) l m n p<|bR (h j _ G _ _ t<|q _ r) ?_;refine λK L=>JR λps M=>KJ λg k e=>JU λf=>JE λu lk v=>?_;subst u;obtain⟨x,c,y⟩:=vN (P:=X.prog) (w:=X.w) k;refine JB (Df g.hok e) (JE λz hd=>JU λJ=>JW λA dd=>?_);cases A;refine#[x,c,dd,λh' i B=>#[.ref s.heap.objs.size,_,?_,rfl,v]];have C:(aK [] f).length<=sizeLine:=by
  have D:=gQ f [];rw[length_nil]at D;rw[sizeLine_eq];omega
 have E:∃q,h'.get? s.heap.objs.size=!q:=let #[q,_,_,F,_]:=i;#[q,F];exact oI g (by rw[e];exact True.intro) B E<|Bb C hd (y.merge .nil) i
structure M1(X:Cx)(o:Expr)(m:Str)(apos:Pos)(e:Expr)(cpos:Pos):Prop where
 base:attributeBase o m X.env (eval o X.env)=eval o X.env
 few:((!"~R?Yno" [e]).all (λx=>(not (x.1)))&&(backToKw cpos<|keywordEach [] X.env).all (λx=>x.1.isSome)
  && decide (([e]:List Expr).length+([]:List Keyword).length+(if ([]:List Keyword).isEmpty then 0 else 1)<30))=true
 line:(apos.endLine==cpos.line)=true
 trees:backTo cpos (starEach [e] X.env)=[(false,eval e X.env)]
structure M2(X:Cx)(o:Expr)(m:Str)(apos:Pos)(e f:Expr)(cpos:Pos):Prop where
 base:attributeBase o m X.env (eval o X.env)=eval o X.env
 few:((!"~R?Yno" [e,f]).all (λx=>(not (x.1)))&&(backToKw cpos<|keywordEach [] X.env).all (λx=>x.1.isSome)
  && decide (([e,f]:List Expr).length+([]:List Keyword).length+(if ([]:List Keyword).isEmpty then 0 else 1)<30))=true
 line:(apos.endLine==cpos.line)=true
 trees:backTo cpos (starEach [e,f] X.env)=[(false,eval e X.env),(false,eval f X.env)]
def d4(H:Hp)(a:TD):Prop:=(∃b,Rd H a<|.dK b)∨∃b,Rd H a (.dT b)
def vO{j:St}{s:NE}(I:Inv X h j H s)(d:d4 H a) :
  s.TypeIs (.ref a) "dict"/\(∀b,Value.ref a=.ref b->∃c,s.heap.get? b=!c/\c.dict=none)/\(a==sysModules)=false:=by
 rcases d with⟨i,e⟩|⟨i,e⟩
 .refine JB (qJ I.hok e) (JE λ_ hd=>JU λvs=>JW λ_ dd=>?_);refine#[dd.typeIs,λb q=>?_,hd];cases q;revert dd;refine LB λc _ _=>JE λf g _=>?_;exact#[c,f,g.2.1]
 refine JB (vM I.hok e) (JE λ_ hd=>JU λk=>JW λ_ dd=>?_);refine#[dd.typeIs,λb q=>?_,hd];cases q;revert dd;refine LB λc _ _=>JE λf g _=>?_;exact#[c,f,g.2.1]
section
variable {s:NE}{a:TD}{y d:V}{u r:PP}{o:EY}
def aBE(p:A.units+1<cLine)(I:Inv X pins σ H s)(g:LP H a y o)(i:RelV y u)(rd:RelV d r)(h:∀j m,Inv X pins σ H m->RelV (o.getD d) j->Q j m) :
  wpAny (model X.prog X.w) A (call (.builtin "dict.get") [.ref a,u,r]) Q E s:=by
 rcases g with⟨n,k,e,f,l⟩|⟨n,k,b,e,f,q,l⟩
 .subst f;refine JB (qJ I.hok e) (JE λz hd=>JU λvs=>JW λc dd=>?_);refine call_meetsIn PySem.F.slot_dict_get dd.typeIs PySem.F.entry_dict_get (PySem.F.args_dict_get_3 _ _ _) (!"~s~y~;F~K{pJ1 |:`r {meets_dict_get_default5 ") #[_,dd.mapOf,h _ _ (I.tok _) ?_];rw[l];exact(c.val k).getD rd
 subst f;cases(show u=Value.ref b from i);refine JB (vM I.hok e) (JE λz hd=>JU λt=>JW λc dd=>?_);refine call_meetsIn PySem.F.slot_dict_get dd.typeIs PySem.F.entry_dict_get (PySem.F.args_dict_get_3 _ _ _) (!"~s~y~;~PF^|:`r {meetsH_dict_get_default5 ") #[tupleKind_room_in1 p,k,t,nF I.hok q,dd,h _ _ (I.tok _) ?_];rw[l];exact(c.val k).getD rd
end
def Pr(e ty tx:TE):TE:=λb H Q=>e b H λx c=>∃a,x=.ref a/\d4 c a/\ty b c λy f=>tx b f λz d=>∃o,LP d a y o/\Q (o.getD z) d
def Ps(f ty:TE):TE:=λe H Q=>f e H λx c=>∃a,x=.ref a/\d4 c a/\ty e c λy d=>∃b k v,d a=!.dK b/\y=kV k/\bA b k=!v/\Q v (aH d a<|.dK<|cM b k)
section
variable {o e f:Expr}{td ty tx:TE}
def Pu(j:X.A.units+1<cLine)(k:PE X o td)(l:PE X e ty)(n:PE X f tx)(m:M2 X o "get" apos e f cpos):PE X (.Call (.Attribute o "get" apos) [e,f] [] cpos) (Pr td ty tx):=by
 intro b s c H Q I h;refine wpAny_Call_method m.base m.few m.line PySem.F.plainAttrs_dict PySem.F.slot_dict_get PySem.F.type_dict_get<|bR (k b s c H _ I h) ?_;refine λu p=>JR λx q=>JE λi r=>JU λa=>JE λt d v=>?_;subst t;obtain rfl:u=Value.ref a:=r;refine JB (vO i d) (JE λw A _=>?_);exists w,A;rw[m.trees];refine Calls.callWith_builtin rfl (Calls.evalArgs_plain<|Calls.spliced_cons<|bR (l b p c q _ i v) λO B #[y,C,D,E,F]=>
  Calls.spliced_cons (bR (n b B c C _ D F) λP R #[z,G,J,K,S,g,L]=>Calls.spliced_nil ?_))
 exact aBE j J g E K λT U M N=>#[_,G,M,N,L]
def Pw(i:PE X o td)(j:PE X e ty)(m:M1 X o "pop" apos e cpos):PE X (.Call (.Attribute o "pop" apos) [e] [] cpos) (Ps td ty):=by
 intro b s g H Q I h;refine wpAny_Call_method m.base m.few m.line PySem.F.plainAttrs_dict PySem.F.slot_dict_pop PySem.F.type_dict_pop<|bR (i b s g H _ I h) ?_;refine λu n=>JR λx p=>JE λc q=>JU λa=>JE λr d t=>?_;subst r;obtain rfl:u=Value.ref a:=q;refine JB (vO c d) (JE λw z _=>?_);exists w,z;rw[m.trees];refine Calls.callWith_builtin rfl<|Calls.evalArgs_plain<|Calls.spliced_cons<|bR (j b n g p _ c t) λK L #[y,M,A,B,J,k,v,C,D,l,E]=>Calls.spliced_nil ?_;subst D;exact aDl A C B l (.inl rfl) λN O F G=>#[v,_,F,G,E]
end
end L2
namespace Att
open PySem PySem.W PySem.Calls PyProof.Rows
def uG{P:Params}:∀(c:EZ)(vs:C4),WellAll P h vs (c.map WData.int)->IntsAre vs c:=by
 intro c;induction c with
 | nil=>
  intro vs w;rw[map_nil]at w;cases w;exact .nil
 | cons n c d=>
  intro vs w;rw[map_cons]at w;cases w with
  | cons a b=>
   cases a;exact .cons _ _<|d _ b
def Lj{l:OpenLaw}{n:Nat}(m:l.most=!n){P:Params}(g:l.row.toRowW.claim.pre args=true)(o:WellAll P h f args) :
  ∃a vs b,f=[Value.ref a]/\args=[WData.list (b.map WData.int)]/\h.get? a=some {cls:=.type "list",data:=.seq vs.toArray }/\IntsAre vs b/\b.length<=n:=by
 have k:WShape.hasAll [] args [.list .int]=true:=(pre_splitW g).1;have i:l.pre.holds [] {args:=args }=true:=(pre_splitW g).2;refine JB (hasAllW_cons k) (JR λd r=>JE λζ p s=>?_);subst ζ;obtain rfl:=hasAllW_nil s;obtain⟨z,rfl,t⟩:=hasW_list p;obtain⟨b,rfl⟩:=items_int t;have j:b.length<=n:=by
  unfold OpenLaw.pre at i;have c:(WTm.not<|.lt (.lit<|.int (n:Int))<|.len<|.arg 0).holds [] {args:=[.list (b.map .int)] }=true:=by
   have c:=(holds_andW i).1;rw[m]at c;exact c
  have e:=condW_of c<|w_not<|w_lt w_lit<|w_len_list<|w_arg rfl;rw[aV]at e;refine Nat.le_of_not_lt λq=>?_
  have u:(n:Int)<((b.length:Nat):Int):=by omega
  first
   | (rw[UF u]at e;exact IZ e Zd)
   | (simp at e;omega)
 cases o with
 | cons v w=>
  cases w
  cases v with
  | list x y=>exact#[_,_,b,rfl,rfl,x,uG b _ y,j]
def Lk(l:OpenLaw)(args:List WData):l.row.toRowW.claim.post args (.bool true) args=true:=
 postW_of (r:=l.row.toRowW) (X:=(true==true))
  (show WShape.has [] (.bool true) .bool=true by first|rfl|decide|simp[WShape.has,WShape.arms,WShape.armsAll])
  (show(WTm.eq .res<|.lit<|.bool true).value [] {args:=args,res:=some<|.bool true,after:=args }=some (.bool<|true==true) from w_eq_bool (w_res rfl) w_lit) rfl
def attach_call{l:OpenLaw}{n:Nat}{s:(Str->D0)->Heap->Prop}{t:World->Heap->Prop}(y:l.most=!n)(z:d.params.defaults=[])(call:∀(w:World)(i b:NE)(mg k:X5)(c:TD)(o:Obj)(m e j:PP)(a:TD)(vs:C4)(g:EZ),
   Ground q p [] s w i mg k b.heap->t w b.heap →
   b.heap.get? c=!o->o.data=.func (docDef d.name d.params d.body d.scope m e j)->b.heap.CodeRec e d.name->mg d.name=some (.ref c) →
   b.heap.get? a=some {cls:=.type "list",data:=.seq vs.toArray }->IntsAre vs g->g.length<=n->b.gens=(toArray []) →
   codeAny (model l.prog w) callerA (.call (.ref c) #[[.ref a],[]]) (λr h=>r=.ok (.ret<|.bool true)/\OldK b.heap h.heap/\h.os=b.os/\AllBare h.gens) b) :
  WalkO q p s t l.row.toRowW d [] (λf vs=>PySem.call f vs):=by
 intro w i b mg k G Y c o m e j A kV B hd C u D E O P S F Q R H T;obtain rfl:A=.none:=Dflts.none u z;obtain rfl:kV=.none:=Dflts.noKw u;refine JB (Lj y F H) (LB λa vs g=>MJ λζ η I v x=>?_);subst ζ η;refine enter_call<|codeAny_mono (call w i b mg k c o m e j a vs g G Y B (fd_plain hd) C D I v x E) λr h J=>?_;revert J;refine KJ λζ K L M=>?_;subst ζ;exact#[.inl #[.bool true,.bool true,[],rfl,λ_=>rfl,.bool true,Lk l _,λ_=>#[List.Pairwise.nil,λ_ N=>(nomatch N)]],K,L,M]
end Att
namespace L2
open PySem PySem.Spec PyProof.Rows
def zB:∀ {vs:C4}{a:EZ},IntsAre vs a->Vals (a.map V.int) vs
 | _,_,.nil=>.nil
 | _,_,.cons n t h=>.cons #[t,rfl]<|zB h
def nr(H:Hp):Prop:=∀b,H b=none∨∃o a,H b=!(.frz o<|.lst a)
def Px{K:W.Frag}{mg A:X5}{k:Nat}{vs:C4}{i:EZ}(L:K.In c.heap)(M:c.heap.Ns mainGlobals mg)(f:c.heap.Ns builtinsNs A)(Y:∀x:Str,x≠"__name__"->A x=bootBuiltins x)(Z:c.heap.NoLimit)(hg:c.gens=(toArray []))(t:c.heap.get? a=some {cls:=.type "list",data:=.seq vs.toArray })(N:IntsAre vs i)(O:i.length<=sizeLine)(hr:LO k callerA)(F:∀base:Heap,K.In base->base.Ns mainGlobals mg->MY P w K mg base CX k B J [x] sp)(QV:∀(s:NE)(u:PP),BindsTo s J #[[u],[]] [(x,u)])(DH:∀H:Hp,nr H->MO K H a (i.map V.int)->sp [.ref a] H (λv _=>v=.bl true) λ_ _ _=>False)(ZV:∀H e g,CX [] H c (λ_ _ _=>False) e g->False) :
  codeAny (model P w) callerA (.call (.ref B) #[[.ref a],[]]) (λr g=>r=.ok (.ret<|.bool true)/\OldK c.heap g.heap/\g.os=c.os/\AllBare g.gens) c:=by
 have Q:=zB N;have ZW:=N.length;have E:∀H:Hp,nr H->MO K H a (i.map V.int)->NW P w H c.heap->(∀b,H b≠none->b=a)->(H a≠none->K.lookup a=none) →
   codeAny (model P w) callerA (.call (.ref B) #[[.ref a],[]]) (λr g=>r=.ok (.ret<|.bool true)/\OldK c.heap g.heap/\g.os=c.os/\AllBare g.gens) c:=by
  intro H R hS G S hK;have T:∀ {b:TD}{o:Obj},c.heap.get? b=!o->H b=none->(Al c.heap H).get? b=!o:=λe n=>Og e n
  have QN:∀ {b:TD}{o:Obj}{j:Array DictEntry}{l:Nat},c.heap.get? b=!o->o.data=.dict j l->H b=none:=λ{b o j l} e d=>by
   cases q:H b with
   | none=>rfl
   | some u=>
    have C:b=a:=S b (by rw[q];simp);subst C;rw[t]at e;cases e;have d':Data.seq vs.toArray _=Data.dict j l:=d;cases d'
  have y:∀ {b:TD}{m:X5},c.heap.Ns b m->(Al c.heap H).Ns b m:=λ{b m} #[o,j,l,e,d,r]=>#[o,j,l,T e<|QN e d,d,r]
  have I:K.In (Al c.heap H):=λb o e=>T (L b o e) (by
   cases q:H b with
   | none=>rfl
   | some u=>
    have C:b=a:=S b (by rw[q];simp);subst C;rw[hK (by rw[q];simp)]at e;cases e)
  have hM:Mod K mg (Al c.heap H):=#[I,y M,#[A,y f,Y],let #[mc,h1,h2]:=Z;#[mc,y h1,h2]];have e0:RF P w K mg (Al c.heap H) callerA [] c H:=#[rfl,hM,λb o e=>Vx e,le_of_eq<|Kq _ _,trivial,λb f=>IZ (show b∈([]:BZ) from f) Zs,G,.of_eq hg];refine codeAny_mono ((F _ I<|y M).run callerA [] c H #[[.ref a],[]] [.ref a] [.ref a] _ _ hr e0 (QV c<|.ref a) (.cons rfl .nil)<|DH H R hS) λr g h=>?_
  cases r with
  | error e=>exact(ZV H e g h).elim
  | ok fl=>
   cases fl with
   | next=>exact False.elim h
   | brk=>exact False.elim h
   | cont=>exact False.elim h
   | ret u=>
    revert h;refine JR λv H'=>MI λos X un ZX r' q=>?_;have q':v=.bl true:=q;subst q';obtain rfl:u=Value.bool true:=r';refine#[rfl,OldK.of_keep λb o e=>?_,os,X]
    cases q:H b with
    | none=>exact un.keep b o e q (by intro z;exact IZ (show b∈([]:BZ) from z) Zs) Zs
    | some u=>
     rcases R b with z|⟨ob,xs,z⟩
     .rw[q]at z;cases z
     have z2:=un.frzs b ob _ z;obtain⟨U,_⟩:=G b _ z;obtain⟨e2,_⟩:=ZX b _ z2;rw[e]at U;cases U;exact e2
 cases D:K.lookup a with
 | some o=>
  have e:=L a o D;rw[t]at e;cases e;refine E (λ_=>none) (λ_=>.inl rfl) (.inr #[_,vs.toArray,_,D,rfl,rfl,rfl,by rw[fK,ZW];exact O,by simpa using Q]) (λb u z=>by have p:(none:Option HO)=!u:=z;cases p) (λb z=>IZ rfl z) λz=>IZ rfl z
 | none=>
  refine E (λb=>if b=a then some (.frz {cls:=.type "list",data:=.seq vs.toArray }<|.lst<|i.map V.int) else none) (λb=>?_) (.inl<|.inr #[{cls:=.type "list",data:=.seq vs.toArray },LM rfl]) (λb u z=>?_) (λb z=>?_) λ_=>D
  .by_cases f:b=a
   .exact .inr #[_,_,LM f]
   exact .inl<|LK f
  .by_cases f:b=a
   .have p:=(LM f).symm.trans z;cases p;subst f;exact#[t,by rw[aV];exact O,vs,_,Q,t]
   have p:=(LK f).symm.trans z;cases p
  by_cases f:b=a
  .exact f
  exact IZ (LK f) z
def Iy{l:W.OpenLaw}{n k:Nat}{K:Params->W.Frag}{CX:World->Oz}{sp:World->Sp}(z:l.most=!n)(A:n<=sizeLine)(B:d.params.defaults=[])(C:LO k callerA)(D:∀(w:World)(h:Heap),m w h->(K w.params).In h)(F:∀(w:World)(mg:X5)(b:TD)(h:Heap),(K w.params).In h->h.Ns mainGlobals mg->mg d.name=some (.ref b) →
   ∃g:FuncData,(∀(s:NE)(u:PP),BindsTo s g #[[u],[]] [(x,u)]) ∧
    ∀base:Heap,(K w.params).In base->base.Ns mainGlobals mg->MY l.prog w (K w.params) mg base (CX w) k b g [x] (sp w))(E:∀(w:World)(H:Hp)(a:TD)(c:EZ),c.length<=n->nr H->MO (K w.params) H a (c.map V.int)->sp w [.ref a] H (λv _=>v=.bl true) λ_ _ _=>False)(I:∀(w:World)(H:Hp)(s:NE)(e:PP)(i:NE),CX w [] H s (λ_ _ _=>False) e i->False) :
  W.WalkO q p y m l.row.toRowW d [] (λf vs=>PySem.call f vs):=by
 refine Att.attach_call z B λw R t mg T b a0 U X S a vs c G Y Z hd yp J L r j M=>?_;have o:=D w _ Y;obtain⟨g,N,O⟩:=F w mg b _ o G.T.g J;exact Px o G.T.g G.T.b G.T.builtins G.T.nolimit M L r (gK j A) C O N (λH P Q=>E w H a c j P Q) λH e i=>I w H t e i
end L2
/- THE fv' VZ (shape;LID,My.* are cv'):
   My.Adr: a structure of the addresses that fw' cw' names (classes,OP);My.Txt K t: a structure (Prop) of the equations over K;
   My.txt_mk:{K} {implicit addresses ..} (e1:nsIn K mainGlobals "law"=some (some (.ref f))) (e2:K.lookup f=some ⟨oc,od,.func (fnOf "law" "law" params body scope dV kV doc pm an cdv ct),sl⟩) (e3:codeIn K cdv "law"=true) ..:∃t,My.Txt K t
set_option maxRecDepth 100000 in
set_option maxHeartbeats 0 in
def PySem.Challenge.cw_LID_holds : PySem.Challenge.rw_LID.Holds := by
 w_on;o_law;k_head;(case hw=>w_witness2)
 k_fill
 refine L2.Iy (l:=PySem.Challenge.rw_LID) (n:=63) (k:=40) (x:="script") (CX:=λw=>..) (sp:=λ_=>My.sp_law) rfl Zd rfl #[rfl,Zd,Zd] (λw h Y=>W.kIn_of Y) ?F ?S ?C
 case F=>
  intro w mg fa h KX G LU;have T:∃t,My.Txt (L2.KOf KX) t:=by
   dsimp only [L2.KOf]                          -- K fx' cx' as «<heap const> w.params» for k_is
   refine' My.txt_mk ?e1 ?e2 ?e3 ..
   (case e1=>W.k_is)                    -- in the order: a name->its address->its object->its parts
   (case e2=>W.k_is)
   ..
  obtain⟨t,T⟩:=T;have e0:=LU.symm.trans<|W.mg_of KX G T.law;cases e0                                       -- fa is the cy' own address;exact#[_,λs u=>.of_eq rfl,λbase kb nb=>My.law_fn T kb nb]     -- if «.of_eq rfl» comes too early: refine' #[_,?b,λbase kb nb=>My.law_fn T kb nb];exact λs u=>.of_eq rfl
 case S=>exact λw H a ns hl hO hS=>..
 case C=>exact ..
(the tactic k_is has no namespace: write k_is) -/
namespace L2
open PySem PySem.Spec PyProof.Rows
def aO(s:Stmt)(j:Nat):Stmt:=match s with
 | .ClassDef _ _ _ a _ _ _ _ _ _ _=>a.getD j (.Pass #[0,0,0,0])
 | _=>.Pass #[0,0,0,0]
def bJ(s:Stmt):Arguments:=match s with
 | .FunctionDef _ a _ _ _ _ _ _ _ _=>a
 | _=>{posonlyargs:=[],args:=[],vararg:=none,kwonlyargs:=[],kw_defaults:=[],kwarg:=none,defaults:=[] }
def aZ(s:Stmt):List Stmt:=match s with
 | .FunctionDef _ _ b _ _ _ _ _ _ _=>b
 | _=>[]
def aB(s:Stmt):Scope:=match s with
 | .FunctionDef _ _ _ _ _ _ sc _ _ _=>sc
 | _=>{kind:=.function,names:=[],isGenerator:=false,isCoroutine:=false }
abbrev vP:Oz:=λ_ _ _ _ _ _=>False
abbrev E0:XK:=λ_ _ _=>False
def zC:rS vP X E0:=λ_ _ _ _ _ _ _ h=>h.elim
structure RO(K:W.Frag)(x qual:Str)(st:Stmt)(f:TD)(fd:FuncData):Prop where
 ex:∃(oc:PP)(od:D6)(kV doc pm:PP)(an:D6)(cdv ct:PP)(osl:Array (D0)),
  fd=W.fnOf x qual (bJ st) (aZ st) (aB st) .none kV doc pm an cdv ct/\K.lookup f=some #[oc,od,.func fd,osl]/\W.codeIn K cdv qual=true
 kp:f^1
section
variable {K:W.Frag}{mg:X5}{base:Heap}
def RO.ok{x c:Str}{st:Stmt}{f:TD}{d:FuncData}{N ps:A2}{k:Nat}{sp:Sp}(F:RO K x c st f d)(S:aG N ps (aB st))(len:∀vs H Q E,sp vs H Q E->vs.length=ps.length)(e:∀(a:PP)(A:Around)(b:List Env)(s:NE)(H:Hp)(vs:A1)(Q:VK)(E:XK),LO k (!"U~-~(a@Ffw")->sp vs H Q E →
   ∃t,RI (pT vP P w K mg base N c (aB st) f a A b s H E).nox (aZ st) t/\t {nx:=λ_ H'=>Q .non H',rt:=Q } (start N vs) H):MY P w K mg base vP (k+1) f d ps sp:=by
 refine JB F.ex (RH λn o kV l p r a u m=>JE λζ lk g=>?_);subst ζ;refine v5 lk g S len λA b s H vs Q E i j=>?_;obtain⟨t,h,q⟩:=e a A b s H vs Q E i j;exact#[t,h.nox,q]
def RO.binds{st:Stmt}{i:FuncData}{ps:A2}(F:RO K x g st f i)(h:∀(kV a c:PP)(d:D6)(b e:PP)(us:C4),us.length=ps.length->bindArgs (W.fnOf x g (bJ st) (aZ st) (aB st) .none kV a c d b e) #[us,[]]=pure (ps.zip us)):Binds K i ps []:=by
 refine JB F.ex (RH λk l kV a c d b e j=>JE λζ lk m=>?_);subst ζ;exact .all<|h kV a c d b e
def vQ{st:Stmt}{j:PP}{i:Array (D0)}{kV d g b h:PP}(l:K.lookup f=some #[j,m,.func<|W.fnOf x a (bJ st) (aZ st) (aB st) .none kV d g e b h,i])(c:W.codeIn K b a=true)(k:f^1):RO K x a st f (W.fnOf x a (bJ st) (aZ st) (aB st) .none kV d g e b h):=#[#[j,m,kV,d,g,e,b,h,i,rfl,l,c],k]
end
def dN{k:Nat}(a:LO k A):A.units+1<cLine:=yR (Nat.add_le_add_left (by decide:1<=64) _) a.units
def I7(H H':Hp):Prop:=∀b o,H b=!o->H' b=!o
def I7.refl(H:Hp):I7 H H:=λ_ _ h=>h
def I7.trans(a:I7 H H1)(b:I7 H1 H2):I7 H H2:=λc o h=>b c o<|a c o h
def I7.free(e:I7 H H')(h:H' l=Option.none):H l=Option.none:=by
 cases q:H l with
 | none=>rfl
 | some o=>
  rw[e l o q]at h;cases h
def I7.seq{K:W.Frag}(e:I7 H H')(h:MO K H a xs):MO K H' a xs:=by
 rcases h with(h|⟨o,h⟩)|h
 .exact .inl<|.inl<|e _ _ h
 .exact .inl<|.inr #[o,e _ _ h]
 exact .inr h
section
variable {κ:Type} [DecidableEq κ]
def kM{k:κ}(h:bA kvs k=none):¬ k∈kvs.map (·.1):=by
 intro m;obtain⟨p,a,e⟩:=LA.mp m;have q:(kvs.any λb=>decide (b.1=k))=true:=any_eq_true.mpr #[p,a,UF e];rw[dM,h]at q;exact IZ q Zs
def Iz{k:κ}{v:V}(h:bA kvs k=!v):k∈kvs.map (·.1):=by
 have q:(kvs.any λa=>decide (a.1=k))=true:=by
  rw[dM,h];all_goals rfl
 obtain⟨p,b,e⟩:=any_eq_true.mp q;exact LA.mpr #[p,b,WF e]
def uQ:∀ {l:List κ}{k:κ},l.Nodup->¬ k∈l->(l++[k]).Nodup
 | [],k,_,_=>by simp
 | a::r,k,h,b=>by
  obtain⟨c,d⟩:=nodup_cons.mp h;show(a::(r++[k])).Nodup;refine nodup_cons.mpr #[λm=>?_,uQ d λm=>b<|mem_cons.mpr<|Or.inr m];rcases MN.mp m with q|q
  .exact c q
  exact b<|mem_cons.mpr<|Or.inl (LV.mp q).symm
def Xd{k:κ}(v:V)(a:(kvs.map (·.1)).Nodup)(h:bA kvs k=none):((cB kvs k v).map (·.1)).Nodup:=by
 rw[kL v h,dL];exact uQ a<|kM h
def Ll{k:κ}(e:p.1=k):cM (p::r) k=cM r k:=by
 unfold cM;rw[filter_cons,LK (by simp[e])]
def zD{p:κ×V}{r:List (κ×V)}{k:κ}(e:¬ p.1=k):cM (p::r) k=p::cM r k:=by
 unfold cM;rw[filter_cons,LM (by simp[e])]
theorem vR:∀ {kvs:List (κ×V)}{k:κ},¬ k∈kvs.map (·.1)->cM kvs k=kvs
 | [],_,_=>rfl
 | p::r,k,h=>by
  have a:¬ k∈r.map (·.1):=λm=>by
   obtain⟨q,b,e⟩:=LA.mp m;exact h (LA.mpr #[q,mem_cons.mpr<|Or.inr b,e])
  rw[zD λe=>h<|LA.mpr #[p,mem_cons.mpr<|Or.inl rfl,e],vR a]
def zE{k:κ}(h:p∈cM kvs k):p∈kvs:=(mem_filter.mp h).1
def vS:∀ {kvs:List (κ×V)}{k:κ},(kvs.map (·.1)).Nodup->((cM kvs k).map (·.1)).Nodup
 | [],_,_=>nodup_nil
 | p::r,k,h=>by
  have h:(p.1::r.map (·.1)).Nodup:=h;obtain⟨b,a⟩:=nodup_cons.mp h;by_cases e:p.1=k
  .rw[Ll e];exact vS a
  rw[zD e];show(p.1::(cM r k).map (·.1)).Nodup;refine nodup_cons.mpr #[λm=>b ?_,vS a];obtain⟨q,c,eq⟩:=LA.mp m;exact LA.mpr #[q,zE c,eq]
end
def nG(env:Env):List (Str×NameKind)->GA->GA
 | [],a=>a
 | (n,k)::r,a=>nG env r (if k=.free then (match env.cells.lookup n with|some c=>(n,c)::a|none=>a) else a)
theorem pU{env:Env}:∀(names:List (Str×NameKind))(a:GA),(∀x∈names,x.2=.free->∃c,env.cells.lookup x.1=!c) →
  (forIn names a λ(x:Str × NameKind) (r:List (Str × Addr))=>(do
   if x.2 == .free then do
    let c←cellOf env x.1
    pure (ForInStep.yield ((x.1,c)::r))
   else pure (ForInStep.yield r):Sem _))=pure (nG env names a)
 | [],a,_=>rfl
 | (n,k)::r,a,h=>by
  rw[List.forIn_cons];by_cases b:k=.free
  .subst b;obtain⟨c,f⟩:=h (n,.free) eG rfl;have e:env.cells.lookup n=!c:=f;have g:cellOf env n=pure c:=by unfold cellOf;rw[e]
   simp only [beq_self_eq_true,if_true,g,pure_bind];rw[pU r ((n,c)::a) λx d=>h x (cR _ d)];simp[nG,e]
  have i:(k==NameKind.free)=false:=by simpa using b
  simp only [i,Bool.false_eq_true,if_false,pure_bind];rw[pU r a λx d=>h x (cR _ d)];simp[nG,b]
def vT(h:∀x∈a.names,x.2=.free->∃c,env.cells.lookup x.1=!c):closureFor a env=pure (nG env a.names []):=by
 have e:=pU a.names [] h;unfold closureFor;exact(congrArg (λz=>z>>=λ(r:GA)=>(pure r:Sem _)) e).trans<|pure_bind _ _
theorem Dl{env:Env}:∀(names:List (Str×NameKind))(b:GA),(∀y d,(y,d)∈b->env.cells.lookup y=!d)->∀y d,(y,d)∈nG env names b->env.cells.lookup y=!d
 | [],_,h=>h
 | (n,k)::r,b,h=>by
  unfold nG;refine Dl r _ λy d a=>?_
  split at a
  .split at a
   .rename_i c f;rcases mem_cons.mp a with e|e
    .cases e;exact f
    exact h y d e
   exact h y d a
  exact h y d a
def Ja{env:Env}:∀(names:List (Str×NameKind))(a:GA)(y:Str)(d:TD),(y,d)∈nG env names a->(y,.free)∈names∨(y,d)∈a
 | [],_,_,_,h=>.inr h
 | (n,k)::r,a,y,d,h=>by
  unfold nG at h;rcases Ja r _ y d h with e|hm
  .exact .inl<|cR _ e
  split at hm
  .rename_i b;split at hm
   .rcases mem_cons.mp hm with e|e
    .cases e;subst b;exact .inl eG
    exact .inr e
   exact .inr hm
  exact .inr hm
theorem Py{env:Env}:∀(names:List (Str×NameKind))(a:GA)(y:Str),((∃d,(y,d)∈a)∨(y,.free)∈names)->(∀x∈names,x.2=.free->∃c,env.cells.lookup x.1=!c)->∃d,(y,d)∈nG env names a
 | [],_,_,h,_=>by
  rcases h with h|h
  .exact h
  cases h
 | (n,k)::r,a,y,h,b=>by
  unfold nG;refine Py r _ y ?_ λx f=>b x (cR _ f)
  rcases h with⟨d,hd⟩|h
  .refine .inl #[d,?_];split
   .split
    .exact cR _ hd
    exact hd
   exact hd
  rcases mem_cons.mp h with e|e
  .have g:y=n:=congrArg Prod.fst e;have i:NameKind.free=k:=congrArg Prod.snd e;subst g i;obtain⟨c,j⟩:=b (y,.free) eG rfl;have l:env.cells.lookup y=!c:=j;refine .inl #[c,?_];rw[LM rfl,l];exact eG
  exact .inr e
theorem vU{a:Type}:∀ {l:List (Str×a)}{y:Str}{d:a},(y,d)∈l->∃d',l.lookup y=!d'/\(y,d')∈l
 | (n,c)::r,y,d,h=>by
  by_cases e:y=n
  .subst e;exact#[c,by simp[lookup_cons],eG]
  rcases mem_cons.mp h with q|q
  .cases q;exact IZ rfl e
  obtain⟨d',b,f⟩:=vU q;have g:(y==n)=false:=by simpa using e
  exact#[d',by rw[lookup_cons,g];exact b,cR _ f]
def fN(h:(nG env names []).lookup y=!c):env.cells.lookup y=!c/\(y,.free)∈names:=by
 have a:=PySem.mem_of_lookup h;exists Dl names [] (λ_ _ z=>nomatch z) y c a;rcases Ja names [] y c a with e|e
 .exact e
 cases e
def Jb(h:(y,.free)∈names)(b:∀x∈names,x.2=.free->∃c,env.cells.lookup x.1=!c):∃c,(nG env names []).lookup y=!c/\env.cells.lookup y=!c:=by
 obtain⟨d,hd⟩:=Py names [] y (.inr h) b;obtain⟨c,a,_⟩:=vU hd;exact#[c,a,(fN a).1]
def Bc(d:∀y∈a.names,y.2≠.cell)(h:(relabel a env).names.lookup x=some .cell∨(relabel a env).names.lookup x=some .free):(x,.free)∈a.names:=by
 have go:∀ {k:NameKind},k=.cell∨k=.free->(relabel a env).names.lookup x=!k->(x,.free)∈a.names:=λ{k} f h=>by
  have c:=PySem.mem_of_lookup h;unfold relabel at c;obtain⟨⟨n,j⟩,b,e⟩:=LA.mp c;dsimp only at e;split at e
  .rename_i g;cases e;have:j=.free:=by
    have:=(Bool.and_eq_true_iff.mp (Bool.and_eq_true_iff.mp g).1).1;simpa using this
   subst this;exact b
  cases e;rcases f with q|q
  .exact IZ q<|d _ b
  subst q;exact b
 rcases h with h|h
 .exact go (.inl rfl) h
 exact go (.inr rfl) h
theorem qK{env:Env}:∀ {names:List (Str×NameKind)}{x:Str},names.lookup x=some .free →
  (names.map λ(n,k)=>if (k==NameKind.free&&env.scope.kind == .function&&env.kindOf n==some .cell) then (n,NameKind.cell) else (n,k)).lookup x=some .cell∨
  (names.map λ(n,k)=>if (k==NameKind.free&&env.scope.kind == .function&&env.kindOf n==some .cell) then (n,NameKind.cell) else (n,k)).lookup x=some .free
 | [],_,h=>by simp at h
 | (n,k)::r,x,h=>by
  have b:=@qK env r x;rw[map_cons];dsimp only;cases a:x==n with
  | true=>
   simp only [lookup_cons,a]at h;cases h;split
   .left;simp[lookup_cons,a]
   right;simp[lookup_cons,a]
  | false=>
   simp only [lookup_cons,a]at h;split
   .simp only [lookup_cons,a];exact b h
   simp only [lookup_cons,a];exact b h
def rO(X:Cx)(a:Scope)(C:TD)(N:A2)(b:NE)(c:Hp)(fp:BZ):Cx where
 prog:=X.prog
 w:=X.w
 K:=X.K
 mg:=X.mg
 base:=X.base
 A:=X.A
 N:=N
 s₀:=b
 H₀:=c
 env:=compEnvC a (nG X.env a.names []) C X.env
 outer:=X.stack
 stack:=X.stack
 ex:=fp
 fn:=λ_=>false
 calm:=X.calm
 pn:=[]
 xe:=λ_ _=>False
def Fk(js:Di)(a:St):St:=js.map λo=>match o with|some j=>(a[j]?).getD none|none=>none
structure JQ(X:Cx)(scope:Scope)(N:A2)(js:Di):Prop where
 kind:scope.kind=.function
 nocell:∀y∈scope.names,y.2≠.cell
 loc:∀y∈scope.names,y.2=.local->scope.names.lookup y.1=some .local
 len:js.length=N.length
 cap:∀(i j:Nat),js[i]?=!!j->∃x,N[i]?=!x/\X.N[j]?=!x/\scope.names.lookup x=some .free
 out:∀y∈scope.names,y.2=.free->X.env.kindOf y.1=some .cell∨X.env.kindOf y.1=some .free
def Gb(js:Di)(g:TG):Prop:=∀x a H Q,g x a H Q->g x a H λb c=>Q b c/\b.length=a.length/\∀(i j:Nat),js[i]?=!!j->b[i]?=a[i]?
def Jc(js:Di)(g:Ik):Prop:=∀c a H Q,g c a H Q->g c a H λb d=>Q b d/\b.length=a.length/\∀(i j:Nat),js[i]?=!!j->b[i]?=a[i]?
def aR{k:Nat}(h:js[k]?=!none):Gb js (aI k):=λx a H Q q=>by
 refine#[q,Zs,λi j e=>?_];have:k≠i:=λz=>by subst z;rw[h]at e;cases e
 rw[List.getElem?_set_ne this]
def zF:Jc js aBc:=λa b H Q q=>#[q.1,q.2,rfl,λ_ _ _=>rfl]
def lG{k:Nat}(h:js[k]?=!none)(m:Jc js u):Jc js (On (aI k) u):=λs f H Q q=>by
 revert q;refine JR λv r=>JW λe q=>?_;exists v,r,e;obtain⟨_,n⟩:=aR h v f H (λ_ _=>True) trivial;have o:=m r _ _ _ q;have p:(λd g=>Q d g/\d.length=(f.set k<|!v).length/\∀(i j:Nat),js[i]?=!!j->d[i]?=(f.set k<|!v)[i]?)=(λd (g:Hp)=>Q d g/\d.length=f.length/\∀(i j:Nat),js[i]?=!!j->d[i]?=f[i]?):=by
  funext d g
  have l:∀(i j:Nat),js[i]?=!!j->(f.set k<|!v)[i]?=f[i]?:=n.2;apply propext;constructor
  .refine JE λa b c=>?_;exact#[a,by simpa using b,λi j e=>(c i j e).trans<|l i j e]
  refine JE λa b c=>?_;exact#[a,by simpa using b,λi j e=>(c i j e).trans (l i j e).symm]
 show u r (f.set k<|!v) H _;rw[<- p];exact o
def Dm{K:W.Frag}{n:Nat}{t:Ik}(h:Jc js t):Gb js (Wh K n t):=λx f H Q q=>by
 revert q;refine JR λa b=>KJ λe c d q=>?_;exact#[a,b,e,c,d,h b f H Q q]
section
variable {s:NE}
def Un.more{fs e:BZ}{H H':Hp}{h h':Heap}{D:TD}{o:HO}(u:Un fs e H H' h h')(f:h.get? D=none)(a:H D=none):Un fs e H (aH H' D o) h h' where
 keep:=u.keep
 slot:=u.slot
 free:=λb c q n g=>by
  have:b≠D:=λz=>by rw[z,f]at q;cases q
  rw[aD this];exact u.free b c q n g
 there:=u.there
 tups:=λb d q=>by rw[aD (aE q a)];exact u.tups b d q
 frzs:=λb c d q=>by rw[aD (aE q a)];exact u.frzs b c d q
 tbls:=λb ps q=>by rw[aD (aE q a)];exact u.tbls b ps q
def NW.more(k:NW P w H h)(a:H D=none)(new:KU P w (aH H D o) h D o):NW P w (aH H D o) h:=λb u e=>by
 by_cases d:b=D
 .subst d;rw[aA]at e;cases e;exact new
 rw[aD d]at e;exact(k b u e).stay (λ_ _ _ q=>q) (λc q=>by rw[aD (aE q a)];exact q) λc f q=>by rw[aD (aE q a)];exact q
def JQ.ok{f:Scope}{N:A2}{js:Di}{C:TD}{fp:BZ}(S:JQ X f N js)(I:Inv X pins σ H s)(i:s.heap.objs.size<=C)(d:∀b∈fp,rP X pins H b)(j:∀b∈fp,b<s.heap.objs.size) :
  (!"R@.G|C~oQO").Ok where
 mod:=I.ok.mod
 kind:=S.kind
 glob:=I.ok.glob
 blt:=I.ok.blt
 above:=i
 inj:=λx y c g k=>I.ok.inj x y c (fN g).1 (fN k).1
 has:=λx l=>by
  have h:(x,.free)∈f.names:=Bc S.nocell l;obtain⟨c,g,_⟩:=Jb (env:=X.env) h λy m n=>I.ok.has y.1 (S.out y m n)
  exact#[c,g]
 cab:=λx c z=>nomatch z
 hd:=I.ok.hd
 frames:=I.ok.frames
 stk:=.inl rfl
 exf:=λb a=>#[ne_of_lt<|GI (j b a) i,λx c e=>(d b a).2.2.2.2.1 x c (fN e).1]
 bs:=I.bs
 bsz:=gK I.ok.bsz I.sz
 noex:=λb o e a=>by
  rcases(d b a).2.2.2.1 with z|z
  .exact I.ok.noex b o e z
  exact IZ (!"~C~:`I.ok.bsz ~W{gK2 ~<") (Nat.lt_irrefl _)
 exfs:=λb a h=>by
  rcases mem_cons.mp (I.stkSub b h) with z|z
  .exact(d b a).2.1 z
  exact(d b a).2.2.1 z
 funs:=I.stack
 frf:=I.stkFree
def JQ.start{n:Scope}{N:A2}{js:Di}{C D:TD}{fp:BZ}{h:Obj}{h₁:Heap}{m:X5}{tk:Nat}(S:JQ X n N js)(I:Inv X pins σ H s)(A:s.heap.objs.size<=C)(r:s.heap.objs.size<=D)(O:D≠C)(P:∀b∈fp,rP X pins H b)(Q:∀b∈fp,b<s.heap.objs.size)(k:∀b o,s.heap.get? b=!o->h₁.get? b=!o)(R:h₁.Ns C m)(T:h₁.get? D=!h)(U:∀v,h.data≠.cell v) :
  Inv (rO X n C N s H fp) [(D,h)] (Fk js σ) H {s with heap:=h₁,toks:=tk } where
 ok:=S.ok I A P Q
 os:=rfl
 bare:=I.bare
 base:=Un.kept k
 loc:=by
  refine#[m,R,λi x v t a h3=>?_];have t:N[i]?=!x:=t;unfold Fk at a;rw[eJ]at a;cases e:js[i]? with
  | none=>rw[e]at a;cases a
  | some o=>
   rw[e]at a;cases o with
   | none=>cases a
   | some j=>
    have l:(σ[j]?).getD none=!v:=Option.some.inj a;have K:σ[j]?=!!v:=by
     cases q:σ[j]? with
     | none=>rw[q]at l;cases l
     | some z=>rw[q]at l;exact congrArg some l
    refine JB (S.cap i j e) (JU λy=>JE λB V E=>?_);rw[t]at B;cases B;have F:(x,.free)∈n.names:=PySem.mem_of_lookup E;have G:=S.out (x,.free) F rfl;obtain⟨mX,_,L⟩:=I.loc;have M:VY X.env.scope x:=by
     rcases G with z|z
     .exact .inr<|.inl z
     exact .inr (.inr z)
    obtain⟨a0,a1,a2⟩:=L j x v V K M;refine#[a0,a1,.inr ?_];rcases a2 with⟨d,_⟩|⟨d,c,W,Y⟩
    .rcases G with z|z
     .have f:X.env.kindOf x=some .cell:=z;rw[d]at f;cases f
     have f:X.env.kindOf x=some .free:=z;rw[d]at f;cases f
    obtain⟨c',Z,J⟩:=Jb (env:=X.env) F λy hy d=>I.ok.has y.1 (S.out y hy d)
    rw[W]at J;cases J;exists qK E,c,Z;obtain⟨g,u,w⟩:=Y;exact#[g,k c g u,w]
 cell:=λx c e=>by
  obtain⟨v,g,u,w⟩:=I.cell x c (fN e).1;exact#[v,g,k c g u,w]
 free:=I.hok.fresh A
 freeC:=λx c e=>I.freeC x c (fN e).1
 pin:=λp hp=>by
  have e:p=(D,h):=by
   rcases MN.mp hp with z|z
   .exact IZ (show p∈([]:List (TD×Obj)) from z) Zs
   simpa using z
  subst e;refine#[T,I.hok.fresh r,O,λhm=>?_,U];rcases mem_cons.mp (I.stkSub D hm) with z|z
  .have z:D=X.env.locals:=z;have:=I.lt;rw[<- z]at this;exact IZ (GI this r)<|Nat.lt_irrefl _
  exact I.nofs r z
 hok:=I.hok.kept k
 len:=by
  unfold Fk;rw[aV];exact S.len
end
def YM(X:Cx)(d:List Expr)(t:TT):Prop:=
 ∀(b:ZB)(s:NE)(a:St)(H:Hp)(Q:Bool->Hp->Prop)(E:Y7),Inv X b a H s->t a H Q →
  wpAny (model X.prog X.w) X.A (forIn d true λc r=>if r=true then do let ok←isTrue c X.env (eval c X.env);pure (ForInStep.yield ok) else pure (ForInStep.yield r)) (TP X b a Q) E s
def Pz:TT:=λ_ H Q=>Q true H
def Xe:YM X [] Pz:=λa s b H Q E I h=>wpAny_tests_nil #[H,I,h]
def Xf{t:TT}(h:PT X c t)(b:X.xe=λ_ _=>False:=by rfl):YM X [c] t:=λa s d H Q E I q=>
 wpAny_tests_one (wpAny_mono (h a s d H Q I q) (λ_ _ z=>z) λe f z=>by rw[b]at z;exact z.elim)
def tX(js:Di)(g:TG)(j:TT)(k:TE)(o:St)(J:It)(H1:Hp)(Q:A1->Hp->Prop):Prop:=
 ∃W:Nat->Nat->A1->Hp->Prop,(∃m,W 0 m [] H1)/\∀i m a H,W i m a H →
  (J.stop i H/\Q a H)∨
  (J.go i H/\a.length<sizeLine/\∃N:A1->Hp->Prop,(∀e c,N e c->∃f,f<m/\W (i+1) f e c) ∧
   ∀x c,J.yld i H x c->g x (Fk js o) c λd l=>j d l λb h=>if b=true then k d h λy n=>N (a++[y]) n else N a h)
def xt(c:TI)(js:Di)(g:TG)(d:TT)(e:TE):TE:=λb H Q=>c b H λJ f=>
 tX js g d e b J f λh a=>∀p,a p=none->Q (.ref p) (aH a p<|.lst h)
def xu(i:Nat)(c:TI)(js:Di)(g:TG)(d:TT)(e:TE):TS:=λD a H=>c a H λJ f=>
 tX js g d e a J f λh b=>∀p,b p=none->D.nx (a.set i<|!.ref p) (aH b p<|.lst h)
section
variable {tg iter elt:Expr}{ifs:List Expr}{scope:Scope}{N:A2}{js:Di}{wi:TI}{g:TG}{tt:TT}
def vV{P:ZB}{it:TD}{RR:PP->TD->Result->NE->Prop}(hc:X.calm=true)(S:JQ X scope N js)(go:Gb js g)(c:∀(C:TD)(s₂:NE)(H₂:Hp)(fp:BZ),PG (!"RS.G|f|gQO") tg g/\YM (!"RS.G|f|gQO") ifs tt/\PE (!"RS.G|f|gQO") elt te)(L:Inv X P h H2 a)(T:vH X.prog X.w X.K tg a1 fp it Q)(JO:Q 0 a.heap)(f2:∀b∈fp,rP X P H2 b)(hw:tX js g tt te h a1 H2 Qf)(hRR:∀(C D:TD)(ys:A1)(r:Hp)(w:NE)(m:X5),a.heap.objs.size<=C->a.heap.objs.size<=D->D≠C->Inv X P h (aH r D<|.lst ys) w->r C=none->r D=none->w.heap.Ns C m->Qf ys r->RR (.ref D) C (.ok .next) w) :
  wpAny (model X.prog X.w) X.A (newList []) (λacc K=>wpAny (model X.prog X.w) X.A (newFunctionEnv scope X.env.globals (nG X.env scope.names []) [] X.env.qual none .none<|!X.env) (λQX s₄=>
   codeAny (model X.prog X.w) X.A (.compStart (.ListComp elt [#[tg,iter,ifs,0]] scope pos) 0 (.ref it) acc {QX with scope:=relabel scope X.env }) (RR acc QX.locals) s₄) E K) E a:=by
 obtain⟨W,⟨m0,w0⟩,turn⟩:=hw;refine wpAny_newObj_type<|wpAny_newFunctionEnv S.nocell (by intro y hy;simp at hy) (λh₁ R U=>?_) S.kind;dsimp only at R U ⊢;generalize ZY:a.heap.push {cls:=.type "list",dict:=none,data:=.seq ([]:C4).toArray }=Y at R U ⊢;have hC:Y.objs.size=a.heap.objs.size+1:=by rw[<- ZY,Heap.size_push]
 have M:a.heap.objs.size≠Y.objs.size:=by rw[hC];exact ne_of_lt (lt_succ_self _)
 have MZ:a.heap.objs.size<=Y.objs.size:=by rw[hC];exact le_succ _
 have old:∀b o,a.heap.get? b=!o->h₁.get? b=!o:=λb o e=>U.extBut b o (by rw[hC];exact ne_of_lt<|lt_succ_of_lt<|Heap.lt_size e) (jM _<|ZY▸jM _ e)
 have BY:h₁.get? a.heap.objs.size=some {cls:=.type "list",data:=.seq ([]:C4).toArray 0 }:=U.extBut _ _ M<|jM _<|ZY▸TW _ rfl;have Z:∀b∈fp,b<a.heap.objs.size:=λb c=>by
  obtain⟨o,e,_⟩:=T.obj _ _ JO b c;exact Heap.lt_size e
 generalize hDn:a.heap.objs.size=D at M MZ BY ⊢;generalize hCn:Y.objs.size=C at M MZ R ⊢;have WA:a.heap.objs.size<=C:=by rw[hDn];exact MZ
 have A:a.heap.objs.size<=D:=le_of_eq hDn;refine JB (c C a H2 fp) (JE λpg pt pe=>?_);have I0:=S.start (D:=D) (fp:=fp) (tk:=a.toks+([]:FW).length) L WA A M f2 Z old R BY (λv z=>nomatch z);have ZZ:∀ {J:Hp}{s:ZB},(∀b∈fp,J b=none)->(∀p∈s,p.1∉fp)->∀b∈fp,rP (!"RS.GF~VQO") s J b:=λhn t b c=>
  #[hn b c,ne_of_lt<|GI (Z b c) WA,(S.ok L WA f2 Z).exfs b c,.inl c,λx a0 e=>(f2 b c).2.2.2.2.1 x a0 (fN e).1,λp O z=>by
   rcases MN.mp O with q|q
   .exact IZ (show p∈([]:List (TD×Obj)) from q) Zs
   .exact t p q<|z ▸ c]
 have dfp:D∉fp:=λz=>IZ (GI (Z D z) A) (Nat.lt_irrefl _)
 have one:∀ {ob:Obj},∀p∈[(D,ob)],p.1∉fp:=λp t=>by
  have e:=LV.mp t;subst e;exact dfp
 have loop:∀K:NE,K={a with heap:=h₁,toks:=a.toks+([]:FW).length } →
   codeAny (model X.prog X.w) X.A (.compLoop (.ListComp elt [#[tg,iter,ifs,0]] scope pos) 0 (.ref it) (.ref D)<|compEnvC scope (nG X.env scope.names []) C X.env) (RR (.ref D) C) K:=by
  rintro K rfl;refine codeAny_loop rfl (λn s'=>∃(i:Nat)(ys:A1)(J:Hp)(d:C4)(k:Nat),Inv (!"RS.GF~VQO") [(D,{cls:=.type "list",data:=.seq d.toArray k })] (Fk js h) J s'/\Vals ys d/\ys.length<=sizeLine/\Q i s'.heap/\(∀b∈fp,J b=none)/\W i n ys J) ?_ m0 ?_
  .refine λn w=>QL λi ys r d k=>MI λI3 rv hz QM LR w3=>?_;show wpAny _ X.A ((compTurn (.ListComp elt [#[tg,iter,ifs,0]] scope pos) 0 (.ref it) (.ref D)<|compEnvC scope (nG X.env scope.names []) C X.env).onRaise λx=>do noteFrame x _;theTreesLotGoes x) _ _ w;refine wpAny_noted<|wpAny_noRaise ?_;rw[compTurn_list];rcases turn i n ys r w3 with⟨stop,qn⟩|⟨aa',A3,Nx,hN,step⟩
   .refine XV<|wpAny_standAt<|XV<|bR (T.done (rO X scope C N a H2 fp) rfl rfl rfl hc i _ w (Fk js h) r (λ_ _=>False) I3 (ZZ LR one) QM stop) ?_;rintro a2 s4 ⟨hr,B⟩;subst hr;refine W1 ?_;have f:=B.pin (D,{cls:=.type "list",data:=.seq d.toArray k }) (by simp[rO]);obtain⟨mC,hnC,_⟩:=id B.loc;have IX:Inv X P h (aH r D<|.lst ys) s4:=by
     refine L.call' (ch:=fp) B.os (Un.more B.base (Heap.get?_none_of_le A)<|L.hok.fresh A) (NW.more B.hok f.2.1 #[hz,d,k,rv,f.1]) B.bare λb c=>?_;refine JB (f2 b c) (MI λ_ f1 _ f3 f4 f5=>?_);exact#[f3,f1,f4,f5]
    exact hRR C D ys r s4 mC WA A M IX B.free f.2.1 hnC qn
   refine XV<|wpAny_standAt<|XV<|bR (T.item (rO X scope C N a H2 fp) rfl rfl rfl hc i _ w (Fk js h) r (λ_ _=>False) I3 (ZZ LR one) QM aa') ?_;rintro a2 s4 ⟨a3,hr,h4⟩;subst hr;refine XV<|bR h4 ?_;refine λ_ s5=>JR λx H5=>MJ λI5 r5 y5 MU ZN=>?_;have ZO:=I5.pinned (ZZ ZN one)<|T.obj _ _ MU;refine XV<|bR (pg _ s5 (Fk js h) H5 x a3 _ ZO r5<|go _ _ _ _<|step x H5 y5) ?_;refine λ_ s6=>JR λσ6 H6=>JW λI6 ζ=>?_;obtain⟨q6,l6,e6⟩:=ζ;have weak:∀ {s:ZB}{l:Hp}{u:NE},Inv (!"RS.GF~VQO") s σ6 l u->Inv (!"RS.GF~VQO") s (Fk js h) l u:=λ{s l u} G=>by
    refine G.weak l6.symm λj v H=>?_
    cases e:js[j]? with
    | none=>unfold Fk at H;rw[eJ,e]at H;cases H
    | some o=>
     cases o with
     | none=>unfold Fk at H;rw[eJ,e]at H;cases H
     | some j'=>rw[e6 j j' e];exact H
   have LX:∀ {l:Hp}{u:NE}{s:ZB},Inv (!"RS.GF~VQO") (s++vI fp s5.heap) (Fk js h) l u->Q (i+1) u.heap/\∀b∈fp,l b=none:=λ{l u s} G=>by
    refine#[T.keep _ _ _ MU λb c o e=>(G.pin (b,o)<|GJ _<|GJ _<|lF c e).1,λb c=>?_];obtain⟨o,e,a4⟩:=T.obj _ _ MU b c;exact(G.pin (b,o)<|GJ _<|GJ _<|lF c e).2.1
   refine XV<|bR (pt _ s6 σ6 H6 _ _ I6 q6) ?_;rintro ok u ⟨l,G,q7⟩
   cases ok with
   | false=>
    rw[LK WP]at q7;refine W1 #[rfl,?_];obtain⟨m',O,w7⟩:=hN ys l q7;have I7':=weak G;obtain⟨k1,k2⟩:=LX I7';exact#[m',O,i+1,ys,l,d,k,I7'.unpinned,rv,hz,k1,k2,w7]
   | true=>
    rw[LM rfl]at q7;show wpAny _ _ ((eval elt _>>=λx=>call (.builtin "list.append") [.ref D,x]>>=λ_=>pure ())>>=λ_=>again _) _ _ _;refine XV<|XV<|bR (pe _ u σ6 l _ G q7) ?_;refine λy I=>JR λyv H8=>JE λI8 r8 q8=>?_;obtain⟨m',O,w8⟩:=hN (ys++[yv]) H8 q8;have I8':=weak I8;obtain⟨k1,k2⟩:=LX I8';have f:=I8'.pin (D,{cls:=.type "list",data:=.seq d.toArray k }) (by simp[rO]);have hln:=rv.length;refine XV<|call_meets F.slot_list_append #[_,f.1,rfl] F.entry_list_append (F.args_list_append_2 _ _) (PySem.list_append D d.toArray k y (by rw[fK];omega)) #[f.1,?_];refine W1<|W1 #[rfl,m',O,i+1,ys++[yv],H8,d++[y],?_];have q:=PySem.IsL.update f.1 λz=>z.push y;have eA:d.toArray.push y=(d++[y]).toArray:=by simp
    rw[eA]at q;have I9:Inv (!"RS.GF~VQO") [] (Fk js h) H8 I:=I8'.pins_of λp t=>IZ t Zs
    have LY:∀b o,b≠D->I.heap.get? b=!o->(I.heap.update D<|Obj.mapSeq λz=>z.push y).get? b=!o:=λb o c hu=>(Heap.get?_update_other I.heap _<|Ne.symm c).trans hu
    have I10:Inv (!"RS.GF~VQO") [] (Fk js h) H8 {I with heap:=I.heap.update D<|Obj.mapSeq λz=>z.push y,toks:=I.toks }:=I9.turned LY f.2.1 f.2.2.1 (.inr A)
     (λx a0 e z=>by
      obtain⟨v,oc,q1,q2⟩:=L.cell x a0 (fN e).1;rw[z]at q1;exact IZ (!"`q1 ~:|D~<")<|Nat.lt_irrefl _)
     (λp t=>by
      rcases MN.mp t with q|q
      .exact IZ (show p∈([]:List (TD×Obj)) from q) Zs
      .exact IZ q Zs)
    refine#[(if ((d++[y]).toArray).size==d.toArray.size then k else k+1),I10.pins_of λp t=>?_,rv.append<|.cons r8 .nil,?_,?_,k2,w8]
    .have e:=LV.mp t;subst e;exact#[q,f.2.1,f.2.2.1,f.2.2.2.1,λv z=>nomatch z]
    .rw[mU,length_singleton];omega
    exact T.keep _ _ _ k1 λb c o e=>LY b o (λz=>dfp<|z▸c) e
  exact#[0,[],H2,[],0,I0,.nil,zero_le _,T.keep _ _ _ JO λb _ o e=>old b o e,λb c=>(f2 b c).1,w0]
 exact codeAny_compStart_list (loop _ rfl)<|T.self _ 0 _ _ _ (T.keep _ _ _ JO λb _ o e=>old b o e)<|loop _ rfl
def Xg(r:X.calm=true)(S:JQ X scope N js)(go:Gb js g)(t:PI X tg iter wi)(j:∀(C:TD)(f:NE)(i:Hp)(fp:BZ),PG (!"RS.G@~KQO") tg g/\YM (!"RS.G@~KQO") ifs tt/\PE (!"RS.G@~KQO") elt te)(hs:∀x,foldedSetIterable iter X.env x=pure x:=by intro _;rfl):PE X (.ListComp elt [#[tg,iter,ifs,0]] scope pos) (xt wi js g tt te):=by
 intro k s n H Q I h;rw[eval_ListComp];refine wpAny_comprehension_free (use:=none) rfl hs (vT λy u w=>I.ok.has y.1<|S.out y u w) S.kind S.loc<|bR (t k s n H _ I h) λv W A=>bR A λY Z B=>?_;revert B;refine QL λit fp tn a0 H2=>MI λe a T E f2 F=>?_;subst e;refine vV (RR:=λo C=>compPost (model X.prog X.w) X.A X.xe none (EP X k n Q) o C) r S go j a T E f2 F ?_;intro C D G J K m d hD L M O P R q;refine#[m,R,λh' U=>?_];refine#[.ref D,aH J D<|.lst G,M.turned (it:=C) (t':=K.toks) (λb a1 j e=>(U.2 b j).trans e) (by rw[aD (Ne.symm L)];exact O) ?_ (.inr<|gK a.sz d) ?_ ?_,rfl,q D P]
 .exact ne_of_gt<|GI a.lt d
 .intro x c e z;obtain⟨v,oc,l,q2⟩:=a.cell x c e;rw[z]at l;exact IZ (!"~/~:e~<")<|Nat.lt_irrefl _
 intro p V z;have:=Heap.lt_size (a.pin p V).1;rw[z]at this;exact IZ (GI this d)<|Nat.lt_irrefl _
def Xh{i:Nat}(A:X.N.Nodup)(m:X.N[i]?=!y)(B:Loc X.env.scope y)(E:X.calm=true)(S:JQ X scope N js)(go:Gb js g)(F:PI X tg iter wi)(n:∀(C:TD)(j:NE)(k:Hp)(fp:BZ),PG (!"RS.G~D|EQO") tg g/\YM (!"RS.G~D|EQO") ifs tt/\PE (!"RS.G~D|EQO") elt te)(r:swapsWith (.ListComp elt [#[tg,iter,ifs,0]] scope pos) (!.Name y b) p.line X.env=pure true)(hs:∀x,foldedSetIterable iter X.env x=pure x:=by intro _;rfl)(G:X.fn y=true∨X.env.scope.names.lookup y=some .local:=by first|exact .inl rfl|exact .inr rfl|assumption) :
  PS X (.Assign [.Name y b] (.ListComp elt [#[tg,iter,ifs,0]] scope pos) p) (xu i wi js g tt te):=by
 intro l s σ a0 D I a1;rw[exec_Assign_Name_used _ _ _ _ r];refine XV<|wpAny_standAt<|XV ?_;show wpAny _ X.A (do let _ ← comprehension (.ListComp elt [#[tg,iter,ifs,0]] scope pos) scope X.env _ (newList []) false (eval iter X.env) (!assign (.Name y b) X.env)) _ _ s;refine XV (bR (wpAny_comprehension_free (use:=some (assign (.Name y b) X.env)) (Q:=λ_ f=>SP X l D .next f) rfl hs (vT λy m H=>I.ok.has y.1<|S.out y m H) S.kind S.loc
  (bR (F l s σ a0 _ I a1) λv s1 J=>bR J λVT s2 K=>?_)) λ_ f L=>W1<|W1 L)
 revert K;refine QL λit fp tn a7 H2=>MI λe d a2 M f2 O=>?_;subst e;refine vV (RR:=λt C=>compPost (model X.prog X.w) X.A X.xe (!assign (.Name y b) X.env) (λ_ f=>SP X l D .next f) t C) E S go n d a2 M f2 O ?_;intro C Da ys H3 s3 a3 h hD P R T U V a4;have cne:∀x c,X.env.cells.lookup x=!c->c≠C:=λx c e z=>by
  obtain⟨v,oc,q,q2⟩:=d.cell x c e;rw[z]at q;exact IZ (!"~.~:`h ~<") (Nat.lt_irrefl _)
 have o:C≠X.env.locals:=ne_of_gt<|GI d.lt h;show wpAny _ X.A (assign (.Name y b) X.env<|.ref Da) _ _ _;refine wpAny_assign_Name<|yS (v:=.ref Da) R A m B rfl (λW Y u=>?_) G;obtain⟨a,w,Z⟩:=u;have aC:C≠a:=by
  rcases Z with z|z
  .rw[z];exact o
  exact Ne.symm (cne y a z)
 refine#[a3,V.sameBut w aC,λh' QY=>?_];refine#[_,_,Y.turned (it:=C) (t':=W.toks) (λa5 a8 n e=>(QY.2 a5 n).trans e) (by rw[aD (Ne.symm P)];exact T) o (.inr<|gK d.sz h) cne ?_,a4 Da U];intro a6 hp z;have:=Heap.lt_size (d.pin a6 hp).1;rw[z]at this;exact IZ (GI this h)<|Nat.lt_irrefl _
end
def hT(x:Str):It:=#[λi _=>i<x.cps.size,λi H v a=>a=H/\∃c,x.cps[i]?=!c/\v=.str #[(toArray [c])],λi _=>x.cps.size<=i]
def Gc{P:Program}{w:World}{K:W.Frag}{G:Expr}(it:TD)(x:Str)(t:Tok):vH P w K G (hT x) [it] it (λi h=>h.IsStrIter it "str_ascii_iterator" x t i) where
 mem:=by simp
 obj:=λi h st b a=>by
  have e:b=it:=by simpa using a
  subst e;revert st;refine JU λo=>JE λe c d=>?_;exact#[o,e,λv z=>by rw[d]at z;cases z]
 keep:=λi h f st k=>let #[o,J,r]:=st;#[o,k it Zs o J,r]
 item:=by
  intro X l m n C i B s F H E I g st p;subst l m n;refine JB (g it Zs) (MI λq f1 f2 u y A=>?_);have j:i<x.cps.size:=p;refine wpAny_pyNext_ascii_item st (c:=x.cps[i]) (by simp[j]) λf D L=>?_;have M:Inv X B F H {s with heap:=f,toks:=s.toks+1 }:=I.turned (λb o a e=>(L.2 b a).trans e) q f1 u y A;refine JB (id D) (JU λo=>JE λe c d=>?_);exact#[_,rfl,tP (s:={s with heap:=f,toks:=s.toks+1 }) e c d Zd #[.str #[(toArray [x.cps[i]])],H,M,#[_,rfl],#[rfl,_,by simp[j],rfl],D,λb a=>(g b a).1]]
 done:=by
  intro X l m n C i B s F H E I g st p;subst l m n;refine JB (g it Zs) (MI λq f1 f2 u y A=>?_);have j:x.cps.size<=i:=p;exact wpAny_pyNext_ascii_end (I.ok.hd C) st (by simp[j]) λf N=>#[rfl,I.turned (t':=s.toks) (λb o a e=>N b o a e) q f1 u y A]
 self:=λ_ _ _ _ _ st h=>wpAny_pyIter_striter_ascii st h
def Lm{P:Program}{w:World}{K:W.Frag}{G:Expr}(it:TD)(x:Str)(t:Tok):vH P w K G (hT x) [it] it (λi h=>h.IsStrIter it "str_iterator" x t i) where
 mem:=by simp
 obj:=λi h st b a=>by
  have e:b=it:=by simpa using a
  subst e;revert st;refine JU λo=>JE λe c d=>?_;exact#[o,e,λv z=>by rw[d]at z;cases z]
 keep:=λi h f st k=>let #[o,J,r]:=st;#[o,k it Zs o J,r]
 item:=by
  intro X l m n C i B s F H E I g st p;subst l m n;refine JB (g it Zs) (MI λq f1 f2 u y A=>?_);have j:i<x.cps.size:=p;refine wpAny_pyNext_wide_item st (c:=x.cps[i]) (by simp[j]) λf D L=>?_;have M:Inv X B F H {s with heap:=f,toks:=s.toks+1 }:=I.turned (λb o a e=>(L.2 b a).trans e) q f1 u y A;refine JB (id D) (JU λo=>JE λe c d=>?_);exact#[_,rfl,tP (s:={s with heap:=f,toks:=s.toks+1 }) e c d Zd #[.str #[(toArray [x.cps[i]])],H,M,#[_,rfl],#[rfl,_,by simp[j],rfl],D,λb a=>(g b a).1]]
 done:=by
  intro X l m n C i B s F H E I g st p;subst l m n;refine JB (g it Zs) (MI λq f1 f2 u y A=>?_);have j:x.cps.size<=i:=p;exact wpAny_pyNext_wide_end (I.ok.hd C) st (by simp[j]) λf N=>#[rfl,I.turned (t':=s.toks) (λb o a e=>N b o a e) q f1 u y A]
 self:=λ_ _ _ _ _ st h=>wpAny_pyIter_striter_wide st h
section
variable {tg:Expr}
def xw(a:TE):TI:=λc H R=>a c H λx b=>∃z,x=.str z/\R (hT z) b
def aBG(k:PE X l g):PI X tg l (xw g):=by
 intro f s r H R I h;refine bR (k f s r H _ I h) ?_;refine λv a=>JR λx d=>JE λc m n=>?_
 obtain⟨z,rfl,q⟩:=n;obtain⟨t,rfl⟩:=m;have i:∀b∈[a.heap.objs.size],rP X f d b:=λb p=>by
  have e:b=a.heap.objs.size:=by simpa using p
  subst e;exact c.fpOk (bD _) (c.hok.fresh<|bD _)
 cases j:z.cps.all (·<128)
 .refine wpAny_pyIter_wide j ?_;exact#[a.heap.objs.size,[a.heap.objs.size],_,_,d,rfl,c.kept (t':=a.toks) λb o e=>jM _ e,Lm _ z t,#[_,TW _ rfl,rfl,rfl],i,q]
 refine wpAny_pyIter_ascii j ?_;exact#[a.heap.objs.size,[a.heap.objs.size],_,_,d,rfl,c.kept (t':=a.toks) λb o e=>jM _ e,Gc _ z t,#[_,TW _ rfl,rfl,rfl],i,q]
end
abbrev tx(l:DO):Str:=#[l.toArray]
def Gd(x:Str):tx x.cps.toList=x:=by cases x;simp
def dO(l:DO):(tx l).length=l.length:=by simp[Str.length]
def Bd(a b:DO):tx a++tx b=tx (a++b):=by
 show Str.append (tx a) (tx b)=_;unfold Str.append;simp
def Xi(x y:Str):(x++y).cps.toList=x.cps.toList++y.cps.toList:=by
 show(Str.append x y).cps.toList=_;unfold Str.append;simp
def jK{a:Type}(xs:List a)(lo b:DJ):List a:=(xs.drop<|HT.sIx xs.length 0 lo).take<|HT.sIx xs.length xs.length b-HT.sIx xs.length 0 lo
def Jd(n d:Nat)(v:DJ):(match v with|none=>(d:Int)|some i=>max 0<|min (if i<0 then i+(n:Int) else i) (n:Int))=((HT.sIx n d v:Nat):Int):=by
 cases v with
 | none=>rfl
 | some i=>
  show max 0 (min (if i<0 then i+(n:Int) else i) (n:Int))=(((if i<0 then (i+(n:Int)).toNat else min i.toNat n):Nat):Int);by_cases h:i<0
  .rw[LM h,LM h];omega
  rw[LK h,LK h];omega
def Qa(lo a:DJ)(n:Nat):Builtin.Str.strSliceIndices lo a 1 n=(List.range<|HT.sIx n n a-HT.sIx n 0 lo).map (HT.sIx n 0 lo+·):=by
 rw[<- sliceRange_one,<- Jd n 0 lo,<- Jd n n a];unfold Builtin.Str.strSliceIndices;simp only [show(1:Int)>0 by decide,if_true];cases lo<;>cases a<;>rfl
def Xj(n d:Nat)(hd:d<=n)(v:DJ):HT.sIx n d v<=n:=by
 cases v with
 | none=>exact hd
 | some i=>
  show(if i<0 then (i+(n:Int)).toNat else min i.toNat n)<=n;split<;>omega
def Ln(x:Str)(lo a:DJ):(Txt.slice x lo a).cps.toList=jK x.cps.toList lo a:=by
 have b:x.cps.toList.length=x.length:=by simp[Str.length]
 unfold Txt.slice jK;rw[b,Qa];have c:=pick_run x.cps (HT.sIx x.length 0 lo)<|HT.sIx x.length x.length a-HT.sIx x.length 0 lo;split
 .rename_i h;have d:(HT.sIx x.length x.length a-HT.sIx x.length 0 lo)=x.length:=by simpa using h
  have f:=Xj x.length x.length (bD _) a;have h4:HT.sIx x.length 0 lo=0∨x.length=0:=by omega
  rw[d];rcases h4 with h4|h4
  .rw[h4,drop_zero,mW (by rw[b];exact bD _)]
  have e:x.cps.toList=[]:=List.eq_nil_of_length_eq_zero (by rw[b];exact h4);rw[e];simp
 simpa using c
def Qb(x:Str)(lo a:DJ):Txt.slice x lo a=tx (jK x.cps.toList lo a):=by
 rw[<- Ln,Gd]
def aEK:V->DJ->DJ->Hp->VK->Prop:=λx lo a H Q=>∃z,x=.str z/\z.length<=sizeLine/\Q (.str<|tx<|jK z.cps.toList lo a) H
def Ge{h:Heap}{sl:TD}{lo c:DJ}(hs:h.IsSliceOf sl a b .none)(pl:IsPart a lo)(d:IsPart b c):∃l u:Option (Int×Tok),h.IsSlice sl l u none/\l.map (·.1)=lo/\u.map (·.1)=c:=by
 cases pl with
 | none=>
  cases d with
  | none=>exact#[none,none,hs,rfl,rfl]
  | int j t=>exact#[none,!(j,t),hs,rfl,rfl]
 | int i t=>
  cases d with
  | none=>exact#[!(i,t),none,hs,rfl,rfl]
  | int j u=>exact#[!(i,t),!(j,u),hs,rfl,rfl]
def aBH:RZ X aEK:=by
 intro c s p H x v r w lo b sl Q I e f g i h;revert h;refine JU λz=>JE λζ j q=>?_;subst ζ;obtain⟨t,rfl⟩:=e;refine JB (Ge f g i) (JR λl u=>JE λm n o=>?_);refine#["str",_,F.slot_str_getitem.lookup,typeIs_str _ _ _,wpAny_getItem_str_slice m rfl ?_];have d:∀a k,EP X c p Q (.str (Txt.slice z lo b) a) {s with toks:=k }:=λa k=>#[.str<|tx<|jK z.cps.toList lo b,H,I.tok _,#[a,by rw[Qb]],q]
 subst n o;exact post_val_or_str #[gK (Txt.slice_le z _ _) j,λa k=>d a k]
def pV:∀ {us:C4},Vals (a.map V.str) us->StrsAre us a:=by
 induction a with
 | nil=>intro us r;rw[map_nil]at r;cases r;exact .nil
 | cons n a b=>
  intro us r;rw[map_cons]at r;cases r with
  | cons c d=>
   obtain⟨t,e⟩:=c;subst e;exact .cons n t<|b d
def Qc(K:W.Frag):V->A1->Hp->VK->Prop:=λx vs H Q=>∃b p a,x=.str b/\vs=[.ref p]/\MO K H p (a.map V.str)/\(a.map (·.length)).sum+a.length*b.length<=16777216/\Q (.str<|Txt.join b a) H
def Xk:YG X "str.join" (Qc X.K):=by
 intro g s o H x vs v l Q I a b h;revert h;refine LB λi p m=>MJ λζ η c d q=>?_;subst ζ η;obtain⟨t,rfl⟩:=a;obtain⟨u,rfl,e⟩:=b.one;cases e;refine JB (I.list c) (JU λj=>JE λr f _=>?_);exact join_list f.isList (by simpa using pV r) d λn k=>#[.str _,H,I.tok _,#[_,rfl],q]
def aEL(K:W.Frag):A1->Hp->VK->Prop:=λvs H Q=>∃x T t b,vs=[x,.ty T]/\qG K H x t/\W.kitOne K t (.type T)=!b/\Q (.bl b) H
def Qd:LQ X (.builtin "isinstance") (aEL X.K):=by
 intro j s l H k a Q I r h;revert h;refine NF λx T t b=>KJ λζ ty e q=>?_;subst ζ;obtain⟨u,c,rfl,d,f⟩:∃u c,a=[u,c]/\RelV x u/\RelV (.ty T) c:=by
  cases r with
  | cons p q=>
   cases q with
   | cons g i=>
    cases i;exact#[_,_,rfl,p,g]
 cases(show c=Value.type T from f);exact Lb I d ty e λtk=>#[.bl b,H,I.tok _,rfl,q]
def tY:∀ {us:C4},Vals (a.map V.bl) us->PyProof.Rows.LSm.BoolsAre us a:=by
 induction a with
 | nil=>intro us r;rw[map_nil]at r;cases r;exact .nil
 | cons n a b=>
  intro us r;rw[map_cons]at r;cases r with
  | cons c d=>
   have e:=c;cases(show _=Value.bool n from e);exact .cons n<|b d
def n0(K:W.Frag):A1->Hp->VK->Prop:=λvs H Q=>∃(p:TD)(bs:List Bool),vs=[.ref p]/\MO K H p (bs.map V.bl)/\Q (.bl<|bs.all id) H
def n7(K:W.Frag):A1->Hp->VK->Prop:=λvs H Q=>∃(p:TD)(bs:List Bool),vs=[.ref p]/\MO K H p (bs.map V.bl)/\Q (.bl<|bs.any id) H
def oD(K:W.Frag):A1->Hp->VK->Prop:=λvs H Q=>∃(p:TD)(a:EZ),vs=[.ref p]/\MO K H p (a.map V.int)/\Q (.int<|List.sum a) H
def Qe(g:X.calm=true):LQ X (.builtin "all") (n0 X.K):=by
 intro w s F H x y Q I r h;revert h;refine JR λp bs=>JE λζ j q=>?_;subst ζ;obtain⟨u,rfl,k⟩:=gX r;cases k;obtain⟨a,l,m,z⟩:=I.list j;have c:=m.isList;have d:=tY l;have n:p<s.heap.objs.size:=by obtain⟨_,e,_⟩:=c;exact Heap.lt_size e
 refine call_all_walk<|wpAny_pyIter_list c ?_;refine#[s.heap.objs.size,[s.heap.objs.size,p],[s.heap.objs.size],a.toArray.size,_,_,λi=>(bs[i]?).getD true,rfl,Walks.list (A:=X.A.in1) (I.ok.hd g) _ p (ne_of_lt n) a.toArray,
  #[#[_,TW _ rfl,rfl,rfl],c.push _],λi v B C D o f=>?_,λE tk t=>?_]
 .obtain⟨b,e,rfl⟩:=d.get i v (by simpa using o);simp only [e,Option.getD_some]at f;exact wpAny_truthy_bool f
 have e:((List.range a.toArray.size).all λi=>(bs[i]?).getD true)=bs.all id:=by
  rw[fK,d.length];exact PyProof.Rows.LSm.range_all bs
 rw[e];exact#[.bl _,H,I.kept<|PyProof.Rows.LSm.kept_iter t,rfl,q]
def Qg(g:X.calm=true):LQ X (.builtin "any") (n7 X.K):=by
 intro w s F H x y Q I r h;revert h;refine JR λp bs=>JE λζ j q=>?_;subst ζ;obtain⟨u,rfl,k⟩:=gX r;cases k;obtain⟨a,l,m,z⟩:=I.list j;have c:=m.isList;have d:=tY l;have n:p<s.heap.objs.size:=by obtain⟨_,e,_⟩:=c;exact Heap.lt_size e
 refine call_any_walk<|wpAny_pyIter_list c ?_;refine#[s.heap.objs.size,[s.heap.objs.size,p],[s.heap.objs.size],a.toArray.size,_,_,λi=>(bs[i]?).getD false,rfl,Walks.list (A:=X.A.in1) (I.ok.hd g) _ p (ne_of_lt n) a.toArray,
  #[#[_,TW _ rfl,rfl,rfl],c.push _],λi v B C D o f=>?_,λE tk t=>?_]
 .obtain⟨b,e,rfl⟩:=d.get i v (by simpa using o);simp only [e,Option.getD_some]at f;exact wpAny_truthy_bool f
 have e:((List.range a.toArray.size).any λi=>(bs[i]?).getD false)=bs.any id:=by
  rw[fK,d.length];exact PyProof.Rows.LSm.range_any bs
 rw[e];exact#[.bl _,H,I.kept<|PyProof.Rows.LSm.kept_iter t,rfl,q]
def Qh(f:X.calm=true):LQ X (.builtin "sum") (oD X.K):=by
 intro t s z H a v Q I r h;revert h;refine JR λp b=>JE λζ g q=>?_;subst ζ;obtain⟨u,rfl,i⟩:=gX r;cases i;obtain⟨e,j,k,w⟩:=I.list g;have c:=vK j;obtain⟨a,d⟩:=c.allInts.items;have l:s.heap.IsList p (intItems a):=d▸k.isList;refine sum_intListG (I.ok.hd f) l λx tk y m=>?_;have n:b=a.toList.map (·.1):=by
  rw[<- nums_intItems,<- d];exact(show numsOf e.toArray.toList=b from c.numsOf).symm
 have o:preSum (numAt a) a.size=b.sum:=by
  rw[preSum_eq,mW Zs,n]
 rw[o];exact#[.int _,H,I.kept m,#[_,rfl],q]
def Gg(K:W.Frag)(d:Bool):R2:=λx y H Q=>∃(a b:TD)(c:A1),x=.ref a/\y=.ref b/\MO K H a c/\MO K H b []/\Q (.bl (if d then (not c.isEmpty) else c.isEmpty)) H
def zG(r:Vals [] us):us=[]:=by cases r;rfl
def Qi(c:X.A.units<cLine):LZ X (compareOp .NotEq) (Gg X.K true):=by
 intro w s D H x y v u Q I i k h;revert h;refine LB λa b l=>MJ λζ η m n q=>?_;subst ζ η;cases i;cases k;obtain⟨A,d,f,_⟩:=I.list m;obtain⟨B,o,g,_⟩:=I.list n;have p:=zG o;subst p;have r:=d.length
 cases l with
 | nil=>
  have t:=zG d;subst t;exact SeqAt.RcNeAt.lists (e:=λ_=>true) f.isList g.isList rfl c (λj h=>IZ h Zs) _ _ _ _ #[.bl false,H,I,rfl,q]
 | cons z C=>
  exact SeqAt.RcNeAt.lists_lengths f.isList g.isList (by simp only [fK,<- r];simp) c _ _ _ _ #[.bl true,H,I,rfl,q]
def mB(x:V)(k:Bool->Prop):Prop:=match x with|.bl b=>k b|_=>False
def mI(x:V)(k:Int->Prop):Prop:=match x with|.int b=>k b|_=>False
def mS(x:V)(k:Str->Prop):Prop:=match x with|.str b=>k b|_=>False
def mR(x:V)(k:TD->Prop):Prop:=match x with|.ref b=>k b|_=>False
def Do(x:V)(k:Bool->Prop):mB x k=∃b,x=.bl b/\k b:=by
 cases x<;>simp[mB]
def qL(x:V)(k:Int->Prop):mI x k=∃b,x=.int b/\k b:=by
 cases x<;>simp[mI]
def qM(x:V)(k:Str->Prop):mS x k=∃b,x=.str b/\k b:=by
 cases x<;>simp[mS]
def cX(x:V)(k:TD->Prop):mR x k=∃b,x=.ref b/\k b:=by
 cases x<;>simp[mR]
def uR{n:Nat}(h:Nat.ble n 1000=true):n<=sizeLine:=gK (IY h) Zd
def jL{n:Nat}(h:n<=1000):n<=sizeLine:=gK h Zd
section
variable {a b c e:Expr}{tc:TE}
def vr(i:Nat):TE:=λd H Q=>match d[i]? with|some (!v)=>Q v H|_=>False
def aDp(i:Nat):vr i=mi i:=by
 funext d H Q
 unfold vr mi;apply propext
 cases d[i]? with
 | none=>simp
 | some o=>cases o<;>simp
def xv(i:Nat)(d:X.N[i]?=!x:=by rfl)(f:VY X.env.scope x:=by first|exact Or.inl rfl|exact Or.inr (Or.inl rfl)|exact Or.inr<|Or.inr rfl)(hd:OV x:=by decide)(g:(x==("__classdict__":Str))=false:=by decide):PE X (.Name x pos) (vr i):=by
 rw[aDp];exact aA0 d f hd g
def LZ.imp(h:LZ X f r)(g:∀x y H Q,r' x y H Q->r x y H Q):LZ X f r':=λd s k H x y v u Q I i j q=>h d s k H x y v u Q I i j<|g x y H Q q
def X7.imp(h:X7 X f r)(g:∀x H Q,r' x H Q->r x H Q):X7 X f r':=λd s j H x v Q I i q=>h d s j H x v Q I i<|g x H Q q
def LQ.imp(h:LQ X f r)(g:∀xs H Q,r' xs H Q->r xs H Q):LQ X f r':=λd s k H xs i Q I j q=>h d s k H xs i Q I j<|g xs H Q q
def RM.imp(h:RM X r)(g:∀x y H Q,r' x y H Q->r x y H Q):RM X r':=λd slice f s k H x y v u Q I i j q=>h d slice f s k H x y v u Q I i j<|g x y H Q q
def RZ.imp(h:RZ X r)(g:∀x l u H Q,r' x l u H Q->r x l u H Q):RZ X r':=λf s p H x v i j lo d sl Q I k m n o q=>h f s p H x v i j lo d sl Q I k m n o<|g x lo d H Q q
def m2(C:Int->Int->Prop)(g:Int->Int->V):R2:=λx y H Q=>mI x λi=>mI y λj=>C i j/\Q (g i j) H
def Gh(g:Int->Int->V):R2:=λx y H Q=>mI x λi=>mI y λj=>Q (g i j) H
def oJ(x y:V)(H:Hp)(Q:VK)(h:Gh g x y H Q):Wj g x y H Q:=by
 unfold Gh at h;rw[qL]at h;obtain⟨i,rfl,h⟩:=h;rw[qL]at h;obtain⟨j,rfl,h⟩:=h;exact#[i,j,rfl,rfl,h]
def Be(x y:V)(H:Hp)(Q:VK)(h:m2 C g x y H Q):rI C g x y H Q:=by
 unfold m2 at h;rw[qL]at h;obtain⟨i,rfl,h⟩:=h;rw[qL]at h;obtain⟨j,rfl,d,h⟩:=h;exact#[i,j,rfl,rfl,d,h]
def aDq:LZ X (binaryOp .Add) (Gh λi j=>.int<|i+j):=aBn.imp oJ
def aDr:LZ X (binaryOp .Sub) (Gh λi j=>.int<|i-j):=aBo.imp oJ
def aDs:LZ X (binaryOp .Mult) (m2 RU λi j=>.int<|i*j):=aBp.imp Be
def aDt:LZ X (binaryOp .Mod) (m2 (λ_ j=>0<j) λi j=>.int<|i%j):=aBq.imp Be
def aDu:LZ X (binaryOp .Pow) (m2 nh λi j=>.int<|i^j.toNat):=aBr.imp Be
def aEM:LZ X (compareOp .Lt) (Gh λi j=>.bl<|decide (i<j)):=aDa.imp oJ
def aEN:LZ X (compareOp .LtE) (Gh λi j=>.bl<|decide (i<=j)):=aDb.imp oJ
def aEO:LZ X (compareOp .Gt) (Gh λi j=>.bl<|decide (j<i)):=aDc.imp oJ
def aEP:LZ X (compareOp .GtE) (Gh λi j=>.bl<|decide (j<=i)):=aDd.imp oJ
def Qj:R2:=λx y H Q=>mS x λi=>mS y λj=>i.length+j.length<=sizeLine/\Q (.str<|i++j) H
def aBL:LZ X (binaryOp .Add) Qj:=Fo.imp λx y H Q h=>by
 unfold Qj at h;rw[qM]at h;obtain⟨i,rfl,h⟩:=h;rw[qM]at h;obtain⟨j,rfl,d,h⟩:=h;exact#[i,j,rfl,rfl,d,h]
def mEq:R2:=λx y H Q=>match x,y with
 | .int i,.int j=>Q (.bl<|decide (i=j)) H
 | .str i,.str j=>Q (.bl<|decide (i=j)) H
 | .bl i,.bl j=>Q (.bl<|decide (i=j)) H
 | .non,.non=>Q (.bl true) H
 | .int _,.non=>Q (.bl false) H|.non,.int _=>Q (.bl false) H
 | .str _,.non=>Q (.bl false) H|.non,.str _=>Q (.bl false) H
 | .bl _,.non=>Q (.bl false) H|.non,.bl _=>Q (.bl false) H
 | .int _,.str _=>Q (.bl false) H|.str _,.int _=>Q (.bl false) H
 | .bl _,.str _=>Q (.bl false) H|.str _,.bl _=>Q (.bl false) H
 | _,_=>False
def mNe:R2:=λx y H Q=>match x,y with
 | .int i,.int j=>Q (.bl<|(not (decide (i=j)))) H
 | .str i,.str j=>Q (.bl<|(not (decide (i=j)))) H
 | .bl i,.bl j=>Q (.bl<|(not (decide (i=j)))) H
 | .non,.non=>Q (.bl false) H
 | .int _,.non=>Q (.bl true) H|.non,.int _=>Q (.bl true) H
 | .str _,.non=>Q (.bl true) H|.non,.str _=>Q (.bl true) H
 | .bl _,.non=>Q (.bl true) H|.non,.bl _=>Q (.bl true) H
 | .int _,.str _=>Q (.bl true) H|.str _,.int _=>Q (.bl true) H
 | .bl _,.str _=>Q (.bl true) H|.str _,.bl _=>Q (.bl true) H
 | _,_=>False
def aER:LZ X (compareOp .Eq) mEq:=vt.imp λx y H Q h=>by
 unfold rEq;cases x<;>cases y<;>first|exact h.elim|exact#[rfl,h]|(exists rfl;have h:Q (.bl _) H:=h;simpa using h)
def aES:LZ X (compareOp .NotEq) mNe:=vu.imp λx y H Q h=>by
 unfold rNe;cases x<;>cases y<;>first|exact h.elim|exact#[rfl,h]|(exists rfl;have h:Q (.bl _) H:=h;simpa using h)
def oi(d:Bool):R2:=λx y H Q=>mS x λi=>mS y λj=>∃c,i=tx [c]/\Q (.bl (if d then (not (decide (c∈j.cps.toList))) else decide (c∈j.cps.toList))) H
def aDv:LZ X (compareOp .In) (oi false):=Kw.imp λx y H Q h=>by
 unfold oi at h;rw[qM]at h;obtain⟨i,rfl,h⟩:=h;rw[qM]at h;obtain⟨j,rfl,c,rfl,h⟩:=h;exists _,j,rfl,rfl;have e:=StrLaws.found_one j c;have d:(not ((Builtin.Str.occurrences j (tx [c]) 0 j.length 1).isEmpty))=decide (c∈j.cps.toList):=e;rw[d];exact h
def aDw:LZ X (compareOp .Is) (λx y H Q=>match y with|.non=>Q (.bl<|decide (x=.non)) H|_=>False):=aBt.imp λx y H Q h=>by
 cases y<;>first|exact#[rfl,h]|exact h.elim
def aBN:LZ X (compareOp .IsNot) (λx y H Q=>match y with|.non=>Q (.bl<|(not (decide (x=.non)))) H|_=>False):=Wl.imp λx y H Q h=>by
 cases y<;>first|exact#[rfl,h]|exact h.elim
def mT(t:TE):TT:=λf H Q=>t f H λx d=>mB x λk=>Q k d
def x3(t:TE):mT t=Ip t:=by
 funext f H Q
 unfold mT Ip;congr 1
 funext x d
 exact Do x _
def aBO(t:TE):mT t=tB t:=by
 funext f H Q
 unfold mT tB;congr 1
 funext x d
 exact Do x _
def aDx{op:CmpOp}(d:LZ X (compareOp op) r)(f:PE X a ta)(g:PE X b tb)(h:behindInMarks op b=false:=by first|exact Ao _|rfl):PT X (.Compare a [op] [b] pos) (mT<|yT r ta tb):=by
 rw[x3];exact Wn d f g h
def aDy{op:CmpOp}(d:LZ X (compareOp op) r)(f:PE X a ta)(g:PE X b tb)(h:behindInMarks op b=false:=by first|exact Ao _|rfl):PE X (.Compare a [op] [b] pos) (yT r ta tb):=Wm d f g h
def rT(r r':R2)(ta tb tc:TE):TE:=λd H Q=>ta d H λx g=>tb d g λy h=>r x y h λz f=>mB z λk=>(if k=true then tc d f λi j=>r' y i j Q else Q (.bl false) f)
def zH(r r':R2)(ta tb tc:TE):rT r r' ta tb tc=Ap r r' ta tb tc:=by
 funext h H Q
 unfold rT Ap;congr 1
 funext x d
 congr 1
 funext y f
 congr 1
 funext z g
 exact Do z _
def Xl{op d:CmpOp}(f:LZ X (compareOp op) r)(g:LZ X (compareOp d) r')(h:PE X a ta)(i:PE X b tb)(j:PE X c tc)(k:lastMarks [op,d] [b,c]=false:=by with_unfolding_all rfl):PE X (.Compare a [op,d] [b,c] pos) (rT r r' ta tb tc):=by
 rw[zH];exact Ou f g h i j k
def Xm{op d:CmpOp}(f:LZ X (compareOp op) r)(g:LZ X (compareOp d) r')(h:PE X a ta)(i:PE X b tb)(j:PE X c tc)(k:lastMarks [op,d] [b,c]=false:=by with_unfolding_all rfl):PT X (.Compare a [op,d] [b,c] pos) (mT<|rT r r' ta tb tc):=by
 rw[x3,zH];exact Ov f g h i j k
def aDz{t:TE}(h:PE X e t)(d:∀whole,isTrue e X.env whole=(do let v←whole;standAt e.pos;holding [v] (truthy v)):=by intro _;rfl):PT X e (mT t):=by
 rw[aBO];exact aA4 h d
def Je(ta tb:TE):TE:=λf H Q=>ta f H λx d=>mB x λc=>if c=true then tb f d Q else Q (.bl false) d
def Xn(ta tb:TE):TE:=λf H Q=>ta f H λx d=>mB x λc=>if c=true then Q (.bl true) d else tb f d Q
def aDA(d:PE X a ta)(f:PE X (.BoolOp .And (b::rest) pos) tb):PE X (.BoolOp .And (a::b::rest) pos) (Je ta tb):=by
 have:Je ta tb=Oi ta tb:=by
  funext h H Q;unfold Je Oi;congr 1;funext x g;exact Do x _
 rw[this];exact aBa d f
def aET(d:PE X a ta)(f:PE X (.BoolOp .Or (b::rest) pos) tb):PE X (.BoolOp .Or (a::b::rest) pos) (Xn ta tb):=by
 have:Xn ta tb=mr ta tb:=by
  funext h H Q;unfold Xn mr;congr 1;funext x g;exact Do x _
 rw[this];exact aC2 d f
def aDB(d:PE X a ta):PE X (.UnaryOp .USub a pos) (nc (λx H Q=>mI x λi=>Q (.int<|-i) H) ta):=aC8 (aBs.imp λx H Q h=>by
 rw[qL]at h;obtain⟨i,rfl,h⟩:=h;exact#[i,rfl,h]) d
inductive oj(S:A1->Prop)(i:Int)(Q:V->Prop):Prop
 | mk (xs:A1) (h1:S xs) (v:V) (h2:pI xs i=!v) (q:Q v):oj S i Q
def Qk(K:W.Frag):R2:=λx y H Q=>mR x λp=>mI y λi=>oj (MO K H p) i λv=>Q v H
def Bf(K:W.Frag):R2:=λx y H Q=>mR x λp=>mI y λi=>oj (O7 K H p) i λv=>Q v H
def aBP:R2:=λx y H Q=>mS x λz=>mI y λi=>z.length<=sizeLine/\∃c,pI z.cps.toList i=!c/\Q (.str<|tx [c]) H
def aBQ:RM X (Qk X.K):=Ww.imp λx y H Q h=>by
 unfold Qk at h;rw[cX]at h;obtain⟨p,rfl,h⟩:=h;rw[qL]at h;obtain⟨i,rfl,d,f,v,g,h⟩:=h;exact#[p,d,i,v,rfl,rfl,f,g,h]
def aDC:RM X (Bf X.K):=aBy.imp λx y H Q h=>by
 unfold Bf at h;rw[cX]at h;obtain⟨p,rfl,h⟩:=h;rw[qL]at h;obtain⟨i,rfl,d,f,v,g,h⟩:=h;exact#[p,d,i,v,rfl,rfl,f,g,h]
def aDD:RM X aBP:=aBz.imp λx y H Q h=>by
 unfold aBP at h;rw[qM]at h;obtain⟨z,rfl,h⟩:=h;rw[qL]at h;obtain⟨i,rfl,d,c,f,h⟩:=h;exact#[z,i,c,rfl,rfl,d,f,h]
def aEV(d:RM X r)(f:PE X a ta)(g:PE X b tb)(hs:Av b:=by exact λ_ _=>rfl):PE X (.Subscript a b pos) (yT r ta tb):=aDi d f g hs
def Jf(t:TE):TO:=λf H Q=>t f H λx d=>mI x λi=>Q (!i) d
def aBR(h:PE X e te):PO X (!e) (Jf te):=by
 have:Jf te=Pc te:=by
  funext f H Q;unfold Jf Pc;congr 1;funext x d;exact qL x _
 rw[this];exact Wu h
def aBS:V->DJ->DJ->Hp->VK->Prop:=λx lo d H Q=>mS x λz=>z.length<=sizeLine/\Q (.str<|tx<|jK z.cps.toList lo d) H
def aDE:RZ X aBS:=aBH.imp λx l u H Q h=>by
 unfold aBS at h;rw[qM]at h;obtain⟨z,rfl,d,h⟩:=h;exact#[z,rfl,d,h]
def Xo(K:W.Frag):V->DJ->DJ->Hp->VK->Prop:=λx lo f H Q=>mR x λa=>∃d,MO K H a d/\∀p,H p=none->Q (.ref p) (aH H p<|.lst<|jK d lo f)
def aBT:RZ X (Xo X.K):=Wx.imp λx l u H Q h=>by
 unfold Xo at h;rw[cX]at h;obtain⟨a,rfl,d,f,h⟩:=h;exact#[a,d,rfl,f,h]
def aBU:LQ X (.builtin "len") (λvs H Q=>match vs with|[.str z]=>z.length<=sizeLine/\Q (.int z.length) H|_=>False):=Az.imp λvs H Q h=>by
 split at h
 .rename_i z;exact#[z,rfl,h.1,h.2]
 exact h.elim
def aBV:LQ X (.builtin "len") (λvs H Q=>match vs with|[.ref p]=>∃ys,(MO X.K H p ys∨O7 X.K H p ys)/\Q (.int ys.length) H|_=>False):=Ay.imp λvs H Q h=>by
 split at h
 .rename_i p;obtain⟨ys,d,h⟩:=h;exact#[p,ys,rfl,d,h]
 exact h.elim
def aDF:LQ X (.type "int") (λvs H Q=>match vs with|[.bl k]=>Q (.int (if k then 1 else 0)) H|_=>False):=Kx.imp λvs H Q h=>by
 split at h
 .rename_i k;exact .inr #[k,rfl,h]
 exact h.elim
end
inductive Kd where|non|bl|int|str|lst|tup|dct
def Xp:Kd->String|.non=>"NoneType"|.bl=>"bool"|.int=>"int"|.str=>"str"|.lst=>"list"|.tup=>"tuple"|.dct=>"dict"
def SM(H:Hp):V->Kd->Prop
 | .non,.non=>True|.bl _,.bl=>True|.int _,.int=>True|.str _,.str=>True
 | .ref a,.lst=>(∃b,H a=!.lst b)∨∃o b,H a=!(.frz o<|.lst b)
 | .ref a,.tup=>∃b,H a=!.tup b
 | .ref a,.dct=>∃c,H a=!.dK c
 | _,_=>False
def d6:Kd->Kd->Bool|.non,.non=>true|.bl,.bl=>true|.int,.int=>true|.int,.bl=>true|.str,.str=>true|.lst,.lst=>true|.tup,.tup=>true|.dct,.dct=>true|_,_=>false
def aDH(K:W.Frag)(a k:Kd):W.kitOne K (.type<|Xp k) (.type<|Xp a)=!d6 a k:=by
 cases a<;>cases k<;>first|rfl|kernel_rfl
def aEW{K:W.Frag}{k:Kd}(h:SM H x k):qG K H x (.type<|Xp k):=by
  cases x<;>cases k<;>first
    | exact h.elim
    | exact .non
    | exact .bl _
    | exact .int _
    | exact .str _
    | (obtain⟨a,e⟩:=h;exact .tup e)
    | (obtain⟨a,e⟩:=h;exact .dK e)
    | (rcases h with⟨a,e⟩ | ⟨o,a,e⟩
       . exact .lst e
       . exact .frz e)
def ov(a:Kd):A1->Hp->VK->Prop:=λvs H Q=>match vs with
 | [x,y]=>y=.ty (Xp a)/\∃k,SM H x k/\Q (.bl<|d6 a k) H
 | _=>False
section
def aDI(a:Kd):LQ X (.builtin "isinstance") (ov a):=Qd.imp λvs H Q h=>by
 unfold ov at h;split at h
 .rename_i x y;obtain⟨rfl,k,b,h⟩:=h;exact#[x,_,_,_,rfl,aEW b,aDH X.K a k,h]
 exact h.elim
variable {e:Expr}{p p2:Pos}{T:Str}
def o1(b:Kd)(te:TE):TE:=λc H Q=>te c H λx a=>∃k,SM a x k/\Q (.bl<|d6 b k) a
def aDJ(a:Kd)(f:PE X e te)(g:Gl X "isinstance")(i:X.mg "isinstance"=none)(j:Gl X T)(l:X.mg T=none)(m:bootBuiltins T=!(.type<|Xp a))(hs:starEach [e,.Name T p2] X.env=(false,eval e X.env)::starEach [.Name T p2] X.env:=by rfl)(n:starEach [.Name T p2] X.env=(false,eval (.Name T p2) X.env)::starEach [] X.env:=by rfl)(o:T≠"__name__":=by decide)(hd:OV T:=by decide)(r:(backTo pos<|starEach [.Name T p2] X.env).any (·.1)=false:=by rfl) :
  PE X (.Call (.Name "isinstance" p) [e,.Name T p2] [] pos) (o1 a te):=by
 have h:=Db (X:=X) (x:="isinstance") (p:=p) (pos:=pos) (aDI a) g i PyProof.Rows.boot_isinstance (Ar f (Ar (Vy (v:=.ty (Xp a)) (pos:=p2) j l m rfl o hd) Fu n) hs) Zd Zd hs r;intro d s c H Q I q;exact h d s c H Q I (by
  show te c H _;have:(λ(x:V) (b:Hp)=>ov a [x,.ty (Xp a)] b Q)=(λx b=>∃k,SM b x k/\Q (.bl<|d6 a k) b):=by
   funext x b
   apply propext;constructor
   .rintro⟨_,z⟩;exact z
   intro z;exact#[rfl,z]
  exact this ▸ q)
end
structure Callee(P:Program)(w:World)(K:W.Frag)(mg:X5)(base:Heap)(n:Nat)(x:Str)(ps:A2)(sp:Sp):Prop where
 ex:∃(f:TD)(fd:FuncData),MY P w K mg base vP n f fd ps sp/\mg x=!.ref f/\f^1/\Binds K fd ps []
section
variable {n:Nat}{x:Str}{ps:A2}{sp:Sp}{p:Pos}{e:Expr}{es:List Expr}{t:TA}
def pD(sp:Sp)(t:TA):TE:=λb H Q=>t b H λvs a=>sp vs a Q E0
def aEY(c:Callee X.prog X.w X.K X.mg X.base n x ps sp)(g:LO n X.A)(i:Gl X x)(j:PA X (e::es) t)(k:OV x:=by decide)(l:starEach (e::es) X.env=(false,eval e X.env)::starEach es X.env:=by rfl)(m:(backTo pos<|starEach es X.env).any (·.1)=false:=by rfl):PE X (.Call (.Name x p) (e::es) [] pos) (pD sp t):=by
 refine JB c.ex (JR λf v=>KJ λF o r u=>?_);have h:=Wr (X:=X) (p:=p) (pos:=pos) (E:=E0) F g i o r u (dvs:=[]) .nil zC j k l m;intro d s b H Q I q;exact h d s b H Q I (by
  show t b H _;have:(λ(vs:A1) (a:Hp)=>sp (vs++[]) a Q E0)=(λvs a=>sp vs a Q E0):=by
   funext vs a;rw[append_nil]
  rw[this];exact q)
end
structure KY(K:W.Frag)(mg:X5)(x:Str)(st:Stmt)(ps:A2):Prop where
 ex:∃(f:TD)(fd:FuncData),RO K x x st f fd/\mg x=!.ref f/\Binds K fd ps []
def KY.ok{P:Program}{w:World}{K:W.Frag}{mg:X5}{base:Heap}{x:Str}{st:Stmt}{N ps:A2}{k:Nat}{sp:Sp}(D:KY K mg x st ps)(S:aG N ps (aB st))(len:∀vs H Q E,sp vs H Q E->vs.length=ps.length)(c:∀(f:TD)(a:PP)(A:Around)(b:List Env)(s:NE)(H:Hp)(vs:A1)(Q:VK)(E:XK),LO k (!"X~-~(a@Ffw")->sp vs H Q E →
   ∃t,RI (pT vP P w K mg base N x (aB st) f a A b s H E).nox (aZ st) t/\t {nx:=λ_ H'=>Q .non H',rt:=Q } (start N vs) H):Callee P w K mg base (k+1) x ps sp:=by
 refine JB D.ex (JR λf d=>JE λF e g=>?_);exact#[f,d,F.ok S len<|c f,e,F.kp,g]
def Ql(a:Scope)(b:A2)(scope:Scope)(N:A2)(js:Di):Bool:=
 (scope.kind == .function)&&scope.names.all (λy=>y.2 != .cell)&&scope.names.all (λy=>y.2 != .local||scope.names.lookup y.1==some .local)&&(js.length==N.length)&&
 (List.range js.length).all (λi=>match js[i]? with|some (!j)=>(match N[i]? with|some x=>b[j]? == some x&&scope.names.lookup x==some .free|none=>false)|_=>true)&&
 scope.names.all (λy=>y.2 != .free||a.names.lookup y.1==some .cell||a.names.lookup y.1==some .free)
def JQ.by(a:Scope)(f:A2)(g:X.env.scope=a)(h:X.N=f)(ok:Ql a f d N js=true):JQ X d N js:=by
 unfold Ql at ok;simp only [Bool.and_eq_true]at ok;obtain⟨⟨⟨⟨⟨k,l⟩,m⟩,n⟩,o⟩,p⟩:=ok;refine#[by simpa using k,λy b=>?_,λy b c=>?_,by simpa using n,λi j e=>?_,λy b c=>?_]
 .have:=all_eq_true.mp l y b;simpa using this
 .have:=all_eq_true.mp m y b;rw[c]at this;simpa using this
 .have r:i<js.length:=(NJ.mp e).1;have:=all_eq_true.mp o i<|mem_range.mpr r;rw[e]at this;cases q:N[i]? with
  | none=>simp[q]at this
  | some x=>
   simp only [q,Bool.and_eq_true,beq_iff_eq]at this;exact#[x,rfl,by rw[h];exact this.1,this.2]
 have:=all_eq_true.mp p y b;rw[c]at this;have z:(a.names.lookup y.1==some .cell)=true∨(a.names.lookup y.1==some .free)=true:=by simpa using this
 have s:X.env.kindOf y.1=a.names.lookup y.1:=by rw[<- g];rfl
 rw[s];rcases z with z|z
 .exact .inl (by simpa using z)
 exact .inr (by simpa using z)
def aT:Expr->Bool|.Starred _ _=>false|_=>true
def bS(h:aT e=true):starEach (e::es) env=(false,eval e env)::starEach es env:=by
 cases e<;>first|rfl|cases h
def gY(h:es.all aT=true):(backTo pos<|starEach es env).any (·.1)=false:=by
 induction es with
 | nil=>rfl
 | cons e es a=>
  rw[all_cons,Bool.and_eq_true]at h;rw[bS h.1];have:=a h.2;show(false||(backTo pos<|starEach es env).any (·.1))=false;rw[this];rfl
section
variable {e o:Expr}{es:List Expr}{to:TE}{t:TA}{x:Str}{p:Pos}{id T:String}{r:A1->Hp->VK->Prop}
def Qm(a:PE X e te)(b:PA X es t)(h:aT e=true:=by rfl):PA X (e::es) (tT te t):=Ar a b<|bS h
def Xq(a:LQ X (.builtin id) r)(b:Gl X x)(c:X.mg x=none)(d:bootBuiltins x=!.builtin id)(f:PA X (e::es) t)(g:x≠"__name__":=by decide)(h:OV x:=by decide)(i:aT e=true:=by rfl)(j:es.all aT=true:=by rfl):PE X (.Call (.Name x p) (e::es) [] pos) (YF r t):=Db a b c d f g h (bS i)<|gY j
def Qn(a:LQ X (.type T) r)(b:Gl X x)(c:X.mg x=none)(d:bootBuiltins x=!.type T)(f:PA X (e::es) t)(g:x≠"__name__":=by decide)(h:OV x:=by decide)(i:aT e=true:=by rfl)(j:es.all aT=true:=by rfl):PE X (.Call (.Name x p) (e::es) [] pos) (YF r t):=Ld a b c d f g h (bS i)<|gY j
def aDK{n:Nat}{ps:A2}(c:Callee X.prog X.w X.K X.mg X.base n x ps sp)(a:LO n X.A)(b:Gl X x)(d:PA X (e::es) t)(f:OV x:=by decide)(g:aT e=true:=by rfl)(h:es.all aT=true:=by rfl):PE X (.Call (.Name x p) (e::es) [] pos) (pD sp t):=aEY c a b d f (bS g)<|gY h
def Qo(h:es.all aT=true):(backTo cpos<|starEach es env).all (λx=>(not (x.1)))=true:=by
 induction es with
 | nil=>rfl
 | cons e es a=>
  rw[all_cons,Bool.and_eq_true]at h;rw[bS h.1];show((not false)&&(backTo cpos<|starEach es env).all (λx=>(not (x.1))))=true;rw[a h.2];rfl
def aEZ{r:V->A1->Hp->VK->Prop}(c:PlainAttrs T)(slot:Slot T name id)(d:typeOf (.builtin id)=pure (.type "method_descriptor"))(f:YG X id r)(g:PE X o to)(h:PA X (e::es) t)(i:attributeBase o name X.env (eval o X.env)=eval o X.env:=by rfl)(j:(apos.endLine==cpos.line)=true:=by rfl)(a:aT e=true:=by rfl)(b:es.all aT=true:=by rfl)(k:es.length+1<30:=by decide) :
  PE X (.Call (.Attribute o name apos) (e::es) [] cpos) (hP X.K T r to t):=by
 refine aDj c slot d f g h i ?_ j (bS a)<|gY b;rw[Qo (by rw[all_cons,a,b];rfl)];show(true&&true&&decide (es.length+1+0+0<30))=true;simp;omega
def aBY{b:Pos}{T:Str}(a:Kd)(c:PE X e te)(d:Gl X "isinstance")(f:X.mg "isinstance"=none)(g:Gl X T)(h:X.mg T=none)(i:bootBuiltins T=!(.type<|Xp a))(j:T≠"__name__":=by decide)(hd:OV T:=by decide)(k:aT e=true:=by rfl):PE X (.Call (.Name "isinstance" p) [e,.Name T b] [] pos) (o1 a te):=
 aDJ a c d f g h i (bS k) (bS rfl) j hd (gY rfl)
end
def eI:bootBuiltins "len"=!.builtin "len":=by decide +kernel
def Qp:bootBuiltins "all"=!.builtin "all":=by decide +kernel
def aBZ:bootBuiltins "any"=!.builtin "any":=by decide +kernel
def aB0:bootBuiltins "sum"=!.builtin "sum":=by decide +kernel
def fO:bootBuiltins "sorted"=!.builtin "sorted":=by decide +kernel
def Qq:bootBuiltins "max"=!.builtin "max":=by decide +kernel
def Jg:bootBuiltins "list"=!.type "list":=by decide +kernel
def Gi:bootBuiltins "str"=!.type "str":=by decide +kernel
def Gj:bootBuiltins "int"=!.type "int":=by decide +kernel
def Xr:bootBuiltins "bool"=!.type "bool":=by decide +kernel
def vW:bootBuiltins "tuple"=!.type "tuple":=by decide +kernel
def Jh:bootBuiltins "dict"=!.type "dict":=by decide +kernel
structure Dk(H:Hp)(d b:TD):Prop where
 ex:∃(ns:EZ)(s k:Int),H d=!.lst [.ref b,.int s,.int k]/\H b=!(.lst<|ns.map V.int)/\ns.length<=63
def Kp(d b:TD)(H H':Hp):Prop:=∀c o,H c=!o->c≠d->c≠b->H' c=!o
def Kp.refl:Kp d b H H:=λ_ _ e _ _=>e
def Kp.trans(x:Kp d b H H1)(y:Kp d b H1 H2):Kp d b H H2:=λc o e a f=>y c o (x c o e a f) a f
def Kp.new(h:H p=none):Kp d b H (aH H p o):=λc u e _ _=>by rw[aD (aE e h)];exact e
def Dk.new(x:Dk H d b)(h:H p=none):Dk (aH H p o) d b:=by
 refine JB x.ex (LB λe s k=>JE λa c f=>?_);exact#[e,s,k,by rw[aD (aE a h)];exact a,by rw[aD (aE c h)];exact c,f]
def Qr(K:W.Frag):Sp:=λvs H Q _=>∃(a:TD)(e:EZ),vs=[.ref a]/\MO K H a (e.map V.int)/\∀d b c,H d=none->H b=none->Dk c d b->I7 H c->Q (.ref d) c
def Xs{A B:Prop}(h:c=true)(k:A):if c=true then A else B:=by rw[LM h];exact k
def Dp{A B:Prop}(h:c=false)(k:B):if c=true then A else B:=by rw[LK (by rw[h];exact WP)];exact k
def eN{A B:Prop}(a:c=true->A)(b:c=false->B):if c=true then A else B:=by
 cases h:c with
 | true=>rw[LM rfl];exact a h
 | false=>rw[LK WP];exact b h
open PySem PySem.Spec PyProof.Rows
structure yD(J:It)(xs:A1)(A:Hp->Prop):Prop where
 go:∀i H,i<xs.length->A H->J.go i H
 yld:∀i H x H',i<xs.length->A H->J.yld i H x H'->H'=H/\xs[i]?=!x
 stop:∀H,A H->J.stop xs.length H
def zI(x:Str):A1:=x.cps.toList.map λc=>V.str<|tx [c]
def Xt(x:Str):yD (hT x) (zI x) (λ_=>True):=by
 have a:(zI x).length=x.cps.size:=by simp[zI]
 refine#[λi H b _=>by rw[a]at b;exact b,λi H v g _ _ #[e,c,d,f]=>#[e,?_],λH _=>by rw[a];exact bD _];subst f;unfold zI;rw[eJ,Array.getElem?_toList,d];rfl
def nO(lo:Int)(n:Nat):A1:=(List.range n).map λ(i:Nat)=>V.int<|lo+(i:Int)
def iX(lo:Int)(n:Nat):yD (hB lo n) (nO lo n) (λ_=>True):=by
 have b:(nO lo n).length=n:=by simp[nO]
 refine#[λi H a _=>by rw[b]at a;exact a,λi H v d a _ #[e,c]=>#[e,?_],λH _=>by rw[b];exact bD _];subst c;rw[b]at a;unfold nO;rw[eJ,List.getElem?_range a];rfl
def aX(K:W.Frag)(a:TD)(xs:A1):yD (UE K a) xs (λH=>MO K H a xs):=
 #[λi H b h=>#[xs,xs[i],h,by simp[b]],λi H x c _ h #[e,y]=>#[e,y xs h],λH h=>#[xs,h,bD _]]
def lH(K:W.Frag)(a:TD)(xs:A1):yD (m5 K a) xs (λH=>O7 K H a xs):=
 #[λi H b h=>#[xs,xs[i],h,by simp[b]],λi H x c _ h #[e,y]=>#[e,y xs h],λH h=>#[xs,h,bD _]]
def bB{A:Hp->Prop}{j:TE}(S:yD J xs A)(hz:xs.length<=100000)(Pv:Nat->A1->Hp->Prop)(n:∀i ys H,Pv i ys H->A H/\ys.length<=i)(o:Pv 0 [] H)(hs:∀i x ys H,xs[i]?=!x->Pv i ys H->g x (Fk js l) H λf H2=>h f H2 λb k=>if b=true then j f k λy q=>Pv (i+1) (ys++[y]) q else Pv (i+1) ys k)(hd:∀ys H,Pv xs.length ys H->Q ys H):tX js g h j l J H Q:=by
 exists λi m ys H=>m=xs.length-i/\i<=xs.length/\Pv i ys H,#[xs.length,Zs,zero_le _,o];refine λi m ys H=>JE λζ t p=>?_;subst ζ;obtain⟨a,u⟩:=n i ys H p;by_cases c:i<xs.length
 .refine .inr #[S.go i H c a,yR (m:=100000) Zo Zd,Pv<|i+1,λv d r=>#[xs.length-(i+1),Zo,rfl,c,r],λx d y=>?_];obtain⟨rfl,s⟩:=S.yld i H x d c a y;exact hs i x ys d s p
 have e:i=xs.length:=by omega
 subst e;exact .inl #[S.stop H a,hd ys H p]
def Lo{A:Hp->Prop}(S:yD J xs A)(hz:xs.length<=100000)(p:V->Bool)(f:V->V)(q:A H)(hs:∀(x:V)(ys:A1)(N:A1->Hp->Prop),x∈xs->(p x=true->N (ys++[f x]) H)->(p x=false->N ys H)->g x (Fk js o) H λj H2=>l j H2 λb d=>if b=true then m j d λy r=>N (ys++[y]) r else N ys d)(hd:Q ((xs.filter p).map f) H):tX js g l m o J H Q:=by
 refine bB S hz (λi ys a=>ys=((xs.take i).filter p).map f/\a=H) (λi ys a #[e,c]=>#[by rw[c];exact q,?_]) #[Zs,rfl] (?_)<|?_
 .rw[e,aV];exact gK (length_filter_le _ _) (by rw[mV];exact Nat.min_le_left _ _)
 .rintro i x ys a n ⟨e,c⟩;subst c;have k:(xs.take<|i+1).filter p=(xs.take i).filter p++(if p x=true then [x] else []):=take_succ_filter p xs i x n;refine hs x ys (λs d=>s=((xs.take<|i+1).filter p).map f/\d=a) (kI n) (λh=>#[?_,rfl]) λh=>#[?_,rfl]
  .rw[k,LM h,dL,e];rfl
  rw[k,LK (by rw[h];exact WP),append_nil,e]
 rintro ys a ⟨e,c⟩;subst c;rw[e,mW (bD _)];exact hd
def bT{A:Hp->Prop}{g:TG}{tb:TS}{D:iE}(S:yD J xs A)(Pv:Nat->St->Hp->Prop)(h:∀i a H,Pv i a H->A H)(j:Pv 0 a H)(hs:∀(i:Nat)(x:V) a H,xs[i]?=!x->Pv i a H->g x a H λb H2=>tb {D with nx:=Pv<|i+1,ct:=Pv<|i+1,bk:=D.nx } b H2)(hd:∀ a H,Pv xs.length a H->D.nx a H) :
  ∃W:Nat->Nat->St->Hp->Prop,(∃m,W 0 m a H)/\∀i m a H,W i m a H →
   (J.stop i H/\D.nx a H)∨(J.go i H/\∃N:St->Hp->Prop,(∀ c H',N c H'->∃m',m'<m/\W (i+1) m' c H')/\∀x H',J.yld i H x H'->g x a H' λb H2=>tb {D with nx:=N,ct:=N,bk:=D.nx } b H2):=by
 exists λi m a H=>m=xs.length-i/\i<=xs.length/\Pv i a H,#[xs.length,Zs,zero_le _,j];refine λi m a H=>JE λζ n p=>?_;subst ζ;have d:=h i a H p;by_cases f:i<xs.length
 .refine .inr #[S.go i H f d,Pv<|i+1,λc H' k=>#[xs.length-(i+1),Zo,rfl,f,k],λx H' y=>?_];obtain⟨rfl,l⟩:=S.yld i H x H' f d y;exact hs i x a H' l p
 have e:i=xs.length:=by omega
 subst e;exact .inl #[S.stop H d,hd a H p]
open PySem
def aF(h:H p=none):I7 H (aH H p o):=λb u q=>by rw[aD (aE q h)];exact q
def nQ(xs:List a)(k:Nat):jK xs none (!(k:Int))=xs.take k:=by
 unfold jK;rw[HT.sIx_none,HT.sIx_nat,drop_zero,Nat.sub_zero,<- List.take_take,mW (bD _)]
def vX(xs:List a)(k:Nat):jK xs (!(k:Int)) none=xs.drop k:=by
 unfold jK;rw[HT.sIx_none,HT.sIx_nat];by_cases h:k<=xs.length
 .rw[Nat.min_eq_left h,mW (by rw[length_drop];exact bD _)]
 rw[Nat.min_eq_right Zo,List.drop_of_length_le (bD _),List.drop_of_length_le Zo,List.take_nil]
def Xu(f:b->c)(xs:List b)(lo a:DJ):jK (xs.map f) lo a=(jK xs lo a).map f:=by
 unfold jK;rw[aV,<- List.map_drop,<- map_take]
open PySem PySem.Spec PyProof.Rows
def fE(h:H p=!o)(a:H q=none):aH H q u p=!o:=by rw[aD (aE h a)];exact h
def qN{i:Int}(b:0<=i)(d:i<xs.length):∃v,pI xs i=!v/\v∈xs:=by
 obtain⟨j,rfl⟩:=c8 b;have a:j<xs.length:=by omega
 exact#[xs[j],eW (by simp[a]),getElem_mem a]
theorem Ji(g:Array Nat):∀(ps:A2)(a:Array Nat),(ps.foldl (λa p=>a++g++p.cps) a).toList=a.toList++(ps.map λp=>g.toList++p.cps.toList).flatten
 | [],a=>by simp
 | p::ps,a=>by
  rw[foldl_cons,Ji g ps];simp
def Qs(ps:A2):(Txt.join (tx []) ps).cps.toList=(ps.map λp=>p.cps.toList).flatten:=by
 unfold Txt.join Builtin.Str.glued;rw[Ji];cases ps with
 | nil=>simp[Str.empty]
 | cons p ps=>simp
def Xv(ps:A2):Txt.join (tx []) ps=tx (ps.map λp=>p.cps.toList).flatten:=by rw[<- Qs,Gd]
def Gk(a:DO):Txt.join (tx []) (a.map λc=>tx [c])=tx a:=by
 rw[Xv,map_map];congr 1
 congr 1
 induction a with
 | nil=>rfl
 | cons c r b=>rw[map_cons,List.flatten_cons,b];rfl
def Qt:("":Str)=tx []:=by decide +kernel
def Dk.ne(x:Dk H d b)(h:H p=none):p≠d/\p≠b:=by
 refine JB x.ex (LB λe s k=>JE λa c f=>?_);exact#[(aE a h).symm,(aE c h).symm]
def Dq(x:Str):x=tx x.cps.toList:=(Gd x).symm
theorem Dr:∀a:DO,((a.map λc=>tx [c]).map (·.length)).sum=a.length
 | []=>rfl
 | c::a=>by
  rw[map_cons,map_cons,List.sum_cons,Dr a,mY];show 1+a.length=_;omega
def x4{t:TT}(R:Bool->Hp->Prop)(h:∀k:Bool->Hp->Prop,(∀v H',R v H'->k v H')->t a H k)(b:∀v H',R v H'->Q v H'):t a H Q:=h Q b
def x5{t:TS}(R:St->Hp->Prop)(h:∀nx:St->Hp->Prop,(∀ a H',R a H'->nx a H')->t {D with nx:=nx } b H)(c:∀ a H',R a H'->D.nx a H'):t D b H:=h D.nx c
def SM.same{k:Kd}(s:I7 H H')(h:SM H x k):SM H' x k:=by
  cases x<;>cases k<;>first
    | exact h
    | (obtain⟨a,e⟩:=h;exact#[a,s _ _ e])
    | (rcases h with⟨a,e⟩ | ⟨o,a,e⟩
       . exact .inl #[a,s _ _ e]
       . exact .inr #[o,a,s _ _ e])
def Dk.same(s:I7 H H')(h:Dk H d b):Dk H' d b:=by
 refine JB h.ex (LB λa c k=>JE λe f g=>?_);exact#[a,c,k,s _ _ e,s _ _ f,g]
open PySem PySem.Spec PyProof.Rows
structure XE(X:Cx)(e:Expr)(t:TE):Prop where
 h:PE X e t
structure XT(X:Cx)(e:Expr)(t:TT):Prop where
 h:PT X e t
structure XW(X:Cx)(e:Expr)(t:TT):Prop where
 h:PW X e t
structure XA(X:Cx)(es:List Expr)(t:TA):Prop where
 h:PA X es t
structure XS(X:Cx)(st:Stmt)(t:TS):Prop where
 h:PS X st t
structure XB(X:Cx)(st:List Stmt)(t:TS):Prop where
 h:RI X st t
structure XI(X:Cx)(tg iter:Expr)(t:TI):Prop where
 h:PI X tg iter t
structure XG(X:Cx)(e:Expr)(t:TG):Prop where
 h:PG X e t
structure d7(X:Cx)(es:List Expr)(t:Ik):Prop where
 h:dt X es t
structure XO(X:Cx)(e:Option Expr)(t:TO):Prop where
 h:PO X e t
structure hY(X:Cx)(cs:List Expr)(t:TT):Prop where
 h:YM X cs t
structure pz(X:Cx)(t:Kr):Prop where
 h:We X t
structure kN(X:Cx)(f:PP->PP->Sem Value)(r:R2):Prop where
 h:LZ X f r
structure WC(X:Cx)(r:R2):Prop where
 h:RM X r
structure d9(X:Cx)(r:V->DJ->DJ->Hp->VK->Prop):Prop where
 h:RZ X r
structure XC(X:Cx)(f:PP)(r:A1->Hp->VK->Prop):Prop where
 h:LQ X f r
structure XM(X:Cx)(id:String)(r:V->A1->Hp->VK->Prop):Prop where
 h:YG X id r
namespace R
section
variable {a b c e o i:Expr}{es rest:List Expr}{tc to ti:TE}{tA JN:TT}{t u:TA}{p p2 pos':Pos}{x:Str}{n:Nat}{r r':R2}
def v(i:Nat)(d:X.N[i]?=!x:=by rfl)(f:VY X.env.scope x:=by first|exact Or.inl rfl|exact Or.inr (Or.inl rfl)|exact Or.inr<|Or.inr rfl)(hd:OV x:=by decide)(g:(x==("__classdict__":Str))=false:=by decide):XE X (.Name x pos) (vr i):=#[xv i d f hd g]
def int{i j pos}:XE X (.Constant (.int i) j pos) (tC<|.int i):=#[aA1]
def bl{b j pos}:XE X (.Constant (.bool b) j pos) (tC<|.bl b):=#[aCZ]
def ce{j pos}:XE X (.Constant .none j pos) (tC .non):=#[aA2]
def af{x j pos}:XE X (.Constant (.str x) j pos) (tC<|.str x):=#[aA3]
def gS(f:Gl X x)(d:∃t,X.mg x=!.str z t)(hd:OV x:=by decide):XE X (.Name x pos) (tC<|.str z):=by
 obtain⟨t,d⟩:=d;exact#[Am f d #[t,rfl] hd]
def gI(f:Gl X x)(d:∃t,X.mg x=!.int z t)(hd:OV x:=by decide):XE X (.Name x pos) (tC<|.int z):=by
 obtain⟨t,d⟩:=d;exact#[Am f d #[t,rfl] hd]
def gR{a:TD}(d:Gl X x)(f:X.mg x=!.ref a)(hd:OV x:=by decide):XE X (.Name x pos) (tC<|.ref a):=#[Am d f rfl hd]
def op{op:Operator}(d:kN X (binaryOp op) r)(f:XE X a ta)(g:XE X b tb):XE X (.BinOp a op b pos) (yT r ta tb):=#[aC7 d.h f.h g.h]
def ba:kN X (binaryOp .Add) (Gh λi j=>.int<|i+j):=#[aDq]
def ft:kN X (binaryOp .Sub) (Gh λi j=>.int<|i-j):=#[aDr]
def cz:kN X (binaryOp .Mult) (m2 RU λi j=>.int<|i*j):=#[aDs]
def cv:kN X (binaryOp .Mod) (m2 (λ_ j=>0<j) λi j=>.int<|i%j):=#[aDt]
def dz:kN X (binaryOp .Pow) (m2 nh λi j=>.int<|i^j.toNat):=#[aDu]
def dy:kN X (binaryOp .Add) Qj:=#[aBL]
def lt:kN X (compareOp .Lt) (Gh λi j=>.bl<|decide (i<j)):=#[aEM]
def le:kN X (compareOp .LtE) (Gh λi j=>.bl<|decide (i<=j)):=#[aEN]
def gt:kN X (compareOp .Gt) (Gh λi j=>.bl<|decide (j<i)):=#[aEO]
def ge:kN X (compareOp .GtE) (Gh λi j=>.bl<|decide (j<=i)):=#[aEP]
def eq:kN X (compareOp .Eq) mEq:=#[aER]
def ne:kN X (compareOp .NotEq) mNe:=#[aES]
def jj:kN X (compareOp .In) (oi false):=#[aDv]
def inQ:kN X (compareOp .In) (YI X.K false):=#[Lf]
def WD:kN X (compareOp .NotIn) (YI X.K true):=#[Ax]
def kn:kN X (compareOp .Is) (λx y H Q=>match y with|.non=>Q (.bl<|decide (x=.non)) H|_=>False):=#[aDw]
def di:kN X (compareOp .IsNot) (λx y H Q=>match y with|.non=>Q (.bl<|(not (decide (x=.non)))) H|_=>False):=#[aBN]
def eD(d:X.A.units<cLine):kN X (compareOp .NotEq) (Gg X.K true):=#[Qi d]
def bt{op:CmpOp}(d:kN X (compareOp op) r)(f:XE X a ta)(g:XE X b tb)(h:behindInMarks op b=false:=by first|exact Ao _|rfl):XE X (.Compare a [op] [b] pos) (yT r ta tb):=#[aDy d.h f.h g.h h]
def aq{op:CmpOp}(d:kN X (compareOp op) r)(f:XE X a ta)(g:XE X b tb)(h:behindInMarks op b=false:=by first|exact Ao _|rfl):XT X (.Compare a [op] [b] pos) (mT<|yT r ta tb):=#[aDx d.h f.h g.h h]
def jk{op d:CmpOp}(f:kN X (compareOp op) r)(g:kN X (compareOp d) r')(h:XE X a ta)(j:XE X b tb)(k:XE X c tc)(l:lastMarks [op,d] [b,c]=false:=by with_unfolding_all rfl):XE X (.Compare a [op,d] [b,c] pos) (rT r r' ta tb tc):=#[Xl f.h g.h h.h j.h k.h l]
def ja{op d:CmpOp}(f:kN X (compareOp op) r)(g:kN X (compareOp d) r')(h:XE X a ta)(j:XE X b tb)(k:XE X c tc)(l:lastMarks [op,d] [b,c]=false:=by with_unfolding_all rfl):XT X (.Compare a [op,d] [b,c] pos) (mT<|rT r r' ta tb tc):=#[Xm f.h g.h h.h j.h k.h l]
def bh(d:XE X a ta):XE X (.UnaryOp .USub a pos) (nc (λx H Q=>mI x λi=>Q (.int<|-i) H) ta):=#[aDB d.h]
def bo{t:TE}(h:XE X e t)(d:∀whole,isTrue e X.env whole=(do let v←whole;standAt e.pos;holding [v] (truthy v)):=by intro _;rfl):XT X e (mT t):=#[aDz h.h d]
def bq(d:XT X a tA):XT X (.UnaryOp .Not a pos) (uu tA):=#[aA7 d.h]
def fm(d:XT X a tA):XW X (.BoolOp .And [a] pos) tA:=#[Wa d.h]
def cp(d:XT X a tA):XW X (.BoolOp .Or [a] pos) tA:=#[aA5 d.h]
def fh(d:XT X a tA)(f:XW X (.BoolOp .And (b::rest) pos) JN):XW X (.BoolOp .And (a::b::rest) pos) (Vz tA JN):=#[aA6 d.h f.h]
def cn(d:XT X a tA)(f:XW X (.BoolOp .Or (b::rest) pos) JN):XW X (.BoolOp .Or (a::b::rest) pos) (uq tA JN):=#[aC1 d.h f.h]
def tw(h:XW X e tA):XT X e tA:=#[h.h.pt]
def ic{op}(h:XE X a ta):XE X (.BoolOp op [a] pos) ta:=#[aA9 h.h]
def fg(d:XE X a ta)(f:XE X (.BoolOp .And (b::rest) pos) tb):XE X (.BoolOp .And (a::b::rest) pos) (Je ta tb):=#[aDA d.h f.h]
def or(d:XE X a ta)(f:XE X (.BoolOp .Or (b::rest) pos) tb):XE X (.BoolOp .Or (a::b::rest) pos) (Xn ta tb):=#[aET d.h f.h]
def ix(d:WC X r)(f:XE X a ta)(g:XE X b tb)(hs:Av b:=by exact λ_ _=>rfl):XE X (.Subscript a b pos) (yT r ta tb):=#[aEV d.h f.h g.h hs]
def iL:WC X (Qk X.K):=#[aBQ]
def iT:WC X (Bf X.K):=#[aDC]
def iS:WC X aBP:=#[aDD]
def pn:XO X none Iu:=#[Wt]
def ps(h:XE X e te):XO X (!e) (Jf te):=#[aBR h.h]
def sl{r:V->DJ->DJ->Hp->VK->Prop}{lo d:Option Expr}(h:d9 X r)(j:XE X e te)(k:XO X lo f)(l:XO X d g):XE X (.Subscript e (.Slice lo d none p2) pos) (wa r te f g):=#[Pd h.h j.h k.h l.h]
def sS:d9 X aBS:=#[aDE]
def sL:d9 X (Xo X.K):=#[aBT]
def ac:XA X [] iF:=#[Fu]
def ab(d:XE X e te)(f:XA X es t)(h:aT e=true:=by rfl):XA X (e::es) (tT te t):=#[Qm d.h f.h h]
def je{d}(h:XA X es t):XE X (.Tuple es d pos) (vv t):=#[aBu h.h]
def bn(h:XA X es t):XE X (.List es pos) (vy t):=#[aBv h.h]
def bb{id:String}{r:A1->Hp->VK->Prop}(d:XC X (.builtin id) r)(f:Gl X x)(g:X.mg x=none)(h:bootBuiltins x=!.builtin id)(j:XA X (e::es) t)(k:x≠"__name__":=by decide)(l:OV x:=by decide)(m:aT e=true:=by rfl)(q:es.all aT=true:=by rfl):XE X (.Call (.Name x p) (e::es) [] pos) (YF r t):=#[Xq d.h f g h j.h k l m q]
def cr{r:A1->Hp->VK->Prop}(d:XC X (.type T) r)(f:Gl X x)(g:X.mg x=none)(h:bootBuiltins x=!.type T)(j:XA X (e::es) t)(k:x≠"__name__":=by decide)(l:OV x:=by decide)(m:aT e=true:=by rfl)(q:es.all aT=true:=by rfl):XE X (.Call (.Name x p) (e::es) [] pos) (YF r t):=#[Qn d.h f g h j.h k l m q]
def dw:XC X (.builtin "len") (λvs H Q=>match vs with|[.str z]=>z.length<=sizeLine/\Q (.int z.length) H|_=>False):=#[aBU]
def p9:XC X (.builtin "len") (λvs H Q=>match vs with|[.ref p]=>∃ys,(MO X.K H p ys∨O7 X.K H p ys)/\Q (.int ys.length) H|_=>False):=#[aBV]
def jh:XC X (.type "int") (λvs H Q=>match vs with|[.bl k]=>Q (.int (if k then 1 else 0)) H|_=>False):=#[aDF]
def all(d:X.calm=true):XC X (.builtin "all") (n0 X.K):=#[Qe d]
def any(d:X.calm=true):XC X (.builtin "any") (n7 X.K):=#[Qg d]
def sum(d:X.calm=true):XC X (.builtin "sum") (oD X.K):=#[Qh d]
def fn{n d:Nat}{ps:A2}(c:Callee X.prog X.w X.K X.mg X.base n x ps sp)(f:LO d X.A)(g:Gl X x)(h:XA X (e::es) t)(j:OV x:=by decide)(k:aT e=true:=by rfl)(l:es.all aT=true:=by rfl)(m:n<=d:=by decide):XE X (.Call (.Name x p) (e::es) [] pos) (pD sp t):=#[aDK c (f.mono m) g h.h j k l]
def bm{T id:String}{r:V->A1->Hp->VK->Prop}(d:PlainAttrs T)(slot:Slot T name id)(f:typeOf (.builtin id)=pure (.type "method_descriptor"))(g:XM X id r)(h:XE X o to)(j:XA X (e::es) t)(k:attributeBase o name X.env (eval o X.env)=eval o X.env:=by rfl)(l:(apos.endLine==cpos.line)=true:=by rfl)(m:aT e=true:=by rfl)(q:es.all aT=true:=by rfl)(s:es.length+1<30:=by decide) :
  XE X (.Call (.Attribute o name apos) (e::es) [] cpos) (hP X.K T r to t):=#[aEZ d slot f g.h h.h j.h k l m q s]
def cw:XM X "list.append" Iw:=#[Lg]
def ju:XM X "list.pop" Ph:=#[Pi]
def join:XM X "str.join" (Qc X.K):=#[Xk]
def du{T:Str}(d:Kd)(f:XE X e te)(g:Gl X "isinstance")(h:X.mg "isinstance"=none)(j:Gl X T)(k:X.mg T=none)(l:bootBuiltins T=!(.type<|Xp d))(m:T≠"__name__":=by decide)(hd:OV T:=by decide)(q:aT e=true:=by rfl):XE X (.Call (.Name "isinstance" p) [e,.Name T p2] [] pos) (o1 d te):=#[aBY d f.h g h j k l m hd q]
def dh:XE X (.Dict [] [] pos) (Pl):=#[Po]
variable {tg:Expr}
def wL(d:XE X e te):XI X tg e (Oq X.K te):=#[Wi d.h]
def wT(d:XE X e te):XI X tg e (m6 X.K te):=#[aBj d.h]
def wS(d:XE X e te):XI X tg e (xw te):=#[aBG d.h]
def de(d:Gl X "range")(f:X.mg "range"=none)(g:XA X [a] t)(h:aT a=true:=by rfl):XI X tg (.Call (.Name "range" p) [a] [] pos) (vl t):=#[Ku d f g.h<|bS h]
def gn{i:Nat}(d:X.N.Nodup)(f:X.N[i]?=!x:=by rfl)(g:Loc X.env.scope x:=by first|exact Or.inl rfl|exact Or.inr rfl)(h:X.fn x=true∨X.env.scope.names.lookup x=some .local:=by first|exact .inl rfl|exact .inr rfl|assumption):XG X (.Name x pos) (aI i):=#[Wf d f g h]
def cm:d7 X [] aBc:=#[Wg]
def bf(g:XG X e d)(h:d7 X es f)(hs:(assignEach (e::es) X.env).map (·.2)=assign e X.env::(assignEach es X.env).map (·.2):=by rfl):d7 X (e::es) (On d f):=#[Oo g.h h.h hs]
def gt'{k:Nat}(f:X.calm=true)(h:d7 X es d)(g:(assignEach es X.env).length=n:=by rfl)(j:(assignEach es X.env).findIdx? (·.1)=none:=by rfl):XG X (.Tuple es k pos) (Wh X.K n d):=#[aBd f h.h g j]
def jr:pz X aAw:=#[Pe]
def cj(h:XE X o to)(j:XE X i ti)(hs:pz X g)(k:∀v,assign (.Subscript o i pos) X.env v=(do
   let d←holding [v] (eval o X.env)
   let f←holding [v,d] (eval i X.env)
   standAt pos
   holding [v,d,f] (setItem d f v)
   release [v,d,f] []):=by intro _;rfl):XG X (.Subscript o i pos) (mu to ti g):=#[aBf h.h j.h hs.h k]
end
section
variable {c e tg iter elt:Expr}{ifs:List Expr}{tc tt:TT}{g:TG}{wi:TI}{st:Stmt}{ss sa sb:List Stmt}{t u:TS}{pos' HC py:Pos}{x y:Str}{scope:Scope}{N:A2}{js:Di}
def bp:hY X [] Pz:=#[Xe]
def bv(h:XT X c tt)(a:X.xe=λ_ _=>False:=by rfl):hY X [c] tt:=#[Xf h.h a]
def bi(h:X.calm=true)(S:JQ X scope N js)(go:Gb js g)(i:XI X tg iter wi)(j:∀(C:TD)(d:NE)(f:Hp)(fp:BZ),XG (!"RS.Ge@QO") tg g/\hY (!"RS.Ge@QO") ifs tt/\XE (!"RS.Ge@QO") elt te)(hs:∀x,foldedSetIterable iter X.env x=pure x:=by intro _;rfl):XE X (.ListComp elt [#[tg,iter,ifs,0]] scope pos) (xt wi js g tt te):=
 #[Xg h S go i.h (λC d f fp=>let #[a,b,c]:=j C d f fp;#[a.h,b.h,c.h]) hs]
def dj{i:Nat}(j:X.N.Nodup)(k:X.N[i]?=!y)(l:Loc X.env.scope y)(m:X.calm=true)(S:JQ X scope N js)(go:Gb js g)(n:XI X tg iter wi)(o:∀(C:TD)(d:NE)(f:Hp)(fp:BZ),XG (!"RS.Ge@QO") tg g/\hY (!"RS.Ge@QO") ifs tt/\XE (!"RS.Ge@QO") elt te)(h:swapsWith (.ListComp elt [#[tg,iter,ifs,0]] scope pos) (!.Name y py) HC.line X.env=pure true)(hs:∀x,foldedSetIterable iter X.env x=pure x:=by intro _;rfl)(p:X.fn y=true∨X.env.scope.names.lookup y=some .local:=by first|exact .inl rfl|exact .inr rfl|assumption) :
  XS X (.Assign [.Name y py] (.ListComp elt [#[tg,iter,ifs,0]] scope pos) HC) (xu i wi js g tt te):=
 #[Xh j k l m S go n.h (λC d f fp=>let #[a,b,c]:=o C d f fp;#[a.h,b.h,c.h]) h hs p]
def au:XB X [] kJ:=#[Wb]
def ae(a:XS X st t):XB X [st] t:=#[Wc a.h]
def ad(a:XS X st t)(b:XB X ss u):XB X (st::ss) (Oj t u):=#[Ol a.h b.h]
def ag(a:XE X e te):XS X (.Return (!e) pos) (u1 te):=#[aBb a.h]
def az(a:XE X e te)(hs:swapsWith e none pos.line X.env=pure false:=by rfl):XS X (.Expr e pos) (ux te):=#[Wd a.h hs]
def ar(a:XT X c tc)(b:XB X sa t)(d:XB X sb u):XS X (.If c sa sb pos) (Om tc t u):=#[aC4 a.h b.h d.h]
def av{i:Nat}(a:X.N.Nodup)(b:XE X e te)(d:X.N[i]?=!x:=by rfl)(f:Loc X.env.scope x:=by first|exact Or.inl rfl|exact Or.inr rfl)(hs:swapsWith e (!.Name x pos') pos.line X.env=pure false:=by rfl)(h:X.fn x=true∨X.env.scope.names.lookup x=some .local:=by first|exact .inl rfl|exact .inr rfl|assumption):XS X (.Assign [.Name x pos'] e pos) (Op te<|aI i):=#[aBh a d f b.h hs h]
def ci(a:XE X e te)(b:XG X tg g)(hs:swapsWithSole [tg] e pos.line X.env=pure false:=by rfl)(d:swappedStores [tg] e X.env=pure none:=by rfl)(f:(assignEach [tg] X.env).map (·.2)=[assign tg X.env]:=by rfl) :
  XS X (.Assign [tg] e pos) (Op te g):=#[aBg a.h b.h hs d f]
def bj(a:PassesOwn (model X.prog X.w) X.A X.env X.xe)(b:X.calm=true)(d:XI X tg iter wi)(f:XG X tg g)(h:XB X ss t)(hs:∀x,foldedSetIterable iter X.env x=pure x:=by intro _;rfl):XS X (.For tg iter ss [] pos) (vp wi g t):=#[aBk a b d.h f.h h.h hs]
end
end R
def KY.go{P:Program}{w:World}{K:W.Frag}{mg:X5}{base:Heap}{x:Str}{st:Stmt}{N ps:A2}{k:Nat}{sp:Sp}(D:KY K mg x st ps)(S:aG N ps (aB st))(len:∀vs H Q E,sp vs H Q E->vs.length=ps.length)(c:∀(f:TD)(a:PP)(A:Around)(b:List Env)(s:NE)(H:Hp)(vs:A1)(Q:VK)(E:XK),LO k (!"X~-~(a@Ffw")->sp vs H Q E →
   ∃t,XB (pT vP P w K mg base N x (aB st) f a A b s H E).nox (aZ st) t/\t {nx:=λ_ H'=>Q .non H',rt:=Q } (start N vs) H):Callee P w K mg base (k+1) x ps sp:=
 D.ok S len λf a A b s H vs Q E d h=>let #[t,e,g]:=c f a A b s H vs Q E d h;#[t,e.h,g]
def KY.gg{P:Program}{w:World}{K:W.Frag}{mg:X5}{base:Heap}{x:Str}{st:Stmt}{N ps:A2}{k:Nat}{sp:Sp}(D:KY K mg x st ps)(S:aG N ps (aB st))(c:∀(f:TD)(a:PP)(A:Around)(b:List Env)(s:NE)(H:Hp)(vs:A1)(Q:VK)(E:XK),LO k (!"X~-~(a@Ffw")->sp vs H Q E →
   ∃t,XB (pT vP P w K mg base N x (aB st) f a A b s H E).nox (aZ st) t/\t {nx:=λ_ H'=>Q .non H',rt:=Q } (start N vs) H)(len:∀vs H Q E,sp vs H Q E->vs.length=ps.length:=by intro vs H Q E h;first | (cases h with | mk=>subst_vars;rfl) | repeat (first | (obtain⟨rfl,_⟩:=h;rfl) | obtain⟨_,h⟩:=h)):Callee P w K mg base (k+1) x ps sp:=
 D.ok S len λf a A b s H vs Q E d h=>let #[t,e,g]:=c f a A b s H vs Q E d h;#[t,e.h,g]
def RO.go{P:Program}{w:World}{K:W.Frag}{mg:X5}{base:Heap}{x c:Str}{st:Stmt}{f:TD}{d:FuncData}{N ps:A2}{k:Nat}{sp:Sp}(F:RO K x c st f d)(S:aG N ps (aB st))(len:∀vs H Q E,sp vs H Q E->vs.length=ps.length)(e:∀(a:PP)(A:Around)(b:List Env)(s:NE)(H:Hp)(vs:A1)(Q:VK)(E:XK),LO k (!"U~-~(a@Ffw")->sp vs H Q E →
   ∃t,XB (pT vP P w K mg base N c (aB st) f a A b s H E).nox (aZ st) t/\t {nx:=λ_ H'=>Q .non H',rt:=Q } (start N vs) H):MY P w K mg base vP (k+1) f d ps sp:=
 F.ok S len λa A b s H vs Q E g h=>let #[t,i,j]:=e a A b s H vs Q E g h;#[t,i.h,j]
def RO.gg{P:Program}{w:World}{K:W.Frag}{mg:X5}{base:Heap}{x c:Str}{st:Stmt}{f:TD}{d:FuncData}{N ps:A2}{k:Nat}{sp:Sp}(F:RO K x c st f d)(S:aG N ps (aB st))(e:∀(a:PP)(A:Around)(b:List Env)(s:NE)(H:Hp)(vs:A1)(Q:VK)(E:XK),LO k (!"U~-~(a@Ffw")->sp vs H Q E →
   ∃t,XB (pT vP P w K mg base N c (aB st) f a A b s H E).nox (aZ st) t/\t {nx:=λ_ H'=>Q .non H',rt:=Q } (start N vs) H)(len:∀vs H Q E,sp vs H Q E->vs.length=ps.length:=by intro vs H Q E h;first | (cases h with | mk=>subst_vars;rfl) | repeat (first | (obtain⟨rfl,_⟩:=h;rfl) | obtain⟨_,h⟩:=h)):MY P w K mg base vP (k+1) f d ps sp:=
 F.ok S len λa A b s H vs Q E g h=>let #[t,i,j]:=e a A b s H vs Q E g h;#[t,i.h,j]
def aB3{K:W.Frag}{st:Stmt}{ps:A2}{sl:Array (D0)}{n kV o d g e:PP}(X:K.In h)(G:h.Ns mainGlobals mg)(a:W.nsIn K mainGlobals x=!(!.ref f))(l:K.lookup f=some #[n,m,.func<|W.fnOf x x (bJ st) (aZ st) (aB st) .none kV o d b g e,sl])(c:W.codeIn K g x=true)(k:f^1)(p:∀(kV i d:PP)(b:D6)(j e:PP)(us:C4),us.length=ps.length->bindArgs (W.fnOf x x (bJ st) (aZ st) (aB st) .none kV i d b j e) #[us,[]]=pure (ps.zip us)):KY K mg x st ps:=
 #[f,_,vQ l c k,W.mg_of X G a,(vQ (st:=st) l c k).binds p]
namespace R
section
variable {K:W.Frag}{a b c e o i tg:Expr}{es rest:List Expr}{to:TE}{t:TA}{p p2:Pos}{x:Str}{n:Nat}
def kiL(d:X.K=K:=by rfl):WC X (Qk K):=d▸iL
def kiT(d:X.K=K:=by rfl):WC X (Bf K):=d▸iT
def it(K:W.Frag)(i:Nat){c:Int}{j}(d:X.K=K:=by rfl)(f:X.N[i]?=!x:=by rfl)(g:VY X.env.scope x:=by first|exact Or.inl rfl|exact Or.inr (Or.inl rfl)|exact Or.inr<|Or.inr rfl)(hd:OV x:=by decide)(h:(x==("__classdict__":Str))=false:=by decide):XE X (.Subscript (.Name x p) (.Constant (.int c) j p2) pos) (!"-|Y~K|Z?~S~v" (.int c)):=ix (kiT d) (v i f g hd h) int
def il(K:W.Frag)(i:Nat){c:Int}{j}(d:X.K=K:=by rfl)(f:X.N[i]?=!x:=by rfl)(g:VY X.env.scope x:=by first|exact Or.inl rfl|exact Or.inr (Or.inl rfl)|exact Or.inr<|Or.inr rfl)(hd:OV x:=by decide)(h:(x==("__classdict__":Str))=false:=by decide):XE X (.Subscript (.Name x p) (.Constant (.int c) j p2) pos) (yT (Qk K) (vr i)<|tC<|.int c):=ix (kiL d) (v i f g hd h) int
def cu(d:X.K=K:=by rfl):d9 X (Xo K):=d▸sL
def ed(d:X.K=K:=by rfl):kN X (compareOp .In) (YI K false):=d▸inQ
def jc(d:X.K=K:=by rfl):kN X (compareOp .NotIn) (YI K true):=d▸WD
def jt(d:X.A.units<cLine)(f:X.K=K:=by rfl):kN X (compareOp .NotEq) (Gg K true):=f▸eD d
def bw(d:X.K=K:=by rfl):XC X (.builtin "len") (λvs H Q=>match vs with|[.ref p]=>∃ys,(MO K H p ys∨O7 K H p ys)/\Q (.int ys.length) H|_=>False):=d▸p9
def jb(d:X.calm=true)(f:X.K=K:=by rfl):XC X (.builtin "all") (n0 K):=f▸all d
def kj(d:X.calm=true)(f:X.K=K:=by rfl):XC X (.builtin "any") (n7 K):=f▸any d
def jq(d:X.calm=true)(f:X.K=K:=by rfl):XC X (.builtin "sum") (oD K):=f▸sum d
def jv(d:X.K=K:=by rfl):XM X "str.join" (Qc K):=d▸join
def bu{T id:String}(d:PlainAttrs T)(slot:Slot T name id)(f:typeOf (.builtin id)=pure (.type "method_descriptor"))(g:XM X id r)(h:XE X o to)(j:XA X (e::es) t)(k:X.K=K:=by rfl)(l:attributeBase o name X.env (eval o X.env)=eval o X.env:=by rfl)(m:(apos.endLine==cpos.line)=true:=by rfl)(q:aT e=true:=by rfl)(s:es.all aT=true:=by rfl)(u:es.length+1<30:=by decide) :
  XE X (.Call (.Attribute o name apos) (e::es) [] cpos) (hP K T r to t):=k▸bm d slot f g h j l m q s u
def be(d:XE X e te)(f:X.K=K:=by rfl):XI X tg e (Oq K te):=f▸wL d
def cx(d:XE X e te)(f:X.K=K:=by rfl):XI X tg e (m6 K te):=f▸wT d
def ck{k:Nat}(f:X.calm=true)(h:d7 X es d)(g:X.K=K:=by rfl)(j:(assignEach es X.env).length=n:=by rfl)(l:(assignEach es X.env).findIdx? (·.1)=none:=by rfl):XG X (.Tuple es k pos) (Wh K n d):=g▸gt' f h j l
end
end R
def Gm:A1->Hp->VK->Prop:=λvs H Q=>match vs with
 | [.int i]=>(0<=i/\i<10^40)/\Q (.str<|Str.ofString<|toString i) H
 | [.str z]=>Q (.str z) H
 | _=>False
def aDP:LQ X (.type "str") Gm:=by
 intro a s d H f b Q I r h;unfold Gm at h;split at h
 .rename_i i;refine Aq a s d H [.int i] b Q I r #[i,rfl,?_,h.2];have c:i.natAbs<2^1920:=by
   have e:(10:Nat)^40<=2^1920:=by decide +kernel
   have g:i.natAbs<10^40:=by
    have:=h.1;omega
   omega
  rcases Nat.eq_zero_or_pos i.natAbs with z|z
  .rw[z];decide
  exact(Nat.log2_lt Zo).mpr c
 .rename_i z;obtain⟨u,rfl,t,rfl⟩:=gX r;exact PySem.P.str_of_str #[.str z,H,I,#[t,rfl],h]
 exact h.elim
def aFl:A1->Hp->VK->Prop:=λvs H Q=>match vs with
 | [.str z]=>NumText.AllDigits z.cps.toList/\z.cps.toList≠[]/\z.length<=640/\Q (.int (NumText.digitsVal z.cps.toList:Nat)) H
 | _=>False
namespace R
def ko:XC X (.type "str") Gm:=#[aDP]
end R
def LET:DO:=[97,98,99,100,101,102,103,104,105,106,107,108,109,110,111,112,113,114,115,116,117,118,119,120,121,122]
def YP:DO:=[48,49,50,51,52,53,54,55,56,57]
def Gn:(("abcdefghijklmnopqrstuvwxyz":Str)).cps.toList=LET:=by decide +kernel
def aB4:(("0123456789":Str)).cps.toList=YP:=by decide +kernel
def gL(x:V)(a:DO)(n:Int):Bool:=match x with|.str z=>decide (1<=(z.length:Int))&&decide ((z.length:Int)<=n)&&z.cps.toList.all (λc=>decide (c∈a))|_=>false
def jC(z:Str)(a:DO)(n:Int):gL (.str z) a n=(decide (1<=(z.length:Int))&&decide ((z.length:Int)<=n)&&z.cps.toList.all (λc=>decide (c∈a))):=rfl
def Go:Sp:=λvs H Q _=>∃x a n k,vs=[x,.str a,.int n]/\SM H x k/\(∀z,x=.str z->z.length<=1000)/\∀b,I7 H b->Q (.bl<|gL x a.cps.toList n) b
def rV(b:DO)(n:Int):Sp:=λvs H Q _=>∃x k,vs=[x]/\SM H x k/\(∀z,x=.str z->z.length<=1000)/\∀a,I7 H a->Q (.bl<|gL x b n) a
theorem Jj:∀(k m:Nat),m<10^(k+1)->(toDigits 10 m).length<=k+1
 | 0,m,h=>by rw[Nat.toDigits_of_lt_base (by simpa using h)];exact bD _
 | k+1,m,h=>by
  by_cases b:m<10
  .rw[Nat.toDigits_of_lt_base b];simp
  have a:m%10<10:=mod_lt m Zd;have t:toDigits 10 (m/10)++toDigits 10 (m%10)=toDigits 10 (10*(m/10)+m%10):=Nat.toDigits_append_toDigits Zd Zo a;rw[Nat.div_add_mod]at t;rw[<- t,mU,Nat.toDigits_of_lt_base a];have:=Jj k (m/10) (by rw[Nat.pow_succ]at h;omega);simp;omega
def Lq(m:Nat):Str:=Str.ofString<|toString ((m:Nat):Int)
def Qu(m:Nat):(Lq m).cps.toList=(toDigits 10 m).map Char.toNat:=W.KIN.signs_num m
def Qv(m:Nat):(Lq m).length=(toDigits 10 m).length:=by
 have:(Lq m).cps.toList.length=(Lq m).length:=by simp[Str.length]
 rw[<- this,Qu,aV]
def Xw{m k:Nat}(h:m<10^(k+1)):(Lq m).length<=k+1:=by rw[Qv];exact Jj k m h
def isNm(z:Str):Prop:=1<=z.length/\z.length<=8/\∀c∈z.cps.toList,c∈LET
section
variable {prog:Program}{s:NE}
def Lr{t:TD}(b:IsTup s.heap t a)(h:Q true s):wpAny (model prog w) A (Builtin.Tuple.tupleIsExact<|.ref t) Q E s:=by
 unfold Builtin.Tuple.tupleIsExact;refine XV<|wpAny_typeOf b.typeIs ?_;exact W1 h
def pC{t sl:TD}{lo c:DJ}(b:IsTup s.heap t a)(hs:s.heap.IsSliceOf sl d e .none)(pl:IsPart d lo)(i:IsPart e c)(f:HT.sIx a.size 0 lo=0/\HT.sIx a.size a.size c=a.size)(h:Q (.ref t) s):wpAny (model prog w) A (getItem (.ref t)<|.ref sl) Q E s:=by
 obtain⟨os,j,k,m⟩:=id hs;have l:s.TypeIs (.ref sl) "slice":=#[os,j,k];unfold getItem;try with_reducible refine wpAny_holding ?_
 first|refine XV (W1 ?_)|skip
 refine XV<|wpAny_sequenceKey b.typeIs Zd ?_;refine XV (wpAny_callSpecial?_slot (name:=Str.ofString "__getitem__") b.typeIs PyProof.Rows.slot_tuple_getitem
  (wpAny_call_entry PyProof.Rows.slot_tuple_getitem b.typeIs entry_tuple_getitem ?_<|args_tuple_getitem _ _))
 show wpAny _ _ (Builtin.Tuple.tupleItemsOf (.ref t)>>=_) _ _ s;refine XV<|tupleItemsOf_ b ?_;refine XV<|wpAny_typeOf l ?_;rw[LM Zd];refine XV<|HT.sliceApplied_gen hs pl i ?_;have g:(((HT.sIx a.size 0 lo:Nat):Int)==0&&(1:Int)==1&&(HT.sIx a.size a.size c-HT.sIx a.size 0 lo)==a.size)=true:=by
  rw[f.1,f.2];simp
 show wpAny _ _ (if (((HT.sIx a.size 0 lo:Nat):Int)==0&&(1:Int)==1&&(HT.sIx a.size a.size c-HT.sIx a.size 0 lo)==a.size)=true then _ else _) _ _ s;rw[LM g];refine XV<|Lr b ?_;rw[LM rfl];exact XV<|wpAny_rule<|W1 #[_,rfl,W1 h]
def Qw{t b:TD}{c:C4}(h:IsTup s.heap t ([]:C4).toArray)(i:IsTup s.heap b c.toArray)(j:Q (.ref b) s):wpAny (model prog w) A (binaryOp .Add (.ref t)<|.ref b) Q E s:=by
 obtain⟨⟨p,dd,o,sl⟩,d,e,n,hd⟩:=id h;obtain⟨⟨q,k,data2,l⟩,f,g,m,a⟩:=id i;simp only at e hd g a;subst e hd g a;exact concat_meets #[_,d,rfl] #[_,f,rfl] noFill_tuple_add seq_tuple_add PySem.F.slot_tuple_add PySem.F.entry_tuple_add (PySem.F.args_tuple_add_2 _ _)
   (tuple_addW0 t b _ c.toArray n m dd k sl l Zs) #[d,f,j]
end
section
variable {e o e1 e2:Expr}{p2 p3:Pos}
def aB5:V->DJ->DJ->Hp->VK->Prop:=λx lo d H Q=>mR x λa=>∃c,H a=!.tup c/\∀p b,I7 H b->b p=!(.tup<|jK c lo d)->Q (.ref p) b
def aDQ:RZ X aB5:=by
 intro m s z H x v u w lo f sl Q I g i j k h;unfold aB5 at h;rw[cX]at h;obtain⟨a,rfl,b,d,q⟩:=h;by_cases c:HT.sIx b.length 0 lo=0/\HT.sIx b.length b.length f=b.length
 .cases g;refine JB (I.tuple<|JV d) (JU λt=>JE λr l A=>?_);have n:t.toArray.size=b.length:=by rw[fK];exact r.length.symm
  exists "tuple",_,PyProof.Rows.slot_tuple_getitem.lookup,l.typeIs;refine pC l i j k (by rw[n];exact c) #[.ref a,H,I,rfl,q a H (I7.refl H) ?_];rw[d];unfold jK;rw[c.1,c.2,drop_zero,Nat.sub_zero,mW (bD _)]
 exact aBx m s z H (.ref a) v u w lo f sl Q I g i j k #[a,b,rfl,JV d,c,λp y=>q p _ (aF y) aA]
def Qx:R2:=λx y H Q=>mR x λa=>mR y λb=>∃c d,H a=!.tup c/\H b=!.tup d/\c.length+d.length<=1000/\∀p f,I7 H f->f p=!(.tup<|c++d)->Q (.ref p) f
def aB6:LZ X (binaryOp .Add) Qx:=by
 intro k s z H x y v u Q I f g h;unfold Qx at h;rw[cX]at h;obtain⟨a,rfl,h⟩:=h;rw[cX]at h;revert h;refine JU λb=>JW λζ=>JR λi l=>KJ λc d m q=>?_;subst ζ;by_cases j:i=[]
 .subst j;cases f;cases g;obtain⟨A,n,r,_⟩:=I.tuple<|JV c;obtain⟨B,C,p2,_⟩:=I.tuple<|JV d;cases n;exact Qw r p2 #[.ref b,H,I,rfl,q b H (I7.refl H) (by rw[d];rfl)]
 exact Wv k s z H _ _ v u Q I f g #[a,b,i,l,rfl,rfl,JV c,JV d,j,gK m Zd,(λt=>q a H (I7.refl H) (by rw[c,t,append_nil])),λ_ p w=>q p _ (aF w) aA]
end
def Tab(P:Params):List DictEntry->BD->Prop
 | [],[]=>True
 | e::r,(x,i)::q=>(∃t,e.key=.str x t)/\e.hash=PyData.keyHash P x/\(∃t,e.val=.int i t)/\Tab P r q
 | _,_=>False
def Tab.keys{P:Params}:∀ {es:List DictEntry}{a:BD},Tab P es a->W.KeysLit P es
 | [],[],_=>trivial
 | e::r,(x,i)::q,h=>#[let #[t,b]:=h.1;#[x,t,b,h.2.1],Tab.keys h.2.2.2]
 | [],_::_,h=>h.elim
 | _::_,[],h=>h.elim
theorem Tab.find{P:Params}(z:Str):∀ {es:List DictEntry}{a:BD},Tab P es a->(match a.lookup z with|some i=>∃t,(es.find? λe=>Value.isStrOf z e.key).map (·.val)=some (.int i t)|none=>(es.find? λe=>Value.isStrOf z e.key).map (·.val)=none)
 | [],[],_=>rfl
 | [],_::_,h=>h.elim
 | _::_,[],h=>h.elim
 | e::r,(x,i)::q,h=>by
  revert h;refine KJ λζ k η f=>?_;obtain⟨t,b⟩:=ζ;obtain⟨c,d⟩:=η;have g:=Tab.find z f;rw[lookup_cons,find?_cons];have j:Value.isStrOf z e.key=(z==x):=by
   rw[b];show(x==z)=(z==x);exact Bool.beq_comm
  rw[j];cases l:z==x with
  | true=>exact#[c,by rw[<- d];rfl]
  | false=>exact g
structure KTab(K:W.Frag)(P:Params)(a:TD)(ws:BD):Prop where
 ex:∃es n,K.lookup a=some #[.type "dict",none,.dict (toArray es) n,(toArray [])]/\Tab P es ws/\(a==sysModules)=false
def KTab.map{K:W.Frag}(T:KTab K w.params a b)(X:K.In h) :
  ∃f:Str->D0,h.MapOf (strKind prog w) a f/\(a==sysModules)=false/\∀z,(match b.lookup z with|some i=>∃t,f z=some (.int i t)|none=>f z=none):=by
 refine JB T.ex (JR λe n=>JE λd c lo=>?_);refine#[_,W.mapOf_K (prog:=prog) X d c.keys,lo,λz=>?_];have:=c.find z;unfold findBy;rw[List.find?_toArray];exact this
def qa(K:W.Frag)(P:Params)(c:Bool):R2:=λx y H Q=>mS x λz=>mR y λa=>∃b,KTab K P a b/\Q (.bl (if c then (not ((b.lookup z).isSome)) else (b.lookup z).isSome)) H
def Ls{f:D0}{o:DJ}(h:match o with|some i=>∃t,f=some (.int i t)|none=>f=none):f.isSome=o.isSome:=by
 cases o with
 | none=>rw[h];rfl
 | some i=>obtain⟨t,h⟩:=h;rw[h];rfl
def Qy:LZ X (compareOp .NotIn) (qa X.K X.w.params true):=by
 intro i s j H x y v u Q I b c h;unfold qa at h;rw[qM]at h;obtain⟨z,rfl,h⟩:=h;rw[cX]at h;obtain⟨a,rfl,d,T,h⟩:=h;obtain⟨t,rfl⟩:=b;cases c;refine JB (T.map (prog:=X.prog) I.kIn) (JU λf=>JE λe lo g=>?_);exact wpAny_notIn_of (strKind_is X.prog X.w z t) lo e #[.bl<|(not ((d.lookup z).isSome)),H,I.tok _,by rw[Ls (g z)];rfl,h]
def qb(K:W.Frag)(P:Params):R2:=λx y H Q=>mR x λa=>mS y λz=>∃b i,KTab K P a b/\b.lookup z=!i/\Q (.int i) H
def i_K:RM X (qb X.K X.w.params):=by
 intro m slice n s p H x y v u Q I d e h g;unfold qb at h;rw[cX]at h;obtain⟨a,rfl,h⟩:=h;rw[qM]at h;obtain⟨z,rfl,o,i,T,j,h⟩:=h;obtain⟨t,rfl⟩:=e;cases d;refine JB (T.map (prog:=X.prog) I.kIn) (JU λf=>JE λc lo k=>?_);have b:=k z;rw[j]at b;obtain⟨l,b⟩:=b;exact tail_any c.typeIs slot_dict_getitem.lookup (wpAny_getItem_of (strKind_is X.prog X.w z t) c b #[.int i,H,I.tok _,#[l,rfl],h]) g
structure iv(X:Cx)(pos:Pos)(keys:List (Option Expr))(values:List Expr)(trs:GN):Prop where
 h:d3 X pos keys values trs
namespace R
section
variable {K:W.Frag}{P:Params}{e e1 k v o f:Expr}{t1 tk tv td ty tx':TE}{p2:Pos}{ks:List (Option Expr)}{vs:List Expr}{trs:GN}
def sT:d9 X aB5:=#[aDQ]
def cg:kN X (binaryOp .Add) Qx:=#[aB6]
def jm(a:X.K=K:=by rfl)(b:X.w.params=P:=by rfl):kN X (compareOp .NotIn) (qa K P true):=a▸b▸#[Qy]
def jn(a:X.K=K:=by rfl)(b:X.w.params=P:=by rfl):WC X (qb K P):=a▸b▸#[i_K]
def jd(a:X.K=K:=by rfl):XC X (.type "list") (λvs H Q=>match vs with | [.ref p]=>∃ys,(MO K H p ys∨O7 K H p ys)/\∀l,H l=none->Q (.ref l) (aH H l<|.lst ys) | _=>False):=a ▸ #[Ba.imp λvs H Q h=>by
 split at h
 .rename_i p;obtain⟨ys,b,h⟩:=h;exact#[p,ys,rfl,b,h]
 .exact h.elim]
def jg(a:X.K=K:=by rfl):XC X (.type "tuple") (λvs H Q=>match vs with | [.ref p]=>∃ys,MO K H p ys/\∀l,H l=none->Q (.ref l) (aH H l<|.tup ys) | _=>False):=a ▸ #[yC.imp λvs H Q h=>by
 split at h
 .rename_i p;obtain⟨ys,b,h⟩:=h;exact#[p,ys,rfl,.inl #[b,h]]
 .exact h.elim]
def ku:iv X pos [] [] []:=#[Xb]
def ji(a:XE X k tk)(b:XE X v tv)(c:iv X pos ks vs trs):iv X pos (some k::ks) (v::vs) ((tk,tv)::trs):=#[Pq a.h b.h c.h]
def kq(h:iv X pos ks vs trs)(a:ks.all (·.isSome)=true:=by rfl)(b:ks.length=vs.length:=by rfl)(c:ks≠[]:=by simp)(d:ks.length<=15:=by decide):XE X (.Dict ks vs pos) (wq trs):=#[Xc h.h a b c d]
def jw(a:X.A.units+1<cLine)(b:XE X o td)(c:XE X e ty)(d:XE X f tx')(g:attributeBase o "get" X.env (eval o X.env)=eval o X.env:=by rfl)(h:(apos.endLine == cpos.line)=true:=by rfl)(i:((!"~R?Yno" [e,f]).all (λx=>(not (x.1)))&&(backToKw cpos<|keywordEach [] X.env).all (λx=>x.1.isSome)
  && decide (([e,f]:List Expr).length+([]:List Keyword).length+(if ([]:List Keyword).isEmpty then 0 else 1)<30))=true:=by rfl)(j:backTo cpos (starEach [e,f] X.env)=[(false,eval e X.env),(false,eval f X.env)]:=by rfl):XE X (.Call (.Attribute o "get" apos) [e,f] [] cpos) (Pr td ty tx'):=#[Pu a b.h c.h d.h #[g,i,h,j]]
end
end R
def WS:BD:=[("add",1),("take",1),("move",2),("send",2),("fetch",2),("pass",3)]
def UW:A1:=[.str "move",.str "pass"]
def zJ(x:V):Bool:=gL x LET 8
def Ds(lo a:Int)(x:V):Bool:=match x with|.int n=>decide (lo<=n)&&decide (n<=a)|_=>false
def gZ(x:V)(a:A1):Bool:=match x with
 | .str z=>(match WS.lookup z with
  | some i=>decide ((a.length:Int)=i)&&a.all zJ&&((not (vL (.str z) UW))||(not (decide (pI a 0=pI a 1))))
  | none=>false)
 | _=>false
def Bg(xs:A1):A1:=jK xs (!1)<|some<|-1
def pK(xs:A1):Bool:=decide (3<=xs.length)&&gZ ((pI xs 0).getD .non) (Bg xs)&&Ds 1 1000000000000 ((pI xs<|-1).getD .non)
def Pt(H:Hp)(x:V):Prop:=∃k,SM H x k/\∀z,x=.str z->z.length<=1000
def Pt.same(s:I7 H H')(h:Pt H x):Pt H' x:=let #[k,a,b]:=h;#[k,a.same s,b]
def vY(H:Hp)(x:V):Bool:=match x with|.ref a=>(match H a with|some (.tup b)=>pK b|_=>false)|_=>false
def Th(H:Hp)(x:V):Prop:=Pt H x/\∀a b,x=.ref a->H a=!.tup b->∀y∈b,Pt H y
def Jk:Sp:=λvs H Q _=>∃x lo a,vs=[x,.int lo,.int a]/\Pt H x/\∀b,I7 H b->Q (.bl<|Ds lo a x) b
def Qz:Sp:=λvs H Q _=>∃x a b,vs=[x,.ref a]/\Pt H x/\H a=!.tup b/\b.length<=1000/\(∀y∈b,Pt H y)/\∀c,I7 H c->Q (.bl<|gZ x b) c
def Dt:Sp:=λvs H Q _=>∃x,vs=[x]/\Th H x/\(∀a b,x=.ref a->H a=!.tup b->b.length<=1000)/\∀c,I7 H c->Q (.bl<|vY H x) c
def aDR{i:Int}(h:WS.lookup z=!i)(u:vL (.str z) UW=true):2<=i:=by
 have e:z="move"∨z="pass":=by
  unfold vL UW at u;simp only [any_cons,List.any_nil,Bool.or_false,Bool.or_eq_true,Dc,beq_iff_eq,decide_eq_true_iff]at u;rcases u with u|u
  .exact .inl u.symm
  exact .inr u.symm
 rcases e with rfl|rfl
 .have:WS.lookup ("move":Str)=!2:=by decide +kernel
  rw[this]at h;injection h with h;omega
 have:WS.lookup ("pass":Str)=!3:=by decide +kernel
 rw[this]at h;injection h with h;omega
def Jl(h:3<=xs.length):Bg xs=(xs.drop 1).take (xs.length-2):=by
 unfold Bg jK HT.sIx;simp only [Int.reduceNeg,Int.reduceLT,if_true,if_false];have a:min (Int.toNat 1) xs.length=1:=by
  show min 1 xs.length=1;omega
 have b:((-1:Int)+(xs.length:Int)).toNat=xs.length-1:=by omega
 rw[b];show((xs.drop<|min (Int.toNat 1) xs.length).take<|xs.length-1-min (Int.toNat 1) xs.length)=_;rw[a];congr 1
def Xx(h:3<=xs.length):(Bg xs).length=xs.length-2:=by
 rw[Jl h,mV,length_drop];omega
def Xy(h:3<=xs.length)(m:y∈Bg xs):y∈xs:=by
 rw[Jl h]at m;exact List.mem_of_mem_drop<|mem_of_mem_take m
def aDS:R2:=λx y H Q=>mR x λl=>mR y λb=>∃a c,H l=!.lst a/\H b=!.lst c/\a.length+c.length<=sizeLine/\∀p,H p=none->Q (.ref p) (aH H p<|.lst<|a++c)
def R.br:kN X (binaryOp .Add) aDS:=#[aBC.imp λx y H Q h=>by
 unfold aDS at h;rw[cX]at h;obtain⟨a,rfl,h⟩:=h;rw[cX]at h;obtain⟨b,rfl,c,d,h⟩:=h;exact#[a,b,c,d,rfl,rfl,h]]
inductive OM:A1->Prop
 | one (z a:Str) (n:Int):(z="add"∨z="take")->isNm a->1<=n->n<=1000000000000->OM [.str z,.str a,.int n]
 | two (z a b:Str) (n:Int):(z="move"∨z="send"∨z="fetch")->isNm a->isNm b->a≠b->1<=n->n<=1000000000000->OM [.str z,.str a,.str b,.int n]
 | three (a b c:Str) (n:Int):isNm a->isNm b->isNm c->a≠b->1<=n->n<=1000000000000->OM [.str "pass",.str a,.str b,.str c,.int n]
def jD(h:isNm z):zJ (.str z)=true:=by
 unfold zJ;rw[jC,UF (by have:=h.1;omega),UF (by have:=h.2.1;omega),all_eq_true.mpr λc a=>UF (h.2.2 c a)];rfl
def OM.ok(h:OM xs):pK xs=true:=by
 cases h with
 | one z a n i d f g=>
  show(gZ (.str z) [.str a]&&Ds 1 1000000000000 (.int n))=true;have e:gZ (.str z) [.str a]=true:=by
   rcases i with rfl|rfl
   .show(true&&(zJ (.str a)&&true)&&_)=true;rw[jD d];rfl
   show(true&&(zJ (.str a)&&true)&&_)=true;rw[jD d];rfl
  rw[e];show(decide (1<=n)&&decide (n<=1000000000000))=true;rw[UF f,UF g];rfl
 | two z a b n i d j k f g=>
  show(gZ (.str z) [.str a,.str b]&&Ds 1 1000000000000 (.int n))=true;have ne:decide (some (V.str a)=!V.str b)=false:=T0 λe=>k (by injection e with e;injection e)
  have e:gZ (.str z) [.str a,.str b]=true:=by
   rcases i with rfl|rfl|rfl
   all_goals
    show(true&&(zJ (.str a)&&(zJ (.str b)&&true))&&(_||(not (decide (some (V.str a)=!V.str b)))))=true;rw[jD d,jD j,ne,Bool.not_false,Bool.or_true];rfl
  rw[e];show(decide (1<=n)&&decide (n<=1000000000000))=true;rw[UF f,UF g];rfl
 | three a b c n d j l k f g=>
  show(gZ (.str "pass") [.str a,.str b,.str c]&&Ds 1 1000000000000 (.int n))=true;have ne:decide (some (V.str a)=!V.str b)=false:=T0 λe=>k (by injection e with e;injection e)
  have e:gZ (.str "pass") [.str a,.str b,.str c]=true:=by
   show(true&&(zJ (.str a)&&(zJ (.str b)&&(zJ (.str c)&&true)))&&(_||(not (decide (some (V.str a)=!V.str b)))))=true;rw[jD d,jD j,jD l,ne,Bool.not_false,Bool.or_true];rfl
  rw[e];show(decide (1<=n)&&decide (n<=1000000000000))=true;rw[UF f,UF g];rfl
def isNm.len(h:isNm z):z.length<=1000:=gK h.2.1 Zd
def Ra:("add":Str).length<=1000/\("take":Str).length<=1000/\("move":Str).length<=1000/\("send":Str).length<=1000/\("fetch":Str).length<=1000/\("pass":Str).length<=1000:=by decide +kernel
def Dk.tup_ne(D:Dk H d b)(h:H p=!.tup xs):p≠d/\p≠b:=by
 refine JB D.ex (LB λf s k=>JE λa c g=>?_);exact#[λe=>(by rw[e,a]at h;cases h),λe=>(by rw[e,c]at h;cases h)]
inductive TV where
 | sc (v:V)
 | tp (xs:List TV)
 | ls (xs:List TV)
def pE:V->Bool|.non=>true|.bl _=>true|.int _=>true|.str _=>true|_=>false
def Rep(H:Hp):Nat->TV->V->Prop
 | 0,.sc v,x=>x=v/\pE v=true
 | _+1,.sc v,x=>x=v/\pE v=true
 | n+1,.tp c,x=>∃a b,x=.ref a/\H a=!.tup b/\Paired (Rep H n) c b
 | n+1,.ls c,x=>∃a b,x=.ref a/\H a=!.lst b/\Paired (Rep H n) c b
 | 0,_,_=>False
def Paired.map'(f:∀a b,R a b->S a b)(h:Paired R xs ys):Paired S xs ys:=by
 induction h with
 | nil=>exact .nil
 | cons h t e=>exact .cons (f _ _ h) e
def Rep.scal{n:Nat}{v:V}(h:pE v=true):Rep H n (.sc v) v:=by
 cases n<;>exact#[rfl,h]
def Paired.get'{a b:Type}{R:a->b->Prop}:∀ {xs:List a}{ys:List b}{j:Nat},Paired R xs ys->∀(h:j<ys.length),∃h':j<xs.length,R xs[j] ys[j]
 | _,_,0,.cons h t,_=>#[Nat.succ_pos _,h]
 | _,_,j+1,.cons h t,c=>let #[h',r]:=Paired.get' (j:=j) t (by simpa using c);#[by simpa using h',by simpa using r]
section
variable {s:NE}
def Xz(B:Around):B.in1.units=B.units+1:=rfl
def nV(n:Nat):(List.range n).all (λ_=>true)=true:=all_eq_true.mpr λ_ _=>rfl
def Rb(I:Inv X pins σ H s):∀(n:Nat){t:TV}{x y:V}{v u:PP}{A:Around},Rep H n t x->Rep H n t y->RelV x v->RelV y u->A.units+n<cLine->SeqAt.EqAt A s v u true:=by
 have sc:∀ {v:V}{x y:V}{B C:PP}{A:Around},(x=v/\pE v=true)->(y=v/\pE v=true)->RelV x B->RelV y C->SeqAt.EqAt A s B C true:=by
  rintro v x y B C A ⟨rfl,S⟩ ⟨rfl,_⟩ f g
  cases y with
  | non=>cases f;cases g;exact SeqAt.EqAt.same _
  | bl i=>cases f;cases g;exact SeqAt.EqAt.same _
  | int i=>
   obtain⟨D,rfl⟩:=f;obtain⟨E,rfl⟩:=g;have:=SeqAt.EqAt.int_int (A:=A) (s:=s) i D i E
   rwa [beq_self_eq_true]at this
  | str i=>
   obtain⟨D,rfl⟩:=f;obtain⟨E,rfl⟩:=g;have:=SeqAt.EqAt.str_str (A:=A) (s:=s) i D i E
   rwa [beq_self_eq_true]at this
  | _=>cases S
 intro n;induction n with
 | zero=>
  intro t x y v u A c d f g T;cases t with
  | sc z=>exact sc c d f g
  | _=>exact c.elim
 | succ n R=>
  intro t x y v u A c d f g T;cases t with
  | sc z=>exact sc c d f g
  | tp l=>
   obtain⟨a,U,rfl,g1,m⟩:=c;obtain⟨b,W,rfl,g2,o⟩:=d;cases f;cases g;by_cases p:a=b
   .subst p;exact SeqAt.EqAt.same _
   obtain⟨h,q,F,_⟩:=I.tuple<|JV g1;obtain⟨r,w,G,_⟩:=I.tuple<|JV g2;have J:h.length=l.length:=by rw[<- q.length,m.length]
   have K:r.length=l.length:=by rw[<- w.length,o.length]
   have k:=SeqAt.RcAt.tuples (A:=A) (s:=s) (e:=λ_=>true) F G Zo (λj c d=>by
    rw[fK]at c d;obtain⟨L,M⟩:=Paired.get' (j:=j) q c;obtain⟨N,O⟩:=Paired.get' (j:=j) w d;obtain⟨Y,P⟩:=Paired.get' (j:=j) m L;obtain⟨Z,Q⟩:=Paired.get' (j:=j) o N;simpa using R P Q M O (by rw[Xz];omega))
   have e:((List.range<|min h.toArray.size r.toArray.size).all (λ_=>true)&&h.toArray.size==r.toArray.size)=true:=by
    rw[nV,fK,fK,J,K,beq_self_eq_true];rfl
   rw[e]at k;exact SeqAt.EqAt.of_refs p k
  | ls l=>
   obtain⟨a,U,rfl,g1,m⟩:=c;obtain⟨b,W,rfl,g2,o⟩:=d;cases f;cases g;by_cases p:a=b
   .subst p;exact SeqAt.EqAt.same _
   obtain⟨h,q,F,_⟩:=I.list<|JX g1;obtain⟨r,w,G,_⟩:=I.list<|JX g2;have J:h.length=l.length:=by rw[<- q.length,m.length]
   have K:r.length=l.length:=by rw[<- w.length,o.length]
   have k:=SeqAt.RcAt.lists (A:=A) (s:=s) (e:=λ_=>true) F.isList G.isList (by rw[fK,fK,J,K]) Zo (λj c d=>by
    rw[fK]at c d;obtain⟨L,M⟩:=Paired.get' (j:=j) q c;obtain⟨N,O⟩:=Paired.get' (j:=j) w d;obtain⟨Y,P⟩:=Paired.get' (j:=j) m L;obtain⟨Z,Q⟩:=Paired.get' (j:=j) o N;simpa using R P Q M O (by rw[Xz];omega))
   rw[nV]at k;exact SeqAt.EqAt.of_refs p k
end
def qd(a:Bool):R2:=λx y H Q=>∃n t,n<=50/\Rep H n t x/\Rep H n t y/\Q (.bl<|(not a)) H
def Jm(k:Bool){s:NE}{v u:PP}{op:CmpOp}(g:op=if k then .NotEq else .Eq)(hu:X.A.units+64<cLine)(I:Inv X h C H s)(D:RelV x v)(E:RelV y u)(a0:qd k x y H Q) :
  wpAny (model X.prog X.w) X.A (compareOp op v u) (EP X h C Q) X.xe s:=by
 revert a0;refine JR λn t=>KJ λhn a c q=>?_;have sc:∀z,t=.sc z->wpAny (model X.prog X.w) X.A (compareOp op v u) (EP X h C Q) X.xe s:=by
  rintro z rfl;have R:x=z/\pE z=true:=by cases n<;>exact a
  have S:y=z/\pE z=true:=by cases n<;>exact c
  obtain⟨rfl,T⟩:=R;obtain⟨rfl,_⟩:=S;have P:L2.scal y y=true:=by cases y<;>first|rfl|cases T
  cases k with
  | true=>
   subst g;exact vu h s C H y y v u Q I D E #[P,by simpa using q]
  | false=>
   subst g;exact vt h s C H y y v u Q I D E #[P,by simpa using q]
 cases n with
 | zero=>
  cases t with
  | sc z=>exact sc z rfl
  | _=>exact a.elim
 | succ n=>
  cases t with
  | sc z=>exact sc z rfl
  | tp l=>
   revert a;refine JR λa1 U=>JE λζ g1 m=>?_;subst ζ;revert c;refine JR λa2 W=>JE λζ g2 o=>?_;subst ζ;cases D;cases E;obtain⟨d,p,r,_⟩:=I.tuple<|JV g1;obtain⟨f,w,B,_⟩:=I.tuple<|JV g2;have F:d.length=l.length:=by rw[<- p.length,m.length]
   have G:f.length=l.length:=by rw[<- w.length,o.length]
   have i:∀j (a:j<d.toArray.size) (c:j<f.toArray.size),SeqAt.EqAt X.A.in1 s d.toArray[j] f.toArray[j] true:=λj a c=>by
    rw[fK]at a c;obtain⟨J,K⟩:=Paired.get' (j:=j) p a;obtain⟨L,M⟩:=Paired.get' (j:=j) w c;obtain⟨Y,N⟩:=Paired.get' (j:=j) m J;obtain⟨Z,O⟩:=Paired.get' (j:=j) o L;simpa using Rb I n N O K M (by rw[Xz];omega)
   have e:((List.range<|min d.toArray.size f.toArray.size).all (λ_=>true)&&d.toArray.size==f.toArray.size)=true:=by
    rw[nV,fK,fK,F,G,beq_self_eq_true];rfl
   cases k with
   | true=>
    subst g;have b:=SeqAt.RcNeAt.tuples (A:=X.A) (s:=s) (e:=λ_=>true) r B Zo i;rw[e]at b;exact b _ _ _ _ #[.bl false,H,I,rfl,q]
   | false=>
    subst g;have b:=SeqAt.RcAt.tuples (A:=X.A) (s:=s) (e:=λ_=>true) r B Zo i;rw[e]at b;exact b _ _ _ _ #[.bl true,H,I,rfl,q]
  | ls l=>
   revert a;refine JR λa1 U=>JE λζ g1 m=>?_;subst ζ;revert c;refine JR λa2 W=>JE λζ g2 o=>?_;subst ζ;cases D;cases E;obtain⟨d,p,r,_⟩:=I.list<|JX g1;obtain⟨f,w,B,_⟩:=I.list<|JX g2;have F:d.length=l.length:=by rw[<- p.length,m.length]
   have G:f.length=l.length:=by rw[<- w.length,o.length]
   have i:∀j (a:j<d.toArray.size) (c:j<f.toArray.size),SeqAt.EqAt X.A.in1 s d.toArray[j] f.toArray[j] true:=λj a c=>by
    rw[fK]at a c;obtain⟨J,K⟩:=Paired.get' (j:=j) p a;obtain⟨L,M⟩:=Paired.get' (j:=j) w c;obtain⟨Y,N⟩:=Paired.get' (j:=j) m J;obtain⟨Z,O⟩:=Paired.get' (j:=j) o L;simpa using Rb I n N O K M (by rw[Xz];omega)
   cases k with
   | true=>
    subst g;have b:=SeqAt.RcNeAt.lists (A:=X.A) (s:=s) (e:=λ_=>true) r.isList B.isList (by rw[fK,fK,F,G]) Zo i;rw[nV]at b;exact b _ _ _ _ #[.bl false,H,I,rfl,q]
   | false=>
    subst g;have b:=SeqAt.RcAt.lists (A:=X.A) (s:=s) (e:=λ_=>true) r.isList B.isList (by rw[fK,fK,F,G]) Zo i;rw[nV]at b;exact b _ _ _ _ #[.bl true,H,I,rfl,q]
def R.dl(a:X.A.units+64<cLine):kN X (compareOp .Eq) (qd false):=#[λd s e H x y v u Q I b c h=>Jm false rfl a I b c h]
def R.dm(a:X.A.units+64<cLine):kN X (compareOp .NotEq) (qd true):=#[λd s e H x y v u Q I b c h=>Jm true rfl a I b c h]
def R.bc{st:Stmt}:XS X st (λ_ _ _=>False):=#[λa s b H D I h=>h.elim]
open PySem PySem.Spec PyProof.Rows PySem.Builtin PySem.Builtin.Str
def Jn:∀l:List (Str×Tok),Vals ((l.map (·.1)).map V.str) (strValues l)
 | []=>.nil
 | p::l=>.cons #[p.2,rfl]<|Jn l
def Gp:V->A1->Hp->VK->Prop:=λx vs H Q=>mS x λz=>match vs with
 | [.str y]=>(y.length==0)=false/\z.length<=1000/\∀l,H l=none->Q (.ref l) (aH H l<|.lst<|(Txt.split z y).map V.str)
 | _=>False
def Rc:YG X "str.split" Gp:=by
 intro f s i H x vs v w Q I n p h;unfold Gp at h;rw[qM]at h;obtain⟨z,rfl,h⟩:=h;split at h
 .rename_i y;revert h;refine JE λg r q=>?_;obtain⟨t,rfl⟩:=n;obtain⟨A,rfl,u,rfl⟩:=p.one;have d:∀(l:List (Str×Tok))(k:Nat),l.map (·.1)=Txt.split z y->EP X f i Q (.ref s.heap.objs.size) {s with heap:=s.heap.push {cls:=.type "list",data:=.seq (strValues l).toArray },toks:=k }:=λl k e=>by
   refine#[.ref s.heap.objs.size,_,I.laid (t':=k) (o:=.lst ((Txt.split z y).map V.str)) (λb B q=>jM _ q) (bD _) ?_,rfl,q _<|I.hok.fresh<|bD _];refine#[?_,strValues l,0,by rw[<- e];exact Jn l,TW _ rfl];rw[aV];have:=split_le z y;exact gK this (gK (show z.length+2<=1002 by omega) Zd)
  have j:z.length<=sizeLine:=jL r;have m:(partsBetween z (occurrences z y 0 z.length<|z.length+1) y.length).length<=sizeLine:=by
   rw[length_partsBetween];have:=StrLaws.occ_length_le z y 0 z.length<|z.length+1;exact gK (show _<=1002 by omega) Zd
  cases a:(decide (z.length<y.length)||decide (strKind z<strKind y))
  .cases c:(occurrences z y 0 z.length<|z.length+1).isEmpty
   .refine call_meets F.slot_str_split (typeIs_str _ _ _) F.entry_str_split (F.args_str_split_2 _ _) (meets_str_split_sep z y t u a g c j m) ?_;show wants (EP X f i Q) X.xe _ {s with toks:=_,heap:=s.heap.push {cls:=.type "list",data:=.seq (strsFrom s.toks<|partsBetween z (occurrences z y 0 z.length<|z.length+1) y.length).toArray } };rw[strsFrom_eq];exact d (numbered s.toks _) _<|(numbered_texts _ _).trans ((LK<|ne_true_of_eq_false a).trans<|LK<|ne_true_of_eq_false c).symm
   exact call_meets F.slot_str_split (typeIs_str _ _ _) F.entry_str_split (F.args_str_split_2 _ _) (meets_str_split_not_found z y t u a g c)
    (d [(z,t)] s.toks ((LK<|ne_true_of_eq_false a).trans<|LM c).symm)
  exact call_meets F.slot_str_split (typeIs_str _ _ _) F.entry_str_split (F.args_str_split_2 _ _) (meets_str_split_cannot_occur z y t u a)
   (d [(z,t)] s.toks (LM a).symm)
 exact h.elim
def R.ig:XM X "str.split" Gp:=#[Rc]
open PySem PySem.Spec PyProof.Rows
def aCa(a b:Str):ltCps b.cps.toList a.cps.toList=false↔a.cps.toList<=b.cps.toList:=by
 rw[ltCps_eq,decide_eq_false_iff_not];exact Iff.rfl
def Re{a b:Str}(h:a.cps.toList=b.cps.toList):a=b:=by rw[Dq a,Dq b,h]
theorem kO:∀(l:A2)(p:Str),risingS p l=true->(p::l).Pairwise (λa b=>a.cps.toList<=b.cps.toList)
 | [],p,_=>List.pairwise_singleton _ _
 | x::r,p,h=>by
  unfold risingS at h;rw[Bool.and_eq_true]at h;obtain⟨f,g⟩:=h;have d:=kO r x g;have e:p.cps.toList<=x.cps.toList:=(aCa p x).mp (by simpa using f);refine pairwise_cons.mpr #[λy c=>?_,d];rcases mem_cons.mp c with rfl|c
  .exact e
  exact le_trans e<|(pairwise_cons.mp d).1 y c
def rW:∀(l:A2),sortedS l=true->l.Pairwise (λa b=>a.cps.toList<=b.cps.toList)
 | [],_=>List.Pairwise.nil
 | x::r,h=>kO r x h
theorem jO:∀(l m:A2),l.Perm m->l.Pairwise (λa b=>a.cps.toList<=b.cps.toList)->m.Pairwise (λa b=>a.cps.toList<=b.cps.toList)->l=m
 | [],m,c,_,_=>(nil_perm.mp c).symm
 | a::l,[],c,_,_=>(perm_nil.mp c)
 | a::l,b::m,c,d,f=>by
  obtain⟨g,i⟩:=pairwise_cons.mp d;obtain⟨j,k⟩:=pairwise_cons.mp f;have e:a=b:=by
   have n:a∈b::m:=c.mem_iff.mp eG;have o:b∈a::l:=c.mem_iff.mpr eG;rcases mem_cons.mp n with h|h
   .exact h
   rcases mem_cons.mp o with h'|h'
   .exact h'.symm
   exact Re (List.le_antisymm (g b h')<|j a h)
  subst e;rw[jO l m (List.Perm.cons_inv c) i k]
def qE(c:A2):A2:=c.mergeSort λa b=>decide (a.cps.toList<=b.cps.toList)
def cN(a:A2):(qE a).Perm a:=List.mergeSort_perm _ _
def jE(d:A2):(qE d).Pairwise (λa b=>a.cps.toList<=b.cps.toList):=by
 have:=List.pairwise_mergeSort (le:=λ(a b:Str)=>decide (a.cps.toList<=b.cps.toList)) (λa b c e f=>UF<|le_trans (WF e)<|WF f) (λa b=>by
  rcases List.le_total a.cps.toList b.cps.toList with h|h
  .simp[h]
  .simp [h]) d
 exact this.imp λh=>WF h
def Rf(c:b.Perm a)(hs:sortedS b=true):b=qE a:=
 jO _ _ (c.trans (cN a).symm) (rW _ hs) (jE a)
def qO(a:A2):(qE a).length=a.length:=(cN a).length_eq
section
variable {prog:Program}{s:NE}
def vZ{vs:C4}{n:Nat}(k:T="list"∨T="tuple")(p:s.heap.get? l=!o)(q:o.cls=.type T)(hd:o.data=.seq vs.toArray n)(d:StrsAre vs g)(f:vs.length<64)(h:∀(a h':Heap)(out:Array Value)(e:Nat),(∀b c,s.heap.get? b=!c->a.get? b=!c)->(∀b c,a.get? b=!c->h'.get? b=!c)->h'.get? a.objs.size=!seqObj "list" out e->StrsAre out.toList (qE g)->Q (.ref a.objs.size) {s with heap:=h' }) :
  wpAny (model prog w) A (call (.builtin "sorted") [.ref l]) Q E s:=by
 apply Calls.call_function_entry kind_sorted plain_sorted entry_sorted<|args_sorted1 _;unfold Builtin.«sorted»;apply XV (m:=checkCount "sorted" 1 1 _);apply W1;apply XV;refine wpAny_collect_seq l k p q hd (λa r=>?_) (by rw[fK];exact gK (le_of_lt f) Zd);have t:vs.toArray.toList=vs:=by simp
 rw[t];apply XV;apply wpAny_newList
 .have g2:(a.push<|seqObj "list" vs.toArray 0).get? a.objs.size=!seqObj "list" vs.toArray 0:=TW _ rfl;apply XV;apply wpAny_holding;refine wpAny_call_entry slot_list_sort #[_,g2,rfl] entry_list_sort (list_sort_treeK strKind_oneLt g2 d.keysOf (λD F rest e=>keyKind_strs (by rw[<- e];exact d)) f λu v x=>#[_,rfl,W1 #[_,rfl,?_]])<|args_list_sort _;refine JB (sorted_out_str d v x) (JU λG=>JE λy z B=>?_);obtain⟨e,C⟩:=sortedHeap_at (out:=(arrOf u).map (·.2)) g2;refine h a _ _ e r (λb c i=>?_) C<|Rf z B▸y;have j:=Heap.lt_size i;rw[sortedHeap_old (ne_of_lt j) (by rw[size_push'];exact lt_succ_of_lt j)];exact jM _ i
 exact gK (le_of_lt f) Zd
end
def rX:∀ {vs:C4}{a:A2},StrsAre vs a->Vals (a.map V.str) vs
 | _,_,.nil=>.nil
 | _,_,.cons x t h=>.cons #[t,rfl]<|rX h
def Bh(K:W.Frag):A1->Hp->VK->Prop:=λvs H Q=>match vs with
 | [.ref a]=>∃b:A2,(MO K H a (b.map V.str)∨O7 K H a (b.map V.str))/\b.length<64/\∀l,H l=none->Q (.ref l) (aH H l<|.lst<|(qE b).map V.str)
 | _=>False
def Rg:LQ X (.builtin "sorted") (Bh X.K):=by
 intro x s E H F G Q I r h;unfold Bh at h;split at h
 .rename_i a;revert h;refine JU λv=>JE λd z q=>?_;obtain⟨u,rfl,A⟩:=gX r;cases A;have t:∀(b i:Heap)(out:Array Value)(e:Nat),(∀c f,s.heap.get? c=!f->b.get? c=!f)->(∀c f,b.get? c=!f->i.get? c=!f)->i.get? b.objs.size=!seqObj "list" out e->StrsAre out.toList (qE v)->EP X x E Q (.ref b.objs.size) {s with heap:=i }:=λb i out e B k C D=>by
   have w:=I.kept (t':=s.toks) B;refine#[.ref b.objs.size,_,w.laid (t':=s.toks) (o:=.lst ((qE v).map V.str)) k (bD _) ?_,rfl,q _<|w.hok.fresh<|bD _];refine#[?_,out.toList,e,rX D,C];rw[aV,qO];exact gK (le_of_lt z) Zd
  rcases d with d|d
  .refine JB (I.list d) (JU λy=>JE λg j _=>?_);obtain⟨o,l,m,n,hd⟩:=j.isList;have p:=g.length;rw[aV]at p;exact vZ (.inl rfl) l m hd (pV g) Zo t
  obtain⟨y,g,j,_⟩:=I.tuple d;obtain⟨o,l,m,n,hd⟩:=j;have p:=g.length;rw[aV]at p;exact vZ (.inr rfl) l m hd (pV g) Zo t
 exact h.elim
def R.ii{K:W.Frag}(a:X.K=K:=by rfl):XC X (.builtin "sorted") (Bh K):=a▸#[Rg]
def TK(H H':Hp):Prop:=∀a b,H a=!.tup b->H' a=!.tup b
def TK.trans(a:TK H H1)(b:TK H1 H2):TK H H2:=λp c h=>b p c<|a p c h
def I7.tk(s:I7 H H'):TK H H':=λa b h=>s _ _ h
def Kp.tk(D:Dk H d b)(k:Kp d b H H'):TK H H':=λa c h=>k _ _ h (D.tup_ne h).1 (D.tup_ne h).2
def Rh(g:H l=!.lst xs):TK H (aH H l<|.lst ys):=λa b h=>by
 have:a≠l:=λe=>by rw[e,g]at h;cases h
 rw[aD this];exact h
def OL(H:Hp):Nat->TV->V->Prop
 | 0,.sc v,x=>x=v/\pE v=true
 | _+1,.sc v,x=>x=v/\pE v=true
 | n+1,.tp c,x=>∃a b,x=.ref a/\H a=!.tup b/\Paired (OL H n) c b
 | _,_,_=>False
def OL.scal{n:Nat}{v:V}(h:pE v=true):OL H n (.sc v) v:=by
 cases n<;>exact#[rfl,h]
def OL.s{n:Nat}:OL H n (.sc<|.str z) (.str z):=.scal rfl
def OL.i{n:Nat}:OL H n (.sc<|.int z) (.int z):=.scal rfl
section
variable {es:List Expr}{t:TA}
def Ri(t:TA):TE:=λd H Q=>t d H λb c=>b.length<=1000/\∀p a,I7 c a->a p=!.tup b->Q (.ref p) a
def Ya{g}(h:PA X es t):PE X (.Tuple es g pos) (Ri t):=by
 intro f s m H Q I i;refine wpAny_Tuple_spliced<|bR (h pos f s m H _ I i) λj a #[k,c,d,r,z,q]=>#[by rw[<- r.length];exact jL z,?_];have l:c a.heap.objs.size=none:=d.hok.fresh<|bD _;refine#[.ref a.heap.objs.size,aH c a.heap.objs.size<|.tup k,d.laid (t':=a.toks) (λb u e=>jM _ e) (bD _) ?_,rfl,q _ _ (aF l) aA];exact#[jL z,j,r,#[_,TW _ rfl,rfl,_,rfl]]
def R.ap{a}(h:XA X es t):XE X (.Tuple es a pos) (Ri t):=#[Ya h.h]
end
section
def Ask(lt:Nat->Nat->Bool)(n:Nat){b:Type}:W.KasT b->(b->Prop)->Prop
 | .ret a,Q=>Q a
 | .ask i j k,Q=>i<n/\j<n/\Ask lt n (k<|lt i j) Q
theorem Ask.bind{lt:Nat->Nat->Bool}{n:Nat}{b c:Type}{f:b->W.KasT c}{Q:c->Prop}:∀(t:W.KasT b),Ask lt n t (λa=>Ask lt n (f a) Q)->Ask lt n (t.bind f) Q
 | .ret _,h=>h
 | .ask i j k,h=>#[h.1,h.2.1,Ask.bind (k<|lt i j) h.2.2]
theorem Ask.wp{lt:Nat->Nat->Bool}{n:Nat}{d:Type}{b:Nat->Nat->(Bool->NE->Prop)->NE->Prop}{s:NE}{G:d->NE->Prop}(c:∀i j C,i<n->j<n->C (lt i j) s->b i j C s) :
  ∀(t:W.KasT d),Ask lt n t (λa=>G a s)->t.kasWp b G s
 | .ret _,h=>h
 | .ask i j k,h=>c i j _ h.1 h.2.1<|Ask.wp c (k<|lt i j) h.2.2
variable {O:KeyOrd}{key:Nat->O.α}{n:Nat}
abbrev kg(key:Nat->O.α)(p:Array Nat)(i:Nat):O.α:=key<|p.getD i 0
abbrev qP(key:Nat->O.α)(i j:Nat):Bool:=O.blt (key i)<|key j
def PN(n:Nat)(p:Array Nat):Prop:=p.Perm (List.range n).toArray
def PN.size(h:PN n p):p.size=n:=by
 have:=h.size_eq;simpa using this
def PN.lt(h:PN n p){i:Nat}(a:i<n):p.getD i 0<n:=by
 have b:i<p.size:=by rw[h.size];exact a
 have e:p.getD i 0=p[i]:=by simp[Array.getD,b]
 rw[e];have c:p[i]∈(List.range n).toArray.toList:=(Array.perm_iff_toList_perm.mp h).mem_iff.mp Zs;simpa using c
def gd{p q:Array Nat}{i j:Nat}(h:p[i]?=q[j]?):p.getD i 0=q.getD j 0:=by
 rw[Array.getD_eq_getD_getElem?,Array.getD_eq_getD_getElem?,h]
def Gq{i j:Nat}(b:j<=p.size)(k:Nat):kg key (W.kas_rev p i j) k=if i<=k/\k<j then kg key p (i+j-1-k) else kg key p k:=by
 have e:=getElem?_mirror_all (xs:=p) (i:=i) b k;unfold kg W.kas_rev;by_cases a:i<=k/\k<j
 .rw[LM a]at e ⊢;rw[gd e]
 rw[LK a]at e ⊢;rw[gd e]
def Bi{i j:Nat}(b:j<=p.size)(a:∀k,i<=k->k<j->kg key p k=kg key p (j-1))(k:Nat):kg key (W.kas_rev p i j) k=kg key p k:=by
 rw[Gq b];split
 .rename_i h;rw[a (i+j-1-k) Zo Zo,a k h.1 h.2]
 rfl
def Rj(hs:a<p.size)(hd:d<=a)(k:Nat):kg key (bubble p a d) k=if k=a-d then kg key p a else if a-d<k/\k<=a then kg key p (k-1) else kg key p k:=by
 have e:=getElem?_bubble (xs:=p) hs d hd k;unfold kg;by_cases b:k=a-d
 .rw[LM b]at e ⊢;rw[gd e]
 rw[LK b]at e ⊢;by_cases c:a-d<k/\k<=a
 .rw[LM c]at e ⊢;rw[gd e]
 rw[LK c]at e ⊢;rw[gd e]
def PN.rev(h:PN n p)(i j:Nat):PN n (W.kas_rev p i j):=(mirror_perm _ _ _ _).trans h
def PN.bub(h:PN n p)(i j:Nat):PN n (bubble p i j):=(bubble_perm _ _ _).trans h
def Up(key:Nat->O.α)(p:Array Nat)(m:Nat):Prop:=∀i j,i<=j->j<m->O.kle (kg key p i) (kg key p j)
def Dn(key:Nat->O.α)(p:Array Nat)(m:Nat):Prop:=∀i j,i<=j->j<m->O.kle (kg key p j) (kg key p i)
def Up.one:Up key p 1:=λi j a b=>by
 have e:i=j:=by omega
 subst e;exact KeyOrd.kle_refl _
def Up.more(h:Up key p m)(d:1<=m)(hs:O.kle (kg key p<|m-1) (kg key p m)):Up key p (m+1):=λi j a e=>by
 by_cases b:j<m
 .exact h i j a b
 obtain rfl:j=m:=by omega
 by_cases c:i=j
 .subst c;exact KeyOrd.kle_refl _
 exact KeyOrd.kle_trans (h i (j-1) Zo Zo) hs
def Dn.more(h:Dn key p m)(d:1<=m)(hs:O.kle (kg key p m) (kg key p<|m-1)):Dn key p (m+1):=λi j a e=>by
 by_cases b:j<m
 .exact h i j a b
 obtain rfl:j=m:=by omega
 by_cases c:i=j
 .subst c;exact KeyOrd.kle_refl _
 exact KeyOrd.kle_trans hs<|h i (j-1) Zo Zo
theorem Bj{p:Array Nat}(c:PN n p){Q:Nat->Prop}:∀(f a:Nat),1<=a->a+f<=n->Up key p a →
  (∀m,a<=m->m<=a+f->Up key p m->(m=a+f∨O.klt (kg key p m) (kg key p<|m-1))->Q m)->Ask (qP key) n (W.kas_asc p f a) Q
 | 0,a,_,_,b,h=>h a (bD _) (bD _) b (.inl rfl)
 | f+1,a,g,k,b,h=>by
  exists c.lt Zo,c.lt Zo;show Ask (qP key) n (if O.blt (kg key p a) (kg key p<|a-1)=true then _ else _) Q
  cases d:O.blt (kg key p a) (kg key p<|a-1) with
  | true=>exact h a (bD _) Zo b (.inr d)
  | false=>
   refine Bj c f (a+1) Zo Zo (b.more g d) λm l m2 i j=>h m Zo Zo i<|j.imp (λe=>by omega) id
theorem qQ{Q:Array Nat×Nat×Nat->Prop}:∀(f:Nat)(p:Array Nat)(a q:Nat),PN n p->1<=a->a+f<=n->Dn key p a->q+1<=a->(∀i,a-(q+1)<=i->i<a->kg key p i=kg key p (a-1)) →
  (∀b m d,PN n b->1<=m->m<=a+f->Dn key b m->d+1<=m->(∀i,m-(d+1)<=i->i<m->kg key b i=kg key b (m-1))->Q (b,m,d))->Ask (qP key) n (W.kas_desc f p a q) Q
 | 0,p,a,q,c,g,_,hd,r,k,h=>h p a q c g (bD _) hd r k
 | f+1,p,a,q,c,g,D,hd,r,k,h=>by
  have A:a<=p.size:=by rw[c.size];omega
  have one:∀b:Array Nat,∀i,a+1-(0+1)<=i->i<a+1->kg key b i=kg key b (a+1-1):=λb i x y=>by
   have e:i=a+1-1:=by omega
   rw[e]
  exists c.lt Zo,c.lt Zo;show Ask (qP key) n (if O.blt (kg key p a) (kg key p<|a-1)=true then _ else _) Q
  cases s:O.blt (kg key p a) (kg key p<|a-1) with
  | true=>
   rw[LM rfl];have t:=hd.more g<|KeyOrd.kle_of_klt s;by_cases u:q>0
   .rw[LM u];have v:=Bi (key:=key) A k;refine qQ f _ (a+1) 0 (c.rev _ _) Zo Zo (λi j x y=>by rw[v,v];exact t i j x y) Zo (one _) λb m d l o w=>h b m d l o Zo
   rw[LK u];exact qQ f _ (a+1) 0 c Zo Zo t Zo (one _) λb m d l o w=>h b m d l o Zo
  | false=>
   rw[LK Zd];exists c.lt Zo,c.lt Zo;show Ask (qP key) n (if O.blt (kg key p<|a-1) (kg key p a)=true then _ else _) Q
   cases z:O.blt (kg key p<|a-1) (kg key p a) with
   | true=>exact h p a q c g Zo hd r k
   | false=>
    rw[LK Zd];have B:kg key p a=kg key p (a-1):=KeyOrd.kle_antisymm z s;refine qQ f p (a+1) (q+1) c Zo Zo (hd.more g z) Zo (λi x y=>?_) λb m d l o w=>h b m d l o Zo;rw[show a+1-1=a from rfl];by_cases C:i=a
    .rw[C]
    rw[B];exact k i (by clear C D A;omega) Zo
def zK(b:PN n p)(e:1<=a)(g:a<=r)(k:r<=n)(hd:Dn key p a)(h:∀m c,PN n c->1<=m->m<=r->Up key c m->Q (m,c)) :
  Ask (qP key) n (W.kas_tail3 a r p) Q:=by
 have d:a<=p.size:=by rw[b.size];omega
 refine Ask.bind _<|Bj (b.rev 0 a) (r-a) a e Zo (λi j x y=>?_) λm l m2 f _=>h m _ (b.rev 0 a) Zo Zo f;rw[Gq d,Gq d,LM Zo,LM Zo];exact hd _ _ (by clear d k g e;omega) Zo
def qR(o:PN n p)(t:a+1<=r)(d:r<=n)(hd:Dn key p (a+1))(h:∀m b,PN n b->1<=m->m<=r->Up key b m->Q (m,b)) :
  Ask (qP key) n (W.kas_descPart a r p) Q:=by
 refine Ask.bind _<|qQ (r-(a+1)) p (a+1) 0 o Zo Zo hd Zo (λi x y=>by rw[show i=a+1-1 by omega]) λb m q c e u f v s=>?_;have l:m<=b.size:=by rw[c.size];omega
 dsimp only;by_cases g:q>0
 .rw[LM g];have k:=Bi (key:=key) l s;exact zK (c.rev _ _) e Zo d (λi j x y=>by rw[k,k];exact f i j x y) h
 rw[LK g];exact zK c e Zo d f h
def Lu(b:PN n p)(B:1<=r)(o:r<=n)(h:∀m f,PN n f->1<=m->m<=r->Up key f m->Q (m,f)) :
  Ask (qP key) n (W.kas_count r p) Q:=by
 refine Ask.bind _<|Bj b (r-1) 1 (bD _) Zo Up.one λa q C c v=>?_;by_cases e:a=r
 .rw[LM (by simpa using e)];exact h a p b q Zo c
 rw[LK (by simpa using e)];have s:O.klt (kg key p a) (kg key p<|a-1):=v.resolve_left (by clear C o;omega);by_cases g:a>1
 .rw[LM g];exists b.lt Zo,b.lt (by clear v e g;omega);show Ask (qP key) n (if O.blt (kg key p 0) (kg key p<|a-1)=true then _ else _) Q
  cases w:O.blt (kg key p 0) (kg key p<|a-1) with
  | true=>exact h a p b q (by clear v e o q;omega) c
  | false=>
   rw[LK Zd];have u:a<=p.size:=by rw[b.size];omega
   have d:∀k,0<=k->k<a->kg key p k=kg key p (a-1):=λk _ z=>KeyOrd.kle_antisymm (c k (a-1) Zo Zo) (KeyOrd.kle_trans w<|c 0 k Zo z)
   have t:=Bi (key:=key) u d;refine qR (b.rev _ _) Zo o (λi j x y=>?_) h;rw[t,t];by_cases A:j<a
   .rw[d i Zo Zo,d j Zo A];exact KeyOrd.kle_refl _
   obtain rfl:j=a:=by omega
   by_cases l:i=j
   .subst l;exact KeyOrd.kle_refl _
   rw[d i Zo Zo];exact KeyOrd.kle_of_klt s
 rw[LK g];obtain rfl:a=1:=by omega
 refine qR b Zo o (λi j x y=>?_) h;by_cases l:i=j
 .subst l;exact KeyOrd.kle_refl _
 obtain rfl:i=0:=by omega
 obtain rfl:j=1:=by omega
 exact KeyOrd.kle_of_klt s
theorem rY{p:Array Nat}{k:Nat}{Q:Nat->Prop}(a:PN n p)(j:k<n)(b:Up key p k):∀(f l r:Nat),l<=r->r<=k->r-l<=f->(∀i,i<l->O.kle (kg key p i) (kg key p k))->(∀i,r<=i->i<k->O.klt (kg key p k) (kg key p i)) →
  (∀l,l<=k->(∀i,i<l->O.kle (kg key p i) (kg key p k))->(∀i,l<=i->i<k->O.klt (kg key p k) (kg key p i))->Q l)->Ask (qP key) n (W.kas_place p k f l r) Q
 | 0,l,r,o,c,q,d,e,h=>by
  obtain rfl:l=r:=by omega
  exact h l c d e
 | f+1,l,r,o,c,q,d,e,h=>by
  unfold W.kas_place;by_cases g:l≥r
  .rw[LM g];obtain rfl:l=r:=by omega
   exact h l c d e
  rw[LK g];exists a.lt j,a.lt Zo;show Ask (qP key) n (if O.blt (kg key p k) (kg key p<|(l+r)/2)=true then _ else _) Q
  cases m:O.blt (kg key p k) (kg key p<|(l+r)/2) with
  | true=>
   rw[LM rfl];exact rY a j b f l _ Zo Zo (by clear j c g;omega) d (λi x y=>KeyOrd.klt_of_klt_of_kle m<|b _ _ x y) h
  | false=>
   rw[LK Zd];exact rY a j b f _ r Zo c Zo (λi x=>KeyOrd.kle_trans (b i ((l+r)/2) Zo Zo) m) e h
theorem Jo{Q:Array Nat->Prop}:∀(f:Nat)(p:Array Nat)(k:Nat),PN n p->k+f=n->Up key p k->(∀d,PN n d->Up key d n->Q d)->Ask (qP key) n (W.kas_bin f p k) Q
 | 0,p,k,b,e,a,h=>h p b (by
  obtain rfl:k=n:=by omega
  exact a)
 | f+1,p,k,b,e,a,h=>by
  refine Ask.bind _<|rY b Zo a k 0 k Zo Zo Zo (λi x=>by omega) (λi x y=>by omega) λl s lo r=>?_;have g:k<p.size:=by rw[b.size];omega
  refine Jo f _ (k+1) (b.bub _ _) Zo (λi j x y=>?_) h;rw[Rj g (by clear e g x y;omega),Rj g (by clear e g x y;omega),show k-(k-l)=l by clear e g x y;omega];by_cases m:i=l
  .rw[LM m];by_cases c:j=l
   .rw[LM c];exact KeyOrd.kle_refl _
   rw[LK c,LM (by clear e s g;omega)];exact KeyOrd.kle_of_klt<|r _ (by clear e g s y;omega) (by clear e m x g;omega)
  rw[LK m];by_cases c:j=l
  .rw[LM c,LK Zo];exact lo _ Zo
  rw[LK c];by_cases o:l<i/\i<=k
  .rw[LM o,LM Zo];exact a _ _ Zo Zo
  rw[LK o];by_cases q:l<j/\j<=k
  .rw[LM q];exact a _ _ (by clear e g s y;omega) Zo
  rw[LK q];exact a _ _ x (by clear e o g x;omega)
def Rk(d:1<=n)(h:∀p,PN n p->Up key p n->Q p):Ask (qP key) n (W.kas_sort n) Q:=by
 refine Ask.bind _<|Lu (p:=(List.range n).toArray) (Array.Perm.refl _) d (bD _) λm p a e m2 b=>?_;dsimp only;by_cases c:m<n
 .rw[LM c];rw[show max m 1=m by omega];exact Jo _ p m a Zo b h
 rw[LK c];obtain rfl:m=n:=by omega
 exact h p a b
end
abbrev Z:=Addr×Str×Int
abbrev FO:=List Z
def zle(x y:Z):Prop:=x.2.1.cps.toList<=y.2.1.cps.toList
def OS(H:Hp)(zs:FO):Prop:=∀z∈zs,H z.1=!.tup [.str z.2.1,.int z.2.2]
def OS.same(h:OS H zs)(s:I7 H H'):OS H' zs:=λz a=>s _ _<|h z a
def bM(zs:FO):A1:=zs.map λz=>V.ref z.1
section
variable {s:NE}
theorem rZ:∀ {xs:A1}{vs:C4} (i:Nat),Vals xs vs->i<xs.length->∀x,xs[i]?=!x->RelV x (vs.getD i Value.none)
 | x::xs,v::vs,0,.cons r b,_,y,a=>by
  cases a;exact r
 | x::xs,v::vs,i+1,.cons r b,c,y,a=>by
  have:=rZ i b (by simpa using c) y (by simpa using a);simpa using this
def Du{c:Type}{f:c->V}{g:c->PP}:∀ {l:List c},(∀a∈l,RelV (f a)<|g a)->Vals (l.map f) (l.map g)
 | [],_=>.nil
 | a::l,h=>.cons (h a eG)<|Du λb d=>h b<|cR _ d
def aDT(K:W.Frag):A1->Hp->VK->Prop:=λvs H Q=>match vs with
 | [.ref a]=>∃b:FO,MO K H a (bM b)/\OS H b/\(b.map (·.2.1)).Nodup/\b.length<64/\∀l c,H l=none->c.Perm b->c.Pairwise zle->Q (.ref l) (aH H l<|.lst<|bM c)
 | _=>False
end
theorem wA:∀ {ks:A2}{vs:C4},vs.length=ks.length->(∀(i:Nat)(v:PP),vs[i]?=!v->∃x t,ks[i]?=!x/\v=Value.str x t)->StrsAre vs ks
 | [],[],_,_=>.nil
 | k::ks,v::vs,a,h=>by
  obtain⟨x,t,b,rfl⟩:=h 0 v rfl;cases b;exact .cons k t (wA (by simpa using a) λi v c=>by simpa using h (i+1) v (by simpa using c))
section
variable {prog:Program}{s:NE}
def Dv(D:A.handled=none)(lo:(d==sysModules)=false)(hd:s.heap.DictOf (bE prog w) d kvs)(n:kvs.map (·.1)=c.map Sum.inr)(o:c.length<64)(h:∀(a h':Heap)(tk:Nat)(out:Array Value)(e:Nat),(∀b f,s.heap.get? b=!f->a.get? b=!f)->(∀b f,a.get? b=!f->h'.get? b=!f)->h'.get? a.objs.size=!seqObj "list" out e->StrsAre out.toList (qE c)->Q (.ref a.objs.size) {s with heap:=h',toks:=tk }) :
  wpAny (model prog w) A (call (.builtin "sorted") [.ref d]) Q E s:=by
 have p:kvs.length=c.length:=by simpa using congrArg length n
 obtain⟨V,F⟩:=hd.dictAt;apply Calls.call_function_entry kind_sorted plain_sorted entry_sorted<|args_sorted1 _;unfold Builtin.«sorted»;apply XV (m:=checkCount "sorted" 1 1 _);apply W1;apply XV;refine W.kdu_collect (W.kdl_dict lo) D F (by rw[p];exact gK (le_of_lt o) Zd) λa tk l G q=>?_;have g:StrsAre l.toList c:=wA (by rw[Array.length_toList,q.1,p]) λi v H=>by
  refine JB (q.2 i v (by simpa using H)) (JR λk x=>JW λI J=>?_);have j:(kvs.map (·.1))[i]?=!k:=by rw[eJ,I];rfl
  rw[n,eJ]at j;cases r:c[i]? with
  | none=>rw[r]at j;cases j
  | some y=>
   rw[r]at j;cases j;rcases bL (show qF (Sum.inr y) v=true from J) with⟨_,_,e,_⟩|⟨z,t,e,K⟩
   .cases e
   cases e;exact#[_,t,rfl,K]
 generalize l.toList=vs at g;have u:vs.length<64:=by rw[g.length];exact o
 apply XV;apply wpAny_newList
 .have g2:(a.push<|seqObj "list" vs.toArray 0).get? a.objs.size=!seqObj "list" vs.toArray 0:=TW _ rfl;apply XV;apply wpAny_holding;refine wpAny_call_entry slot_list_sort #[_,g2,rfl] entry_list_sort (list_sort_treeK (s:={s with heap:=a.push<|seqObj "list" vs.toArray 0,toks:=tk }) strKind_oneLt g2 g.keysOf (λT U rest e=>keyKind_strs (by rw[<- e];exact g)) u λL M N=>#[_,rfl,W1 #[_,rfl,?_]])<|args_list_sort _;refine JB (sorted_out_str g M N) (JU λX=>JE λO P R=>?_);obtain⟨e,S⟩:=sortedHeap_at (out:=(arrOf L).map (·.2)) g2;refine h a _ _ _ e G (λb f B=>?_) S<|Rf P R▸O;have C:=Heap.lt_size B;rw[sortedHeap_old (ne_of_lt C) (by rw[size_push'];exact lt_succ_of_lt C)];exact jM _ B
 exact gK (le_of_lt u) Zd
end
def wB:A1->Hp->VK->Prop:=λvs H Q=>match vs with
 | [.ref a]=>∃(b:A2)(c:DI),Rd H a (.dK c)/\c.map (·.1)=b.map Sum.inr/\b.length<64/\∀l,H l=none->Q (.ref l) (aH H l<|.lst<|(qE b).map V.str)
 | _=>False
def Lv(f:X.calm=true):LQ X (.builtin "sorted") wB:=by
 intro v s A H x y Q I r h;unfold wB at h;split at h
 .rename_i a;revert h;refine JR λg w=>KJ λi j b q=>?_;obtain⟨u,rfl,l⟩:=gX r;cases l;refine JB (qJ I.hok i) (JE λ_ hd=>JU λvs=>JW λd dd=>?_);refine Dv (I.ok.hd f) hd dd (by rw[<- d.keys];exact j) b λm z tk out e n k p t=>?_;have c:=I.kept (t':=s.toks) n;refine#[.ref m.objs.size,_,c.laid (t':=tk) (o:=.lst ((qE g).map V.str)) k (bD _) #[?_,out.toList,e,rX t,p],rfl,q _<|c.hok.fresh<|bD _];rw[aV,qO];exact gK (le_of_lt b) Zd
 exact h.elim
def R.ij(a:X.calm=true):XC X (.builtin "sorted") wB:=#[Lv a]
def Bk:typeLookup (.type "list") "keys"=pure none:=am_miss_of_fast (by kernel_rfl)
def oK:plainId "dict.update.loop"=true:=by decide +kernel
def zL:entryFor table "dict.update.loop"=some Builtin.«dict.update.loop»:=entryFor_of_tree (by kernel_rfl)
section
variable {prog:Program}{s:NE}
def Yb{k:Nat}(f:s.heap.get? a=!o)(i:o.cls=.type "list")(j:o.data=.seq xs k)(hd:o.dict=none)(q:A.handled=none)(h:∀h' tk,(∀b l,s.heap.get? b=!l->h'.get? b=!l)->Q none {s with heap:=h',toks:=tk }):wpAny (model prog w) A (getAttr? (.ref a) "keys") Q E s:=by
 obtain⟨c,dct,u,sl⟩:=o;simp only at i j hd;subst i j hd;obtain⟨r,g,d,tk,os⟩:=s;have m:∀n,(#[r,g,d,n,os]:NE).TypeIs (.ref a) "list":=λ_=>#[_,f,rfl]
 have f1:=sub_AttributeError;have v:=F.slot_list_getattribute.lookup;have x:=F.slot_list_getattribute.bind<|.ref a;have y:=am_list_getattr_none;have t:=Bk;unfold getAttr? getAttrBy? getAttrBy
 repeat (any_goals (first|assumption|exact m _|((with_reducible show wpAny _ _ (call (Value.builtin "list.__getattribute__") _ _) _ _ _);refine call_meets F.slot_list_getattribute (m _) am_entry_list_getattribute (F.args_list_getattribute_2 _ _) (meets_getattribute_miss_list a xs k sl "keys" _ t Zk) #[f,q,λh' n e p=>?_])|wp_step))
 refine JB p.there (JR λz B C=>?_);show wpAny _ _ (getattributeRaised _ _ _ _ _ _ _) _ _ _;unfold getattributeRaised;repeat (any_goals (first|assumption|wp_step))
 exact h _ _ p.keeps
def x6(h:Heap)(v:PP)(q:bC×V):Prop:=∃a u x,v=Value.ref a/\IsTup h a (toArray [u,x])/\RelV (kV q.1) u/\RelV q.2 x
def Rl(hh:A.handled=none){its:C4}{qs:DI}(S:I≠l)(y:I≠d)(RE:l≠d) :
  ∀(k i:Nat)(s:NE)(kvs:DI)(vs:GQ)(z:Int),its.length-i=k->i<=its.length->qs.length=its.length->s.heap.IsListIter I l i->s.heap.IsList l its.toArray->(∀(j:Nat)(v:PP)(q:bC×V),its[j]?=!v->qs[j]?=!q->x6 s.heap v q) →
  (∀(j:Nat)(v:PP)(a:TD),its[j]?=!v->v=Value.ref a->a≠I/\a≠d)->s.heap.DictOf (bE prog w) d vs->KV kvs vs->kvs.length+k<=1000 →
  (∀h' tk g,(∀b c,b≠I->b≠d->s.heap.get? b=!c->h'.get? b=!c)->h'.DictOf (bE prog w) d g->KV (aK kvs<|qs.drop i) g->R (.ok<|.ret res) {s with heap:=h',toks:=tk }) →
  codeAny (model prog w) A (.builtin "dict.update.loop" #[[.ref d,.ref I,.int z 0,res],[]]) R s:=by
 intro k;induction k with
 | zero=>
  intro i s kvs vs z hk hi h B m C p hd f hz D;obtain rfl:i=its.length:=by omega
  refine codeAny_builtin zL ?_;rw[Around.under_plainId oK _];show wpAny _ A.in1 (pyNext (.ref I)>>=_) _ _ s;apply XV;refine wpAny_pyNext_list_end hh B m Zs λh' M=>?_;show wpAny _ A.in1 (Builtin.Dict.addKeywords d []>>=_) _ _ _;apply XV;apply W1;apply W1;refine D h' s.toks vs (λb c hb _ e=>M b c hb e) (hd.extBut M y.symm) ?_;rw[<- h,drop_length];exact f
 | succ k ih=>
  intro i s kvs vs z hk hi h B m C p hd f hz D;have N:i<its.length:=by clear hi hz h;omega
  obtain⟨v,F⟩:∃v,its[i]?=!v:=#[its[i],by simp[N]];obtain⟨q,G⟩:∃q,qs[i]?=!q:=#[qs[i],by simp[h,N]];refine JB (C i v q F G) (LB λa u x=>KJ λζ η ru rx=>?_);subst ζ;obtain⟨c,LY,VS,n,U⟩:=η;obtain⟨na,nd⟩:=p i _ a F rfl;refine codeAny_builtin zL ?_;rw[Around.under_plainId oK _];show wpAny _ A.in1 (pyNext (.ref I)>>=_) _ _ s;apply XV;refine wpAny_pyNext_list_item B m (x:=.ref a) (by simpa using F) λh' W H=>?_;have O:h'.get? a=!c:=(H.2 a na).trans LY;have DB:h'.DictOf (bE prog w) d vs:=hd.extBut H.extBut y.symm;apply XV;apply wpAny_holding;apply XV;apply wpAny_tryCatch;unfold Builtin.Dict.pairItems;apply XV;refine wpAny_typeOf (T:="tuple") #[c,O,VS] ?_;rw[LM Zd];apply XV;refine wpAny_seqItems O U ?_;apply W1;show wpAny _ _ (holding [u,x]<|dictSet d u x) _ _ _;apply wpAny_holding;have NC:vs.length<=sizeLine:=by rw[<- f.length];exact jL Zo
  refine wpAny_dictSet_pairs (s:={s with heap:=h' }) (pJ ru) DB (λh2 X L=>?_) NC;apply W1;exists plainId_quiet oK _;have hl0:=fL kvs q.1 q.2;have J:∀b o,b≠I->b≠d->s.heap.get? b=!o->h2.get? b=!o:=λb o r t e=>(L.2 b t).trans ((H.2 b r).trans e)
  refine ih (i+1) _ (cB kvs q.1 q.2) (stored vs q.1 x) _ (by clear hi NC hl0;omega) Zo h ?_ ?_ ?_ p X (f.put q.1 rx) Zo λh3 tk g k3 Y Z=>?_
  .exact W.at λo e=>(L.2 I y).trans e
  .obtain⟨o,e,a0⟩:=m;exact#[o,J l o S.symm RE e,a0]
  .intro j v q' P uv;refine JB (C j v q' P uv) (LB λK u' x'=>JE λζ η rr=>?_);subst ζ;obtain⟨Q,T4,r'⟩:=η;obtain⟨n1,n2⟩:=p j _ K P rfl;exact#[K,u',x',rfl,#[Q,J K Q n1 n2 T4,r'],rr]
  refine D h3 tk g (λb o r t e=>k3 b o r t<|J b o r t e) Y ?_;have e1:qs.drop i=q::qs.drop (i+1):=by
   rw[List.drop_eq_getElem_cons Zo]
   congr 1
   have:qs[i]?=some qs[i]:=hX Zo;rw[this]at G;exact Option.some.inj G
  rw[e1];exact Z
def Dw(I:A.handled=none){n:Nat}{its:C4}(J:s.heap.get? l=!o)(f:o.cls=.type "list")(m:o.data=.seq its.toArray n)(U:o.dict=none)(K:qs.length=its.length)(L:∀(j:Nat)(v:PP)(q:bC×V),its[j]?=!v->qs[j]?=!q->x6 s.heap v q)(hz:its.length<=1000)(a0:∀h' tk g,(∀b c,s.heap.get? b=!c->h'.get? b=!c)->h'.DictOf (bE prog w) s.heap.objs.size g->KV (aK [] qs) g->Q (.ref s.heap.objs.size) {s with heap:=h',toks:=tk }) :
  wpAny (model prog w) A (call (.type "dict") [.ref l]) Q E s:=by
 refine callType_codes (Q₁:=λD C=>D=.ref s.heap.objs.size/\C={s with heap:=s.heap.push {cls:=.type "dict",data:=.dict (toArray []) } }) F.kt_called_dict (F.kt_typeCall_dict_1 _) F.entry_dict_init (kt_code_dict_new _ #[rfl,rfl]) ?_;rintro D C ⟨rfl,rfl⟩;have p:(s.heap.push {cls:=.type "dict",data:=.dict (toArray []) }).DictOf (bE prog w) s.heap.objs.size []:=Heap.DictOf.new s.heap;have t:(s.heap.push {cls:=.type "dict",data:=.dict (toArray []) }).get? l=!o:=jM _ J;exists p.typeIs,F.args_dict_init_2 _ _;unfold Builtin.«dict.__init__»;apply XV;unfold Builtin.Dict.selfAndRest;apply XV;refine wpAny_notOrdered_dict p.typeIs ?_;show wpAny _ _ (pure (s.heap.objs.size,[Value.ref l])) _ _ _;apply W1;show wpAny _ _ (Builtin.Dict.updateFrom "dict.__init__" s.heap.objs.size (.ref l) [] .none) _ _ _;unfold Builtin.Dict.updateFrom;apply XV;refine wpAny_typeOf (T:="list") #[o,t,f] ?_;rw[LM Zd];apply XV;refine Yb t f m U I λd tk h=>?_;rw[LM (show(none:D0).isNone=true from rfl)];apply XV;apply wpAny_rule;have M:d.get? l=!o:=h _ _ t;have W:d.IsList l its.toArray:=#[o,M,f,n,m];have G:d.DictOf (bE prog w) s.heap.objs.size []:=by
  revert p;refine LB λN O P=>JW λy r=>?_;exact#[N,O,P,h _ _ y,r]
 have i:s.heap.objs.size<d.objs.size:=by
  revert G;refine LB λN O P=>JW λy r=>?_;exact Heap.lt_size y
 have H:l<s.heap.objs.size:=Heap.lt_size J;apply XV;refine wpAny_pyIter_list (s:={s with heap:=d,toks:=tk }) W ?_;apply W1;exists plainId_quiet oK _;refine Rl (A:=A.in1) (s:={s with heap:=d.push {cls:=.type "list_iterator",data:=.fields (toArray [.ref l,.int 0 0]) },toks:=tk }) (its:=its) (qs:=qs) (l:=l) I (ne_of_gt<|lt_trans H i) (ne_of_gt i) (ne_of_lt H) its.length 0 [] [] 0 rfl (zero_le _) K #[_,TW _ rfl,rfl,rfl] ?_ ?_ ?_ (G.push _) .nil (by simpa using hz) ?_
 .exact#[o,jM _ M,f,n,m]
 .intro j v q k z;refine JB (L j v q k z) (LB λa u x=>JE λζ η R=>?_);subst ζ;obtain⟨c,B,r⟩:=η;exact#[a,u,x,rfl,#[c,jM _<|h _ _<|jM _ B,r],R]
 .intro j v a k e;obtain⟨q,z⟩:∃q,qs[j]?=!q:=by
   have:j<its.length:=(NJ.mp k).1;exact#[qs[j],by simp[K,this]]
  refine JB (L j v q k z) (LB λa' u x=>JE λS ζ R=>?_);obtain⟨c,B,r⟩:=ζ;rw[e]at S;cases S;have:=Heap.lt_size B;exact#[ne_of_lt<|lt_trans this i,ne_of_lt this]
 intro h' Y g Z DB X;refine#[rfl,a0 h' Y g (λb c e=>?_) DB X];have:=Heap.lt_size e;exact Z b c (ne_of_lt<|lt_trans this i) (ne_of_lt this)<|jM _<|h _ _<|jM _ e
end
abbrev W:=Addr×bC×V
def eH(H:Hp)(zs:List W):Prop:=∀z∈zs,H z.1=!.tup [kV z.2.1,z.2.2]
def Bl(K:W.Frag):A1->Hp->VK->Prop:=λvs H Q=>match vs with
 | [.ref a]=>∃b:List W,MO K H a (b.map λz=>V.ref z.1)/\eH H b/\b.length<=1000/\∀d,H d=none->Q (.ref d) (aH H d<|.dK<|aK []<|b.map (·.2))
 | _=>False
def Rm(m:X.calm=true):LQ X (.type "dict") (Bl X.K):=by
 intro P s Z H S T Q I r h;unfold Bl at h;split at h
 .rename_i a;revert h;refine JU λb=>KJ λp t R q=>?_;obtain⟨a0,rfl,u⟩:=gX r;cases u;refine JB (I.list p) (JU λf=>JE λg w _=>?_);revert w;refine JR λo n=>KJ λx y A hd=>?_;have B:b.length=f.length:=by
   have:=g.length;rw[aV]at this;exact this
  refine Dw (I.ok.hd m) x y hd A (qs:=b.map (·.2)) (by rw[aV];exact B) (λj v U C c=>?_) Zo λW tk D k hd l=>?_
  .rw[eJ]at c;cases d:b[j]? with
   | none=>rw[d]at c;cases c
   | some z=>
    rw[d]at c;cases c;have e:=t z<|kI d;obtain⟨_,Y,E,it⟩:=(show KU X.prog X.w H s.heap z.1 (.tup [kV z.2.1,z.2.2]) from I.hok _ _ e);have F:j<b.length:=(NJ.mp d).1;have i:RelV (V.ref z.1) (f.getD j Value.none):=rZ j g (by rw[aV];exact F) _ (by rw[eJ,d];rfl);have G:f.getD j Value.none=v:=by rw[getD_eq_getElem?_getD,C];rfl
    rw[G]at i;cases i
    cases E with
    | cons J K=>
     cases K with
     | cons L M=>
      cases M;exact#[z.1,_,_,rfl,it,J,L]
  have N:H s.heap.objs.size=none:=I.hok.fresh<|bD _;refine#[.ref s.heap.objs.size,_,I.laid (t':=tk) (o:=.dK (aK []<|b.map (·.2))) k (bD _) #[?_,?_,D,l,hd],rfl,q _ N]
  .have:=gQ (b.map (·.2)) [];rw[aV]at this;exact jL (by simp at this;omega)
  have O:=I.big;exact beq_eq_false_iff_ne.mpr<|ne_of_gt O
 exact h.elim
def R.fu{K:W.Frag}(a:X.calm=true)(b:X.K=K:=by rfl):XC X (.type "dict") (Bl K):=b▸#[Rm a]
def i3(a:TD)(o:Obj)(kvs:DI):It:=
 #[λi H=>H a=!(.frz o<|.dK kvs)/\i<kvs.length,λi H x b=>b=H/\(kvs.map λq=>kV q.1)[i]?=!x,λi H=>H a=!(.frz o<|.dK kvs)/\kvs.length<=i]
def Jp(a:TD)(o:Obj)(kvs:DI):yD (i3 a o kvs) (kvs.map λq=>kV q.1) (λH=>H a=!(.frz o<|.dK kvs)):=
 #[λi H b e=>#[e,by rwa [aV]at b],λi H x c _ _ y=>y,λH e=>#[e,by rw[aV];exact bD _]]
section
variable {s:NE}{a:TD}{o:Obj}{kvs:DI}
def Gr(ok:NW P w H h)(e:H a=!(.frz o<|.dK kvs)):h.get? a=!o/\(a==sysModules)=false/\∃vs b,KV kvs vs/\(∃es,o.data=.dict es b)/\h.DictAt (bE P w) a vs b:=by
 refine JB (show KU P w H h a (.frz o<|.dK kvs) from ok a _ e) (KJ λc z hd=>JU λvs=>JW λf dd=>?_);obtain⟨b,d⟩:=dd.dictAt;refine JB (id d) (JR λj es=>KJ λg k i l=>?_);rw[c]at g;cases g;exact#[c,hd,vs,b,f,#[es,i],d]
def Ro{P:Program}{w:World}{K:W.Frag}{S:Expr}(a it:TD){p:Nat}(N:∃es,o.data=.dict es p):vH P w K S (i3 a o kvs) [it] it (λi h=>h.IsKeyIter it a i kvs.length p) where
 mem:=by simp
 obj:=λi h st b f=>by
  obtain rfl:b=it:=by simpa using f
  revert st;refine JU λg=>JE λe c d=>?_;exact#[g,e,λv z=>by rw[d]at z;cases z]
 keep:=λi h q st k=>st.at λg e=>k it Zs g e
 item:=by
  intro X y A B O i pins s σ H a0 I r st C;subst y A B;obtain⟨D,T⟩:=C;refine JB (Gr I.hok D) (JE λU lo=>JR λvs E=>JE λn ζ dd=>?_);obtain⟨V,l⟩:=ζ;obtain⟨es,F⟩:=N;obtain rfl:E=p:=by
   rw[F]at l;cases l;rfl
  have u:=n.length;obtain⟨⟨k,a2⟩,Q⟩:∃a1,vs[i]?=!a1:=#[vs[i],hX Zo];have m:(kvs.map (·.1))[i]?=!k:=by rw[n.keys,eJ,Q];rfl
  refine JB (r it Zs) (MI λG f1 f2 J L M=>?_);rw[u]at st;refine wpAny_pyNext_dict_item st dd Q λx q Y R Z=>?_
  have I1:Inv X pins σ H {s with heap:=q }:=I.turned (t':=s.toks) (λb g f e=>(Z.2 b f).trans e) G f1 J L M;refine JB (id R) (JU λg=>JE λe c d=>?_);have rk:RelV (kV k) x:=by
   rcases bL (show qF k x=true from Y) with⟨j,t,rfl,rfl⟩|⟨z,t,rfl,rfl⟩
   .exact#[t,rfl]
   exact#[t,rfl]
  refine#[x,rfl,tP (s:={s with heap:=q }) e c d Zd #[kV k,H,I1,rk,#[rfl,?_],by rw[u];exact R,λb f=>(r b f).1]];rw[eJ]at m ⊢;cases z:kvs[i]? with
  | none=>rw[z]at m;cases m
  | some a3=>rw[z]at m;cases m;rfl
 done:=by
  intro X y A B O i pins s σ H a0 I r st C;subst y A B;obtain⟨D,T⟩:=C;refine JB (Gr I.hok D) (JE λU lo=>JR λvs E=>JE λn ζ dd=>?_);obtain⟨V,l⟩:=ζ;obtain⟨es,F⟩:=N;obtain rfl:E=p:=by
   rw[F]at l;cases l;rfl
  have u:=n.length;rw[u]at st;refine JB (r it Zs) (MI λG f1 f2 J L M=>?_);exact wpAny_pyNext_dict_end (I.ok.hd O) st dd (List.getElem?_eq_none Zo) λq eb=>#[rfl,I.turned (t':=s.toks) (λb g f e=>eb b g f e) G f1 J L M]
 self:=λ_ _ _ _ _ st h=>wpAny_pyIter_keyiter st h
def Inv.freeze(I:Inv X pins σ H s)(e:H a=!.dK kvs):∃c,s.heap.get? a=!c/\Inv X pins σ (aH H a<|.frz c<|.dK kvs) s:=by
 refine JB (Df I.hok e) (JE λz hd=>JU λvs=>JW λd dd=>?_);refine JB (id dd) (LB λc f h=>JW λg r=>?_);exists c,g;have:=I.write (t':=s.toks) (h':=s.heap) (x:=a) (e:=a) (o:=.frz c (.dK kvs)) (by rw[e];exact True.intro) (.inl rfl) (λb u _ q=>q) #[c,g] #[g,z,hd,vs,d,dd];exact this
def Inv.thaw(I:Inv X pins σ H s)(e:H a=!(.frz o<|.dK kvs))(k:∀o' u,X.H₀ a≠some (.frz o' u)):Inv X pins σ (aH H a<|.dK kvs) s where
 ok:=I.ok
 os:=I.os
 bare:=I.bare
 base:=by
  have l:∀b,H b=none->b≠a:=λb z q=>by rw[q,e]at z;cases z
  refine#[I.base.keep,I.base.slot,λb f q n m=>?_,I.base.there,λb i q=>?_,λb f u q=>?_,λb ps q=>?_]
  .have:=I.base.free b f q n m;rw[aD (l b this)];exact this
  .have:=I.base.tups b i q;rw[aD (aL this e nofun)];exact this
  .have:=I.base.frzs b f u q;by_cases d:b=a
   .subst d;exact IZ q<|k f u
   rw[aD d];exact this
  obtain⟨more,j⟩:=I.base.tbls b ps q;exact#[more,by rw[aD (aL j e nofun)];exact j]
 loc:=I.loc
 cell:=I.cell
 free:=by
  have z:=I.free;rw[aD (λq=>by rw[q,e]at z;cases z)];exact z
 freeC:=λx c h=>by
  have z:=I.freeC x c h;rw[aD (λq=>by rw[q,e]at z;cases z)];exact z
 pin:=λp r=>by
  refine JB (I.pin p r) (JE λt g w=>?_);refine#[t,?_,w];rw[aD (λq=>by rw[q,e]at g;cases g)];exact g
 hok:=by
  intro b u d;by_cases q:b=a
  .subst q;rw[aA]at d;cases d;exact(show KU X.prog X.w H s.heap b (.frz o<|.dK kvs) from I.hok b _ e).2
  rw[aD q]at d;refine(I.hok b u d).stay (λc v _ h=>h) (λc h=>?_) λc i h=>?_
  .rw[aD (aL h e nofun)];exact h
  rw[aD (aL h e nofun)];exact h
 len:=I.len
def ya(c:TE):TI:=λσ H R=>c σ H λx b=>mR x λa=>∃kvs,b a=!.dK kvs/\∀o,R (i3 a o kvs) (aH b a<|.frz o<|.dK kvs)
def aCb{i:TE}(n:PE X l i):PI X m l (ya i):=by
 intro pins s σ H R I h;refine bR (n pins s σ H _ I h) ?_;refine λv c=>JR λx p=>JE λr t f=>?_
 (try dsimp only at f);rw[cX]at f;obtain⟨a,rfl,kvs,e,q⟩:=f;cases t;obtain⟨j,g,d⟩:=r.freeze e;refine JB (Gr d.hok<|aA (a:=a)) (JE λz lo=>JR λvs A=>JE λk u dd=>?_);have w:(aH p a<|.frz j<|.dK kvs) c.heap.objs.size=none:=d.hok.fresh<|bD _;refine wpAny_pyIter_dict lo dd ?_;refine#[c.heap.objs.size,[c.heap.objs.size],_,_,_,rfl,d.kept (t':=c.toks) λb o e=>jM _ e,Ro a _ u,#[_,TW _ rfl,rfl,?_],λb y=>?_,q j]
 .rw[k.length];rfl
 obtain rfl:b=c.heap.objs.size:=by simpa using y
 exact d.fpOk (bD _) w
def ym(t:TE):TE:=λσ H Q=>t σ H λv b=>∃a kvs o,(∃c,H a=!.dK c)/\b a=!(.frz o<|.dK kvs)/\Q v (aH b a<|.dK kvs)
def Yc{t:TE}(b:PE X e t):PE X e (ym t):=by
 intro pins s σ H Q I h;refine bR (b pins s σ H _ I h) λu k #[v,l,c,d,a,kvs,o,#[m,f],g,q]=>#[v,_,c.thaw g λi j z=>?_,d,q]
 have:=I.base.frzs a i j z;rw[f]at this;cases this
end
inductive yw(K:W.Frag)(f:Str)(H:Hp)(a:TD)(Q:VK):Prop
 | mk (C dx:TD) (fs:CB) (v:V) (h1:H a=!.ins C dx fs) (h2:PM K C) (h3:KA K C f) (h4:fs.lookup f=!v) (q:Q v H):yw K f H a Q
def zw(K:W.Frag)(b:TE)(f:Str):TE:=λd H Q=>b d H λx c=>mR x λa=>yw K f c a Q
inductive aAF(K:W.Frag)(f:Str)(H:Hp)(a:TD)(y:V)(N:Hp->Prop):Prop
 | mk (C dx:TD) (fs:CB) (h1:H a=!.ins C dx fs) (h2:PM K C) (h3:KA K C f) (h4:fs.length<1000) (q:N (aH H a<|.ins C dx<|bI f y fs)):aAF K f H a y N
def aAG(K:W.Frag)(c tv:TE)(f:Str):TS:=λD b H=>tv b H λy d=>c b d λx e=>mR x λa=>aAF K f e a y<|D.nx b
section
variable {e o value:Expr}{f:Str}{pos':Pos}{tv:TE}{K:W.Frag}
def Yd(g:PE X e te)(i:attributeBase e f X.env (eval e X.env)=eval e X.env):PE X (.Attribute e f pos) (zw X.K te f):=by
 intro d s w H Q I h;refine Wq i<|bR (g d s w H _ I h) ?_;refine λu y=>JR λx j=>JE λk m b=>?_;(try dsimp only at b);rw[cX]at b;obtain⟨a,rfl,C,z,fs,v,p,c,n,l,q⟩:=b;obtain rfl:u=Value.ref a:=m;exact Fp k p c n l λA B r t=>#[v,j,r,t,q]
def Ye(i:PE X o ta)(j:PE X value tv)(hs:swapsWith value (!.Attribute o f pos') pos.line X.env=pure false):PS X (.Assign [.Attribute o f pos'] value pos) (aAG X.K ta tv f):=by
 intro g s d H D I h;refine plainObj_wpAny_Assign_Attribute (bR (j g s d H _ I h) λu k #[y,m,p,r,q]=>bR (i g k d m _ p q) ?_) hs;refine λt E=>JR λx F=>JE λv w b=>?_;(try dsimp only at b);rw[cX]at b;obtain⟨a,rfl,C,G,fs,z,c,n,l,A⟩:=b;obtain rfl:t=Value.ref a:=w;exact Fq v z c n l r λJ B=>#[d,_,B,A]
end
structure bP(P:Program)(w:World)(K:W.Frag)(mg:X5)(base:Heap)(n:Nat)(C:TD)(m:Str)(ps:A2)(sp:Sp):Prop where
 ex:∃f fd,PM K C/\Oy K C m f/\MY P w K mg base vP n f fd ps sp/\Binds K fd ps []
structure QJ(P:Program)(w:World)(K:W.Frag)(mg:X5)(base:Heap)(n:Nat)(x:Str)(C:TD)(ps:A2)(dvs:A1)(sp:Sp):Prop where
 ex:∃f fd ds,mg x=!.ref C/\Mk K C f/\MY P w K mg base vP n f fd ps sp/\Binds K fd ps ds/\Vals dvs ds
inductive qe(C:TD)(m:Str)(H:Hp)(a:TD)(R:Prop):Prop
 | mk (dx:TD) (fs:CB) (h1:H a=!.ins C dx fs) (h2:fs.lookup m=none) (r:R):qe C m H a R
def Jq(C:TD)(m:Str)(sp:Sp)(d:TE)(t:TA):TE:=λc H Q=>d c H λx b=>mR x λa=>qe C m b a<|t c b λvs e=>sp (.ref a::vs) e Q E0
section
variable {e o:Expr}{es:List Expr}{m x:Str}{p:Pos}{t:TA}{C:TD}{n:Nat}{ps:A2}{sp:Sp}{dvs:A1}
def Rp(w:PE X o ta)(c:bP X.prog X.w X.K X.mg X.base n C m ps sp)(y:LO n X.A)(z:PA X (e::es) t)(hs:aT e=true)(A:(backTo pos<|starEach es X.env).any (·.1)=false)(B:eval (.Call (.Attribute o m apos) (e::es) [] pos) X.env=(do
   let g←eval o X.env
   standAt apos.atName
   let (f,first)←holding [g] (!"~pK~k~[")
   callWith pos f first (!"z?Yno" (e::es)) (!"z?Y~Z~]" []))) :
  PE X (.Call (.Attribute o m apos) (e::es) [] pos) (Jq C m sp ta t):=by
 refine JB c.ex (JR λf N=>KJ λD i F E=>?_);intro d s v H Q I h;refine W.methodCall_KW (pl:=pl) (bR (w d s v H _ I h) ?_) B;refine λu G=>JR λx J=>JE λj K b=>?_;(try dsimp only at b);rw[cX]at b;obtain⟨a,rfl,O,fs,L,l,q⟩:=b;obtain rfl:u=Value.ref a:=K;refine pS j L D i l ?_;refine W.callWith_K (first:=[.ref a]) (h₀:=X.base) I.ok.mod.kin i.kp (bR (z pos d G v J _ j q) λus P #[vs,R,k,r,M]=>#[k.kIn,?_]) (bS hs) A;exact As (us:=.ref a::us) (vs:=.ref a::vs) (dvs:=[]) (ds:=[]) F y E .nil zC k (.cons rfl r) (by rw[append_nil];exact M)
def Lw(k:PE X o ta)(c:bP X.prog X.w X.K X.mg X.base n C m ps sp)(r:LO n X.A)(v:eval (.Call (.Attribute o m apos) [] [] pos) X.env=(do
   let g←eval o X.env
   standAt apos.atName
   let (f,first)←holding [g] (!"~pK~k~[")
   callWith pos f first (!"z?Yno" []) (!"z?Y~Z~]" []))) :
  PE X (.Call (.Attribute o m apos) [] [] pos) (Jq C m sp ta iF):=by
 refine JB c.ex (JR λf D=>KJ λw i F y=>?_);intro j s B H Q I h;refine W.methodCall_KW (pl:=pl) (bR (k j s B H _ I h) ?_) v;refine λu E=>JR λx G=>JE λb z d=>?_;(try dsimp only at d);rw[cX]at d;obtain⟨a,rfl,J,fs,A,l,q⟩:=d;obtain rfl:u=Value.ref a:=z;refine pS b A w i l ?_;exact W.callWith_K0 (first:=[.ref a]) b.kIn i.kp<|As (us:=[.ref a]) (vs:=[.ref a]) (dvs:=[]) (ds:=[]) F r y .nil zC b (.cons rfl .nil) (by rw[append_nil];exact q)
end
structure TH(K:W.Frag)(x qual:Str)(st:Stmt)(dv:PP)(f:TD)(fd:FuncData):Prop where
 ex:∃(oc:PP)(od:D6)(kV doc pm:PP)(an:D6)(cdv ct:PP)(osl:Array (D0)),
  fd=W.fnOf x qual (bJ st) (aZ st) (aB st) dv kV doc pm an cdv ct/\K.lookup f=some #[oc,od,.func fd,osl]/\W.codeIn K cdv qual=true
section
variable {K:W.Frag}{mg:X5}{base:Heap}{x qual:Str}{st:Stmt}{dv:PP}{f C:TD}{fd:FuncData}{N ps:A2}{k:Nat}{sp:Sp}
def TH.go(F:TH K x qual st dv f fd)(S:aG N ps (aB st))(len:∀vs H Q E,sp vs H Q E->vs.length=ps.length)(c:∀(a:PP)(A:Around)(b:List Env)(s:NE)(H:Hp)(vs:A1)(Q:VK)(E:XK),LO k (!"|-~-~(a@Ffw")->sp vs H Q E →
   ∃t,XB (pT vP P w K mg base N qual (aB st) f a A b s H E).nox (aZ st) t/\t {nx:=λ_ H'=>Q .non H',rt:=Q } (start N vs) H):MY P w K mg base vP (k+1) f fd ps sp:=by
 refine JB F.ex (RH λl m kV i n o a p j=>JE λζ lk d=>?_);subst ζ;refine v5 lk d S len λA b s H vs Q E e g=>?_;obtain⟨t,h,q⟩:=c a A b s H vs Q E e g;exact#[t,h.h.nox,q]
structure MethAt(K:W.Frag)(C:TD)(m qual:Str)(st:Stmt)(ps:A2):Prop where
 cl:PM K C
 ex:∃f fd,RO K m qual st f fd/\Oy K C m f/\Binds K fd ps []
def MethAt.gg{m:Str}(D:MethAt K C m qual st ps)(S:aG N ps (aB st))(c:∀(f:TD)(a:PP)(A:Around)(b:List Env)(s:NE)(H:Hp)(vs:A1)(Q:VK)(E:XK),LO k (!"|-~-~(a@Ffw")->sp vs H Q E →
   ∃t,XB (pT vP P w K mg base N qual (aB st) f a A b s H E).nox (aZ st) t/\t {nx:=λ_ H'=>Q .non H',rt:=Q } (start N vs) H)(len:∀vs H Q E,sp vs H Q E->vs.length=ps.length:=by intro vs H Q E h;first | (cases h with | mk=>subst_vars;rfl) | repeat (first | (obtain⟨rfl,_⟩:=h;rfl) | obtain⟨_,h⟩:=h)):bP P w K mg base (k+1) C m ps sp:=by
 refine JB D.ex (JR λf fd=>JE λF d e=>?_);exact#[f,fd,D.cl,d,F.go S len<|c f,e]
structure ClsAt(K:W.Frag)(mg:X5)(x:Str)(C:TD)(qual:Str)(st:Stmt)(ps:A2)(dvs:HF):Prop where
 ex:∃f fd dv,mg x=!.ref C/\TH K "__init__" qual st dv f fd/\Mk K C f/\∀d∈dvs,∃ds,Binds K fd ps ds/\Vals d ds
def ClsAt.gg{dvs:HF}(D:ClsAt K mg x C qual st ps dvs)(S:aG N ps (aB st))(g:∀(f:TD)(a:PP)(A:Around)(c:List Env)(s:NE)(H:Hp)(vs:A1)(Q:VK)(E:XK),LO k (!"|-~-~(a@Ffw")->sp vs H Q E →
   ∃t,XB (pT vP P w K mg base N qual (aB st) f a A c s H E).nox (aZ st) t/\t {nx:=λ_ H'=>Q .non H',rt:=Q } (start N vs) H)(len:∀vs H Q E,sp vs H Q E->vs.length=ps.length:=by intro vs H Q E h;first | (cases h with | mk=>subst_vars;rfl) | repeat (first | (obtain⟨rfl,_⟩:=h;rfl) | obtain⟨_,h⟩:=h)):∀d∈dvs,QJ P w K mg base (k+1) x C ps d sp:=by
 intro d hd;refine JB D.ex (LB λf fd dv=>KJ λe F M i=>?_);obtain⟨j,b,v⟩:=i d hd;exact#[f,fd,j,e,M,F.go S len<|g f,b,v]
end
namespace R
section
variable {e o i value:Expr}{es:List Expr}{m x f:Str}{p pos':Pos}{tv td ty:TE}{t:TA}{C:TD}{n:Nat}{ps:A2}{sp:Sp}{dvs:A1}{K:W.Frag}{tg:Expr}
def wD(a:XE X e te):XI X tg e (ya te):=#[aCb a.h]
def jz(a:XE X e te):XE X e (ym te):=#[Yc a.h]
def ah(a:XE X e te)(b:X.K=K:=by rfl)(c:attributeBase e f X.env (eval e X.env)=eval e X.env:=by rfl):XE X (.Attribute e f pos) (zw K te f):=b▸#[Yd a.h c]
def ax(a:XE X o ta)(b:XE X value tv)(c:X.K=K:=by rfl)(hs:swapsWith value (!.Attribute o f pos') pos.line X.env=pure false:=by rfl):XS X (.Assign [.Attribute o f pos'] value pos) (aAG K ta tv f):=c▸#[Ye a.h b.h hs]
def bg(a:X.A.units+1<cLine)(b:XE X o td)(c:XE X i ty)(hs:nj i:=by exact λ_ _=>rfl):XE X (.Subscript o i pos) (wh td ty):=#[Xa a b.h c.h hs]
def ay(c:bP X.prog X.w X.K X.mg X.base n C m ps sp)(d:LO a X.A)(g:XE X o ta)(h:XA X (e::es) t)(hs:aT e=true:=by rfl)(j:es.all aT=true:=by rfl)(k:eval (.Call (.Attribute o m apos) (e::es) [] pos) X.env=(do
   let b←eval o X.env
   standAt apos.atName
   let (f,first)←holding [b] (!"^K~k~[")
   callWith pos f first (!"z?Yno" (e::es)) (!"z?Y~Z~]" [])):=by rfl)(l:n<=a:=by decide):XE X (.Call (.Attribute o m apos) (e::es) [] pos) (Jq C m sp ta t):=#[Rp g.h c (d.mono l) h.h hs (gY j) k]
def aw(c:bP X.prog X.w X.K X.mg X.base n C m ps sp)(d:LO a X.A)(g:XE X o ta)(h:eval (.Call (.Attribute o m apos) [] [] pos) X.env=(do
   let b←eval o X.env
   standAt apos.atName
   let (f,first)←holding [b] (!"^K~k~[")
   callWith pos f first (!"z?Yno" []) (!"z?Y~Z~]" [])):=by rfl)(j:n<=a:=by decide):XE X (.Call (.Attribute o m apos) [] [] pos) (Jq C m sp ta iF):=#[Lw g.h c (d.mono j) h]
def da(c:QJ X.prog X.w X.K X.mg X.base n x C ps [] sp)(b:LO a X.A)(d:Gl X x)(g:XA X (e::es) t)(h:OV x:=by decide)(hs:aT e=true:=by rfl)(j:es.all aT=true:=by rfl)(k:n+1<=a:=by decide) :
  XE X (.Call (.Name x p) (e::es) [] pos) (Iq C sp [] E0 t):=by
 refine JB c.ex (LB λf r s=>MJ λl M F q hd=>?_);exact#[Ws M F (b.mono k) d l q hd zC g.h h (bS hs)<|gY j]
def ie(c:QJ X.prog X.w X.K X.mg X.base n x C ps dvs sp)(b:LO a X.A)(d:Gl X x)(g:OV x:=by decide)(h:n+1<=a:=by decide) :
  XE X (.Call (.Name x p) [] [] pos) (Iq C sp dvs E0 iF):=by
 refine JB c.ex (LB λf l q=>MJ λj M F k hd=>?_);exact#[Pa M F (b.mono h) d j k hd zC g]
end
end R
def mK(prs:BD):DI:=prs.map λq=>(Sum.inr q.1,V.int q.2)
def bZ(prs:BD)(n:Str):Int:=(prs.lookup n).getD 0
def wC(prs:BD):(mK prs).map (·.1)=(prs.map (·.1)).map Sum.inr:=by
 unfold mK;rw[map_map,map_map];rfl
theorem uS(n:Str):∀(prs:BD),bA (mK prs) (Sum.inr n)=(prs.lookup n).map V.int
 | []=>rfl
 | q::r=>by
  unfold mK;rw[map_cons,lookup_cons];by_cases h:n=q.1
  .subst h;rw[cH rfl];simp
  have a:(n==q.1)=false:=beq_eq_false_iff_ne.mpr h;rw[cI (by intro z;exact h (Sum.inr.inj z).symm),a];exact uS n r
def uT(prs:BD)(n:Str):(bA (mK prs)<|Sum.inr n).getD (V.int 0)=V.int (bZ prs n):=by
 rw[uS];unfold bZ;cases prs.lookup n<;>rfl
theorem oN:∀(more kvs:DI),(more.map (·.1)).Nodup->(∀k∈more.map (·.1),bA kvs k=none)->aK kvs more=kvs++more
 | [],kvs,_,_=>(append_nil _).symm
 | p::r,kvs,b,h=>by
  obtain⟨c,d⟩:=nodup_cons.mp b;show aK (cB kvs p.1 p.2) r=_;have e:bA kvs p.1=none:=h p.1 Zs;rw[oN r _ d λk a=>?_,kL _ e]
  .simp
  rw[kK,LK (λ(z:k=p.1)=>c (by dsimp only;rw[<- z];exact a))];exact h k<|cR _ a
def sC:∀ {l:A2},l.Nodup->(l.map (Sum.inr:Str->bC)).Nodup
 | [],_=>nodup_nil
 | a::l,h=>by
  obtain⟨c,d⟩:=nodup_cons.mp h;refine nodup_cons.mpr #[λz=>?_,sC d];obtain⟨b,f,e⟩:=LA.mp z;cases e;exact c f
def zM(h:(prs.map (·.1)).Nodup):aK [] (mK prs)=mK prs:=by
 rw[oN _ _ (by rw[wC];exact sC h) λ_ _=>rfl];rfl
theorem wE{n:Str}{a:Int}:∀ {prs:BD},(prs.map (·.1)).Nodup->(n,a)∈prs->prs.lookup n=!a
 | [],_,h=>nomatch h
 | q::r,b,h=>by
  obtain⟨c,d⟩:=nodup_cons.mp b;rw[lookup_cons];rcases mem_cons.mp h with e|h
  .subst e;simp
  have f:(n==q.1)=false:=beq_eq_false_iff_ne.mpr λ(z:n=q.1)=>c (by dsimp only;rw[<- z];exact LA.mpr #[(n,a),h,rfl])
  rw[f];exact wE d h
def Yf{n:Str}(b:(prs.map (·.1)).Nodup)(h:(n,a)∈prs):bZ prs n=a:=by
 unfold bZ;rw[wE b h];rfl
def dF(prs:BD):BD:=((qE<|prs.map (·.1)).filter λn=>decide (0<bZ prs n)).map λn=>(n,bZ prs n)
theorem pW{n:Str}:∀ {prs:BD},n∈prs.map (·.1)->∃a,prs.lookup n=!a
 | q::r,h=>by
  rw[lookup_cons];by_cases e:n=q.1
  .subst e;exact#[q.2,Zs]
  have b:(n==q.1)=false:=beq_eq_false_iff_ne.mpr e;rw[b];rcases mem_cons.mp h with z|z
  .exact IZ z e
  exact pW z
structure Yg(K:W.Frag)(C:TD):Prop where
 cl:PM K C
 nA:KA K C "amounts"
structure OQ(C:TD)(H:Hp)(p:TD)(prs:BD):Prop where
 ex:∃dx d,H p=!.ins C dx [("amounts",.ref d)]/\H d=!(.dK<|mK prs)
 nd:(prs.map (·.1)).Nodup
def OQ.same(B:OQ C H p prs)(s:I7 H H'):OQ C H' p prs:=by
 refine JB B.ex (JR λa d=>JW λb c=>?_);exact#[#[a,d,s _ _ b,s _ _ c],B.nd]
def aCd(H:Hp)(r:V)(prs:BD):Prop:=(r=.non/\prs=[])∨∃l a,r=.ref l/\H l=!(.lst<|bM a)/\OS H a/\a.map (·.2)=prs
def lI(C:TD):Sp:=λvs H Q _=>∃(p:TD)(n:Str)(a:BD),vs=[.ref p,.str n]/\OQ C H p a/\Q (.int<|bZ a n) H
def wF(C:TD):Sp:=λvs H Q _=>∃(p:TD)(b:BD),vs=[.ref p]/\OQ C H p b/\b.length<64 ∧
 ∀(l:TD)(c:FO)(a:Hp),I7 H a->H l=none->a l=!(.lst<|bM c)->OS a c->c.map (·.2)=dF b->Q (.ref l) a
def wz(zs:FO):List W:=zs.map λz=>(z.1,Sum.inr z.2.1,V.int z.2.2)
def aCe(zs:FO):((wz zs).map λz=>V.ref z.1)=bM zs:=by
 unfold wz bM;rw[map_map];rfl
def aDY(h:OS H zs):eH H (wz zs):=λz a=>by
 obtain⟨y,b,rfl⟩:=LA.mp a;exact h y b
def aCf(zs:FO):(wz zs).map (·.2)=mK (zs.map (·.2)):=by
 unfold wz mK;rw[map_map,map_map];rfl
def aE0(y:V):bI "amounts" y []=[(("amounts":Str),y)]:=rfl
def aE1(x y:V):bI "amounts" y [(("amounts":Str),x)]=[(("amounts":Str),y)]:=by
 unfold bI;rw[LM rfl]
def hI(y:V):([(("amounts":Str),y)]:CB).lookup ("amounts":Str)=!y:=by
 rw[lookup_cons];simp
def sD(y:V)(h:(m==("amounts":Str))=false):([(("amounts":Str),y)]:CB).lookup m=none:=by
 rw[lookup_cons,h];rfl
inductive DW(one other nm:Str)(n:Int):Str->A1->BD->List (Str×A1)->Prop
 | add:DW one other nm n "add" [.str "add",.str nm,.int n] [(nm,n)] []
 | take:DW one other nm n "take" [.str "take",.str nm,.int n] [(nm,-n)] []
 | move:DW one other nm n "move" [.str "move",.str one,.str other,.int n] [(one,-n),(other,n)] []
 | send:DW one other nm n "send" [.str "send",.str one,.str nm,.int n] [(nm,-n)] [(one,[.str "add",.str nm,.int n])]
 | fetch:DW one other nm n "fetch" [.str "fetch",.str one,.str nm,.int n] [(nm,n)] [(one,[.str "take",.str nm,.int n])]
 | pass:DW one other nm n "pass" [.str "pass",.str one,.str other,.str nm,.int n] [] [(one,[.str "take",.str nm,.int n]),(other,[.str "add",.str nm,.int n])]
structure eK(wd:Str)(xs:A1)(cs:BD)(as:List (Str×A1)):Prop where
 ex:∃one other nm n,DW one other nm n wd xs cs as
def aD0(H:Hp)(q:Str×A1)(v:V):Prop:=∃a d,v=.ref a/\H a=!.tup [.str q.1,.ref d]/\H d=!.tup q.2
def sE:Sp:=λvs H Q _=>∃p wd c d e,vs=[.ref p]/\H p=!.tup c/\eK wd c d e/\∀t b a,I7 H a->a t=!(.tup<|bM b)->OS a b->b.map (·.2)=d->Q (.ref t) a
def Gs:Sp:=λvs H Q _=>∃p wd b e c,vs=[.ref p]/\H p=!.tup b/\eK wd b e c/\∀t d a,I7 H a->a t=!.tup d->Paired (aD0 a) c d->Q (.ref t) a
abbrev tS(z:Str):TV:=.sc<|.str z
abbrev tI(n:Int):TV:=.sc<|.int n
def qw(f:Str->Int)(a:BD):A1:=.str "is"::a.map λq=>V.int<|f q.1+q.2
def zN(C:TD):Sp:=λvs H Q _=>∃b p wd d e f c,vs=[.ref b,.ref p]/\OQ C H b c/\H p=!.tup d/\eK wd d e f/\∀t a,I7 H a->a t=!(.tup<|qw (bZ c) e)->Q (.ref t) a
def lJ(f:Str->Int)(a:TV):BD->TV
 | []=>a
 | q::r=>if q.2<0/\f q.1+q.2<0 then .tp [tS "short",tI (f q.1)] else if 0<q.2/\1000000000000<f q.1+q.2 then .tp [tS "full",tI (f q.1)] else lJ f a r
def Dx(f:Str->Int)(a:TV)(q:Str×Int)(r:BD):lJ f a (q::r)=if q.2<0/\f q.1+q.2<0 then .tp [tS "short",tI (f q.1)] else if 0<q.2/\1000000000000<f q.1+q.2 then .tp [tS "full",tI (f q.1)] else lJ f a r:=rfl
def qS(f:Str->Int)(a:BD)(as:List (Str×A1)):TV:=if as=[] then .tp ((qw f a).map .sc) else .sc .non
def Jr(C:TD):Sp:=λvs H Q _=>∃b p wd e c f a,vs=[.ref b,.ref p]/\OQ C H b a/\H p=!.tup e/\eK wd e c f/\∀v d,I7 H d->OL d 1 (lJ (bZ a) (qS (bZ a) c f) c) v->Q v d
theorem Js{H:Hp}{n:Nat}:∀ {xs:A1},(∀y∈xs,pE y=true)->Paired (OL H n) (xs.map TV.sc) xs
 | [],_=>.nil
 | y::r,h=>.cons (OL.scal<|h y eG)<|Js λz m=>h z<|cR _ m
def aCg(f:Str->Int)(a:BD):∀y∈qw f a,pE y=true:=λy b=>by
 rcases mem_cons.mp b with rfl|h
 .rfl
 obtain⟨q,_,rfl⟩:=LA.mp h;rfl
section
variable {σ:List (EY)}{s:NE}{h':Heap}
def Inv.turnLaid{ch:BZ}(I:Inv X pins σ H s)(g:∀b∈ch,rP X pins H b)(k:∀b u,b∉ch->s.heap.get? b=!u->h'.get? b=!u)(i:s.heap.objs.size<=a)(new:KU X.prog X.w (aH H a o) h' a o) :
  Inv X pins σ (aH H a o) {s with heap:=h',toks:=t' }:=by
 have h:=I.hok.fresh i;have j:∀b u,H b=!u->b∉ch:=λb u e z=>by rw[(g b z).1]at e;cases e
 refine I.step (g':=s.gens) (d':=s.drawn) (ch:=ch) (λb d=>#[(g b d).2.2.2.1,(g b d).2.1,(g b d).2.2.2.2.1,(g b d).2.2.2.2.2]) (λb u _ _ f e _=>k b u f e) (λb u _ _ f e _=>#[u.slots,k b u f e])
  (λb u _ e n=>by rw[aD (!"~C~:~K~<|s")];exact n) (λb u f e=>#[u,k b u f e]) (λb l e=>by rw[aD (aE e h)];exact e) (λb v u e=>by rw[aD (aE e h)];exact e)
  (λb ps e=>#[(toArray []),by rw[aD (aE e h),e];simp]) (λm p=>?_) (λb u e=>?_) I.bare
 .revert p;refine LB λu t w=>JW λx r=>?_;exact#[u,t,w,k _ u (λz=>(g _ z).2.1 rfl) x,r]
 by_cases d:b=a
 .subst d;rw[aA]at e;cases e;exact new
 rw[aD d]at e;refine(I.hok b u e).stay (λc v f q=>k c v ?_ q) (λc q=>by rw[aD (aE q h)];exact q) λc l q=>by rw[aD (aE q h)];exact q
 rcases f with z|z
 .rw[z];exact j b u e
 exact j c _ z
def Inv.turnL{ch:BZ}(I:Inv X pins σ H s)(d:∀b∈ch,rP X pins H b)(k:∀b u,b∉ch->s.heap.get? b=!u->h'.get? b=!u):Inv X pins σ H {s with heap:=h',toks:=t' }:=by
 have g:∀b u,H b=!u->b∉ch:=λb u e z=>by rw[(d b z).1]at e;cases e
 refine I.step (g':=s.gens) (d':=s.drawn) (ch:=ch) (λb f=>#[(d b f).2.2.2.1,(d b f).2.1,(d b f).2.2.2.2.1,(d b f).2.2.2.2.2]) (λb u _ _ a e _=>k b u a e) (λb u _ _ a e _=>#[u.slots,k b u a e])
  (λ_ _ _ _ n=>n) (λb u a e=>#[u,k b u a e]) (λ_ _ e=>e) (λ_ _ _ e=>e) (λb ps e=>#[(toArray []),by rw[e];simp]) (λm h=>?_) (λb u e=>?_) I.bare
 .revert h;refine LB λu i j=>JW λl r=>?_;exact#[u,i,j,k _ u (λz=>(d _ z).2.1 rfl) l,r]
 refine(I.hok b u e).stay (λc v a q=>k c v ?_ q) (λ_ q=>q) λ_ _ q=>q;rcases a with z|z
 .rw[z];exact g b u e
 exact g c _ z
end
def Ly(A:Around):A.in1.units=A.units+1:=rfl
def cO(xs ys:A1):Bool:=(List.range<|min xs.length ys.length).all (λj=>Dc (xs.getD j .non)<|ys.getD j .non)&&xs.length==ys.length
def q3(e:Bool):R2:=λx y H Q=>mR x λa=>mR y λb=>∃c d,H a=!.tup c/\H b=!.tup d/\(∀(j:Nat)(u v:V),c[j]?=!u->d[j]?=!v->eM u=true/\eM v=true)/\Q (.bl (if e then (not (cO c d)) else cO c d)) H
def aCi(k:Bool)(N:X.A.units+64<cLine):LZ X (compareOp (if k then .NotEq else .Eq)) (q3 k):=by
 intro M s O H x y v u Q I B C h;unfold q3 at h;rw[cX]at h;obtain⟨a,rfl,h⟩:=h;rw[cX]at h;revert h;refine JU λb=>JW λζ=>JR λc d=>KJ λg1 g2 D q=>?_;subst ζ;cases B;cases C;obtain⟨f,o,p,_⟩:=I.tuple<|JV g1;obtain⟨i,r,t,_⟩:=I.tuple<|JV g2;have E:f.length=c.length:=o.length.symm;have F:i.length=d.length:=r.length.symm;have n:∀j (l:j<f.toArray.size) (m:j<i.toArray.size),SeqAt.EqAt X.A.in1 s f.toArray[j] i.toArray[j] (Dc (c.getD j .non)<|d.getD j .non):=λj l m=>by
  rw[fK]at l m;obtain⟨w,G⟩:=Paired.get' (j:=j) o l;obtain⟨z,J⟩:=Paired.get' (j:=j) r m;obtain⟨f1,f2⟩:=D j c[j] d[j] (hX w)<|hX z;have K:c.getD j .non=c[j]:=by simp[List.getD,w]
  have L:d.getD j .non=d[j]:=by simp[List.getD,z]
  rw[K,L];simpa using Fy G J f1 f2
 have e:((List.range<|min f.toArray.size i.toArray.size).all (λj=>Dc (c.getD j .non)<|d.getD j .non)&&f.toArray.size==i.toArray.size)=cO c d:=by
  rw[fK,fK,E,F];rfl
 cases k with
 | true=>
  have g:=SeqAt.RcNeAt.tuples (A:=X.A) (s:=s) p t Zo n;rw[e]at g;exact g _ _ _ _ #[.bl _,H,I,rfl,q]
 | false=>
  have g:=SeqAt.RcAt.tuples (A:=X.A) (s:=s) p t Zo n;rw[e]at g;exact g _ _ _ _ #[.bl _,H,I,rfl,q]
def R.fw(a:X.A.units+64<cLine):kN X (compareOp .NotEq) (q3 true):=#[aCi true a]
section
variable {o:Expr}{to:TE}{p:Pos}
def aAH:Kr:=λo i v H Q=>∃a b,o=.ref a/\NZ H a i v b/\Q b
def Rq(b:X.A.units+1<cLine):We X aAH:=by
 intro k s r H o i v l m u Q I c d e h;revert h;refine JR λa f=>JE λζ g q=>?_;subst ζ;cases c;exact Li b I g d e λn j=>#[f,j,q]
def R.cf(a:X.A.units+1<cLine):pz X aAH:=#[Rq a]
end
def Rr(prs:BD)(n:Str)(v:Int):BD:=prs.map λq=>if q.1=n then (q.1,v) else q
def Lz(prs:BD)(n:Str)(v:Int):(Rr prs n v).map (·.1)=prs.map (·.1):=by
 unfold Rr;rw[map_map];refine map_congr_left λq _=>?_
 show(if q.1=n then (q.1,v) else q).1=q.1;split<;>rfl
def Yh{n:Str}{v:Int}(h:n∈prs.map (·.1)):cB (mK prs) (Sum.inr n) (.int v)=mK (Rr prs n v):=by
 unfold cB;rw[LM (by rw[dM,uS];obtain⟨a,b⟩:=pW h;rw[b];rfl)];unfold mK Rr;rw[map_map,map_map];refine map_congr_left λq _=>?_
 show(if (Sum.inr q.1:bC)=Sum.inr n then (Sum.inr q.1,V.int v) else ((Sum.inr q.1:bC),V.int q.2))=((Sum.inr (if q.1=n then (q.1,v) else q).1:bC),V.int (if q.1=n then (q.1,v) else q).2);by_cases e:q.1=n
 .rw[LM (by rw[e]),LM e]
 rw[LK (λz=>e<|Sum.inr.inj z),LK e]
def Bm(C:TD):Sp:=λvs H Q _=>∃(p e:TD)(r:V)(a:BD),vs=[.ref p,r]/\H p=!.ins C e []/\aCd H r a/\(a.map (·.1)).Nodup/\a.length<=1000 ∧
 ∀c d,H d=none->c p=!.ins C e [("amounts",.ref d)]->c d=!(.dK<|mK a)->(∀b o,H b=!o->b≠p->c b=!o)->Q .non c
def Rs(i j:Int):Prop:=0<j/\j<2^64
def Yi:LZ X (binaryOp .FloorDiv) (m2 Rs λi j=>.int<|i / j):=(hH (C:=Rs) (g:=λi j=>i / j) λi j _ _ s Q E a q=>by
 have b:i.fdiv j=i/j:=Int.fdiv_eq_ediv_of_nonneg _ (by have:=a.1;omega);refine floordiv_int (by have:=a.1;omega) (by rw[b];exact q)<|.inl<|PyProof.noPylong_of_log2 ?_;have c:j.natAbs<2^64:=by have:=a.1;have:=a.2;omega
 exact GI (Nat.log2_lt (by have:=a.1;omega) |>.mpr c) Zd).imp Be
def R.gq:kN X (binaryOp .FloorDiv) (m2 Rs λi j=>.int<|i/j):=#[Yi]
def aE3:DO:=LET++YP
def RA(z:Str):Prop:=1<=z.length/\z.length<=12/\∀c∈z.cps.toList,c∈aE3
def YQ(K:W.Frag)(a:TD):It:=
  #[λi H=>∃b x,MO K H a b/\b[i]?=!x,
   λi H v c=>∃t x,H t=none/\v=.ref t/\c=aH H t (.tup [.int i,x])/\∀b,MO K H a b->b[i]?=!x,
   λi H=>∃b,MO K H a b/\b.length<=i]
structure ESt(h:Heap)(e it a:TD)(i:Nat):Prop where
 e:∃old,IsEnum h e it i old
 i:h.IsListIter it a i
def Ma{P:Program}{w:World}{K:W.Frag}{es:List Expr}{n:Nat}{pos:Pos}{e it a:TD}(G:e≠it)(hea:a≠e)(hia:a≠it) :
  vH P w K (.Tuple es n pos) (YQ K a) [e,it] e (λi h=>ESt h e it a i) where
 mem:=by simp
 obj:=λi h st b c=>by
  obtain⟨f,d⟩:=st.e;refine JB st.i (JU λj=>JE λk _ Q=>?_);simp only [mem_cons,GH,or_false]at c;rcases c with rfl|rfl
  .exact#[_,d,λv q=>by have R:Data.fields _=Data.cell v:=q;cases R]
  exact#[_,k,λv q=>by rw[Q]at q;cases q]
 keep:=λi h h' st g=>by
  obtain⟨f,d⟩:=st.e;obtain⟨j,k,a0⟩:=st.i;exact#[#[f,g e Zs _ d],#[j,g it Zs _ k,a0]]
 item:=by
  intro X r t y J i N s σ H a1 I m st z;subst r t y;revert z;refine JR λS x=>JW λo L=>?_;refine JB (I.list o) (JU λO=>JE λA p _=>?_);obtain⟨u,T,U⟩:=A.get L;obtain⟨f,d⟩:=st.e;refine wpAny_pyNext_enum_item d st.i p.isList (by simpa using T) G λV k Y Z z1 B=>?_;exists _,rfl;refine wpAny_letOwnedTupleGo_enum k λh2 e2 C=>?_;have F:e<s.heap.objs.size:=Heap.lt_size d;have t2:h2.get? s.heap.objs.size=some {cls:=.type "tuple",data:=.seq (toArray [.int i s.toks,u]) }:=C.extBut _ _ (ne_of_gt F) Z;refine#[.ref s.heap.objs.size,aH H s.heap.objs.size<|.tup [.int i,x],I.turnLaid (t':=s.toks+1) m (λb a2 c D=>?_) (bD _) #[by show 2<=sizeLine;decide,[.int i s.toks,u],.cons #[_,rfl]<|.cons U .nil,#[_,t2,rfl,_,rfl]],rfl,?_,?_,λb c=>?_]
  .have l:b≠e/\b≠it:=by simpa using c
   exact C.extBut _ _ l.1<|B b a2 l.1 l.2 D
  .exact#[s.heap.objs.size,x,I.hok.fresh<|bD _,rfl,rfl,λzs hz=>by rw[I.list_inj hz o];exact L]
  .obtain⟨j,E,M⟩:=Y;exact#[#[_,by simpa using e2],#[j,C.extBut _ _ G.symm E,M]]
  have A3:b<s.heap.objs.size:=by
   obtain⟨j,E,M⟩:=st.i;simp only [mem_cons,GH,or_false]at c;rcases c with rfl|rfl
   .exact F
   exact Heap.lt_size E
  rw[aD (ne_of_lt A3)];exact(m b c).1
 done:=by
  intro X r t y J i N s σ H a1 I m st z;subst r t y;obtain⟨S,o,hl⟩:=z;obtain⟨O,A,p,_⟩:=I.list o;obtain⟨f,d⟩:=st.e;have l1:=A.length;refine wpAny_pyNext_enum_end (I.ok.hd J) d st.i p.isList (by simp;omega) λV B=>?_;refine#[rfl,I.turnL (t':=s.toks) m λb u c D=>?_];have l:b≠e/\b≠it:=by simpa using c
  exact B b u l.2 D
 self:=λ_ _ _ _ _ st h=>by
  obtain⟨f,d⟩:=st.e;exact wpAny_pyIter_enum d h
section
variable {a b:Expr}{p MX:Pos}{es:List Expr}{n:Nat}
def aAI(K:W.Frag)(ta:TE):TI:=λe H R=>ta e H λx c=>mR x λa=>∃d,MO K c a d/\R (YQ K a) c
def Yj(B:Gl X "enumerate")(C:X.mg "enumerate"=none)(D:PE X a ta)(i:aT a=true):PI X (.Tuple es n MX) (.Call (.Name "enumerate" p) [a] [] pos) (aAI X.K ta):=by
 intro g s A H R I h;have E:starEach [a] X.env=[(false,eval a X.env)]:=by rw[bS i];rfl
 have F:PA X [a] (tT ta iF):=Qm D Fu i;refine Call_<|vG I B C boot_enumerate<|PyProof.Rows.callWith_type1 (bR (F pos g s A H (λvs j=>match vs with|[x]=>(mR x λe=>∃l,MO X.K j e l/\R (YQ X.K e) j)|_=>False) I ?_) ?_) (by rw[E];rfl) rfl
 .exact h
 refine λP c=>JR λvs m=>JE λf G d=>?_;(try dsimp only at d);split at d
 rotate_left
 .exact d.elim
 rename_i x;rw[cX]at d;obtain⟨e,rfl,l,J,q⟩:=d
 cases G with
 | cons r K=>
  cases K;cases r;refine JB (f.list J) (JU λO=>JE λQ t _=>?_);refine call_enumerate_list t.isList λu v L S k=>?_;have M:Inv X g A m {c with heap:=u }:=f.kept (t':=c.toks) k;have w:e<c.heap.objs.size:=by
   obtain⟨o,N,_⟩:=t.isList;exact Heap.lt_size N
  refine wpAny_pyIter_enum (s:={c with heap:=u }) v ?_;refine#[c.heap.objs.size+1,_,_,_,m,rfl,M,Ma (ne_of_gt<|lt_succ_self _) (ne_of_lt<|lt_succ_of_lt w)<|ne_of_lt w,#[#[_,v],L],λb y=>?_,q];have z:c.heap.objs.size<=b:=by
   simp only [mem_cons,GH,or_false]at y;rcases y with rfl|rfl
   .exact Nat.le_add_right _ 1
   exact bD _
  exact f.fpOk z<|f.hok.fresh z
def R.ik{K:W.Frag}(c:Gl X "enumerate")(d:X.mg "enumerate"=none)(e:XE X a ta)(f:X.K=K:=by rfl)(g:aT a=true:=by rfl):XI X (.Tuple es n MX) (.Call (.Name "enumerate" p) [a] [] pos) (aAI K ta):=
 f▸#[Yj c d e.h g]
end
def Rt{K:W.Frag}{g:TG}{tb:TS}{D:iE}(Pv:Nat->St->Hp->Prop)(h:∀i b H,Pv i b H->MO K H a xs)(j:Pv 0 b H)(hs:∀(i:Nat)(x:V) b H t,xs[i]?=!x->Pv i b H->H t=none->g (.ref t) b (aH H t<|.tup [.int i,x]) λc H2=>tb {D with nx:=Pv<|i+1,ct:=Pv<|i+1,bk:=D.nx } c H2)(hd:∀ b H,Pv xs.length b H->D.nx b H) :
  ∃W:Nat->Nat->St->Hp->Prop,(∃m,W 0 m b H)/\∀i m b H,W i m b H →
   ((YQ K a).stop i H/\D.nx b H)∨((YQ K a).go i H/\∃N:St->Hp->Prop,(∀ d H',N d H'->∃m',m'<m/\W (i+1) m' d H')/\∀x H',(YQ K a).yld i H x H'->g x b H' λc H2=>tb {D with nx:=N,ct:=N,bk:=D.nx } c H2):=by
 exists λi m b H=>m=xs.length-i/\i<=xs.length/\Pv i b H,#[_,rfl,zero_le _,j];refine λi m b H=>JE λζ o p=>?_;subst ζ;have e:=h i b H p;by_cases f:i<xs.length
 .refine .inr #[#[xs,xs[i],e,hX f],Pv<|i+1,λd H' n=>#[xs.length-(i+1),Zo,rfl,f,n],?_];refine λv H'=>JR λt x=>KJ λk ζ η l=>?_;subst ζ η;exact hs i x b H t (l xs e) p k
 have:i=xs.length:=by omega
 subst this;exact .inl #[#[xs,e,bD _],hd b H p]
section
variable {prog:Program}{s:NE}
def Dy(b:(a==a)=true)(h:Q true s):wpAny (model prog w) A (eqBool a a) Q E s:=by
 unfold eqBool;refine wpAny_holding ?_;rw[LM b];exact XV<|wpAny_rule<|W1 h
def Ru(a:PP):(a==a)=true:=beq_self_eq_true a
def Dz{b a:Bool}{Q:Bool->NE->Prop}:∀(l:C4)(i:Nat),Q a s->W.KatLex prog w A b a Q (l.zip l) i s
 | [],i,h=>W.kat_nil h
 | x::l,i,h=>W.kat_cons<|Dy (Ru x)<|W.kat_yes<|Dz l (i+1) h
end
section
variable {s:NE}{a:TD}{o:Obj}{kvs:DI}
def aAJ(t:TS):TS:=λD σ H=>t {nx:=λc b=>∃a kvs o,(∃d,H a=!.dK d)/\b a=!(.frz o<|.dK kvs)/\D.nx c (aH b a<|.dK kvs),rt:=λ_ _=>False } σ H
def Yk{t:TS}(c:PS X e t):PS X e (aAJ t):=by
 intro pins s σ H D I h;refine bR (c pins s σ H _ I h) λf l q=>?_
 cases f with
 | next=>
  revert q;refine JR λb m=>JW λd=>LB λa kvs o=>JE λζ i q=>?_;obtain⟨n,g⟩:=ζ;refine#[b,_,d.thaw i λj k z=>?_,q];have:=I.base.frzs a j k z;rw[g]at this;cases this
 | brk=>revert q;refine JR λ_ _=>JW λ_ q=>?_;exact q.elim
 | cont=>revert q;refine JR λ_ _=>JW λ_ q=>?_;exact q.elim
 | ret u=>revert q;refine LB λ_ _ _=>JE λ_ _ q=>?_;exact q.elim
end
namespace R
section
variable {tg l:Expr}{tl:TE}{e:Stmt}{t:TS}
def jy(h:XS X e t):XS X e (aAJ t):=#[Yk h.h]
end
end R
section
variable {prog:Program}{K:Type} [DecidableEq K] {knd:HeapKind prog w K}{s:NE}{d a:TD}{k:K}
def wG(xs:List (K×TD×PP))(k:K):List (K×TD×PP):=xs.filter λx=>decide (x.1≠k)
def Rv(h:k∉xs.map (·.1)):wG xs k=xs:=by
 unfold wG;rw[filter_eq_self];intro x b;exact UF λe=>h<|LA.mpr #[x,b,e]
theorem tZ:∀ {xs:List (K×TD×PP)}{j:Nat}{p:TD×PP},(xs.map (·.1)).Nodup->xs[j]?=!(k,p)->wG xs k=xs.eraseIdx j
 | [],j,p,_,h=>by simp at h
 | x::r,0,p,b,h=>by
  rw[map_cons,nodup_cons]at b;have f:x=(k,p):=by simpa using h
  subst f;show filter _ _=r;rw[List.filter_cons_of_neg Zs];exact Rv b.1
 | x::r,j+1,p,b,h=>by
  rw[map_cons,nodup_cons]at b;have c:r[j]?=!(k,p):=by simpa using h
  have g:x.1≠k:=λe=>b.1 (e▸LA.mpr #[(k,p),kI c,rfl])
  show filter _ _=x::r.eraseIdx j;rw[List.filter_cons_of_pos (by simpa using g),<- tZ b.2 c];rfl
theorem pL{b c:Type}(f:b->c):∀(l:List b)(i:Nat),(l.map f).eraseIdx i=(l.eraseIdx i).map f
 | [],_=>rfl
 | _::_,0=>rfl
 | x::r,i+1=>by rw[map_cons,List.eraseIdx_cons_succ,List.eraseIdx_cons_succ,map_cons,pL f r i]
def lK(i:knd.room A)(m:knd.is s.heap k a)(n:s.heap.DictOfH knd d xs)(q:atKey xs k=none->Q none {s with toks:=s.toks+knd.draws k })(r:∀e p,atKey xs k=!p->e.val=p.2->∀h',h'.DictOfH knd d (wG xs k)->Heap.SameBut d s.heap h'->Q (!e) {s with heap:=h',toks:=s.toks+knd.draws k })(hsz:xs.length<=sizeLine):wpAny (model prog w) A (Builtin.Dict.takeOut d<|.ref a) Q E s:=by
 refine JB n (LB λo t u=>MI λb v hd c h f=>?_);unfold Builtin.Dict.takeOut;try with_reducible refine wpAny_holding ?_
 refine XV<|knd.pyHash i m ?_;refine XV<|wpAny_dictFind_heap (s:={s with toks:=s.toks+knd.draws k }) i m b hd c h f ?_ ?_
 .intro y;exact W1<|q<|atKey_none_of_get y
 intro j p g;refine XV<|wpAny_dictEntries (s:={s with toks:=s.toks+knd.draws k }) b hd ?_;rw[entry_at c j,g];refine XV<|wpAny_updateDictKeys (hz:=by have e:=size_of_entries c;omega) (s:={s with toks:=s.toks+knd.draws k }) b hd<|W1<|r _ p (atKey_of_get f g) rfl _ #[_,_,u+1,Heap.get?_update_self _ b<|Obj.isFreed_of_dict<|Obj.data_mapDictKeys hd _,
  v.mapDictKeys _,Obj.data_mapDictKeys hd _,?_,?_,?_]<|Heap.SameBut.update ..
 .rw[tZ f g,<- pL,<- c];obtain⟨l⟩:=t;simp
 .intro x z;exact knd.keeps (h x (mem_filter.mp z).1) b hd<|Heap.SameBut.update ..
 exact List.Nodup.sublist (List.Sublist.map _ List.filter_sublist) f
variable (knd)
def mL(hd:(d==sysModules)=false)(rest:C4)(D:rest=[]∨∃dflt,rest=[dflt]) :
    MeetsIn prog w (Builtin.«dict.pop» #[.ref d::.ref a::rest,[]]) (λA R s=>knd.room A.in1/\∃k xs,knd.is s.heap k a/\s.heap.DictOfH knd d xs/\xs.length<=sizeLine ∧
      ((∃p,atKey xs k=!p/\∀h' t',h'.DictOfH knd d (wG xs k)->Heap.SameBut d s.heap h'->R (.ok<|.ret p.2) {s with heap:=h',toks:=t' })∨
       (∃x,rest=[x]/\atKey xs k=none/\∀t',R (.ok<|.ret x) {s with toks:=t' }))):=
  .of_wp λA R s #[u,k,xs,v,f,t,h]=>by
    have F:=f;revert F;refine LB λo i J=>MI λz L B G I g=>?_;unfold Builtin.«dict.pop»;refine XV ?_;unfold Builtin.Dict.keyAndDefault;refine XV<|wpAny_notOrdered_dict f.typeIs ?_;have j:i.size=xs.length:=size_of_entries G;rcases D with rfl|⟨dflt,rfl⟩
    . obtain⟨p,b,h⟩|⟨x,y,_⟩:=h
      . show wpAny _ _ (pure (d,Value.ref a,none)) _ _ s
        refine W1 ?_;have l:i.isEmpty=false:=by
          cases xs with
          | nil=>cases b
          | cons x r=>rw[Array.isEmpty_eq_false_iff];intro e;rw[e]at j;simp at j
        simp only [keyPart,Option.isSome_none,Bool.false_eq_true,if_false];refine XV<|wpAny_dictEntries z B<|XV<|W1 ?_;rw[l];simp only [Bool.false_eq_true,if_false];refine XV<|lK u v f (λg=>by rw[g]at b;cases b) (λe C c m h' n q=>?_) t;rw[b]at c;cases c;simp only [Option.isNone_some,Bool.false_eq_true,if_false];exact XV (wpAny_letGo<|W1 #[e.val,rfl,by rw[m];exact h h' _ n q])
      . cases y
    . show wpAny _ _ (pure (d,Value.ref a,!dflt)) _ _ s
      refine W1 ?_;simp only [keyPart,Option.isSome_none,Bool.false_eq_true,if_false];refine XV<|wpAny_dictEntries z B<|XV<|W1 ?_;obtain⟨p,b,h⟩|⟨x,y,H,h⟩:=h
      . have l:i.isEmpty=false:=by
          cases xs with
          | nil=>cases b
          | cons x r=>rw[Array.isEmpty_eq_false_iff];intro e;rw[e]at j;simp at j
        rw[l];simp only [Bool.false_eq_true,if_false];refine XV<|lK u v f (λg=>by rw[g]at b;cases b) (λe C c m h' n q=>?_) t;rw[b]at c;cases c;simp only [Option.isNone_some,Bool.false_eq_true,if_false];exact XV (wpAny_letGo<|W1 #[e.val,rfl,by rw[m];exact h h' _ n q])
      . cases y
        cases l:i.isEmpty with
        | true=>
          simp only [if_true];refine XV<|wpAny_rule<|XV<|W1 ?_;simp only [Option.isNone_none,if_true];refine XV<|wpAny_missedRemoval_other hd ?_;exact XV (wpAny_rule<|W1 #[dflt,rfl,h s.toks])
        | false=>
          simp only [Bool.false_eq_true,if_false];refine XV<|lK u v f (λg=>?_) (λe C c m h' n q=>by rw[H]at c;cases c) t;simp only [Option.isNone_none,if_true];refine XV<|wpAny_missedRemoval_other hd ?_;exact XV<|wpAny_rule<|W1 #[dflt,rfl,h _]
end
section
variable {s:NE}{a b:TD}{kvs:BW}{k:FU}
def KT.drop(r:KT H kvs xs)(k:FU):KT H (cM kvs k) (wG xs k):=by
 induction r with
 | nil=>exact .nil
 | @cons p q ps d h t c=>
  unfold cM wG;by_cases e:p.1=k
  .rw[List.filter_cons_of_neg (by simpa using e),List.filter_cons_of_neg (by rw[<- h.1];simpa using e)];exact c
  rw[List.filter_cons_of_pos (by simpa using e),List.filter_cons_of_pos (by rw[<- h.1];simpa using e)];exact .cons h c
def Rw{v:V}{more:C4}(r:A.units+1<cLine)(I:Inv X pins σ H s)(e:H a=!.dT kvs)(t:H b=!(.tup<|k.map kV))(l:bA kvs k=!v)(g:more=[]∨∃x,more=[x])(h:∀f i,Inv X pins σ (aH H a<|.dT<|cM kvs k) i->RelV v f->Q f i):wpAny (model X.prog X.w) A (call (.builtin "dict.pop") (.ref a::.ref b::more)) Q E s:=by
 refine JB (Pj I.hok e) (JE λz hd=>JU λj=>JW λd dd=>?_);obtain⟨f,u,w⟩:=ND.some_of (v:=v) (o:=(atKey j k).map (·.2)) (by rw[<- l];exact d.val k);obtain⟨p,y,rfl⟩:=Option.map_eq_some_iff.mp u;have B:argsOk "dict.pop" #[.ref a::.ref b::more,[]]:=by
  rcases g with q|⟨x,q⟩
  .subst q;exact PySem.F.args_dict_pop_2 _ _
  subst q;exact PySem.F.args_dict_pop_3 _ _ _
 refine call_meetsIn PySem.F.slot_dict_pop dd.typeIs PySem.F.entry_dict_pop B (!"~s~y~;~P|:`more ~p{mL4 ")
  #[tupleKind_room_in1 r,k,j,nF I.hok t,dd,by rw[<- Paired.length d];exact z,.inl #[p,y,λN O C D=>h _ _ ?_ w]]
 revert C;refine LB λq F G=>MI λm J K L _ M=>?_;refine oI I (by rw[e];exact True.intro) D #[q,m] #[gK (qI kvs k) z,hd,_,(d.drop k).keeps λc P n=>?_,q,F,G,m,J,K,L,M];rw[aD (aL n e nofun)];exact n
def Yl(i:A.units+1<cLine)(I:Inv X pins σ H s)(e:H a=!.dT kvs)(j:H b=!(.tup<|k.map kV))(l:bA kvs k=none)(h:∀f,Inv X pins σ H f->Q r f) :
  wpAny (model X.prog X.w) A (call (.builtin "dict.pop") [.ref a,.ref b,r]) Q E s:=by
 refine JB (Pj I.hok e) (JE λz hd=>JU λc=>JW λd dd=>?_);have g:(atKey c k).map (·.2)=none:=ND.none_of (by rw[<- l];exact d.val k);have m:atKey c k=none:=by
  cases q:atKey c k with
  | none=>rfl
  | some p=>rw[q]at g;cases g
 exact call_meetsIn PySem.F.slot_dict_pop dd.typeIs PySem.F.entry_dict_pop (PySem.F.args_dict_pop_3 _ _ _) (!"~s~y~;~P|:??{mL4 " [r] (.inr #[r,rfl]))
  #[tupleKind_room_in1 i,k,c,nF I.hok j,dd,by rw[<- Paired.length d];exact z,.inr #[r,rfl,m,λn=>h _<|I.tok _]]
end
def Jt(g ty:TE):TE:=λf H Q=>g f H λx e=>∃a,x=.ref a/\d4 e a/\ty f e λy d=>∃c k b v,d a=!.dT c/\y=.ref b/\d b=!(.tup<|k.map kV)/\bA c k=!v/\Q v (aH d a<|.dT<|cM c k)
def Ju(g ty tx:TE):TE:=λe H Q=>g e H λx f=>∃a,x=.ref a/\d4 f a/\ty e f λy h=>tx e h λz d=>∃c k b,d a=!.dT c/\y=.ref b/\d b=some (.tup<|k.map kV) ∧
 (∀v,bA c k=!v->Q v (aH d a<|.dT<|cM c k))/\(bA c k=none->Q z d)
section
variable {o e f:Expr}{td ty tx:TE}
def Mb(j:X.A.units+1<cLine)(n:PE X o td)(p:PE X e ty)(m:M1 X o "pop" apos e cpos):PE X (.Call (.Attribute o "pop" apos) [e] [] cpos) (Jt td ty):=by
 intro c s i H Q I h;refine wpAny_Call_method m.base m.few m.line PySem.F.plainAttrs_dict PySem.F.slot_dict_pop PySem.F.type_dict_pop<|bR (n c s i H _ I h) ?_;refine λu q=>JR λx r=>JE λg t=>JU λa=>JE λw d z=>?_;subst w;obtain rfl:u=Value.ref a:=t;refine JB (vO g d) (JE λA B _=>?_);exists A,B;rw[m.trees];refine Calls.callWith_builtin rfl<|Calls.evalArgs_plain<|Calls.spliced_cons<|bR (p c q i r _ g z) λC O #[y,P,D,E,N,k,b,v,F,G,J,l,K]=>Calls.spliced_nil ?_;subst G;obtain rfl:C=Value.ref b:=E;exact Rw j D F J l (.inl rfl) λR S L M=>#[v,_,L,M,K]
def Mc(j:X.A.units+1<cLine)(w:PE X o td)(x:PE X e ty)(y:PE X f tx)(m:M2 X o "pop" apos e f cpos):PE X (.Call (.Attribute o "pop" apos) [e,f] [] cpos) (Ju td ty tx):=by
 intro c s i H a0 I h;refine wpAny_Call_method m.base m.few m.line PySem.F.plainAttrs_dict PySem.F.slot_dict_pop PySem.F.type_dict_pop<|bR (w c s i H _ I h) ?_;refine λu A=>JR λa1 B=>JE λn C=>JU λa=>JE λD d E=>?_;subst D;obtain rfl:u=Value.ref a:=C;refine JB (vO n d) (JE λF G _=>?_);exists F,G;rw[m.trees];refine Calls.callWith_builtin rfl (Calls.evalArgs_plain<|Calls.spliced_cons<|bR (x c A i B _ n E) λJ K #[a2,L,M,N,O]=>
  Calls.spliced_cons (bR (y c K i L _ M O) λP Y #[z,Q,p,R,t,k,b,q,S,r,T,U]=>Calls.spliced_nil ?_))
 subst S;obtain rfl:J=Value.ref b:=N
 cases l:bA t k with
 | some v=>exact Rw j p q r l (.inr #[P,rfl]) λZ V g W=>#[v,_,g,W,T v l]
 | none=>exact Yl j p q r l λV g=>#[z,Q,g,R,U l]
def R.im(a:X.A.units+1<cLine)(b:XE X o td)(c:XE X e ty)(d:attributeBase o "pop" X.env (eval o X.env)=eval o X.env:=by rfl)(g:(apos.endLine == cpos.line)=true:=by rfl)(h:((!"~R?Yno" [e]).all (λx=>(not (x.1)))&&(backToKw cpos<|keywordEach [] X.env).all (λx=>x.1.isSome)
  && decide (([e]:List Expr).length+([]:List Keyword).length+(if ([]:List Keyword).isEmpty then 0 else 1)<30))=true:=by rfl)(i:backTo cpos (starEach [e] X.env)=[(false,eval e X.env)]:=by rfl):XE X (.Call (.Attribute o "pop" apos) [e] [] cpos) (Jt td ty):=#[Mb a b.h c.h #[d,h,g,i]]
def R.io(a:X.A.units+1<cLine)(b:XE X o td)(c:XE X e ty)(d:XE X f tx)(g:attributeBase o "pop" X.env (eval o X.env)=eval o X.env:=by rfl)(h:(apos.endLine == cpos.line)=true:=by rfl)(i:((!"~R?Yno" [e,f]).all (λx=>(not (x.1)))&&(backToKw cpos<|keywordEach [] X.env).all (λx=>x.1.isSome)
  && decide (([e,f]:List Expr).length+([]:List Keyword).length+(if ([]:List Keyword).isEmpty then 0 else 1)<30))=true:=by rfl)(j:backTo cpos (starEach [e,f] X.env)=[(false,eval e X.env),(false,eval f X.env)]:=by rfl):XE X (.Call (.Attribute o "pop" apos) [e,f] [] cpos) (Ju td ty tx):=#[Mc a b.h c.h d.h #[g,i,h,j]]
def R.eg:XE X (.Dict [] [] pos) Pn:=#[Pp]
end
def Ym(b:Bool):R2:=λx y H Q=>mR y λa=>∃o,LP H a x o/\Q (.bl (if b then (not o.isSome) else o.isSome)) H
def Rx(b:Bool)(d:X.A.units+1<cLine):LZ X (compareOp (if b then .NotIn else .In)) (Ym b):=by
 intro j s k H x y v u Q I e f h;unfold Ym at h;rw[cX]at h;obtain⟨a,rfl,o,g,q⟩:=h;cases f;cases b
 .exact wg d I g e λi c=>#[.bl _,H,c,rfl,q]
 exact Ix d I g e λi c=>#[.bl _,H,c,rfl,q]
def R.eu(a:X.A.units+1<cLine):kN X (compareOp .In) (Ym false):=#[Rx false a]
def R.ip(a:X.A.units+1<cLine):kN X (compareOp .NotIn) (Ym true):=#[Rx true a]
inductive KE where
 | busy (n:Int) (d:TD)
 | kept (n t:Int) (d a:TD)
abbrev HA:=Option KE
abbrev KM:=Str×Str->HA
def KM.set(m:KM)(q:Str×Str)(e:HA):KM:=λr=>if r=q then e else m r
def KM.set_same{m:KM}:m.set q e q=e:=LM rfl
def KM.set_ne{m:KM}(h:r≠q):m.set q e r=m r:=LK h
def pk(q:Str×Str):FU:=[Sum.inr q.1,Sum.inr q.2]
def Bn(h:pk q=pk r):q=r:=by
 obtain⟨a,b⟩:=q;obtain⟨c,d⟩:=r;unfold pk at h;simp only [List.cons.injEq,Sum.inr.injEq,and_true]at h;rw[h.1,h.2]
def jF{t:TD}(h:H t=!.tup [.str q.1,.str q.2]):H t=!(.tup<|(pk q).map kV):=h
def fB:KE->Option (A1)
 | .busy n d=>some [.int n,.ref d]
 | .kept ..=>none
def fS:KE->Option (A1)
 | .busy ..=>none
 | .kept n t d a=>some [.int n,.int t,.ref d,.ref a]
structure MT(H:Hp)(kvs:BW)(m:KM)(f:KE->Option (A1))(L:Nat):Prop where
 nd:(kvs.map (·.1)).Nodup
 all:∀p∈kvs,∃q e xs t,p=(pk q,V.ref t)/\m q=!e/\f e=!xs/\H t=!.tup xs
 has:∀q e xs,m q=!e->f e=!xs->pk q∈kvs.map (·.1)
 len:kvs.length<=L
section
variable {κ:Type} [DecidableEq κ]
def qT{k:κ}{v:V}(h:bA kvs k=!v):(k,v)∈kvs:=by
 induction kvs with
 | nil=>cases h
 | cons p r a=>
  by_cases e:p.1=k
  .rw[cH e]at h;cases h;cases e;exact eG
  rw[cI e]at h;exact cR _<|a h
def Ea{k:κ}{v:V}(h:p∈cB kvs k v):p=(k,v)∨(p∈kvs/\p.1≠k):=by
 cases a:bA kvs k with
 | none=>
  rw[kL v a]at h;rcases MN.mp h with h|h
  .exact .inr #[h,λe=>kM a<|e▸LA.mpr #[p,h,rfl]]
  exact .inl (LV.mp h)
 | some x=>
  unfold cB at h;rw[dM,a]at h;simp only [Option.isSome_some,if_true]at h;obtain⟨b,c,rfl⟩:=LA.mp h;by_cases e:b.1=k
  .rw[LM e];left;rw[e]
  rw[LK e];exact .inr #[c,e]
def zO{k:κ}{v:V}(j:κ):j∈(cB kvs k v).map (·.1)↔j=k∨j∈kvs.map (·.1):=by
 cases a:bA kvs k with
 | none=>
  rw[kL v a,dL,MN];simp only [map_cons,map_nil,LV];exact Or.comm
 | some x=>
  have e:(cB kvs k v).map (·.1)=kvs.map (·.1):=by
   unfold cB;rw[dM,a];simp only [Option.isSome_some,if_true,map_map];refine map_congr_left λp _=>?_;simp only [Function.comp];split<;>rfl
  rw[e];exact#[.inr,λz=>z.elim (λz=>z▸Iz a) id]
def Jv{k:κ}{v:V}(a:(kvs.map (·.1)).Nodup):((cB kvs k v).map (·.1)).Nodup:=by
 cases b:bA kvs k with
 | none=>exact Xd v a b
 | some x=>
  have e:(cB kvs k v).map (·.1)=kvs.map (·.1):=by
   unfold cB;rw[dM,b];simp only [Option.isSome_some,if_true,map_map];refine map_congr_left λp _=>?_;simp only [Function.comp];split<;>rfl
  rw[e];exact a
def Gu{k j:κ}(h:j∈kvs.map (·.1))(a:j≠k):j∈(cM kvs k).map (·.1):=by
 obtain⟨p,b,rfl⟩:=LA.mp h;exact LA.mpr #[p,mem_filter.mpr #[b,UF a],rfl]
def Ry{k:κ}(h:p∈cM kvs k):p.1≠k:=WF (mem_filter.mp h).2
end
section
variable {kvs:BW}{m m':KM}{f:KE->Option (A1)}{L:Nat}{q:Str×Str}
def MT.keep(h:MT H kvs m f L)(k:∀b xs,H b=!.tup xs->H' b=!.tup xs):MT H' kvs m f L:=
 #[h.nd,λp a=>let #[q,e,xs,t,c,d,g,i]:=h.all p a;#[q,e,xs,t,c,d,g,k _ _ i],h.has,h.len]
def MT.more(h:MT H kvs m f L):MT H kvs m f (L+1):=#[h.nd,h.all,h.has,le_succ_of_le h.len]
def MT.get(h:MT H kvs m f L)(q:Str×Str):(∃t e xs,bA kvs (pk q)=!.ref t/\m q=!e/\f e=!xs/\H t=!.tup xs)∨(bA kvs (pk q)=none/\∀e,m q=!e->f e=none):=by
 cases a:bA kvs (pk q) with
 | none=>
  refine .inr #[rfl,λe c=>?_]
  cases d:f e with
  | none=>rfl
  | some xs=>exact IZ (h.has q e xs c d) (kM a)
 | some v=>
  refine JB (h.all _<|qT a) (NF λk e xs t=>KJ λb g i j=>?_);cases Bn (congrArg Prod.fst b);cases(congrArg Prod.snd b:v=V.ref t);exact .inl #[t,e,xs,rfl,g,i,j]
def MT.at(h:MT H kvs m f L)(c:m q=!e)(b:f e=!xs):∃t,bA kvs (pk q)=!.ref t/\H t=!.tup xs:=by
 rcases h.get q with⟨t,j,k,g,a,d,i⟩|⟨_,a⟩
 .rw[c]at a;cases a;rw[b]at d;cases d;exact#[t,g,i]
 rw[a e c]at b;cases b
def MT.no(h:MT H kvs m f L)(c:∀e,m q=!e->f e=none):bA kvs (pk q)=none:=by
 rcases h.get q with⟨t,g,i,a,d,b,j⟩|⟨a,_⟩
 .rw[c _ d]at b;cases b
 exact a
def MT.put(h:MT H kvs m f L){t:TD}(g:f e=!xs)(i:H t=!.tup xs)(j:m' q=!e)(d:∀r,r≠q->m' r=m r):MT H (cB kvs (pk q)<|.ref t) m' f (L+1):=by
 refine#[Jv h.nd,λp a=>?_,λr b c k l=>?_,gK (fL _ _ _)<|Nat.succ_le_succ h.len]
 .rcases Ea a with rfl|⟨a,n⟩
  .exact#[q,e,xs,t,rfl,j,g,i]
  refine JB (h.all p a) (NF λr b c o=>KJ λζ g2 g3 s=>?_);subst ζ;exact#[r,b,c,o,rfl,by rw[d r (λz=>n (by rw[z]))];exact g2,g3,s]
 rw[zO];by_cases z:r=q
 .exact .inl (by rw[z])
 exact .inr<|h.has r b c (by rw[<- d r z];exact k) l
def MT.drop(h:MT H kvs m f L)(j:∀e,m' q=!e->f e=none)(g:∀r,r≠q->m' r=m r):MT H (cM kvs<|pk q) m' f L:=by
 refine#[vS h.nd,λp i=>?_,λr a b c d=>?_,gK (qI _ _) h.len]
 .refine JB (h.all p<|zE i) (NF λr a b k=>KJ λζ g2 g3 l=>?_);subst ζ;exact#[r,a,b,k,rfl,by rw[g r (λz=>Ry i (by rw[z]))];exact g2,g3,l]
 have z:r≠q:=λz=>by rw[z]at c;rw[j _ c]at d;cases d
 exact Gu (h.has r a b (by rw[<- g r z];exact c) d) λe=>z<|Bn e
def MT.skip(h:MT H kvs m f L)(a:∀e,m q=!e->f e=none)(b:∀e,m' q=!e->f e=none)(c:∀r,r≠q->m' r=m r):MT H kvs m' f L:=by
 have:=h.drop b c
 rwa [vR (kM<|h.no a)]at this
def MT.nil:MT H [] (λ_=>none) f L:=#[nodup_nil,λp a=>IZ a<|GH,λq e c b=>(by cases b),zero_le _]
end
structure KF where
 dx:Addr
 db:Addr
 ds:Addr
def zP(a:KF)(b:Int):CB:=[("life",.int b),("begun_ones",.ref a.db),("settled_ones",.ref a.ds)]
structure MM(C:TD)(H:Hp)(p:TD)(a:KF)(life:Int)(m:KM)(L:Nat):Prop where
 hp:H p=!(.ins C a.dx<|zP a life)
 hb:∃kvs,H a.db=!.dT kvs/\MT H kvs m fB L
 hs:∃kvs,H a.ds=!.dT kvs/\MT H kvs m fS L
 ne:a.db≠a.ds
structure UM(K:W.Frag)(C:TD):Prop where
 cl:PM K C
 nL:KA K C "life"
 nB:KA K C "begun_ones"
 nS:KA K C "settled_ones"
def aE4(a:KF)(l:Int):(zP a l).lookup ("life":Str)=!.int l:=by unfold zP;rw[lookup_cons];simp
def Bo(a:KF)(l:Int):(zP a l).lookup ("begun_ones":Str)=!.ref a.db:=by
 unfold zP;rw[lookup_cons,(by decide +kernel:(("begun_ones":Str)==("life":Str))=false)];show List.lookup ("begun_ones":Str) [(("begun_ones":Str),V.ref a.db),(("settled_ones":Str),V.ref a.ds)]=_;rw[lookup_cons];simp
def Eb(a:KF)(l:Int):(zP a l).lookup ("settled_ones":Str)=!.ref a.ds:=by
 unfold zP;rw[lookup_cons,(by decide +kernel:(("settled_ones":Str)==("life":Str))=false)];show List.lookup ("settled_ones":Str) [(("begun_ones":Str),V.ref a.db),(("settled_ones":Str),V.ref a.ds)]=_;rw[lookup_cons,(by decide +kernel:(("settled_ones":Str)==("begun_ones":Str))=false)];show List.lookup ("settled_ones":Str) [(("settled_ones":Str),V.ref a.ds)]=_;rw[lookup_cons];simp
def zQ(a:KF)(l:Int)(b:(m==("life":Str))=false)(c:(m==("begun_ones":Str))=false)(d:(m==("settled_ones":Str))=false):(zP a l).lookup m=none:=by
 unfold zP;rw[lookup_cons,b];show List.lookup m [(("begun_ones":Str),V.ref a.db),(("settled_ones":Str),V.ref a.ds)]=none;rw[lookup_cons,c];show List.lookup m [(("settled_ones":Str),V.ref a.ds)]=none;rw[lookup_cons,d];rfl
section
variable {C:TD}{p:TD}{a:KF}{life:Int}{m:KM}{L:Nat}
def MM.keep(h:MM C H p a life m L)(k:∀b o,H b=!o->(∀xs,o≠.lst xs)->H' b=!o):MM C H' p a life m L:=by
 obtain⟨d,g1,f⟩:=h.hb;obtain⟨g,g2,i⟩:=h.hs;have c:∀b xs,H b=!.tup xs->H' b=!.tup xs:=λb xs e=>k _ _ e (λ_ z=>nomatch z)
 exact#[k _ _ h.hp (λ_ z=>nomatch z),#[d,k _ _ g1 (λ_ z=>nomatch z),f.keep c],#[g,k _ _ g2 (λ_ z=>nomatch z),i.keep c],h.ne]
def MM.same(h:MM C H p a life m L)(s:I7 H H'):MM C H' p a life m L:=h.keep λb o e _=>s _ _ e
def MM.new(h:MM C H p a life m L)(f:H' p=H p)(g1:H' a.db=!.dT d)(g2:H' a.ds=!.dT e)(j:∀b xs,H b=!.tup xs->H' b=!.tup xs)(g:MT H' d m' fB c)(i:MT H' e m' fS c):MM C H' p a life m' c:=
 #[f.trans h.hp,#[d,g1,g],#[e,g2,i],h.ne]
end
def Rz(b turn:Int):HA->A1
 | none=>[.str "free"]
 | some (.busy n d)=>[.str "busy",.int n,.ref d]
 | some (.kept n t d a)=>if t+b>turn then [.str "kept",.int n,.ref d,.ref a] else [.str "free"]
def Y9(H H':Hp)(a:KF):Prop:=∀c o,H c=!o->c≠a.db->c≠a.ds->H' c=!o
def Jw(C:TD):Sp:=λvs H Q _=>∃(p e:TD)(d:Int),vs=[.ref p,.int d]/\H p=some (.ins C e []) ∧
 ∀c a,H a.db=none->H a.ds=none->MM C c p a d (λ_=>none) 0->(∀b o,H b=!o->b≠p->c b=!o)->Q .non c
def Bp:Sp:=λvs H Q _=>∃t l n:Int,vs=[.int t,.int l,.int n]/\Q (.bl<|decide (t+l>n)) H
def Sa(C:TD):Sp:=λvs H Q _=>∃p a c m L q d,vs=[.ref p,.str q.1,.str q.2,.int d]/\MM C H p a c m L/\∀t b,I7 H b->b t=!(.tup<|Rz c d<|m q)->Q (.ref t) b
def Bq(C:TD):Sp:=λvs H Q _=>∃p a c m L q n d,vs=[.ref p,.str q.1,.str q.2,.int n,.ref d]/\MM C H p a c m L/\L<=500/\(∀e f,m q≠some (.busy e f)) ∧
 ∀b,MM C b p a c (m.set q<|!.busy n d) (L+1)->Y9 H b a->Q .non b
def aAL(C:TD):Sp:=λvs H Q _=>∃p a c m L t q n d,vs=[.ref p,.ref t]/\MM C H p a c m L/\H t=!.tup [.str q.1,.str q.2]/\m q=some (.busy n d) ∧
 ∀u b,MM C b p a c (m.set q none) L->Y9 H b a->b u=!.tup [.int n,.ref d]->Q (.ref u) b
def wH(C:TD):Sp:=λvs H Q _=>∃p a c m L q n d w z,vs=[.ref p,.str q.1,.str q.2,.int w,.ref z]/\MM C H p a c m L/\L<=500/\m q=some (.busy n d) ∧
 ∀b,MM C b p a c (m.set q<|!.kept n w d z) (L+1)->Y9 H b a->Q .non b
section
variable {prog:Program}{s:NE}{u d:TD}{i n ep:Nat}{od:Obj}{es:Array DictEntry}
def Sb(lo:(d==sysModules)=false)(g:s.heap.get? d=!od)(a:od.ExactDict)(gd:od.data=.dict es ep)(q:Q (.ref s.heap.objs.size) {s with heap:=s.heap.push {cls:=.type "dict_keyiterator",data:=.fields (toArray [.ref d,.int 0 0,.int es.size 0,.int ep 0]) } }):wpAny (model prog w) A (pyIter<|.ref d) Q E s:=by
 have ty:s.TypeIs (.ref d) "dict":=#[od,g,a.1];refine wpAny_pyIter_slot ty PySem.F.slot_dict_iter<|wpAny_call_entry PySem.F.slot_dict_iter ty PySem.F.entry_dict_iter ?_<|PySem.F.args_dict_iter_1 _;unfold Builtin.«dict.__iter__»;refine XV ?_;unfold Builtin.Dict.dictSlotNone;refine XV<|wpAny_notOrdered_dict ty ?_;show wpAny _ _ (pure<|Value.ref d) _ _ s;refine W1 ?_;show wpAny _ _ (Builtin.Dict.showsAll d>>=_) _ _ s;unfold Builtin.Dict.showsAll;rw[LK (by rw[lo];exact WP)];refine XV<|W1<|XV<|wpAny_dictEntries g gd<|XV<|wpAny_dictEpoch g gd ?_;refine XV<|wpAny_newObj_type<|W1 #[_,rfl,"dict_keyiterator",_,#[_,TW _ rfl,rfl],PySem.F.slot_dict_keyiterator_next.lookup,?_];simpa [rawInt]using q
def Sc(b:s.heap.IsKeyIter u d i n ep)(g:s.heap.get? d=!od)(gd:od.data=.dict es ep)(e:es.size=n)(f:i<es.size)(q:∀h',h'.IsKeyIter u d (i+1) n ep->Heap.SameBut u s.heap h'->Q (some es[i].key) {s with heap:=h' }):wpAny (model prog w) A (pyNext<|.ref u) Q E s:=by
 obtain⟨o,a,h,hd⟩:=id b;have ty:=b.typeIs;have own:Builtin.Dict_items.ownsTuple "dict_keyiterator"=false:=by decide
 unfold pyNext;refine XV<|wpAny_attempt<|wpAny_callSpecial?_slot (name:=Str.ofString "__next__") ty PySem.F.slot_dict_keyiterator_next<|wpAny_call_entry PySem.F.slot_dict_keyiterator_next ty PySem.F.entry_dict_keyiterator_next ?_<|PySem.F.args_dict_keyiterator_next_1 _;refine XV (W1<|XV<|XV ?_)
 first|refine XV (wpAny_typeNameOfWhole_keyiter ty<|W1<|XV<|wpAny_fieldsOf a hd ?_)|refine XV (wpAny_typeNameOf_keyiter ty<|W1<|XV<|wpAny_fieldsOf a hd ?_)
 simp only [own,Bool.false_eq_true,if_false];show wpAny _ _ (if (Value.ref d==Value.none)=true then _ else _) _ _ s;rw[LK (show ¬ ((Value.ref d==Value.none)=true) from WP)];refine XV<|W1<|XV<|wpAny_dictEntries g gd ?_;rw[LK (by rw[e];simp)];refine XV<|W1<|XV<|wpAny_dictEpoch g gd ?_;rw[LK Zs];refine W1 ?_;simp only [show ¬ ((i:Int)<0) from by omega,if_false,Int.toNat_natCast,Array.getElem?_eq_getElem f];refine XV ?_
 first|refine XV (wpAny_typeNameOfWhole_keyiter ty<|W1<|XV<|wpAny_isOneOf_keyiter ty ?_)|refine XV (wpAny_typeNameOf_keyiter ty<|W1<|XV<|wpAny_isOneOf_keyiter ty ?_)
 show wpAny _ _ (setField (.ref u) 1 (rawInt<|(i:Int)+1)>>=_) _ _ s;refine XV<|wpAny_setField a hd Zs ?_;have c:(s.heap.update u<|Obj.mapFields (·.setIfInBounds 1 (rawInt<|(i:Int)+1))).IsKeyIter u d (i+1) n ep:=#[_,Heap.get?_update_self _ a<|Obj.isFreed_of_fields<|Obj.data_mapFields hd _,(Obj.cls_mapFields ..).trans h,by rw[Obj.data_mapFields hd];simp[rawInt]];refine XV<|wpAny_holding<|XV<|wpAny_isOneOf_keyiter (s:={s with heap:=s.heap.update u (Obj.mapFields (·.setIfInBounds 1 (rawInt<|(i:Int)+1))) }) c.typeIs ?_;show wpAny _ _ (pure es[i].key) _ _ _;exact W1<|W1 #[_,rfl,W1<|q _ c<|Heap.SameBut.update ..]
def Yn(f:A.handled=none)(e:s.heap.IsKeyIter u d i n ep)(g:s.heap.get? d=!od)(gd:od.data=.dict es ep)(h:es.size=n)(j:es.size<=i)(q:∀h',Heap.ExtBut u s.heap h'->Q none {s with heap:=h' }):wpAny (model prog w) A (pyNext<|.ref u) Q E s:=by
 obtain⟨o,c,k,hd⟩:=id e;have ty:=e.typeIs;have own:Builtin.Dict_items.ownsTuple "dict_keyiterator"=false:=by decide
 unfold pyNext;refine XV<|wpAny_attempt<|wpAny_callSpecial?_slot (name:=Str.ofString "__next__") ty PySem.F.slot_dict_keyiterator_next<|wpAny_call_entry PySem.F.slot_dict_keyiterator_next ty PySem.F.entry_dict_keyiterator_next ?_<|PySem.F.args_dict_keyiterator_next_1 _;refine XV (W1<|XV<|XV ?_)
 first|refine XV (wpAny_typeNameOfWhole_keyiter ty<|W1<|XV<|wpAny_fieldsOf c hd ?_)|refine XV (wpAny_typeNameOf_keyiter ty<|W1<|XV<|wpAny_fieldsOf c hd ?_)
 simp only [own,Bool.false_eq_true,if_false];show wpAny _ _ (if (Value.ref d==Value.none)=true then _ else _) _ _ s;rw[LK (show ¬ ((Value.ref d==Value.none)=true) from WP)];refine XV<|W1<|XV<|wpAny_dictEntries g gd ?_;rw[LK (by rw[h];simp)];refine XV<|W1<|XV<|wpAny_dictEpoch g gd ?_;rw[LK Zs];refine W1 ?_;simp only [show ¬ ((i:Int)<0) from by omega,if_false,Int.toNat_natCast,Array.getElem?_eq_none j];refine XV ?_
 first|refine XV (wpAny_typeNameOfWhole_keyiter ty<|W1 ?_)|refine XV (wpAny_typeNameOf_keyiter ty<|W1 ?_)
 show wpAny _ _ (setField (.ref u) 0 .none>>=_) _ _ s;refine XV<|wpAny_setField c hd Zs ?_;show wpAny _ _ (newExc (.type "StopIteration") []>>=_) _ _ _;refine XV ?_;simp only [newExc,newTuple];refine XV<|wpAny_newObj_type ?_ (by size_fits);refine XV (m:=firstArgMember _ _)<|wpAny_of_eq (a:=Value.none) (by first|rfl|(simp only [firstArgMember];rfl))<|wpAny_newObj_type ?_ (by size_fits);simp only [raiseNew];refine XV<|wpAny_handled ?_;rw[show A.in1.handled=none from f];refine XV<|W1<|wpAny_throw ?_;exact XV<|wpAny_isInstance (T:="StopIteration") (b:=true) #[_,TW _ rfl,rfl] isSubtype_stop<|W1<|q _<|((Heap.SameBut.update ..).extBut.push _).push _
end
@[reducible] def lM:KeyOrd where
 α:=Int
 blt a b:=decide (a<b)
 irrefl a:=by simp
 trans a b c d e:=by simp only [decide_eq_true_eq]at *;omega
 negTrans a b c h:=by simp only [decide_eq_true_eq]at *;omega
 total a b d e:=by simp only [decide_eq_false_iff_not]at *;omega
def Ec(h:Heap)(v:PP)(q:Int×TD):Prop:=∃t rest,v=Value.ref q.2/\IsTup h q.2 (Value.int q.1 t::rest).toArray
def MW(h:Heap):C4->GL->Prop
 | [],[]=>True
 | v::vs,q::a=>Ec h v q/\MW h vs a
 | _,_=>False
def MW.len{h:Heap}:∀ {vs:C4}{qs:GL},MW h vs qs->vs.length=qs.length
 | [],[],_=>rfl
 | _::_,_::_,x=>congrArg (·+1) x.2.len
def MW.keep{h h':Heap}(k:∀v q,Ec h v q->Ec h' v q):∀ {vs:C4}{qs:GL},MW h vs qs->MW h' vs qs
 | [],[],_=>True.intro
 | _::_,_::_,x=>#[k _ _ x.1,x.2.keep k]
def MW.get{h:Heap}:∀ {vs:C4}{qs:GL} (i:Nat),MW h vs qs->i<vs.length->Ec h (vs.getD i Value.none) (qs.getD i ((0:Int),0))
 | v::vs,q::qs,0,x,_=>x.1
 | v::vs,q::qs,i+1,x,a=>by
  have:=MW.get i x.2 (by simpa using a);simpa using this
def MW.tups{h:Heap}:∀ {vs:C4}{qs:GL},MW h vs qs->∃fs,W.KatTups h vs fs/\fs.length=vs.length/\∀v∈fs,∃x t,v=Value.int x t
 | [],[],_=>#[[],.nil,rfl,λv a=>nomatch a]
 | v::vs,q::qs,⟨⟨t,rest,e,o,b,c,n,hd⟩,r⟩=>by
  refine JB r.tups (JU λfs=>JE λd f g=>?_);subst e;refine#[Value.int q.1 t::fs,.cons b c hd Zs d,congrArg (·+1) f,λv a=>?_];rcases mem_cons.mp a with e|a
  .exact#[_,_,e]
  exact g v a
abbrev lN(qs:GL)(i:Nat):lM.α:=(qs.getD i ((0:Int),0)).1
section
variable {prog:Program}{s:NE}
def aD1{v c:PP}(d:Ec s.heap v p)(f:Ec s.heap c q)(g:p.1=q.1->p=q)(h:Q (decide (p.1<q.1)) s) :
  wpAny (model prog w) A (keyLt' (tuples' true) v c) Q E s:=by
 obtain⟨t,rest,rfl,o,a,_,n,hd⟩:=d;obtain⟨m,r,rfl,u,b,_,x,i⟩:=f;by_cases e:p.1=q.1
 .have j:=g e;subst j;rw[a]at b;cases b;refine W.kat_lt a hd a hd ?_;have k:decide (p.1<p.1)=false:=by simpa using Int.lt_irrefl p.1
  rw[k]at h;refine Dz _ 0 ?_;simpa using h
 refine W.kat_lt a hd b i<|W.kat_cons<|wpAny_eqBool_int<|W.kat_go (λl=>IZ (eq_of_beq l) e) λ_=>W.kat_no<|oneLt_int h
def yE{vs:C4}{n:Nat}(d:s.heap.get? a=!seqObj "list" vs.toArray n)(y:MW s.heap vs qs)(H:(qs.map (·.1)).Nodup)(g:vs.length<64)(h:∀p:Array Nat,PN vs.length p->Up (O:=lM) (lN qs) p vs.length->R (.done (.ret .none)) {s with heap:=sortedHeap s.heap a vs (p.toList.map λi=>vs.getD i Value.none).toArray }) :
  wpAny (model prog w) A (Builtin.«list.sort» #[[.ref a],[]]) R E s:=by
 have ha:a<s.heap.objs.size:=Heap.lt_size d;have z:vs.toArray.size<=sizeLine:=by rw[fK];exact gK (le_of_lt g) Zd
 rw[list_sort_plain];apply XV;apply listItems_at d rfl;apply XV;refine listUpdate_at d rfl ?_ z<|zero_le _;obtain⟨o,g1⟩:∃o,(s.heap.update a<|Obj.mapSeq λ_=>((toArray []):Array Value)).get? a=!seqObj "list" (toArray []) o:=#[_,get?_update_seq d λ_=>(toArray [])];apply XV;apply seqEpoch_at g1 rfl;apply XV;refine wpAny_newTuple ?_ (by simpa using z);apply XV;refine wpAny_newList ?_<|zero_le _;apply wpAny_holding;have g3:(((s.heap.update a<|Obj.mapSeq λ_=>((toArray []):Array Value)).push<|seqObj "tuple" vs.toArray 0).push<|seqObj "list" (toArray []) 0).get? a=!seqObj "list" (toArray []) o:=jM _<|jM _ g1;have I:∀v q,Ec s.heap v q->Ec (((s.heap.update a<|Obj.mapSeq λ_=>((toArray []):Array Value)).push<|seqObj "tuple" vs.toArray 0).push<|seqObj "list" (toArray []) 0) v q:=by
  refine λv q=>JR λt rest=>JW λζ=>JU λa0=>JE λk B hd=>?_;subst ζ;have J:q.2≠a:=by
   intro a5;rw[a5]at k;rw[d]at k;cases k;exact IZ (show(Value.type "list":PP)=.type "tuple" from B) Zd
  refine#[t,rest,rfl,a0,jM _<|jM _ ?_,B,hd];rw[Heap.get?_update_ne _ _ _ _ J];exact k
 have r:=y.keep I;show wpAny (model prog w) A _ R E {s with heap:=((s.heap.update a<|Obj.mapSeq λ_=>((toArray []):Array Value)).push<|seqObj "tuple" vs.toArray 0).push (seqObj "list" (toArray []) 0) };dsimp only;by_cases c:vs.toArray.size<2
 .rw[LM c,LM c];have u:vs.length<2:=by simpa using c
  apply XV;apply W1;rw[StateT.run_pure];apply XV;apply W1;dsimp only;have out:Array.map (λx=>x.2) (arrOf<|SortSt.mk' general' (vs.toArray.zip vs.toArray) (toArray []) 7 none)=((List.range vs.length).toArray.toList.map λi=>vs.getD i Value.none).toArray:=by
   show Array.map (λx=>x.2) (vs.toArray.zip vs.toArray)=_;have C:∀b:C4,b.length<2->Array.map (λx=>x.2) (b.toArray.zip b.toArray)=((List.range b.length).toArray.toList.map λi=>b.getD i Value.none).toArray:=λb h=>by
    cases b with
    | nil=>simp
    | cons a6 b=>cases b with
     | nil=>simp[range_succ]
     | cons _ _=>simp at h;omega
   exact C vs u
  rw[out];have m:((List.range vs.length).toArray.toList.map λi=>vs.getD i Value.none).toArray.size<=sizeLine:=by
   rw[fK,aV,toList_toArray,List.length_range];exact gK (le_of_lt g) Zd
  apply XV;apply seqEpoch_at g3 rfl;apply XV;refine listUpdate_at g3 rfl ?_ (zero_le _)<|le_succ_of_le m;simp only [bne_self_eq_false,Bool.false_eq_true,if_false];refine W1<|h _ (Array.Perm.refl _) λi j x a7=>?_;obtain rfl:i=j:=by omega
  exact KeyOrd.kle_refl _
 rw[LK c,LK c];have u:2<=vs.length:=by
  have:¬ vs.length<2:=by simpa using c
  omega
 refine JB r.tups (JU λfs=>JE λK t2 L=>?_);apply XV;refine W.kat_kind (T:=.type "int") K Zo (λv M=>?_) Zd ?_
 .refine JB (L v M) (JR λx t ζ=>?_);subst ζ;exact W.Looks.of_pure rfl
 have N:tuples' (Value.type "int" != Value.type "tuple")=tuples' true:=by rw[show(Value.type "int" != Value.type "tuple")=true by decide]
 rw[N];have run:=W.kat_run (prog:=prog) (w:=w) (A:=A) (E:=E) (κ:=tuples' true) (ks:=vs) (vs:=vs) (s:={s with heap:=((s.heap.update a<|Obj.mapSeq λ_=>((toArray []):Array Value)).push<|seqObj "tuple" vs.toArray 0).push (seqObj "list" (toArray []) 0) })
  (Q:=λl f=>∃p:Array Nat,p.size=vs.length/\arrOf l=p.map (W.kas_item<|vs.toArray.zip vs.toArray)/\failedOf l=none/\PN vs.length p/\Up (O:=lM) (lN qs) p vs.length/\f={s with heap:=((s.heap.update a<|Obj.mapSeq λ_=>((toArray []):Array Value)).push<|seqObj "tuple" vs.toArray 0).push (seqObj "list" (toArray []) 0) })
  (G:=λp f=>PN vs.length p/\Up (O:=lM) (lN qs) p vs.length/\f={s with heap:=((s.heap.update a<|Obj.mapSeq λ_=>((toArray []):Array Value)).push<|seqObj "tuple" vs.toArray 0).push (seqObj "list" (toArray []) 0) })
  rfl u g (λp l f P S U V=>#[p,P,S,U,V]) ?_
 .apply XV;refine wpAny_mono run ?_ λ_ _ e=>e;rintro⟨⟨⟩,l⟩ f ⟨p,X,D,Y,Z,pu,rfl⟩;dsimp only;have F:=W.kat_snds rfl D;rw[F];have m:((p.toList.map λi=>vs.getD i Value.none).toArray).size<=sizeLine:=by
   rw[fK,aV,Array.length_toList,X];exact gK (le_of_lt g) Zd
  apply XV;apply seqEpoch_at g3 rfl;apply XV;refine listUpdate_at g3 rfl ?_ (zero_le _)<|le_succ_of_le m;rw[Y];simp only [bne_self_eq_false,Bool.false_eq_true,if_false];exact W1<|h p Z pu
 refine Ask.wp (lt:=qP (O:=lM) (lN qs)) (n:=vs.length) (λi j a8 hi hj hC=>?_) _<|Rk Zo λp h1 c=>#[h1,c,rfl];unfold W.kas_ask;refine aD1 (r.get i hi) (r.get j hj) (λe=>?_) hC;have hl:=y.len;have ei:qs.getD i ((0:Int),0)=qs[i]'Zo:=by simp[List.getD,hX (show i<qs.length by omega)]
 have ej:qs.getD j ((0:Int),0)=qs[j]'Zo:=by simp[List.getD,hX (show j<qs.length by omega)]
 rw[ei,ej]at e ⊢;have RL:i=j:=(getElem_inj (xs:=qs.map (·.1)) (h₀:=by rw[aV];omega) (h₁:=by rw[aV];omega) H).mp (by simpa using e);subst RL;rfl
def Gv{vs:C4}{n:Nat}(k:s.heap.get? l=!o)(r:o.cls=.type "list")(hd:o.data=.seq vs.toArray n)(u:MW s.heap vs qs)(x:(qs.map (·.1)).Nodup)(d:vs.length<64)(h:∀(a h':Heap)(p:Array Nat)(e:Nat),(∀b c,s.heap.get? b=!c->a.get? b=!c)->(∀b c,a.get? b=!c->h'.get? b=!c)->h'.get? a.objs.size=some (seqObj "list" (p.toList.map λi=>vs.getD i Value.none).toArray e) →
   PN vs.length p->Up (O:=lM) (lN qs) p vs.length->Q (.ref a.objs.size) {s with heap:=h' }) :
  wpAny (model prog w) A (call (.builtin "sorted") [.ref l]) Q E s:=by
 apply Calls.call_function_entry kind_sorted plain_sorted entry_sorted<|args_sorted1 _;unfold Builtin.«sorted»;apply XV (m:=checkCount "sorted" 1 1 _);apply W1;apply XV;refine wpAny_collect_seq l (.inl rfl) k r hd (λa f=>?_) (by rw[fK];exact gK (le_of_lt d) Zd);have y:vs.toArray.toList=vs:=by simp
 rw[y];apply XV;apply wpAny_newList
 .have g2:(a.push<|seqObj "list" vs.toArray 0).get? a.objs.size=!seqObj "list" vs.toArray 0:=TW _ rfl;have z:MW (a.push<|seqObj "list" vs.toArray 0) vs qs:=u.keep λv q #[t,rest,e,c,B,C]=>#[t,rest,e,c,jM _<|f _ _ B,C]
  apply XV;apply wpAny_holding;refine wpAny_call_entry slot_list_sort #[_,g2,rfl] entry_list_sort (yE (s:={s with heap:=a.push (seqObj "list" vs.toArray 0) }) g2 z x d λp D F=>#[_,rfl,W1 #[_,rfl,?_]])<|args_list_sort _;obtain⟨e,G⟩:=sortedHeap_at (out:=(p.toList.map λi=>vs.getD i Value.none).toArray) g2;refine h a _ p e f (λb c g=>?_) G D F;have j:=Heap.lt_size g;rw[sortedHeap_old (ne_of_lt j) (by rw[size_push'];exact lt_succ_of_lt j)];exact jM _ g
 exact gK (le_of_lt d) Zd
end
abbrev Tn:=Int×TD×A1
abbrev GY:=List Tn
def WG(x y:Tn):Prop:=x.1<=y.1
def RC(H:Hp)(zs:GY):Prop:=∀z∈zs,H z.2.1=!.tup (.int z.1::z.2.2)
def kA(zs:GY):A1:=zs.map λz=>V.ref z.2.1
section
variable {s:NE}
theorem Sd(I:Inv X pins σ H s):∀ {zs:GY}{vs:C4},RC H zs->Vals (kA zs) vs->MW s.heap vs (zs.map λz=>(z.1,z.2.1))
 | [],[],_,_=>True.intro
 | z::zs,v::vs,a,.cons r b=>by
  have e:=a z eG;obtain⟨_,g,c,it⟩:=(show KU X.prog X.w H s.heap z.2.1 (.tup (.int z.1::z.2.2)) from I.hok _ _ e);cases r;refine#[?_,Sd I (λy d=>a y<|cR _ d) b]
  cases c with
  | cons f h=>
   obtain⟨t,rfl⟩:=f;exact#[t,_,rfl,it]
def wI(K:W.Frag):A1->Hp->VK->Prop:=λvs H Q=>match vs with
 | [.ref a]=>∃b:GY,MO K H a (kA b)/\RC H b/\(b.map (·.1)).Nodup/\b.length<64/\∀l c,H l=none->c.Perm b->c.Pairwise WG->Q (.ref l) (aH H l<|.lst<|kA c)
 | _=>False
def Md:LQ X (.builtin "sorted") (wI X.K):=by
 intro pins s σ H Z us a0 I r h;unfold wI at h;split at h
 .rename_i a1;revert h;refine JU λa=>MJ λD E F G q=>?_;obtain⟨a2,rfl,J⟩:=gX r;cases J;obtain⟨t,l,K,_⟩:=I.list D;obtain⟨o,L,M,n,hd⟩:=K.isList;have b:t.length=a.length:=by
   have:=l.length;unfold kA at this;rw[aV]at this;exact this.symm
  have N:=Sd I E l;refine Gv L M hd N (by rw[map_map];exact F) Zo λw h' p e P k Q d R=>?_;have x:=I.kept (t':=s.toks) P;have B:∀i∈p.toList,i<a.length:=λi c=>by
   have:=(Array.perm_iff_toList_perm.mp d).mem_iff.mp c;rw[<- b];simpa using this
  have S:(p.toList.map λi=>a.getD i ((0:Int),0,[])).Perm a:=by
   have T:(List.range a.length).map (λi=>a.getD i ((0:Int),0,[]))=a:=by
    apply ext_getElem
    .simp
    intro i w U;simp[List.getD,hX U]
   have y:=(Array.perm_iff_toList_perm.mp d).map λi=>a.getD i ((0:Int),0,[]);rw[toList_toArray,b,T]at y;exact y
  have u:p.size=a.length:=by rw[d.size,b]
  refine#[.ref w.objs.size,_,x.laid (t':=s.toks) (o:=.lst (kA<|p.toList.map λi=>a.getD i ((0:Int),0,[]))) k (bD _) #[?_,(p.toList.map λi=>t.getD i Value.none),e,?_,Q],rfl,q _ _ (x.hok.fresh<|bD _) S ?_]
  .unfold kA;rw[aV,aV,Array.length_toList,u];exact gK (le_of_lt G) Zd
  .unfold kA;rw[map_map];refine Du λi c=>?_
   have m:=B i c;refine rZ i l (by unfold kA;rw[aV];exact m) _ ?_;unfold kA;rw[eJ,hX m];simp[List.getD,hX m]
  rw[pairwise_iff_getElem];intro i j c V W;rw[aV,Array.length_toList]at c V;have Y:=R i j (le_of_lt W) Zo;unfold WG;have v:∀k,k<p.size->(a.getD (p.getD k 0) ((0:Int),0,[])).1=kg (O:=lM) (lN<|a.map λz=>(z.1,z.2.1)) p k:=λk f=>by
   have g:p.getD k 0<a.length:=by rw[<- b];exact d.lt (by rw[b,<- u];exact f)
   unfold kg lN;generalize p.getD k 0=i' at g;simp[List.getD,hX g]
  have A:∀k (f:k<(p.toList.map λi=>a.getD i ((0:Int),0,[])).length),(p.toList.map λi=>a.getD i ((0:Int),0,[]))[k]=a.getD (p.getD k 0) ((0:Int),0,[]):=λk f=>by
   have g:k<p.size:=by simpa using f
   simp[Array.getD,g]
  rw[A,A,v i Zo,v j Zo];have C:decide ((kg (O:=lM) (lN<|a.map λz=>(z.1,z.2.1)) p j:Int)<(kg (O:=lM) (lN<|a.map λz=>(z.1,z.2.1)) p i:Int))=false:=Y;exact Int.not_lt.mp<|UV C
 exact h.elim
def R.gv{K:W.Frag}(a:X.K=K:=by rfl):XC X (.builtin "sorted") (wI K):=a▸#[Md]
end
structure ZI(o:Obj)(es:Array DictEntry)(ep:Nat)(bs:BZ):Prop where
 ex:o.ExactDict
 dat:o.data=.dict es ep
 keys:es.toList.map (·.key)=bs.map Value.ref
def ZI.size{bs:BZ}(f:ZI o es a bs):es.size=bs.length:=by
 have:=congrArg length f.keys;rw[aV,aV,Array.length_toList]at this;exact this
def ZI.at{bs:BZ}(f:ZI o es d bs){i:Nat}(b:i<es.size):∃a:i<bs.length,es[i].key=Value.ref bs[i]:=by
 have a:i<bs.length:=by rw[<- f.size];exact b
 exists a;have c:(es.toList.map (·.key))[i]?=some es[i].key:=by rw[eJ,Array.getElem?_toList,Array.getElem?_eq_getElem b];rfl
 rw[f.keys,eJ,hX a]at c;exact(Option.some.inj c).symm
def q4(a:TD)(o:Obj)(kvs:BW)(bs:BZ):It:=
 #[λi H=>H a=!(.frz o<|.dT kvs)/\i<bs.length,λi H x b=>b=H/\(bs.map V.ref)[i]?=!x,λi H=>H a=!(.frz o<|.dT kvs)/\bs.length<=i]
def aCl(a:TD)(o:Obj)(kvs:BW)(bs:BZ):yD (q4 a o kvs bs) (bs.map V.ref) (λH=>H a=!(.frz o<|.dT kvs)):=
 #[λi H b e=>#[e,by rwa [aV]at b],λi H x c _ _ y=>y,λH e=>#[e,by rw[aV];exact bD _]]
section
variable {s:NE}{a:TD}{o:Obj}{kvs:BW}
def qU(ok:NW P w H h)(e:H a=!(.frz o<|.dT kvs)):h.get? a=!o:=
 (show KU P w H h a (.frz o<|.dT kvs) from ok a _ e).1
def Yo{P:Program}{w:World}{K:W.Frag}{L:Expr}(a it:TD){es:Array DictEntry}{D:Nat}{bs:BZ}(f:ZI o es D bs):vH P w K L (q4 a o kvs bs) [it] it (λi h=>h.IsKeyIter it a i bs.length D) where
 mem:=by simp
 obj:=λi h st b g=>by
  obtain rfl:b=it:=by simpa using g
  revert st;refine JU λj=>JE λe c d=>?_;exact#[j,e,λv z=>by rw[d]at z;cases z]
 keep:=λi h l st k=>st.at λj e=>k it Zs j e
 item:=by
  intro X n p q F i pins s σ H E I m st r;subst n p q;obtain⟨t,u⟩:=r;have x:=qU I.hok t;refine JB (m it Zs) (MI λy f1 f2 A B C=>?_);have G:i<es.size:=by rw[f.size];exact u
  obtain⟨g,M⟩:=f.at G;refine Sc st x f.dat f.size G λl J N=>?_;have O:Inv X pins σ H {s with heap:=l }:=I.turned (t':=s.toks) (λb j g e=>(N.2 b g).trans e) y f1 A B C;refine JB (id J) (JU λj=>JE λe c d=>?_);rw[M];refine#[_,rfl,tP (s:={s with heap:=l }) e c d Zd #[.ref bs[i],H,O,rfl,#[rfl,?_],J,λb g=>(m b g).1]];rw[eJ,hX g];rfl
 done:=by
  intro X n p q F i pins s σ H E I m st r;subst n p q;obtain⟨t,u⟩:=r;have x:=qU I.hok t;refine JB (m it Zs) (MI λy f1 f2 A B C=>?_);exact Yn (I.ok.hd F) st x f.dat f.size (by rw[f.size];exact u) λl Q=>#[rfl,I.turned (t':=s.toks) (λb j g e=>Q b j g e) y f1 A B C]
 self:=λ_ _ _ _ _ st h=>wpAny_pyIter_keyiter st h
def Inv.freezeT(I:Inv X pins σ H s)(e:H a=!.dT kvs):∃(c:Obj)(es:Array DictEntry)(d:Nat)(bs:BZ),s.heap.get? a=!c/\ZI c es d bs/\bs.length=kvs.length/\(∀(i:Nat)(b:TD),bs[i]?=!b->∃p:FU×V,kvs[i]?=!p/\H b=!(.tup<|p.1.map kV))/\(a==sysModules)=false/\Inv X pins σ (aH H a<|.frz c<|.dT kvs) s:=by
 refine JB (show KU X.prog X.w H s.heap a (.dT kvs) from I.hok a _ e) (JE λz hd=>JU λf=>JW λk=>LB λc es d=>MJ λg h m n w=>?_);exists c,es,d,f.map (·.2.1),g,#[h,m,?_],?_,λi b r=>?_,hd
 .rw[n,map_map,map_map];rfl
 .rw[aV];exact(Paired.length k).symm
 .rw[eJ]at r;obtain⟨x,t,rfl⟩:=Option.map_eq_some_iff.mp r;have y:i<f.length:=(NJ.mp t).1;refine JB (Paired.get' (j:=i) k y) (JU λh=>JE λ_ v _=>?_);have A:f[i]=x:=(NJ.mp t).2;rw[A]at v;exact#[kvs[i],hX h,v]
 have B:∀b l,H b=!.tup l->(aH H a<|.frz c<|.dT kvs) b=!.tup l:=λb l q=>by rw[aD (aL q e nofun)];exact q
 exact I.write (t':=s.toks) (h':=s.heap) (x:=a) (e:=a) (o:=.frz c (.dT kvs)) (by rw[e];exact True.intro) (.inl rfl) (λb u _ q=>q) #[c,g] #[g,z,hd,f,KT.keeps k B,c,es,d,g,h,m,n,w]
def Inv.thawT(I:Inv X pins σ H s)(e:H a=!(.frz o<|.dT kvs))(k:∀o' u,X.H₀ a≠some (.frz o' u)):Inv X pins σ (aH H a<|.dT kvs) s where
 ok:=I.ok
 os:=I.os
 bare:=I.bare
 base:=by
  have l:∀b,H b=none->b≠a:=λb z q=>by rw[q,e]at z;cases z
  refine#[I.base.keep,I.base.slot,λb f q n m=>?_,I.base.there,λb i q=>?_,λb f u q=>?_,λb ps q=>?_]
  .have:=I.base.free b f q n m;rw[aD (l b this)];exact this
  .have:=I.base.tups b i q;rw[aD (aL this e nofun)];exact this
  .have:=I.base.frzs b f u q;by_cases d:b=a
   .subst d;exact IZ q<|k f u
   rw[aD d];exact this
  obtain⟨more,j⟩:=I.base.tbls b ps q;exact#[more,by rw[aD (aL j e nofun)];exact j]
 loc:=I.loc
 cell:=I.cell
 free:=by
  have z:=I.free;rw[aD (λq=>by rw[q,e]at z;cases z)];exact z
 freeC:=λx c h=>by
  have z:=I.freeC x c h;rw[aD (λq=>by rw[q,e]at z;cases z)];exact z
 pin:=λp r=>by
  refine JB (I.pin p r) (JE λt g w=>?_);refine#[t,?_,w];rw[aD (λq=>by rw[q,e]at g;cases g)];exact g
 hok:=by
  intro b u d;have st:∀ {c:TD}{v:HO},KU X.prog X.w H s.heap c v->KU X.prog X.w (aH H a<|.dT kvs) s.heap c v:=λx=>x.stay (λc v _ h=>h) (λc h=>by rw[aD (aL h e nofun)];exact h) λc i h=>by rw[aD (aL h e nofun)];exact h
  by_cases q:b=a
  .subst q;rw[aA]at d;cases d;exact st (show KU X.prog X.w H s.heap b (.frz o<|.dT kvs) from I.hok b _ e).2
  rw[aD q]at d;exact st (I.hok b u d)
 len:=I.len
def aAM(d:TE):TI:=λσ H R=>d σ H λx c=>mR x λa=>∃kvs,c a=!.dT kvs/\∀(o:Obj)(bs:BZ),bs.length=kvs.length->(∀(i:Nat)(b:TD),bs[i]?=!b->∃p:FU×V,kvs[i]?=!p/\c b=!(.tup<|p.1.map kV))->R (q4 a o kvs bs) (aH c a<|.frz o<|.dT kvs)
def Yp{n l:Expr}{k:TE}(p:PE X l k):PI X n l (aAM k):=by
 intro pins s σ H R I h;refine bR (p pins s σ H _ I h) ?_;refine λv c=>JR λx r=>JE λt u d=>?_
 (try dsimp only at d);rw[cX]at d;obtain⟨a,rfl,kvs,e,q⟩:=d;cases u;refine JB (t.freezeT e) (NF λm z A bs=>MI λg f w i lo j=>?_);have y:(aH r a<|.frz m<|.dT kvs) c.heap.objs.size=none:=j.hok.fresh<|bD _;refine Sb lo g f.ex f.dat ?_;refine#[c.heap.objs.size,[c.heap.objs.size],_,_,_,rfl,j.kept (t':=c.toks) λb o e=>jM _ e,Yo a _ f,#[_,TW _ rfl,rfl,?_],λb i=>?_,q m bs w i]
 .rw[f.size];rfl
 obtain rfl:b=c.heap.objs.size:=by simpa using i
 exact j.fpOk (bD _) y
def Se(t:TE):TE:=λσ H Q=>t σ H λv b=>∃a kvs o,(∃c,H a=!.dT c)/\b a=!(.frz o<|.dT kvs)/\Q v (aH b a<|.dT kvs)
def Sf{t:TE}(b:PE X e t):PE X e (Se t):=by
 intro pins s σ H Q I h;refine bR (b pins s σ H _ I h) λu k #[v,l,c,d,a,kvs,o,#[m,f],g,q]=>#[v,_,c.thawT g λi j z=>?_,d,q]
 have:=I.base.frzs a i j z;rw[f]at this;cases this
def Sg(t:TS):TS:=λD σ H=>t {nx:=λc b=>∃a kvs o,(∃d,H a=!.dT d)/\b a=!(.frz o<|.dT kvs)/\D.nx c (aH b a<|.dT kvs),rt:=λ_ _=>False } σ H
def Sh{t:TS}(c:PS X e t):PS X e (Sg t):=by
 intro pins s σ H D I h;refine bR (c pins s σ H _ I h) λf l q=>?_
 cases f with
 | next=>
  revert q;refine JR λb m=>JW λd=>LB λa kvs o=>JE λζ i q=>?_;obtain⟨n,g⟩:=ζ;refine#[b,_,d.thawT i λj k z=>?_,q];have:=I.base.frzs a j k z;rw[g]at this;cases this
 | brk=>revert q;refine JR λ_ _=>JW λ_ q=>?_;exact q.elim
 | cont=>revert q;refine JR λ_ _=>JW λ_ q=>?_;exact q.elim
 | ret u=>revert q;refine LB λ_ _ _=>JE λ_ _ q=>?_;exact q.elim
end
namespace R
section
variable {tg l e1:Expr}{tl:TE}{e:Stmt}{t:TS}
def jp(a:XE X l tl):XI X tg l (aAM tl):=#[Yp a.h]
def kh(h:XE X e1 te):XE X e1 (Se te):=#[Sf h.h]
def jo(h:XS X e t):XS X e (Sg t):=#[Sh h.h]
end
end R
def zR:∀ {vs:C4}{a:EZ},IntsAre vs a->Vals (a.map V.int) vs
 | _,_,.nil=>.nil
 | _,_,.cons x t h=>.cons #[t,rfl]<|zR h
def Br{a:Type}(xs:List a)(k:Nat)(x:a):List a:=xs.take k++[x]++xs.drop k
def Jx:V->A1->Hp->VK->Prop:=λx vs H Q=>∃(l:TD)(a:A1)(k:Nat)(y:V),x=.ref l/\vs=[.int (k:Int),y]/\H l=!.lst a/\k<=a.length/\a.length<1000/\Q .non (aH H l<|.lst<|Br a k y)
def Si{k:Nat}(h:k<1000):¬ (not (Builtin.List.listFitsIndex (k:Int)))=true:=by
 have a:-(2^63)<=(k:Int):=by omega
 have b:(k:Int)<2^63:=by omega
 rw[fitsIndex_both a b];exact WP
def zS:∀ {xs:A1}{its:C4} (k:Nat),Vals xs its->Vals (xs.take k) (its.take k)
 | _,_,0,_=>by simp;exact .nil
 | _,_,k+1,.nil=>by simp;exact .nil
 | _,_,k+1,.cons h t=>by rw[List.take_succ_cons,List.take_succ_cons];exact .cons h<|zS k t
def zT:∀ {xs:A1}{its:C4} (k:Nat),Vals xs its->Vals (xs.drop k) (its.drop k)
 | _,_,0,h=>by simpa using h
 | _,_,k+1,.nil=>by simp;exact .nil
 | _,_,k+1,.cons h t=>by rw[List.drop_succ_cons,List.drop_succ_cons];exact zT k t
def aCm{s:NE}{its:C4}{n:Nat}{k:Int}{t:Tok}(e:s.heap.get? l=some {cls:=.type "list",data:=.seq its.toArray n })(f1:¬ (not (Builtin.List.listFitsIndex k))=true)(f2:its.toArray.size<=sizeLine)(q:Q .none {s with heap:=s.heap.update l (Obj.mapSeq λxs=>have k:=if k<0 then (k+(xs.size:Int)).toNat else min k.toNat xs.size;(xs.extract 0 k).push a++xs.extract k),toks:=s.toks }) :
  wpAny (model prog w) A (call (.builtin "list.insert") [.ref l,.int k t,a]) Q E s:=by
 have M:=AutoSeq1.list_insert_list_int_val_1 l its.toArray n k t a f1 f2;exact call_meets PySem.F.slot_list_insert #[_,e,rfl] PySem.F.entry_list_insert (PySem.F.args_list_insert_3 _ _ _) M #[e,q]
def Me:hQ X "list.insert" Jx:=by
 intro D s G H x vs v E Q I o p h;revert h;refine NF λl a k y=>MI λζ η c u w q=>?_;subst ζ η;cases o;refine JB p.two (JR λF d=>JE λζ i j=>?_);subst ζ;obtain⟨t,rfl⟩:=i;refine JB (I.lstM c) (JW λz=>JR λb n=>JE λr f e=>?_);have g:(Br a k y).length=a.length+1:=by unfold Br;simp;clear f z;omega
 have A:Vals (Br a k y) (Br b k d):=by
  unfold Br;exact((zS k r).append<|.cons j .nil).append (zT k r)
 have m:(Br a k y).length<=sizeLine:=jL (by rw[g];omega);refine aCm e (Si<|yR u w) (by rw[fK,<- f];exact z) ?_;refine#[.non,_,I.lset (its':=Br b k d) c e ?_ A m,rfl,q];have B:¬ ((k:Int)<0):=by omega
 have C:min (k:Int).toNat b.toArray.size=k:=by rw[fK,<- f];simp;clear f g m z;omega
 simp only [B,if_false,C];unfold Br;simp;exact mW Zs
def R.iq:XM X "list.insert" Jx:=#[Me]
def RA.len(h:RA z):z.length<=1000:=gK h.2.1 Zd
def aAN(K:W.Frag):A1->Hp->VK->Prop:=λvs H Q=>∃(p:TD)(b:EZ),vs=[.ref p]/\MO K H p (b.map V.int)/\0<b.length/\∀M:Int,M∈b->(∀a∈b,a<=M)->Q (.int M) H
def Mf(x:X.calm=true):LQ X (.builtin "max") (aAN X.K):=by
 intro F s N H b J Q I r h;revert h;refine JR λp c=>KJ λζ y K q=>?_;subst ζ;obtain⟨u,rfl,z⟩:=gX r;cases z;obtain⟨o,A,B,L⟩:=I.list y;have e:=vK A;obtain⟨b,f⟩:=e.allInts.items;have C:s.heap.IsList p (intItems b):=f▸B.isList;have g:c=b.toList.map (·.1):=by
  rw[<- nums_intItems,<- f];exact(show numsOf o.toArray.toList=c from e.numsOf).symm
 have G:c.length=b.size:=by rw[g];simp
 refine max_intList (I.ok.hd x) C Zo λv M tk l D=>?_;obtain⟨w,m⟩:=argBest_gt (numAt b)<|b.size-1;generalize argBest (λi j=>decide (numAt b i>numAt b j)) (b.size-1)=k at l w m;obtain⟨t,rfl⟩:=intItems_at l;have d:∀j,j<c.length->numAt b j=c.getD j 0:=λj _=>by rw[numAt_eq,g]
 refine#[.int _,H,I.kept D,#[_,rfl],q _ ?_ ?_]
 .rw[d k Zo,getD_eq_getElem?_getD,hX Zo];exact getElem_mem _
 intro a E;obtain⟨j,n,rfl⟩:=getElem_of_mem E;have:=m j Zo;rw[d j n,getD_eq_getElem?_getD,hX n]at this;exact this
def R.ia{K:W.Frag}(a:X.calm=true)(b:X.K=K:=by rfl):XC X (.builtin "max") (aAN K):=b▸#[Mf a]
inductive Dd where
 | add (a:Str) (n:Nat)
 | take (a:Str) (n:Nat)
 | move (a b:Str) (n:Nat)
 | send (h a:Str) (n:Nat)
 | fetch (h a:Str) (n:Nat)
 | pass (h g a:Str) (n:Nat)
namespace Dd
def vs:Dd->A1
 | .add a n=>[.str "add",.str a,.int (n:Int)]
 | .take a n=>[.str "take",.str a,.int (n:Int)]
 | .move a b n=>[.str "move",.str a,.str b,.int (n:Int)]
 | .send h a n=>[.str "send",.str h,.str a,.int (n:Int)]
 | .fetch h a n=>[.str "fetch",.str h,.str a,.int (n:Int)]
 | .pass h g a n=>[.str "pass",.str h,.str g,.str a,.int (n:Int)]
def n:Dd->Nat
 | .add _ n=>n|.take _ n=>n|.move _ _ n=>n|.send _ _ n=>n|.fetch _ _ n=>n|.pass _ _ _ n=>n
def far:Dd->Bool
 | .send _ _ _=>true|.fetch _ _ _=>true|.pass _ _ _ _=>true|_=>false
def Ok:Dd->Prop
 | .add a n=>isNm a/\1<=n/\n<=1000000000000
 | .take a n=>isNm a/\1<=n/\n<=1000000000000
 | .move a b n=>isNm a/\isNm b/\a≠b/\1<=n/\n<=1000000000000
 | .send h a n=>isNm h/\isNm a/\1<=n/\n<=1000000000000
 | .fetch h a n=>isNm h/\isNm a/\1<=n/\n<=1000000000000
 | .pass h g a n=>isNm h/\isNm g/\isNm a/\h≠g/\1<=n/\n<=1000000000000
def Ok.n{d:Dd}(h:d.Ok):1<=d.n/\d.n<=1000000000000:=by
 cases d<;>simp only [Ok]at h<;>simp only [Dd.n]<;>omega
def wd:Dd->Str
 | .add _ _=>"add"|.take _ _=>"take"|.move _ _ _=>"move"|.send _ _ _=>"send"|.fetch _ _ _=>"fetch"|.pass _ _ _ _=>"pass"
end Dd
inductive An where
 | is1 (m:Nat)
 | is2 (l m:Nat)
 | short (m:Nat)
 | full (m:Nat)
 | no (h:Str)
 | ok
namespace An
def vs:An->A1
 | .is1 m=>[.str "is",.int (m:Int)]
 | .is2 l m=>[.str "is",.int (l:Int),.int (m:Int)]
 | .short m=>[.str "short",.int (m:Int)]
 | .full m=>[.str "full",.int (m:Int)]
 | .no h=>[.str "no",.str h]
 | .ok=>[.str "ok"]
def early:An->Bool|.short _=>true|.full _=>true|_=>false
def Of:Dd->An->Prop
 | .add _ n,.is1 m=>n<=m/\m<=1000000000000
 | .add _ n,.full m=>1000000000000<m+n/\m<=1000000000000
 | .take _ n,.is1 m=>m+n<=1000000000000
 | .take _ n,.short m=>m<n
 | .move _ _ n,.is2 l m=>l+n<=1000000000000/\n<=m/\m<=1000000000000
 | .move _ _ n,.short m=>m<n
 | .move _ _ n,.full m=>1000000000000<m+n/\m<=1000000000000
 | .send _ _ n,.is1 m=>m+n<=1000000000000
 | .send _ _ n,.short m=>m<n
 | .send h _ _,.no g=>g=h
 | .fetch _ _ n,.is1 m=>n<=m/\m<=1000000000000
 | .fetch _ _ n,.full m=>1000000000000<m+n/\m<=1000000000000
 | .fetch h _ _,.no g=>g=h
 | .pass h g _ _,.no k=>k=h∨k=g
 | .pass _ _ _ _,.ok=>True
 | _,_=>False
end An
inductive RX where
 | next (n t:Nat)
 | has (z:Str) (m:Nat)
 | kept (n t:Nat) (p k:Str) (d:Dd) (y:An)
 | came (n t:Nat) (p k:Str) (d:Dd)
 | asked (n:Nat)
 | done (n t:Nat) (y:An)
abbrev BR:=List RX
namespace RX
def At(H:Hp)(a:TD):RX->Prop
 | .next n t=>H a=!.tup [.str "next",.int (n:Int),.int (t:Int)]
 | .has z m=>H a=!.tup [.str "has",.str z,.int (m:Int)]
 | .kept n t p k d y=>∃b c,H a=!.tup [.str "kept",.int (n:Int),.int (t:Int),.str p,.str k,.ref b,.ref c]/\H b=!.tup d.vs/\H c=!.tup y.vs
 | .came n t p k d=>∃b,H a=!.tup [.str "came",.int (n:Int),.int (t:Int),.str p,.str k,.ref b]/\H b=!.tup d.vs
 | .asked n=>H a=!.tup [.str "asked",.int (n:Int)]
 | .done n t y=>∃c,H a=!.tup [.str "done",.int (n:Int),.int (t:Int),.ref c]/\H c=!.tup y.vs
def At.tk{r:RX}(s:TK H H')(h:r.At H a):r.At H' a:=by
 cases r with
 | next n t=>exact s _ _ h
 | has z m=>exact s _ _ h
 | kept n t p k d y=>revert h;refine JR λb c=>JE λe f g=>?_;exact#[b,c,s _ _ e,s _ _ f,s _ _ g]
 | came n t p k d=>obtain⟨b,e,f⟩:=h;exact#[b,s _ _ e,s _ _ f]
 | asked n=>exact s _ _ h
 | done n t y=>obtain⟨b,e,f⟩:=h;exact#[b,s _ _ e,s _ _ f]
def tvs:A1->TV:=λa=>.tp<|a.map TV.sc
def tv:RX->TV
 | .next n t=>.tp [.sc (.str "next"),.sc (.int (n:Int)),.sc (.int (t:Int))]
 | .has z m=>.tp [.sc (.str "has"),.sc (.str z),.sc (.int (m:Int))]
 | .kept n t p k d y=>.tp [.sc (.str "kept"),.sc (.int (n:Int)),.sc (.int (t:Int)),.sc (.str p),.sc (.str k),tvs d.vs,tvs y.vs]
 | .came n t p k d=>.tp [.sc (.str "came"),.sc (.int (n:Int)),.sc (.int (t:Int)),.sc (.str p),.sc (.str k),tvs d.vs]
 | .asked n=>.tp [.sc (.str "asked"),.sc (.int (n:Int))]
 | .done n t y=>.tp [.sc (.str "done"),.sc (.int (n:Int)),.sc (.int (t:Int)),tvs y.vs]
def rep_flat(g:H b=!.tup xs)(d:∀x∈xs,pE x=true):Rep H 1 (tvs xs) (.ref b):=by
 exists b,xs,rfl,g
 induction xs with
 | nil=>exact .nil
 | cons x xs e=>
  clear g;refine .cons #[rfl,d x eG] ?_;have:∀(a:A1),(∀y∈a,pE y=true)->Paired (Rep H 0) (a.map TV.sc) a:=λa h=>by
   induction a with
   | nil=>exact .nil
   | cons y a e=>exact .cons #[rfl,h y eG] (e λz c=>h z<|cR _ c)
  exact this xs λz c=>d z<|cR _ c
def sc_dd(d:Dd):∀x∈d.vs,pE x=true:=by
 intro x a;cases d<;>simp only [Dd.vs,mem_cons,GH,or_false]at a<;>rcases a with rfl|rfl|rfl|rfl|rfl<;>rfl
def sc_an(y:An):∀x∈y.vs,pE x=true:=by
 intro x a;cases y<;>simp only [An.vs,mem_cons,GH,or_false]at a<;>rcases a with rfl|rfl|rfl|rfl|rfl<;>rfl
def At.rep{r:RX}(h:r.At H a):Rep H 2 r.tv (.ref a):=by
 cases r with
 | next n t=>exact#[a,_,rfl,h,.cons #[rfl,rfl]<|.cons #[rfl,rfl]<|.cons #[rfl,rfl] .nil]
 | has z m=>exact#[a,_,rfl,h,.cons #[rfl,rfl]<|.cons #[rfl,rfl]<|.cons #[rfl,rfl] .nil]
 | kept n t p k d y=>
  revert h;refine JR λb c=>JE λe f g=>?_;exact#[a,_,rfl,e,.cons #[rfl,rfl]<|.cons #[rfl,rfl]<|.cons #[rfl,rfl]<|.cons #[rfl,rfl]<|.cons #[rfl,rfl]<|.cons (rep_flat f<|sc_dd d)<|.cons (rep_flat g<|sc_an y) .nil]
 | came n t p k d=>
  obtain⟨b,e,f⟩:=h;exact#[a,_,rfl,e,.cons #[rfl,rfl]<|.cons #[rfl,rfl]<|.cons #[rfl,rfl]<|.cons #[rfl,rfl]<|.cons #[rfl,rfl]<|.cons (rep_flat f<|sc_dd d) .nil]
 | asked n=>exact#[a,_,rfl,h,.cons #[rfl,rfl]<|.cons #[rfl,rfl] .nil]
 | done n t y=>
  obtain⟨b,e,f⟩:=h;exact#[a,_,rfl,e,.cons #[rfl,rfl]<|.cons #[rfl,rfl]<|.cons #[rfl,rfl]<|.cons (rep_flat f<|sc_an y) .nil]
def aD2:RX->Nat|.next _ _=>0|.has _ _=>1|.kept _ _ _ _ _ _=>2|_=>3
def turn:RX->Nat|.next _ t=>t|.came _ t _ _ _=>t|.done _ t _=>t|_=>0
def aE5(rs:BR):RX->Prop
 | .next _ _=>rs=[]
 | .has z _=>(∀q∈rs,aD2 q<=1)/\(∃n t,.next n t∈rs)/\∀i m,.has i m∈rs->i.cps.toList<z.cps.toList
 | .kept n t _ _ d y=>(∀q∈rs,aD2 q<=2)/\(∃j g,.next j g∈rs/\n<j/\t<=g)/\(∀a b c e f h,.kept a b c e f h∈rs->a<n)/\An.Of d y
 | .came n t _ _ _=>(∀a b c e f,.came a b c e f∈rs->a<n)/\(∀b c e f h,.kept n b c e f h∉rs)/\∀q∈rs,turn q<=t
 | .asked n=>(∃t p k d,.came n t p k d∈rs/\d.far=true)/\.asked n∉rs/\∀t y,.done n t y∉rs
 | .done n t y=>(∀q∈rs,turn q<=t)/\(∀t y,.done n t y∉rs)/\∃g p k d,.came n g p k d∈rs/\An.Of d y/\(d.far=true->(.asked n∈rs↔y.early=false))
inductive Whole:BR->Prop
 | nil:Whole []
 | snoc {rs:BR}{r:RX}:Whole rs->aE5 rs r->Whole (rs++[r])
end RX
structure JY(H:Hp)(ra:TD)(rs:BR)(as:BZ):Prop where
 lst:H ra=!(.lst<|as.map V.ref)
 each:Paired (λr a=>RX.At H a r) rs as
def JY.len(h:JY H a rs as):rs.length=as.length:=h.each.length
def JY.keep(h:JY H a rs as)(s:TK H H')(e:H' a=!(.lst<|as.map V.ref)):JY H' a rs as:=#[e,Paired.map' (λ_ _ x=>x.tk s) h.each]
def JY.same(h:JY H a rs as)(s:I7 H H'):JY H' a rs as:=h.keep s.tk<|s _ _ h.lst
def JY.snoc(h:JY H b rs as)(s:TK H H')(c:r.At H' a)(e:H' b=!(.lst<|as.map V.ref++[.ref a])):JY H' b (rs++[r]) (as++[a]):=
 #[by rw[e,dL];rfl,Paired.snoc (Paired.map' (λ_ _ x=>x.tk s) h.each) c]
def JY.get(h:JY H d rs as){i:Nat}{v:V}(e:(as.map V.ref)[i]?=!v):∃(a:TD)(r:RX),v=.ref a/\as[i]?=!a/\rs[i]?=!r/\r.At H a:=by
 rw[eJ]at e;cases b:as[i]? with
 | none=>rw[b]at e;cases e
 | some a=>
  rw[b]at e;cases e;obtain⟨f,g⟩:=NJ.mp b;obtain⟨k,c⟩:=Paired.get' (j:=i) h.each f;rw[g]at c;exact#[a,rs[i],rfl,rfl,hX k,c]
def JY.rep(h:JY H b rs as):Rep H 3 (.ls<|rs.map RX.tv) (.ref b):=by
 exists b,_,rfl,h.lst;have:∀ {rs:BR}{as:BZ},Paired (λr a=>RX.At H a r) rs as->Paired (Rep H 2) (rs.map RX.tv) (as.map V.ref):=by
  intro rs as p;induction p with
  | nil=>exact .nil
  | cons h t c=>exact .cons h.rep c
 exact this h.each
def JY.nil(h:H a=!.lst []):JY H a [] []:=#[h,.nil]
def cY{t u:TS}(R:St->Hp->Prop)(h:∀nx:St->Hp->Prop,(∀ a H',R a H'->nx a H')->t {D with nx:=nx } b H)(c:∀ a H',R a H'->u D a H'):Oj t u D b H:=h (u D) c
def Sj{t u:TS}(R:Bool->Hp->Prop)(h:∀k:Bool->Hp->Prop,(∀v H',R v H'->k v H')->c a H k)(e:∀H',R true H'->t D a H')(f:∀H',R false H'->u D a H'):Om c t u D a H:=
 h (λb d=>if b=true then t D a d else u D a d) λv H' r=>match v,r with|true,r=>e H' r|false,r=>f H' r
def wJ{t u x:TS}(R:Bool->Hp->Prop)(h:∀k:Bool->Hp->Prop,(∀v H',R v H'->k v H')->c a H k)(e:∀H',R true H'->t {D with nx:=x D } a H')(f:∀H',R false H'->u {D with nx:=x D } a H'):Oj (Om c t u) x D a H:=
 h (λb d=>if b=true then t {D with nx:=x D } a d else u {D with nx:=x D } a d) λv H' r=>match v,r with|true,r=>e H' r|false,r=>f H' r
theorem wK:∀ {ks:EZ}{vs:C4},vs.length=ks.length->(∀(i:Nat)(v:PP),vs[i]?=!v->∃x t,ks[i]?=!x/\v=Value.int x t)->IntsAre vs ks
 | [],[],_,_=>.nil
 | k::ks,v::vs,a,h=>by
  obtain⟨x,t,b,rfl⟩:=h 0 v rfl;cases b;exact .cons k t (wK (by simpa using a) λi v c=>by simpa using h (i+1) v (by simpa using c))
section
variable {prog:Program}{s:NE}
def Bs(F:A.handled=none)(lo:(d==sysModules)=false)(hd:s.heap.DictOf (bE prog w) d kvs)(o:kvs.map (·.1)=c.map Sum.inl)(p:c.length<64)(h:∀(a h':Heap)(tk:Nat)(out:Array Value)(e:Nat)(g:EZ),(∀b f,s.heap.get? b=!f->a.get? b=!f)->(∀b f,a.get? b=!f->h'.get? b=!f)->h'.get? a.objs.size=!seqObj "list" out e->IntsAre out.toList g->g.Perm c->g.Pairwise (·<=·)->Q (.ref a.objs.size) {s with heap:=h',toks:=tk }) :
  wpAny (model prog w) A (call (.builtin "sorted") [.ref d]) Q E s:=by
 have q:kvs.length=c.length:=by simpa using congrArg length o
 obtain⟨R,G⟩:=hd.dictAt;apply Calls.call_function_entry kind_sorted plain_sorted entry_sorted<|args_sorted1 _;unfold Builtin.«sorted»;apply XV (m:=checkCount "sorted" 1 1 _);apply W1;apply XV;refine W.kdu_collect (W.kdl_dict lo) F G (by rw[q];exact gK (le_of_lt p) Zd) λa tk n H r=>?_;have l:IntsAre n.toList c:=wK (by rw[Array.length_toList,r.1,q]) λi v I=>by
  refine JB (r.2 i v (by simpa using I)) (JR λk x=>JW λJ K=>?_);have j:(kvs.map (·.1))[i]?=!k:=by rw[eJ,J];rfl
  rw[o,eJ]at j;cases u:c[i]? with
  | none=>rw[u]at j;cases j
  | some y=>
   rw[u]at j;cases j;rcases bL (show qF (Sum.inl y) v=true from K) with⟨z,t,e,L⟩|⟨_,_,e,_⟩
   .cases e;exact#[_,t,rfl,L]
   cases e
 generalize n.toList=vs at l;have B:vs.length<64:=by rw[l.length];exact p
 apply XV;apply wpAny_newList
 .have g2:(a.push<|seqObj "list" vs.toArray 0).get? a.objs.size=!seqObj "list" vs.toArray 0:=TW _ rfl;apply XV;apply wpAny_holding;refine wpAny_call_entry slot_list_sort #[_,g2,rfl] entry_list_sort (list_sort_tree (s:={s with heap:=a.push<|seqObj "list" vs.toArray 0,toks:=tk }) g2 l B λout g M N O=>#[_,rfl,W1 #[_,rfl,?_]])<|args_list_sort _;obtain⟨e,P⟩:=sortedHeap_at (out:=out) g2;refine h a _ _ _ e g H (λb f C=>?_) P M N O;have D:=Heap.lt_size C;rw[sortedHeap_old (ne_of_lt D) (by rw[size_push'];exact lt_succ_of_lt D)];exact jM _ C
 exact gK (le_of_lt B) Zd
end
def sF:A1->Hp->VK->Prop:=λvs H Q=>match vs with
 | [.ref a]=>∃(b:EZ)(d:DI),Rd H a (.dK d)/\d.map (·.1)=b.map Sum.inl/\b.length<64/\∀(l:TD)(c:EZ),H l=none->c.Perm b->c.Pairwise (·<=·)->Q (.ref l) (aH H l<|.lst<|c.map V.int)
 | _=>False
def Gx(g:X.calm=true):LQ X (.builtin "sorted") sF:=by
 intro x s D H z A Q I r h;unfold sF at h;split at h
 .rename_i a;revert h;refine JR λB y=>KJ λi j b q=>?_;obtain⟨u,rfl,l⟩:=gX r;cases l;refine JB (qJ I.hok i) (JE λ_ hd=>JU λvs=>JW λf dd=>?_);refine Bs (I.ok.hd g) hd dd (by rw[<- f.keys];exact j) b λm C tk out e n p k t v c w=>?_;have d:=I.kept (t':=s.toks) p;refine#[.ref m.objs.size,_,d.laid (t':=tk) (o:=.lst (n.map V.int)) k (bD _) #[?_,out.toList,e,zR v,t],rfl,q _ _ (d.hok.fresh<|bD _) c w];rw[aV,c.length_eq];exact gK (le_of_lt b) Zd
 exact h.elim
def R.dq(a:X.calm=true):XC X (.builtin "sorted") sF:=#[Gx a]
def Yq(b:Bool):R2:=λx y H Q=>mR y λa=>∃o,LP H a x o/\Q (.bl (if b then (not o.isSome) else o.isSome)) H
def Sk(b:Bool)(d:X.A.units+1<cLine):LZ X (compareOp (if b then .NotIn else .In)) (Yq b):=by
 intro j s k H x y v u Q I e f h;unfold Yq at h;rw[cX]at h;obtain⟨a,rfl,o,g,q⟩:=h;cases f;cases b
 .exact wg d I g e λi c=>#[.bl _,H,c,rfl,q]
 exact Ix d I g e λi c=>#[.bl _,H,c,rfl,q]
def R.ib(a:X.A.units+1<cLine):kN X (compareOp .In) (Yq false):=#[Sk false a]
def R.fe(a:X.A.units+1<cLine):kN X (compareOp .NotIn) (Yq true):=#[Sk true a]
def cZ(xs ys:A1):Prop:=∀(j:Nat)(u v:V),xs[j]?=!u->ys[j]?=!v->eM u=true/\eM v=true
def wM(h:cZ xs xs):cO xs xs=true:=by
 unfold cO;rw[Bool.and_eq_true_iff];refine#[all_eq_true.mpr λj a=>?_,Zs];have a:j<xs.length:=by simpa using a
 have e:xs.getD j .non=xs[j]:=by simp[List.getD,a]
 rw[e];have:=(h j xs[j] xs[j] (hX a)<|hX a).1;generalize xs[j]=v at this;cases v<;>first|exact IZ (show false=true from this) WP|simp[Dc]
def Sl{s:NE}(I:Inv X o F H s)(G:X.A.units+64<cLine)(g1:H a=!.tup xs)(g2:H b=!.tup ys)(fl:cZ xs ys):SeqAt.EqAt X.A.in1 s (.ref a) (.ref b) (cO xs ys):=by
 by_cases e:a=b
 .subst e;rw[g1]at g2;cases g2;rw[wM fl];exact SeqAt.EqAt.same _
 obtain⟨c,k,r,_⟩:=I.tuple<|JV g1;obtain⟨d,l,t,_⟩:=I.tuple<|JV g2;have u:c.length=xs.length:=k.length.symm;have v:d.length=ys.length:=l.length.symm;have p:∀j (f:j<c.toArray.size) (g:j<d.toArray.size),SeqAt.EqAt X.A.in1.in1 s c.toArray[j] d.toArray[j] (Dc (xs.getD j .non)<|ys.getD j .non):=λj f g=>by
  rw[fK]at f g;obtain⟨m,x⟩:=Paired.get' (j:=j) k f;obtain⟨n,y⟩:=Paired.get' (j:=j) l g;obtain⟨f1,f2⟩:=fl j xs[j] ys[j] (hX m)<|hX n;have B:xs.getD j .non=xs[j]:=by simp[List.getD,m]
  have C:ys.getD j .non=ys[j]:=by simp[List.getD,n]
  rw[B,C];simpa using Fy x y f1 f2
 have e:((List.range<|min c.toArray.size d.toArray.size).all (λj=>Dc (xs.getD j .non)<|ys.getD j .non)&&c.toArray.size==d.toArray.size)=cO xs ys:=by
  rw[fK,fK,u,v];rfl
 have i:=SeqAt.RcAt.tuples (A:=X.A.in1) (s:=s) r t (by rw[Ly];omega) p;rw[e]at i;intro q w E Q h;unfold eqBool;refine wpAny_holding ?_;refine wpAny_ite_split (λD=>IZ (eq_of_beq D) (λz=>by cases z;contradiction)) λ_=>?_;exact XV<|i q w E _<|wpAny_truthy_bool h
def wN(xs:A1)(zs:HP):Bool:=zs.any λz=>cO z.2 xs
def Yr(d:Bool):R2:=λx y H Q=>mR x λa=>mR y λp=>∃(b:A1)(c:HP),H a=!.tup b/\H p=!(.lst<|c.map λz=>V.ref z.1)/\(∀z∈c,H z.1=!.tup z.2/\cZ z.2 b)/\Q (.bl (if d then (not (wN b c)) else wN b c)) H
def eL(H:Hp)(xs:A1)(v:PP):Bool:=match v with|.ref b=>(match H b with|some (.tup a)=>cO a xs|_=>false)|_=>false
def Sm(g:H b=!.tup ys):eL H xs (.ref b)=cO ys xs:=by unfold eL;dsimp only;rw[g]
def Gy{zs:HP}:∀ {us:C4},Vals (zs.map λz=>V.ref z.1) us->us=zs.map λz=>Value.ref z.1:=by
 induction zs with
 | nil=>intro us r;cases r;rfl
 | cons z zs a=>intro us r;cases r with|cons r t=>rw[a t];cases r;rfl
def Sn(f:Bool)(n:X.A.units+64<cLine):LZ X (compareOp (if f then .NotIn else .In)) (Yr f):=by
  intro C s D H x y v u Q I o t h;unfold Yr at h;rw[cX]at h;obtain⟨a,rfl,h⟩:=h;rw[cX]at h;revert h;refine JU λp=>JW λζ=>JR λd b=>KJ λg1 g2 c q=>?_;subst ζ;cases o;cases t;refine JB (I.list<|JX g2) (JU λg=>JE λr j _=>?_);have k:=Gy r;have l:∀w,w∈g.toArray->SeqAt.EqAt X.A.in1 s w (.ref a) (eL H d w):=λw e=>by
    have e:w∈g:=by simpa using e
    rw[k]at e;obtain⟨z,i,rfl⟩:=LA.mp e;rw[Sm (c z i).1];exact Sl I n (c z i).1 g1 (c z i).2
  have m:g.toArray.any (eL H d)=wN d b:=by
    rw[k];unfold wN;rw[List.any_toArray,any_map];have:∀b:HP,(∀z∈b,H z.1=!.tup z.2/\cZ z.2 d)->b.any (eL H d∘λz=>Value.ref z.1)=b.any λz=>cO z.2 d:=λb c=>by
     induction b with
     | nil=>rfl
     | cons z b A=>
      rw[any_cons,any_cons,A λy B=>c y (cR _ B)]
      congr 1
      exact Sm (c z eG).1
    exact this b c
  cases f
  . refine SeqAt.in_listAt _ j.isList l #[.bl _,H,I,rfl,?_]
    rw[m];exact q
  . refine SeqAt.notIn_listAt _ j.isList l #[.bl _,H,I,rfl,?_]
    rw[m];exact q
def R.ir(a:X.A.units+64<cLine):kN X (compareOp .In) (Yr false):=#[Sn false a]
def R.iu(a:X.A.units+64<cLine):kN X (compareOp .NotIn) (Yr true):=#[Sn true a]
section
variable {prog:Program}{s:NE}{u d:TD}{i n ep:Nat}{od:Obj}{es:Array DictEntry}
def Mg(c:s.heap.IsValIter u d i n ep)(g:s.heap.get? d=!od)(gd:od.data=.dict es ep)(e:es.size=n)(f:i<es.size)(q:∀h',h'.IsValIter u d (i+1) n ep->Heap.SameBut u s.heap h'->Q (some es[i].val) {s with heap:=h' }):wpAny (model prog w) A (pyNext<|.ref u) Q E s:=by
 obtain⟨o,a,h,hd⟩:=id c;have ty:=c.typeIs;have own:Builtin.Dict_items.ownsTuple "dict_valueiterator"=false:=by decide
 unfold pyNext;refine XV<|wpAny_attempt<|wpAny_callSpecial?_slot (name:=Str.ofString "__next__") ty PySem.F.slot_dict_valueiterator_next<|wpAny_call_entry PySem.F.slot_dict_valueiterator_next ty PySem.F.entry_dict_valueiterator_next ?_<|PySem.F.args_dict_valueiterator_next_1 _;refine XV (W1<|XV<|XV ?_)
 first|refine XV (wpAny_typeNameOfWhole_valiter ty<|W1<|XV<|wpAny_fieldsOf a hd ?_)|refine XV (wpAny_typeNameOf_valiter ty<|W1<|XV<|wpAny_fieldsOf a hd ?_)
 simp only [own,Bool.false_eq_true,if_false];show wpAny _ _ (if (Value.ref d==Value.none)=true then _ else _) _ _ s;rw[LK (show ¬ ((Value.ref d==Value.none)=true) from WP)];refine XV<|W1<|XV<|wpAny_dictEntries g gd ?_;rw[LK (by rw[e];simp)];refine XV<|W1<|XV<|wpAny_dictEpoch g gd ?_;rw[LK Zs];refine W1 ?_;simp only [show ¬ ((i:Int)<0) from by omega,if_false,Int.toNat_natCast,Array.getElem?_eq_getElem f];refine XV ?_
 first|refine XV (wpAny_typeNameOfWhole_valiter ty<|W1<|XV<|wpAny_isOneOf_valiter ty ?_)|refine XV (wpAny_typeNameOf_valiter ty<|W1<|XV<|wpAny_isOneOf_valiter ty ?_)
 show wpAny _ _ (setField (.ref u) 1 (rawInt<|(i:Int)+1)>>=_) _ _ s;refine XV<|wpAny_setField a hd Zs ?_;have b:(s.heap.update u<|Obj.mapFields (·.setIfInBounds 1 (rawInt<|(i:Int)+1))).IsValIter u d (i+1) n ep:=#[_,Heap.get?_update_self _ a<|Obj.isFreed_of_fields<|Obj.data_mapFields hd _,(Obj.cls_mapFields ..).trans h,by rw[Obj.data_mapFields hd];simp[rawInt]];refine XV<|wpAny_holding<|XV<|wpAny_isOneOf_valiter (s:={s with heap:=s.heap.update u (Obj.mapFields (·.setIfInBounds 1 (rawInt<|(i:Int)+1))) }) b.typeIs<|XV<|wpAny_isOneOf_valiter (s:={s with heap:=s.heap.update u (Obj.mapFields (·.setIfInBounds 1 (rawInt<|(i:Int)+1))) }) b.typeIs ?_;show wpAny _ _ (pure es[i].val) _ _ _;exact W1<|W1 #[_,rfl,W1<|q _ b<|Heap.SameBut.update ..]
def So(f:A.handled=none)(e:s.heap.IsValIter u d i n ep)(g:s.heap.get? d=!od)(gd:od.data=.dict es ep)(h:es.size=n)(j:es.size<=i)(q:∀h',Heap.ExtBut u s.heap h'->Q none {s with heap:=h' }):wpAny (model prog w) A (pyNext<|.ref u) Q E s:=by
 obtain⟨o,c,k,hd⟩:=id e;have ty:=e.typeIs;have own:Builtin.Dict_items.ownsTuple "dict_valueiterator"=false:=by decide
 unfold pyNext;refine XV<|wpAny_attempt<|wpAny_callSpecial?_slot (name:=Str.ofString "__next__") ty PySem.F.slot_dict_valueiterator_next<|wpAny_call_entry PySem.F.slot_dict_valueiterator_next ty PySem.F.entry_dict_valueiterator_next ?_<|PySem.F.args_dict_valueiterator_next_1 _;refine XV (W1<|XV<|XV ?_)
 first|refine XV (wpAny_typeNameOfWhole_valiter ty<|W1<|XV<|wpAny_fieldsOf c hd ?_)|refine XV (wpAny_typeNameOf_valiter ty<|W1<|XV<|wpAny_fieldsOf c hd ?_)
 simp only [own,Bool.false_eq_true,if_false];show wpAny _ _ (if (Value.ref d==Value.none)=true then _ else _) _ _ s;rw[LK (show ¬ ((Value.ref d==Value.none)=true) from WP)];refine XV<|W1<|XV<|wpAny_dictEntries g gd ?_;rw[LK (by rw[h];simp)];refine XV<|W1<|XV<|wpAny_dictEpoch g gd ?_;rw[LK Zs];refine W1 ?_;simp only [show ¬ ((i:Int)<0) from by omega,if_false,Int.toNat_natCast,Array.getElem?_eq_none j];refine XV ?_
 first|refine XV (wpAny_typeNameOfWhole_valiter ty<|W1 ?_)|refine XV (wpAny_typeNameOf_valiter ty<|W1 ?_)
 show wpAny _ _ (setField (.ref u) 0 .none>>=_) _ _ s;refine XV<|wpAny_setField c hd Zs ?_;show wpAny _ _ (newExc (.type "StopIteration") []>>=_) _ _ _;refine XV ?_;simp only [newExc,newTuple];refine XV<|wpAny_newObj_type ?_ (by size_fits);refine XV (m:=firstArgMember _ _)<|wpAny_of_eq (a:=Value.none) (by first|rfl|(simp only [firstArgMember];rfl))<|wpAny_newObj_type ?_ (by size_fits);simp only [raiseNew];refine XV<|wpAny_handled ?_;rw[show A.in1.handled=none from f];refine XV<|W1<|wpAny_throw ?_;exact XV<|wpAny_isInstance (T:="StopIteration") (b:=true) #[_,TW _ rfl,rfl] isSubtype_stop<|W1<|q _<|((Heap.SameBut.update ..).extBut.push _).push _
def Mh(a:s.TypeIs (.ref d) "dict")(hd:(d==sysModules)=false)(q:Q (.done (.ret<|.ref s.heap.objs.size)) {s with heap:=s.heap.push {cls:=.type "dict_values",data:=.fields (toArray [.ref d]) } }):wpAny (model prog w) A (Builtin.«dict.values» #[[.ref d],[]]) Q E s:=by
 refine XV ?_;unfold Builtin.Dict.noArgs;refine XV<|wpAny_notOrdered_dict a ?_;show wpAny _ _ (pure d) _ _ s;refine W1 ?_;show wpAny _ _ (Builtin.Dict.showsAll d>>=_) _ _ s;unfold Builtin.Dict.showsAll;rw[LK (by rw[hd];exact WP)];refine XV<|W1 ?_;exact XV<|wpAny_newObj_type<|W1 q
def Mi{v:TD}(a:s.heap.IsValuesView v d)(g:s.heap.get? d=!od)(gd:od.data=.dict es ep)(q:Q (.ref s.heap.objs.size) {s with heap:=s.heap.push {cls:=.type "dict_valueiterator",data:=.fields (toArray [.ref d,.int 0 0,.int es.size 0,.int ep 0]) } }):wpAny (model prog w) A (pyIter<|.ref v) Q E s:=by
 obtain⟨h,b,f,c⟩:=id a;refine wpAny_pyIter_slot a.typeIs PySem.F.slot_dict_values_iter<|wpAny_call_entry PySem.F.slot_dict_values_iter a.typeIs PySem.F.entry_dict_values_iter ?_<|PySem.F.args_dict_values_iter_1 _;unfold Builtin.«dict_values.__iter__»;refine XV<|W1 ?_;refine XV ?_;unfold Builtin.Dict_items.dictOf;refine XV<|wpAny_field b c (x:=.ref d) rfl<|W1 ?_;refine XV ?_;unfold Builtin.Dict_items.newIterator;refine XV<|wpAny_dictEntries g gd ?_;refine XV<|wpAny_dictEpoch g gd ?_;have e:Builtin.Dict_items.ownsTuple "dict_valueiterator"=false:=by decide
 simp only [e,Bool.false_eq_true,if_false];refine wpAny_newObj_type<|W1 #[_,rfl,"dict_valueiterator",_,#[_,TW _ rfl,rfl],PySem.F.slot_dict_valueiterator_next.lookup,?_];simpa [rawInt]using q
end
def q5(a:TD)(o:Obj)(kvs:BW):It:=
 #[λi H=>H a=!(.frz o<|.dT kvs)/\i<kvs.length,λi H x b=>b=H/\(kvs.map (·.2))[i]?=!x,λi H=>H a=!(.frz o<|.dT kvs)/\kvs.length<=i]
def aCo(a:TD)(o:Obj)(kvs:BW):yD (q5 a o kvs) (kvs.map (·.2)) (λH=>H a=!(.frz o<|.dT kvs)):=
 #[λi H b e=>#[e,by rwa [aV]at b],λi H x c _ _ y=>y,λH e=>#[e,by rw[aV];exact bD _]]
section
variable {s:NE}{a:TD}{o:Obj}{kvs:BW}
def Bt(ok:NW P w H h)(e:H a=!(.frz o<|.dT kvs))(hd:o.data=.dict es m):es.size=kvs.length/\∀(i:Nat)(c:i<es.size),∃u:i<kvs.length,RelV kvs[i].2 es[i].val:=by
 refine JB (show KU P w H h a (.frz o<|.dT kvs) from ok a _ e) (KJ λn _ _=>JU λp=>JW λb=>LB λv x y=>MJ λg z d f A=>?_);rw[n]at g;cases g;rw[hd]at d;cases d;have B:=Paired.length b;have q:es.size=kvs.length:=by have:=congrArg length f;rw[aV,Array.length_toList]at this;omega
 refine#[q,λi c=>?_];have k:i<p.length:=by omega
 refine JB (Paired.get' (j:=i) b k) (JU λr=>JE λ_ _ t=>?_);exists r;have l:(es.toList)[i]?=some es[i]:=by rw[Array.getElem?_toList,Array.getElem?_eq_getElem c]
 rw[f,eJ,hX k]at l;rw[<- Option.some.inj l];exact t
def Ys{P:Program}{w:World}{K:W.Frag}{J:Expr}(a it:TD){es:Array DictEntry}{C:Nat}(hd:o.data=.dict es C):vH P w K J (q5 a o kvs) [it] it (λi h=>h.IsValIter it a i kvs.length C) where
 mem:=by simp
 obj:=λi h st b f=>by
  obtain rfl:b=it:=by simpa using f
  revert st;refine JU λg=>JE λe c d=>?_;exact#[g,e,λv z=>by rw[d]at z;cases z]
 keep:=λi h l st k=>st.at λg e=>k it Zs g e
 item:=by
  intro X n p q D i pins s σ H E I m st r;subst n p q;obtain⟨j,L⟩:=r;have t:=qU I.hok j;refine JB (m it Zs) (MI λu f1 f2 x y A=>?_);obtain⟨B,M⟩:=Bt I.hok j hd;have F:i<es.size:=by omega
  obtain⟨f,N⟩:=M i F;refine Mg st t hd B F λl G O=>?_;have Q:Inv X pins σ H {s with heap:=l }:=I.turned (t':=s.toks) (λb g f e=>(O.2 b f).trans e) u f1 x y A;refine JB (id G) (JU λg=>JE λe c d=>?_);refine#[_,rfl,tP (s:={s with heap:=l }) e c d Zd #[kvs[i].2,H,Q,N,#[rfl,?_],G,λb f=>(m b f).1]];rw[eJ,hX f];rfl
 done:=by
  intro X n p q D i pins s σ H E I m st r;subst n p q;obtain⟨j,L⟩:=r;have t:=qU I.hok j;refine JB (m it Zs) (MI λu f1 f2 x y A=>?_);obtain⟨B,_⟩:=Bt I.hok j hd;exact So (I.ok.hd D) st t hd B Zo λl R=>#[rfl,I.turned (t':=s.toks) (λb g f e=>R b g f e) u f1 x y A]
 self:=λ_ _ _ _ _ st h=>wpAny_pyIter_valiter st h
def Sq(c:TE):TI:=λσ H R=>c σ H λx b=>mR x λa=>∃kvs,b a=!.dT kvs/\∀o,R (q5 a o kvs) (aH b a<|.frz o<|.dT kvs)
def Sr{t l:Expr}{n:TE}{k m:Pos}(u:PE X l n)(w:attributeBase l "values" X.env (eval l X.env)=eval l X.env)(y:(k.endLine==m.line)=true):PI X t (.Call (.Attribute l "values" k) [] [] m) (Sq n):=by
 intro pins s σ H R I h;refine wpAny_Call_method0_late w y<|bR (u pins s σ H _ I h) ?_;refine λv c=>JR λx z=>JE λp A i=>?_;(try dsimp only at i);rw[cX]at i;obtain⟨a,rfl,kvs,e,q⟩:=i;cases A;refine JB (vO p<|.inr #[_,.inl e]) (JE λB C _=>?_);refine JB (p.freezeT e) (NF λj J K bs=>MI λg f L r lo D=>?_);have ty:c.TypeIs (.ref a) "dict":=#[j,g,f.ex.1];refine#["dict","dict.values",PySem.F.plainAttrs_dict,PySem.F.slot_dict_values,PySem.F.type_dict_values,B,C,Calls.callWith_builtin rfl<|PySem.evalArgs_none ?_];refine wpAny_call_entry PySem.F.slot_dict_values ty PySem.F.entry_dict_values (Mh ty lo #[_,rfl,?_])<|PySem.F.args_dict_values_1 _;have d:=D.kept (t':=c.toks) (h':=c.heap.push {cls:=.type "dict_values",data:=.fields (toArray [.ref a]) }) λb o e=>jM _ e
 have E:(c.heap.push {cls:=.type "dict_values",data:=.fields (toArray [.ref a]) }).IsValuesView c.heap.objs.size a:=#[_,TW _ rfl,rfl,rfl];obtain⟨F,_⟩:=Bt d.hok (aA (a:=a)) f.dat;refine Mi (s:={c with heap:=c.heap.push {cls:=.type "dict_values",data:=.fields (toArray [.ref a]) } }) E (qU d.hok<|aA (a:=a)) f.dat ?_;have G:(aH z a<|.frz j<|.dT kvs) (c.heap.push {cls:=.type "dict_values",data:=.fields (toArray [.ref a]) }).objs.size=none:=d.hok.fresh<|bD _;refine#[_,[_],_,_,_,rfl,d.kept (t':=c.toks) λb o e=>jM _ e,Ys a _ f.dat,#[_,TW _ rfl,rfl,?_],λb r=>?_,q j]
 .rw[F];rfl
 obtain rfl:b=(c.heap.push {cls:=.type "dict_values",data:=.fields (toArray [.ref a]) }).objs.size:=by simpa using r
 exact d.fpOk (bD _) G
end
def R.iw(e:XE X l c)(f:attributeBase l "values" X.env (eval l X.env)=eval l X.env:=by rfl)(g:(a.endLine==b.line)=true:=by rfl):XI X d (.Call (.Attribute l "values" a) [] [] b) (Sq c):=#[Sr e.h f g]
section
variable {e o:Expr}{es:List Expr}{m:Str}{td ty:TE}{t:TA}{C:TD}{n:Nat}{ps:A2}{sp:Sp}{dvs:A1}
def R.iy(a:XE X o td)(b:XE X e ty)(c:attributeBase o "pop" X.env (eval o X.env)=eval o X.env:=by rfl)(d:(apos.endLine == cpos.line)=true:=by rfl)(f:((!"~R?Yno" [e]).all (λx=>(not (x.1)))&&(backToKw cpos<|keywordEach [] X.env).all (λx=>x.1.isSome)
  && decide (([e]:List Expr).length+([]:List Keyword).length+(if ([]:List Keyword).isEmpty then 0 else 1)<30))=true:=by rfl)(g:backTo cpos (starEach [e] X.env)=[(false,eval e X.env)]:=by rfl):XE X (.Call (.Attribute o "pop" apos) [e] [] cpos) (Ps td ty):=#[Pw a.h b.h #[c,f,d,g]]
structure Ss(P:Program)(w:World)(K:W.Frag)(mg:X5)(base:Heap)(n:Nat)(C:TD)(m:Str)(ps:A2)(dvs:A1)(sp:Sp):Prop where
 ex:∃f fd ds,PM K C/\Oy K C m f/\MY P w K mg base vP n f fd ps sp/\Binds K fd ps ds/\Vals dvs ds
def Su(C:TD)(m:Str)(sp:Sp)(dvs:A1)(ta:TE)(t:TA):TE:=λc H Q=>ta c H λx b=>mR x λa=>qe C m b a<|t c b λvs d=>sp (.ref a::vs++dvs) d Q E0
def Mj(v:PE X o ta)(c:Ss X.prog X.w X.K X.mg X.base n C m ps dvs sp)(w:LO n X.A)(y:PA X (e::es) t)(hs:aT e=true)(z:(backTo pos<|starEach es X.env).any (·.1)=false)(A:eval (.Call (.Attribute o m apos) (e::es) [] pos) X.env=(do
   let g←eval o X.env
   standAt apos.atName
   let (f,first)←holding [g] (!"~pK~k~[")
   callWith pos f first (!"z?Yno" (e::es)) (!"z?Y~Z~]" []))) :
  PE X (.Call (.Attribute o m apos) (e::es) [] pos) (Su C m sp dvs ta t):=by
 refine JB c.ex (LB λf M ds=>MJ λB i F D hd=>?_);intro d s p H Q I h;refine W.methodCall_KW (pl:=pl) (bR (v d s p H _ I h) ?_) A;refine λu E=>JR λx G=>JE λj J b=>?_;(try dsimp only at b);rw[cX]at b;obtain⟨a,rfl,N,fs,K,l,q⟩:=b;obtain rfl:u=Value.ref a:=J;refine pS j K B i l ?_;refine W.callWith_K (first:=[.ref a]) (h₀:=X.base) I.ok.mod.kin i.kp (bR (y pos d E p G _ j q) λus O #[vs,P,k,r,L]=>#[k.kIn,?_]) (bS hs) z;exact As (us:=.ref a::us) (vs:=.ref a::vs) (dvs:=dvs) (ds:=ds) F w D hd zC k (.cons rfl r) L
def R.iz(c:Ss X.prog X.w X.K X.mg X.base n C m ps dvs sp)(b:LO n X.A)(d:XE X o ta)(g:XA X (e::es) t)(hs:aT e=true:=by rfl)(h:es.all aT=true:=by rfl)(i:eval (.Call (.Attribute o m apos) (e::es) [] pos) X.env=(do
   let a←eval o X.env
   standAt apos.atName
   let (f,first)←holding [a] (!"FK~k~[")
   callWith pos f first (!"z?Yno" (e::es)) (!"z?Y~Z~]" [])):=by rfl):XE X (.Call (.Attribute o m apos) (e::es) [] pos) (Su C m sp dvs ta t):=#[Mj d.h c b g.h hs (gY h) i]
end
section
variable {K:W.Frag}{mg:X5}{base:Heap}{qual m:Str}{st:Stmt}{C:TD}{N ps:A2}{k:Nat}{sp:Sp}
structure MethAtD(K:W.Frag)(C:TD)(m qual:Str)(st:Stmt)(ps:A2)(dvs:HF):Prop where
 cl:PM K C
 ex:∃f fd dv,TH K m qual st dv f fd/\Oy K C m f/\∀d∈dvs,∃ds,Binds K fd ps ds/\Vals d ds
def MethAtD.go{dvs:HF}(D:MethAtD K C m qual st ps dvs)(S:aG N ps (aB st))(len:∀vs H Q E,sp vs H Q E->vs.length=ps.length)(e:∀(f:TD)(a:PP)(A:Around)(c:List Env)(s:NE)(H:Hp)(vs:A1)(Q:VK)(E:XK),LO k (!"|-~-~(a@Ffw")->sp vs H Q E →
   ∃t,XB (pT vP P w K mg base N qual (aB st) f a A c s H E).nox (aZ st) t/\t {nx:=λ_ H'=>Q .non H',rt:=Q } (start N vs) H):∀d∈dvs,Ss P w K mg base (k+1) C m ps d sp:=by
 intro d hd;refine JB D.ex (LB λf g l=>JE λF h i=>?_);obtain⟨j,b,v⟩:=i d hd;exact#[f,g,j,D.cl,h,F.go S len<|e f,b,v]
end
end L2
namespace KL
open PySem L2
def f8:=@R.v
def lc:=@R.ab
def li:=@R.ac
def lv:=@R.ad
def nv:=@R.ae
def o0:=@R.int
def pc:=@R.af
def pi:=@R.ag
def pq:=@R.ah
def pv:=@R.op
def px:=@R.ap
def re:=@R.aq
def sw:=@R.it
def tz:=@R.fn
def ui:=@R.ar
def ut:=@R.au
def u8:=@R.av
def vi:=@R.gn
def vj:=@R.aw
def vk:=@R.ix
def vm:=@R.ps
def v6:=@R.ax
def wl:=@R.ay
def wn:=@R.az
def wv:=@R.ba
def ww:=@R.eq
def xm:=@R.bb
def xn:=@R.sl
def xo:=@R.be
def xp:=@R.bf
def xq:=@R.bc
def xr:=@R.bg
def xz:=@R.bh
def yg:=@R.bi
def yh:=@R.bj
def yi:=@R.pn
def yj:=@R.kiT
def yk:=@R.bn
def AC:=@R.bo
def AT:=@R.kiL
def AW:=@R.bl
def AX:=@R.bp
def AY:=@R.sT
def AZ:=@R.bq
def BA:=@R.tw
def BC:=@R.bt
def BE:=@R.bu
def BF:=@R.bv
def BG:=@R.br
def BH:=@R.bw
def BI:=@R.ce
def BJ:=@R.cg
def BK:=@R.ci
def BL:=@R.cj
def BN:=@R.il
def BO:=@R.ck
def BP:=@R.cm
def BQ:=@R.cn
def CM:=@R.cp
def CN:=@R.cf
def CO:=@R.cr
def CP:=@R.cu
def CQ:=@R.cv
def CS:=@R.cw
def dB(i:Nat):Stmt:=PySem.Challenge.pw_oncedoor_k67_folds.main.body.getD i<|.Pass #[0,0,0,0]
abbrev oO:Stmt:=dB 26
abbrev qV:Stmt:=dB 27
abbrev lO:Stmt:=dB 30
abbrev fT:Stmt:=dB 31
abbrev oP:Stmt:=dB 35
abbrev hJ:Stmt:=dB 36
abbrev lP:Stmt:=dB 38
abbrev oQ:Stmt:=dB 39
abbrev dP:Stmt:=dB 40
abbrev uU:Stmt:=dB 42
abbrev eP:Stmt:=dB 44
abbrev iG:Stmt:=dB 45
abbrev cD:Stmt:=aO (dB 54) 0
abbrev jP:Stmt:=aO (dB 54) 1
abbrev iH:Stmt:=aO (dB 54) 2
abbrev gT:Stmt:=aO (dB 54) 4
abbrev jQ:Stmt:=aO (dB 54) 5
abbrev lQ:Stmt:=aO (dB 54) 7
abbrev fU:Stmt:=aO (dB 54) 8
abbrev lR:Stmt:=dB 55
abbrev cE:Stmt:=aO (dB 57) 0
abbrev gV:Stmt:=aO (dB 57) 1
abbrev hU:Stmt:=aO (dB 57) 2
abbrev gW:Stmt:=aO (dB 57) 3
abbrev iI:Stmt:=dB 59
abbrev iJ:Stmt:=dB 60
abbrev fV:Stmt:=dB 61
abbrev iK:Stmt:=dB 62
abbrev dY:Stmt:=dB 63
abbrev jG:Stmt:=dB 65
abbrev fW:Stmt:=dB 66
abbrev iM:Stmt:=dB 67
abbrev bO:Stmt:=aO (dB 78) 0
abbrev eX:Stmt:=aO (dB 78) 1
abbrev eY:Stmt:=aO (dB 78) 2
abbrev fX:Stmt:=aO (dB 78) 3
abbrev fY:Stmt:=aO (dB 78) 4
abbrev fZ:Stmt:=aO (dB 78) 6
abbrev dH:Stmt:=aO (dB 78) 7
abbrev oR:Stmt:=dB 80
abbrev cP:Stmt:=aO (dB 85) 0
abbrev gD:Stmt:=aO (dB 85) 1
abbrev bY:Stmt:=aO (dB 85) 4
abbrev bU:Stmt:=aO (dB 86) 0
abbrev iN:Stmt:=aO (dB 86) 1
abbrev gE:Stmt:=aO (dB 86) 2
abbrev eQ:Stmt:=aO (dB 86) 3
abbrev iO:Stmt:=aO (dB 86) 4
abbrev cF:Stmt:=aO (dB 90) 0
abbrev jR:Stmt:=aO (dB 90) 1
abbrev fP:Stmt:=aO (dB 90) 2
abbrev cU:Stmt:=aO (dB 90) 3
abbrev dI:Stmt:=aO (dB 90) 4
abbrev eZ:Stmt:=aO (dB 90) 5
abbrev iP:Stmt:=aO (dB 90) 7
abbrev jS:Stmt:=aO (dB 90) 8
abbrev jT:Stmt:=aO (dB 90) 9
abbrev jU:Stmt:=aO (dB 90) 10
abbrev jV:Stmt:=aO (dB 90) 12
abbrev lS:Stmt:=aO (dB 90) 13
abbrev dZ:Stmt:=aO (dB 90) 14
abbrev jW:Stmt:=aO (dB 90) 16
abbrev gH:Stmt:=aO (dB 90) 17
abbrev fA:Stmt:=aO (dB 90) 18
abbrev iQ:Stmt:=aO (dB 90) 19
abbrev iR:Stmt:=dB 91
abbrev cC:Stmt:=aO (dB 94) 0
abbrev lT:Stmt:=dB 97
abbrev lU:Stmt:=dB 98
abbrev cV:Stmt:=dB 99
abbrev iU:Stmt:=dB 100
abbrev lV:Stmt:=dB 101
abbrev jX:Stmt:=dB 102
abbrev eB:Stmt:=dB 103
abbrev bV:Stmt:=dB 104
abbrev pM:Stmt:=dB 105
def dC{N P:A2}(a:sc.kind=.function:=by rfl)(b:sc.isCoroutine=false:=by rfl)(c:sc.isGenerator=false:=by rfl)(d:N.Nodup:=by decide +kernel)(e:N.take P.length=P:=by rfl)(f:∀x∈P,sc.names.lookup x=some .local∨sc.names.lookup x=some .cell:=by decide +kernel)(g:∀y∈sc.names,y.2≠.free:=by decide +kernel):aG N P sc:=#[a,b,c,d,e,f,g]
def Gz:aG EU EU (aB oO):=dC
def Ml:aG EU EU (aB qV):=dC
def Ed:aG ZQ ZQ (aB lO):=dC
def yF:aG VR VR (aB fT):=dC
def Hg:aG EU EU (aB oP):=dC
def Bu:aG WJ WJ (aB hJ):=dC
def Ee:aG EV EV (aB lP):=dC
def pX:aG ["deed","add","take"] EV (aB oQ):=dC
def mM:aG EV EV (aB dP):=dC
def qW:aG ["book","deed","name","by","amount"] EN (aB uU):=dC
def wO:aG EN EN (aB eP):=dC
def yG:aG WK WK (aB iG):=dC
def sJ:aG WQ WQ (aB cD):=dC
def lW:aG ["self","asker","key","turn","pair","entry"] ey (aB jP):=dC
def pN:aG ["self","asker","key","number","deed","pair"] ZR (aB iH):=dC
def nX:aG ["self","asker","key","turn","answer","entry"] ZS (aB gT):=dC
def iV:aG ["self","turn","told","pair","entry"] CY (aB jQ):=dC
def Ef:aG ZT ZT (aB lQ):=dC
def uH:aG WR WR (aB fU):=dC
def Eg:aG WU WU (aB lR):=dC
def sK:aG VU VU (aB cE):=dC
def wP:aG ER ER (aB gV):=dC
def Bv:aG EX EX (aB hU):=dC
def dQ:aG ["self","changes","name","by"] ZU (aB gW):=dC
def nY:aG XJ ET (aB iI):=dC
def kB:aG ["rows","word","told","row"] Z4 (aB iJ):=dC
def yH:aG ET ET (aB fV):=dC
def kC:aG ["rows","came","book","row"] CU (aB iK):=dC
def pO:aG lL CU (aB dY):=dC
def iY:aG fC fD (aB jG):=dC
def kD:aG tq fM (aB fW):=dC
def eS:aG ["rows","turn","numbers","came","asked","told","number"] ff (aB iM):=dC
def pF:aG VW VW (aB bO):=dC
def sM:aG ES ES (aB eX):=dC
def sN:aG EX EX (aB eY):=dC
def hZ:aG ["self","more","stays","row"] CZ (aB fX):=dC
def uI:aG EX EX (aB fY):=dC
def uJ:aG EX EX (aB fZ):=dC
def pY:aG ES ES (aB dH):=dC
def lX:aG ["text","rows","place","line"] ["text"] (aB oR):=dC
def uK:aG EQ EQ (aB cP):=dC
def uL:aG EX EX (aB gD):=dC
def nZ:aG XP XP (aB bY):=dC
def aP:aG ["self","life","turn","up","number","since","asker","key","deed","answer"] TZ (aB bU):=dC
def yI:aG EQ EQ (aB iN):=dC
def mN:aG ["self","asker","key","deed","number"] fi (aB gE):=dC
def oB:aG ["self","run","holders"] T8 (aB eQ):=dC
def pP:aG ["self","number","turn","answer","run"] fv (aB iO):=dC
def sO:aG XX XX (aB cF):=dC
def eC:aG ["self","turn","asker","key","deed","memory","house","there","seen","number"] aW (aB jR):=dC
def lY:aG ["self","number","way","memory","run"] ai (aB fP):=dC
def iD:aG X6 T8 (aB cU):=dC
def pZ:aG X6 X6 (aB dI):=dC
def sP:aG ["self","run","way","ask","word"] fy (aB eZ):=dC
def eT:aG ["self","memory","safe","told","row"] EX (aB iP):=dC
def Bw:aG CZ CZ (aB jS):=dC
def qX:aG ["self","turn","up"] CY (aB jT):=dC
def iW:aG ["self","memory","rows","row"] EX (aB jU):=dC
def Bx:aG EX EX (aB jV):=dC
def Eh:aG EX EX (aB lS):=dC
def qY:aG EX EX (aB dZ):=dC
def qZ:aG ["self","memory"] EX (aB jW):=dC
def pQ:aG ["self","runs"] EX (aB gH):=dC
def sQ:aG ER ER (aB fA):=dC
def yJ:aG EX EX (aB iQ):=dC
def yK:aG aj aj (aB iR):=dC
def rA:aG ["self","rows","closed","name"] cL (aB cC):=dC
def Ei:aG CW CW (aB lT):=dC
def hV:aG ["_law_deck_here","_law_many","_law_cell","_law_number"] CV (aB lU):=dC
def dD:aG fz f6 (aB cV):=dC
def yL:aG cc cc (aB iU):=dC
def dR:aG ["_law_deck_here","_law_names","_law_houses","_law_one","_law_there","_law_at","_law_amount_here","_law_some"] gA (aB lV):=dC
def cW:aG ["_law_deck_here","_law_door","_law_state","_law_names","_law_houses","_law_k","_law_asker","_law_key","_law_found","_law_row","_law_step"] gG (aB jX):=dC
def cA:aG la gi (aB eB):=dC
def fF:aG mQ gm (aB bV):=dC
def iA:aG um CW (aB pM):=dC
structure Txt(K:W.Frag)(mg:X5):Prop where
 b_any:mg "any"=none
 b_isinstance:mg "isinstance"=none
 b_int:mg "int"=none
 b_bool:mg "bool"=none
 b_str:mg "str"=none
 b_len:mg "len"=none
 b_all:mg "all"=none
 b_tuple:mg "tuple"=none
 b_dict:mg "dict"=none
 b_sorted:mg "sorted"=none
 b_max:mg "max"=none
 b_list:mg "list"=none
 b_enumerate:mg "enumerate"=none
 b_sum:mg "sum"=none
 b_range:mg "range"=none
 b_min:mg "min"=none
 g_LETTERS:∃t,mg "LETTERS"=!.str ("abcdefghijklmnopqrstuvwxyz") t
 g_FIGURES:∃t,mg "FIGURES"=!.str ("0123456789") t
 g_LONGEST_NAME:∃t,mg "LONGEST_NAME"=!.int (8) t
 g_LONGEST_KEY:∃t,mg "LONGEST_KEY"=!.int (12) t
 g_MOST:∃t,mg "MOST"=!.int (1000000000000) t
 g_LONGEST_DOOR_NAME:∃t,mg "LONGEST_DOOR_NAME"=!.int (5) t
structure Top(Pm:Params)(K:W.Frag)(mg:X5):Prop where
 g_NAME_COUNTS:∃a,mg "NAME_COUNTS"=!.ref a/\KTab K Pm a (WS)
 g_UNLIKE_WORDS:∃a,mg "UNLIKE_WORDS"=!.ref a/\∀H,O7 K H a (UW)
 g_WAYS:∃a,mg "WAYS"=!.ref a/\∀H,O7 K H a ([V.str "through",V.str "lost",V.str "unheard"])
section
variable {K:W.Frag}{mg:X5}{base:Heap}
def Yt(T:Txt K mg)(D:KY K mg "is_made_of" fT VR):Callee^1 "is_made_of" VR Go:=by
 refine D.gg yF λf J A F s H vs Q E L h=>?_
 .revert h;refine NF λx a n k=>KJ λζ b r q=>?_;subst ζ;exists _,(!"?0%~r%|K|h~tjq~f~f'|[%ps0#!J2|xq~>~=xk(&;/%|y%|v`Qp ?#!J(&$" .str (yg rfl (js:=[none,!1]) (N:=["sign","signs"]) (JQ.by (aB fT) VR rfl rfl Zk) (aR rfl) (R.wS<|f8 0) λC G I M=>#[(vi (i:=0) (show(["sign","signs"]:A2).Nodup by decide +kernel)),AX,(BC R.jj (f8 0)<|f8 1)]));have no:d6 .str k=false->gL x a.cps.toList n=false:=λe=>by
   cases x<;>first|rfl|(cases k<;>first|exact b.elim|cases e)
  exists k,b
  cases x with
  | str z=>
   cases k<;>first|exact b.elim|skip
   have m:=r z rfl;exists jL m;refine eN (λd=>?_) λd=>?_
   .refine eN (λg=>?_) λg=>?_
    .have e:gL (.str z) a.cps.toList n=false:=by
      rw[jC];have j:decide ((z.length:Int)<=n)=false:=by simpa using g
      rw[j];simp
     have h:=q H<|I7.refl H;rw[e]at h;exact h
    refine#[z,rfl,Lo (Xt z) (by simp[zI,Str.length]at m ⊢;omega) (λ_=>true) (λv=>match v with|.str y=>.bl (decide (y.cps.toList.headD 0∈a.cps.toList))|_=>.non) trivial (λv O N t u S=>?_) ?_]
    .obtain⟨c,U,rfl⟩:=LA.mp t;exact#[c,rfl,u rfl]
    intro p B;exists p,z.cps.toList.map λc=>decide (c∈a.cps.toList),rfl,JX (by rw[aA,filter_eq_self.mpr (λ_ _=>rfl)];unfold zI;rw[map_map,map_map];rfl);have e:gL (.str z) a.cps.toList n=List.all (z.cps.toList.map λc=>decide (c∈a.cps.toList)) id:=by
     rw[jC];have j:decide ((z.length:Int)<=n)=true:=by simpa using g
     have l:decide (1<=(z.length:Int))=true:=d;rw[j,l,all_map];simp[Function.comp_def]
    rw[<- e];exact q _ (λc o e=>by rw[aD (aE e B)];exact e)
   have e:gL (.str z) a.cps.toList n=false:=by
    rw[jC];have l:decide (1<=(z.length:Int))=false:=d;rw[l];simp
   have h:=q H<|I7.refl H;rw[e]at h;exact h
  | _=>
   cases k<;>first|exact b.elim|exact q H<|I7.refl H
def Hh(T:Txt K mg)(a:Callee^1 "is_made_of" VR Go)(D:KY K mg "is_name" oO EU):Callee^2 "is_name" EU (rV LET 8):=by
 refine D.gg Gz λf j A i s H vs Q E b h=>?_
 .revert h;refine JR λx k=>KJ λζ c d q=>?_;subst ζ;exists _,(!"F^%0%|r|M%`T.g_LONGEST_NAME ~c#!!!<(&");refine#[x,_,8,k,rfl,c,d,λe g=>?_];rw[Gn];exact q e g
def Mm(T:Txt K mg)(a:Callee^1 "is_made_of" VR Go)(D:KY K mg "is_key" qV EU):Callee^2 "is_key" EU (rV (LET++YP) 12):=by
 refine D.gg Ml λf j A i s H vs Q E b h=>?_
 .revert h;refine JR λx k=>KJ λζ c d q=>?_;subst ζ;exists _,(!"F^%0|]%|r|M%`T.g_FIGURES |M,%`T.g_LONGEST_KEY ~c#!!!<(&");refine#[Zk,x,_,12,k,rfl,c,d,λe g=>?_];rw[Xi,Gn,aB4];exact q e g
def Sv(T:Txt K mg)(D:KY K mg "is_whole" lO ZQ):Callee^1 "is_whole" ZQ Jk:=by
 refine D.gg Ed λf i A g s H vs Q E j h=>?_
 .revert h;refine LB λx lo d=>JE λζ η q=>?_;subst ζ;obtain⟨k,a,l⟩:=η;exists _,(!"?0%~r%|L|i~tjq?0%~r%`T.b_bool `Xr ~tj~>~=xk(&;/~f~f102{R.jk5 (&$" .int .bl);have h:=q H<|I7.refl H;exists k,a
  cases x with
  | int n=>
   cases k<;>first|exact a.elim|skip
   exists .int,trivial;show if decide (lo<=n)=true then _ else _
   have e:Ds lo d (.int n)=(decide (lo<=n)&&decide (n<=d)):=rfl;refine eN (λc=>?_) λc=>?_
   .rw[e,c,Bool.true_and]at h;exact h
   rw[e,c,Bool.false_and]at h;exact h
  | bl b=>
   cases k<;>first|exact a.elim|skip
   exact#[.bl,trivial,h]
  | _=>cases k<;>first|exact a.elim|exact h
def Yu(T:Txt K mg)(U:Top w.params K mg)(X:Callee^2 "is_name" EU (rV LET 8))(D:KY K mg "fits_word" hJ WJ):Callee^3 "fits_word" WJ Qz:=by
 refine D.gg Bu λa1 cdv a2 outer s H vs a3 a4 Y h=>?_
 .revert h;refine LB λa0 a b=>MI λζ η g JS Z q=>?_;subst ζ;obtain⟨k,u,hz⟩:=η;obtain⟨aN,F,G⟩:=U.g_NAME_COUNTS;obtain⟨aU,vx,tU⟩:=U.g_UNLIKE_WORDS;exists _,(!"?0%~r%|K|h~tjq?0%~L|%=~>~=xk(&;/~w~$%ps1#!J?%~L|%0B=%|y%|v`Qp ?#!Jjq~>~=xk(&;/{^R.jc0 0%`vx |%~)~w-`1 >-`1 >~)|N{R.or2 (&$$" .str (R.jm (K:=K) (P:=w.params)) (R.jn (K:=K) (P:=w.params)) (yg rfl (js:=[none]) (N:=["name"]) (JQ.by (aB hJ) WJ rfl rfl Zk) (aR rfl) (R.cx (K:=K)<|f8 1) λa5 s₂ H₂ fp=>#[(vi (i:=0) (show(["name"]:A2).Nodup by decide +kernel)),AX,(tz X Y rfl<|lc (f8 0) li)]));have h:=q H<|I7.refl H;exists k,u
  cases a0 with
  | str z=>
   cases k<;>first|exact u.elim|skip
   exists WS,G;show if (not ((WS.lookup z).isSome))=true then _ else _
   cases e:WS.lookup z with
   | none=>
    have l:gZ (.str z) b=false:=by unfold gZ;simp only [e]
    rw[l]at h;exact h
   | some i=>
    have l:gZ (.str z) b=(decide ((b.length:Int)=i)&&b.all zJ&&((not (vL (.str z) UW))||(not (decide (pI b 0=pI b 1))))):=by unfold gZ;simp only [e]
    exists b,.inr<|JV g,WS,i,G,e;refine eN (λv=>?_) λv=>?_
    .have m:decide ((b.length:Int)=i)=false:=by simpa using v
     rw[l,m]at h;exact h
    have m:decide ((b.length:Int)=i)=true:=by simpa using v
    exists a,rfl,#[_,JV g];refine bB (lH K a b) Zo (λj n o=>n=(b.take j).map (λy=>V.bl<|zJ y)/\I7 H o) (λj n o #[d,f]=>#[JV<|f _ _ g,by rw[d,aV,mV];omega]) #[rfl,I7.refl H] (?_)<|?_
    .rintro j y n o I ⟨d,f⟩;obtain⟨ky,S,W⟩:=(Z y<|kI I).same f;refine#[y,ky,rfl,S,W,λvn MV=>#[?_,f.trans MV]];rw[List.take_add_one,I,dL,d];rfl
    rintro n o ⟨d,f⟩;intro p WI;rw[mW (bD _)]at d;have x:I7 H (aH o p<|.lst n):=f.trans<|aF WI;exists p,b.map zJ,rfl,JX (by rw[aA,d,map_map];rfl);have e4:List.all (b.map zJ) id=b.all zJ:=by rw[all_map];rfl
    have c:=q _ x;dsimp only;rw[e4];cases t:b.all zJ with
    | false=>
     rw[l,m,t]at c;exact c
    | true=>
     rw[l,m,t]at c;exists aU,UW,rfl,.inr<|tU _,rfl,rfl;show if (not (vL (.str z) UW))=true then _ else _
     cases A:vL (.str z) UW with
     | false=>
      rw[A]at c;exact c
     | true=>
      rw[A]at c;have i2:=aDR e A;have hl:(b.length:Int)=i:=WF m;obtain⟨B,J,m0⟩:=qN (xs:=b) (i:=0) Zd Zo;obtain⟨C,E,m1⟩:=qN (xs:=b) (i:=1) Zd Zo;have L:=all_eq_true.mp t B m0;have M:=all_eq_true.mp t C m1;exists b,JV<|x _ _ g,B,J,b,JV<|x _ _ g,C,E;rw[J,E]at c;cases B<;>first|(unfold zJ gL at L;exact IZ L WP)|skip
      cases C<;>first|(unfold zJ gL at M;exact IZ M WP)|skip
      rename_i O Q;have e7:decide (some (V.str O)=!V.str Q)=decide (O=Q):=by
       rw[decide_eq_decide];constructor
       .intro r;injection r with r;injection r
       intro r;rw[r]
      rw[e7]at c;exact c
  | _=>cases k<;>first|exact u.elim|exact h
def Hi(T:Txt K mg)(CA:Callee^3 "fits_word" WJ Qz)(DK:Callee^1 "is_whole" ZQ Jk)(D:KY K mg "is_deed" oP EU):Callee^4 "is_deed" EU Dt:=by
 refine D.gg Hg λf cdv A outer s H vs Q E hr h=>?_
 .revert h;refine JU λx=>KJ λζ η hlen q=>?_;subst ζ;obtain⟨⟨k,hk,hz⟩,hp⟩:=η;exists _,(!"?0%~r%|H|j~tjq~g~$%ps0#!J'=~>~=xk(&;/`CA ~H%-`0 >~l0'P'MP]#!!<`DK ~H%[0'MB'%|J~c#!!!<|N|&(&$" .tup);have h:=q H<|I7.refl H;exists k,hk
  cases x with
  | ref a=>
   cases k<;>first|exact hk.elim|skip
   case tup=>
    obtain⟨xs,hx⟩:=hk;have OR:=hp a xs rfl hx;have hlx:=hlen a xs rfl hx;have eV:vY H (.ref a)=pK xs:=by unfold vY;simp only [hx]
    exists xs,.inr<|JV hx;refine eN (λh1=>?_) λh1=>?_
    .have ny:((xs.length:Int)<3):=WF h1;have e1:pK xs=false:=by
      unfold pK;rw[T0 Zo];rfl
     rw[eV,e1]at h;exact h
    have ny:¬ ((xs.length:Int)<3):=UV h1;have h3:3<=xs.length:=by omega
    obtain⟨y0,OU,m0⟩:=qN (xs:=xs) (i:=0) Zd Zo;refine#[xs,JV hx,y0,OU,xs,hx,λp H1 s1 g1=>?_];refine#[y0,p,_,rfl,(OR y0 m0).same s1,g1,?_,λy hy=>(OR y<|Xy h3 hy).same s1,λH2 s2=>?_]
    .have:=Xx h3;unfold Bg at this;omega
    have e2:pK xs=(gZ y0 (Bg xs)&&Ds 1 1000000000000 ((pI xs<|-1).getD .non)):=by
     unfold pK;rw[UF h3,OU];rfl
    have hs:=s1.trans s2;have h5:=q H2 hs;show if gZ y0 (Bg xs)=true then _ else _
    cases e3:gZ y0 (Bg xs) with
    | false=>
     rw[eV,e2,e3]at h5;exact h5
    | true=>
     rw[eV,e2,e3]at h5;obtain⟨yl,hyl,ml⟩:∃v,pI xs (-1)=!v/\v∈xs:=by
      have hj:xs.length-1<xs.length:=by omega
      refine#[xs[xs.length-1],?_,getElem_mem hj];unfold pI UG;rw[LK Zd,LM Zo];have:((-1:Int)+(xs.length:Int)).toNat=xs.length-1:=by omega
      simp[this,hj]
     exists xs,JV<|hs _ _ hx,yl,hyl;refine#[yl,1,1000000000000,rfl,(OR yl ml).same hs,λH3 s3=>?_];have h6:=q H3<|hs.trans s3;rw[eV,e2,e3,hyl]at h6;exact h6
   all_goals
    have e1:vY H (.ref a)=false:=by
     unfold vY;first
      | (rcases hk with⟨xs,e⟩|⟨o,xs,e⟩<;>simp only [e])
      | (obtain⟨kvs,e⟩:=hk;simp only [e])
    rw[e1]at h;exact h
  | _=>cases k<;>first|exact hk.elim|exact h
def Yv(T:Txt K mg)(D:KY K mg "asks_of" oQ EV):Callee^1 "asks_of" EV Gs:=by
 refine D.gg pX λf cdv A outer s H vs Q E hr h=>?_
 .revert h;refine QL λp wd xs cs as=>KJ λζ hp η q=>?_;subst ζ;obtain⟨one,other,nm,n,hd⟩:=η;exists _,(!"`1 `pX.nd )[0'MB[0'MB#!!!+:`2 `pX.nd )[0'MB[0'MB#!!!+:L-`0 >)=-`0 >1#!!+#!+(&;/L-`0 >)=-`0 >2#!!+#!+(&;/L-`0 >)=-`0 >2#!!+-`0 >1#!!+#!!+(&;/#+(&$$$$$");cases hd
  all_goals
   refine#[_,JV hp,_,rfl,_,JV hp,_,rfl,Zs,λp1 H1 s1 g1=>#[_,JV<|s1 _ _ hp,_,rfl,_,JV<|s1 _ _ hp,_,rfl,Zs,λp2 H2 s2 g2=>?_]];have uk:=(s1.trans s2) _ _ hp;exists _,JV uk,_,rfl
  case send=>exact#[_,JV uk,_,rfl,Zs,λp3 H3 s3 g3=>#[Zs,λp4 H4 s4 g4=>q p4 _ H4 (((s1.trans s2).trans s3).trans s4) g4<|.cons #[p3,p1,rfl,s4 _ _ g3,s4 _ _<|s3 _ _<|s2 _ _ g1] .nil]]
  all_goals exists _,JV uk,_,rfl
  case fetch=>exact#[_,JV uk,_,rfl,Zs,λp3 H3 s3 g3=>#[Zs,λp4 H4 s4 g4=>q p4 _ H4 (((s1.trans s2).trans s3).trans s4) g4<|.cons #[p3,p2,rfl,s4 _ _ g3,s4 _ _<|s3 _ _ g2] .nil]]
  all_goals exists _,JV uk,_,rfl
  case pass=>
   refine#[_,JV uk,_,rfl,Zs,λp3 H3 s3 g3=>#[_,JV<|s3 _ _ uk,_,rfl,Zs,λp4 H4 s4 g4=>#[Zs,λp5 H5 s5 g5=>?_]]];exact q p5 _ H5 ((((s1.trans s2).trans s3).trans s4).trans s5) g5 (.cons #[p3,p2,rfl,s5 _ _<|s4 _ _ g3,s5 _ _<|s4 _ _<|s3 _ _ g2]<|.cons #[p4,p1,rfl,s5 _ _ g4,s5 _ _<|s4 _ _<|s3 _ _<|s2 _ _ g1] .nil)
  all_goals exact#[Zd,λp3 H3 s3 g3=>q p3 [] H3 ((s1.trans s2).trans s3) g3 .nil]
def Sw(B:UM K C)(D:ClsAt K mg "Keys" C "Keys.__init__" cD WQ [[]]):∀d∈([[]]:HF),QJ^1 "Keys" C WQ d (Jw C):=by
 refine D.gg sJ λf M A L s H vs Q E N h=>?_
 .revert h;refine LB λp g c=>JE λζ F q=>?_;subst ζ;exists _,(!"01C0|^C0|^C&$$");exists C,g,[],F,B.cl,B.nL,(by show 0<1000;decide);have G:bI "life" (.int c) []=[(("life":Str),V.int c)]:=rfl;dsimp only;rw[G];intro a j;have r:(aH H p<|.ins C g [("life",.int c)]) p=!.ins C g [("life",.int c)]:=aA;have m:∀b o,H b=!o->b≠p->(aH H p<|.ins C g [("life",.int c)]) b=!o:=λb o e i=>by rw[aD i];exact e
  have f1:H a=none:=by
   cases e:H a with
   | none=>rfl
   | some o=>
    by_cases z:a=p
    .rw[z,r]at j;cases j
    rw[m _ _ e z]at j;cases j
  generalize aH H p (.ins C g [("life",.int c)])=n at r m j ⊢;have v:=aE r j;exists C,g,_,(by rw[aD v];exact r),B.cl,B.nB,(by show 1<1000;decide);have I:bI "begun_ones" (.ref a) [(("life":Str),V.int c)]=[(("life":Str),V.int c),("begun_ones",.ref a)]:=by
   unfold bI;rw[LK Zk];rfl
  dsimp only;rw[I];have g1:(aH (aH n a<|.dT []) p<|.ins C g [("life",.int c),("begun_ones",.ref a)]) p=!.ins C g [("life",.int c),("begun_ones",.ref a)]:=aA;have x:(aH (aH n a<|.dT []) p<|.ins C g [("life",.int c),("begun_ones",.ref a)]) a=!.dT []:=by rw[aD v.symm];exact aA
  have t:∀b o,n b=!o->b≠p->(aH (aH n a<|.dT []) p<|.ins C g [("life",.int c),("begun_ones",.ref a)]) b=!o:=λb o e i=>by rw[aD i,aD (aE e j)];exact e
  generalize aH (aH n a<|.dT []) p (.ins C g [("life",.int c),("begun_ones",.ref a)])=O at g1 x t ⊢;intro k l;have u:=aE g1 l;exists C,g,_,(by rw[aD u];exact g1),B.cl,B.nS,(by show 2<1000;decide);have J:bI "settled_ones" (.ref k) [(("life":Str),V.int c),("begun_ones",.ref a)]=[(("life":Str),V.int c),("begun_ones",.ref a),("settled_ones",.ref k)]:=by
   unfold bI;rw[LK Zk];unfold bI;rw[LK Zk];rfl
  dsimp only;rw[J];have y:a≠k:=aE x l;have f2:H k=none:=by
   cases e:H k with
   | none=>rfl
   | some o=>rw[t _ _ (m _ _ e u.symm) u.symm]at l;cases l
  refine q _ #[g,a,k] f1 f2 #[aA,#[[],?_,MT.nil],#[[],?_,MT.nil],y] λb o e i=>?_
  .show(aH _ p _) a=_;rw[aD v.symm,aD y];exact x
  .show(aH _ p _) k=_;rw[aD u.symm];exact aA
  rw[aD i,aD (aE (t _ _ (m _ _ e i) i) l)];exact t _ _ (m _ _ e i) i
def Sx(D:KY K mg "is_alive" lR WU):Callee^1 "is_alive" WU Bp:=by
 refine D.gg Eg λf b A a s H vs Q E c h=>?_
 .revert h;refine LB λt l n=>JW λζ q=>?_;subst ζ;exists _,(!"~TH01,2~)(&");exact q
def sR(C:TD):Sp:=λvs H Q _=>∃(p:TD)(a:KF)(b:Int)(m:KM)(L:Nat)(e:BW)(t:TD)(q:Str×Str)(c n w:Int)(d z:TD),vs=[.ref p,.ref t,.int c]/\H p=!(.ins C a.dx<|zP a b)/\Rd H a.ds (.dT e)/\MT H e m fS L/\H t=!.tup [.str q.1,.str q.2]/\m q=!.kept n w d z/\Q (.bl<|decide (w+b>c)) H
def LP.rd{k:FU}(e:Rd H a (.dT kvs))(c:H b=!(.tup<|k.map kV)):LP H a (.ref b) (bA kvs k):=.inr #[kvs,k,b,e,rfl,c,rfl]
def Mn(B:UM K C)(k:Callee^1 "is_alive" WU Bp)(D:MethAt K C "is_kept" "Keys.is_kept" fU WR):bP^2 C "is_kept" WR (sR C):=by
 refine D.gg uH λf I A G s H vs Q E c h=>?_
 .revert h;refine RH λp a b m L J t q j=>NF λn e d z=>QZ λζ g l o gt r v=>?_;subst ζ;obtain⟨u,x,y⟩:=o.at r (rfl:fS (.kept n e d z)=!_);have F:=dN c;have i:=LP.rd l<|jF gt;rw[x]at i;exists _,(!"|EU%[~L0*1T'B0*2#!!!<(&");exact#[C,a.dx,_,.ref a.ds,g,B.cl,B.nS,Eb a b,a.ds,.ref u,rfl,i,_,JV y,_,rfl,C,a.dx,_,.int b,g,B.cl,B.nL,aE4 a b,e,b,j,rfl,v]
def Yw(B:UM K C)(S:bP^2 C "is_kept" WR (sR C))(D:MethAt K C "look" "Keys.look" jP ey):bP^3 C "look" ey (Sa C):=by
 refine D.gg lW λf Z a0 Y s a1 vs a2 a3 N h=>?_
 .revert h;refine S5 λp a b m L q E=>JE λζ T o=>?_;subst ζ;have F:=dN N;exists _,(!"`4 `lW.nd 12#!!+:~L|O40*=|;)#!+~L0*4T,(&;/~L|O40*=~MG043#!!Dj|Q|Px`5 `lW.nd ~L0*4T:)-`5 >-`5 >-`5 >#!!!!+(&$;/)#!+(&$$$");refine#[Zs,λt a4 v gt=>?_];dsimp only [aI];have c:=T.same v;obtain⟨bk,O,H⟩:=c.hb;obtain⟨U,Q,I⟩:=c.hs;have r:=LP.t O<|jF gt;have x:=LP.t Q (jF gt)
  cases j:m q with
  | none=>
   rw[H.no (λe z=>by rw[j]at z;cases z)]at r;rw[I.no (λe z=>by rw[j]at z;cases z)]at x;rw[j]at o;exists C,a.dx,_,.ref a.db,c.hp,B.cl,B.nB,Bo a b,none,r;exists C,a.dx,_,.ref a.ds,c.hp,B.cl,B.nS,Eb a b,none,x;exact#[Zs,λk l g g2=>o k l (v.trans g) g2]
  | some e=>
   rw[j]at o;cases e with
   | busy n d=>
    obtain⟨u,G,y⟩:=H.at j (rfl:fB (.busy n d)=!_);rw[G]at r;exists C,a.dx,_,.ref a.db,c.hp,B.cl,B.nB,Bo a b,_,r;refine#[Zs,λk l g g2=>#[C,a.dx,_,.ref a.db,g _ _ c.hp,B.cl,B.nB,Bo a b,a.db,.ref u,rfl,?_,_,_,g2,g _ _ y,Zs,λV W X g3=>o V W ((v.trans g).trans X) g3]];have:=LP.t (g _ _ O)<|jF<|g _ _ gt;rw[G]at this;exact this
   | kept n A d z=>
    obtain⟨u,G,y⟩:=I.at j (rfl:fS (.kept n A d z)=!_);rw[G]at x;rw[H.no (λe h=>by rw[j]at h;cases h;rfl)]at r;exists C,a.dx,_,.ref a.db,c.hp,B.cl,B.nB,Bo a b,none,r;exists C,a.dx,_,.ref a.ds,c.hp,B.cl,B.nS,Eb a b,_,x;exists a.dx,_,c.hp,zQ a b Zk Zk Zk,p,a,b,m,L,U,t,q,E,n,A,d,z,rfl,c.hp,.inl Q,I,gt,j;show if decide (A+b>E)=true then _ else _
    refine eN (λJ=>?_) λJ=>?_
    .have M:=WF J;exists C,a.dx,_,.ref a.ds,c.hp,B.cl,B.nS,Eb a b,a.ds,.ref u,rfl,x;refine#[_,JV y,_,rfl,_,JV y,_,rfl,_,JV y,_,rfl,Zs,λk l g g2=>o k l (v.trans g) ?_];show l k=!.tup (if A+b>E then _ else _);rw[LM M];exact g2
    have M:=UV J;refine#[Zs,λk l g g2=>o k l (v.trans g) ?_];show l k=!.tup (if A+b>E then _ else _);rw[LK M];exact g2
def aCp(B:UM K C)(D:MethAt K C "end" "Keys.end" lQ ZT):bP^1 C "end" ZT (aAL C):=by
 refine D.gg Ef λf W A V s H vs Q E l h=>?_
 .revert h;refine RH λp a x m L t q n d=>MJ λζ i gt y N=>?_;subst ζ;have z:=dN l;obtain⟨bk,j,F⟩:=i.hb;obtain⟨X,O,S⟩:=i.hs;obtain⟨u,G,T⟩:=F.at y (rfl:fB (.busy n d)=!_);have I:=LP.t j<|jF gt;rw[G]at I;exists _,(!"~W{R.ip1 10*=I&;/~W0*1{R.im3 (&$");exists C,a.dx,_,.ref a.db,i.hp,B.cl,B.nB,Bo a x,_,I;exists C,a.dx,_,.ref a.db,i.hp,B.cl,B.nB,Bo a x,a.db,rfl,.inr #[bk,.inl j],bk,pk q,t,.ref u,j,rfl,jF gt,G;have k:∀b v,H b=!.tup v->(aH H a.db<|.dT<|cM bk<|pk q) b=!.tup v:=λb v e=>by rw[aD (aL e j nofun)];exact e
  have J:∀r,r≠q->(m.set q none) r=m r:=λr l=>KM.set_ne l
  have M:∀e,(m.set q none) q=!e->False:=λe g=>by rw[KM.set_same]at g;cases g
  refine N u _ (i.new (by rw[aD (aL i.hp j nofun)]) aA (by rw[aD i.ne.symm];exact O) k ((F.drop (λe g=>(M e g).elim) J).keep k)<|(S.skip (λe g=>?_) (λe g=>(M e g).elim) J).keep k) (λc o e U Y=>by rw[aD U];exact e)<|k _ _ T;rw[y]at g;cases g;rfl
def Mo(B:UM K C)(O:bP^1 C "end" ZT (aAL C))(D:MethAt K C "settle" "Keys.settle" gT ZS):bP^2 C "settle" ZS (wH C):=by
 refine D.gg nX λa0 cdv a1 outer s a2 vs a3 a4 j h=>?_
 .revert h;refine RH λp a l m L q n d x=>JU λz=>MJ λζ y Q R S=>?_;subst ζ;have T:=dN j;exists _,(!"`5 `nX.nd |F~D012#!!+#!D:-`5 >3-`5 >4#!!!!+0*12#!!+`T ~@~+~*&$");refine#[a.dx,_,y.hp,zQ a l Zk Zk Zk,Zs,λt a5 A gt=>#[p,a,l,m,L,t,q,n,d,rfl,y.same A,gt,R,λa6 G2 U fr E=>?_]];refine#[_,JV E,_,rfl,_,JV E,_,rfl,Zs,λF V G g3=>?_];have f:=U.same G;obtain⟨bk,W,X⟩:=f.hb;obtain⟨H,o,I⟩:=f.hs;refine#[C,a.dx,_,.ref a.ds,f.hp,B.cl,B.nS,Eb a l,Zs,λt4 u c Y=>#[a.ds,_,rfl,NZ.t (c _ _ o) (jF Y)<|yR I.len<|yR Q Zd,?_]];have J:∀b g,u b=!.tup g->(aH u a.ds<|.dT<|cB H (pk q)<|.ref F) b=!.tup g:=λb g e=>by rw[aD (aL e (c _ _ o) nofun)];exact e
  have v:∀b g,V b=!.tup g->(aH u a.ds<|.dT<|cB H (pk q)<|.ref F) b=!.tup g:=λb g e=>J _ _ (c _ _ e)
  have M:∀r,r≠q->(m.set q<|!.kept n x d z) r=(m.set q none) r:=λr j=>by rw[KM.set_ne j,KM.set_ne j]
  refine S _ (f.new (by rw[aD (aL (c _ _ f.hp) (c _ _ o) nofun),c _ _ f.hp,f.hp]) (by rw[aD f.ne];exact c _ _ W) aA v (((X.skip (λe k=>?_) (λe k=>?_) M).more).keep v)<|((I.keep λb g e=>c _ _ e).put (rfl:fS (.kept n x d z)=!_) (c _ _ g3) KM.set_same M).keep J) (λa7 a8 e Z N=>by rw[aD N];exact c _ _<|G _ _<|fr _ _ (A _ _ e) Z N)
  .rw[KM.set_same]at k;cases k
  rw[KM.set_same]at k;cases k;rfl
def Sy(B:UM K C)(D:MethAt K C "begin" "Keys.begin" iH ZR):bP^1 C "begin" ZR (Bq C):=by
 refine D.gg pN λa3 cdv a4 outer s a5 vs a1 a6 E a2=>?_
 .revert a2;refine RJ λa0 a A m L q n d=>MJ λζ ht hL hm Q0=>?_;subst ζ;have Q:=dN E;exists _,(!"`5 `pN.nd 12#!!+:~q|O50*=I&;/~q0*5~%{R.io4 E34#!!+0*5~q~@~+~*&$$$");refine#[Zs,λt G s1 gt=>?_];dsimp only [aI];have p:=ht.same s1;obtain⟨bk,S,T⟩:=p.hb;obtain⟨J,y,ds⟩:=p.hs;have U:∀e,m q=!e->fB e=none:=λe f=>by
   cases e with
   | busy n' F=>exact IZ f (hm n' F)
   | kept=>rfl
  have GR:=LP.t S<|jF gt;rw[T.no U]at GR;exists C,a.dx,_,.ref a.db,p.hp,B.cl,B.nB,Bo a A,none,GR;have I:∀e,(m.set q none) q=!e->False:=λe f=>by rw[KM.set_same]at f;cases f
  have M:∀r,r≠q->(m.set q none) r=m r:=λr E=>KM.set_ne E
  have step:∀k h,h=aH G a.ds (.dT k)∨(h=G/\k=J)->MT G k (m.set q none) fS L->∃_:True,MM C h a0 a A (m.set q none) L/\h a.ds=!.dT k/\(∀c o,G c=!o->c≠a.ds->h c=!o):=by
   intro k h hG F;rcases hG with rfl|⟨rfl,rfl⟩
   .have z:∀b l,G b=!.tup l->(aH G a.ds<|.dT k) b=!.tup l:=λb l e=>by rw[aD (aL e y nofun)];exact e
    exact#[trivial,p.new (by rw[aD (aL p.hp y nofun)]) (by rw[aD p.ne];exact S) aA z ((T.skip U (λe f=>(I e f).elim) M).keep z)<|F.keep z,aA,λc o e hn=>by rw[aD hn];exact e]
   exact#[trivial,p.new rfl S y (λb l e=>e) (T.skip U (λe f=>(I e f).elim) M) F,y,λc o e _=>e]
  have Y:∀k h,MM C h a0 a A (m.set q none) L->h a.ds=!.dT k->(∀c o,G c=!o->c≠a.ds->h c=!o)->5<=5->∀u j,I7 h j->j u=some (.tup [.int n,.ref d]) →
    ∃H,NZ j a.db (.ref t) (.ref u) (aH j a.db<|.dT H)/\a1 .non (aH j a.db<|.dT H):=by
   intro k h x N fr _ u j g g2;obtain⟨H,V,Z⟩:=x.hb;have O:=x.same g;have gt2:=g _ _<|fr _ _ gt<|aL gt y nofun;exists _,NZ.t (g _ _ V) (jF gt2)<|yR Z.len<|yR hL Zd;have z:∀b l,j b=!.tup l->(aH j a.db<|.dT<|cB H (pk q)<|.ref u) b=!.tup l:=λb l e=>by rw[aD (aL e (g _ _ V) nofun)];exact e
   obtain⟨sk2,RP,ds2⟩:=O.hs;have e2:∀r,r≠q->(m.set q<|!.busy n d) r=(m.set q none) r:=λr E=>by rw[KM.set_ne E,KM.set_ne E]
   refine Q0 _ (O.new (by rw[aD (aL O.hp (g _ _ V) nofun)]) aA (by rw[aD O.ne.symm];exact RP) z (((Z.keep λb l e=>g _ _ e).put (rfl:fB (.busy n d)=!_) g2 KM.set_same e2).keep z)<|((ds2.skip (λe f=>(I e f).elim) (λe f=>?_) e2).more).keep z) (λc o e n1 n2=>by rw[aD n1];exact g _ _<|fr _ _ (s1 _ _ e) n2);rw[KM.set_same]at f;cases f;rfl
  refine#[C,a.dx,_,.ref a.ds,p.hp,B.cl,B.nS,Eb a A,a.ds,rfl,.inr #[J,.inl y],J,pk q,t,y,rfl,jF gt,λv hv=>?_,λhv=>?_]
  .refine JB (step _ _ (.inl rfl)<|ds.drop (λe f=>(I e f).elim) M) (JU λ_=>JE λx N fr=>?_);refine#[Zs,λu j g g2=>?_];obtain⟨H,W,X⟩:=Y _ _ x N fr Zd u j g g2;exact#[C,a.dx,_,.ref a.db,g _ _ x.hp,B.cl,B.nB,Bo a A,a.db,_,rfl,W,X]
  have F:MT G J (m.set q none) fS L:=by
   have:=ds.drop (m':=m.set q none) (λe f=>(I e f).elim) M
   rwa [vR (kM hv)]at this
  refine JB (step _ _ (.inr #[rfl,rfl]) F) (JU λ_=>JE λx N fr=>?_);refine#[Zs,λu j g g2=>?_];obtain⟨H,W,X⟩:=Y _ _ x N fr Zd u j g g2;exact#[C,a.dx,_,.ref a.db,g _ _ x.hp,B.cl,B.nB,Bo a A,a.db,_,rfl,W,X]
def oC(t:Int)(q:Str×Str)(d a:TD):A1:=[.int t,.str q.1,.str q.2,.ref d,.ref a]
def Hj(zs:GY):List (Int×A1):=zs.map λz=>(z.1,z.2.2)
def ri(m:KM):Prop:=∀q b n t d a c e f,m q=!.kept n t d a->m b=!.kept n c e f->q=b
def Sz(m:KM)(b c:Int)(rs:List (Int×A1)):Prop:=∀n rest,(n,rest)∈rs↔∃q t d a,m q=!.kept n t d a/\t+b>c/\rest=oC t q d a
def Ta(C:TD):Sp:=λvs H Q _=>∃(p:TD)(a:KF)(d e:Int)(m:KM)(L:Nat),vs=[.ref p,.int e]/\MM C H p a d m L/\L<64/\ri m ∧
 ∀l b c,I7 H c->H l=none->c l=!(.lst<|kA b)->RC c b->b.Pairwise WG->(b.map (·.1)).Nodup->Sz m d e (Hj b)->b.length<64->Q (.ref l) c
def RC.keep(h:RC H zs)(k:∀b xs,H b=!.tup xs->H' b=!.tup xs):RC H' zs:=λz a=>k _ _<|h z a
def RC.perm(h:RC H zs)(p:a.Perm zs):RC H a:=λz b=>h z<|p.mem_iff.mp b
def MT.ent(h:MT H kvs m fS L)(b:p∈kvs):∃q n w d z t,p=(pk q,.ref t)/\m q=!.kept n w d z/\H t=!.tup [.int n,.int w,.ref d,.ref z]:=by
 refine JB (h.all p b) (NF λq e i t=>KJ λc f a g=>?_)
 cases e with
 | busy n d=>cases a
 | kept n w d z=>cases a;exact#[q,n,w,d,z,t,c,f,g]
def Tb{l:List a}{i j:Nat}{x:a}(b:l.Nodup)(c:l[i]?=!x)(d:l[j]?=!x):i=j:=by
 obtain⟨g,e⟩:=NJ.mp c;obtain⟨h,f⟩:=NJ.mp d;exact(getElem_inj b).mp<|e.trans f.symm
def Yx(T:Txt K mg)(a2:UM K C)(F0:bP^2 C "is_kept" WR (sR C))(D:MethAt K C "kept" "Keys.kept" jQ CY):bP^3 C "kept" CY (Ta C):=by
 refine D.gg iV λa7 cdv a8 outer s a3 vs a9 b0 hr h=>?_
 .revert h;refine RG λa5 a r L a4 a6=>MJ λζ ht hL hu Q0=>?_;subst ζ;have j7:=dN hr;exists _,(!"`2 |S#Z:V%0*{R.jp1 `3 |St`F0 ~H031#!!Dj`4 |Sc0*3T:~'~E~F~I2|;|;~l4l'P]3,~l4'Pl],#!yE&$;/&W{R.jo1 {^R.gv0 %~^~m2#!J(&$$");refine#[uR rfl,λl hl=>?_];dsimp only [aI];have s1:=aF (o:=.lst []) hl;have g1:(aH a3 l<|.lst []) l=!.lst []:=aA;generalize aH a3 l (.lst [])=G at s1 g1 ⊢;have U:=ht.same s1;obtain⟨b,M,F⟩:=U.hs;refine#[C,a.dx,_,.ref a.ds,U.hp,a2.cl,a2.nS,Eb a r,b,M,λo bs WL hbs=>?_];have W:l≠a.ds:=aL g1 M nofun;have kF:∀c v,G c=!v->c≠a.ds->(aH G a.ds<|.frz o<|.dT b) c=!v:=λc v e N=>by rw[aD N];exact e
  have gF:(aH G a.ds<|.frz o<|.dT b) a.ds=!(.frz o<|.dT b):=aA;generalize aH G a.ds (.frz o<|.dT b)=G2 at kF gF ⊢;refine bT (aCl a.ds o b bs) (λi σ f=>∃(g:GY)(o3 o4:EY),σ=[!.ref a5,!.int L,!.ref l,o3,o4]/\f l=!(.lst<|kA g)/\RC f g/\g.length<=i/\(g.map (·.1)).Nodup/\(∀n rest,(n,rest)∈Hj g↔∃j q t d z u,j<i/\b[j]?=!(pk q,u)/\a4 q=!.kept n t d z/\t+r>L/\rest=oC t q d z)/\(∀c v,G2 c=!v->c≠l->f c=!v))
   (λi σ f=>LB λ_ _ _=>QZ λ_ _ _ _ _ _ k=>k _ _ gF W.symm) #[[],none,none,rfl,kF _ _ g1 W,(λz O=>IZ O GH),bD _,nodup_nil,(λn rest=>#[λh=>IZ h GH,λ#[j,_,_,_,_,_,m,_]=>IZ m<|Nat.not_lt_zero _]),λc v e _=>e] ?_ ?_
  .refine λi x σ f hx=>LB λg o3 o4=>QZ λζ X O FK Y I k=>?_;subst ζ;rw[eJ]at hx;obtain⟨a0,hb,rfl⟩:=Option.map_eq_some_iff.mp hx;obtain⟨pp,H,gb⟩:=hbs i a0 hb;refine JB (MT.ent F<|kI H) (RG λq n Q d z t=>JE λζ A gt=>?_);subst ζ;have kG:∀ {c:TD}{v:HO},G c=!v->c≠a.ds->c≠l->f c=!v:=λe h1 h2=>k _ _ (kF _ _ e h1) h2
   have kT:∀c Z,G c=!.tup Z->f c=!.tup Z:=λc Z e=>kG e (aL e M nofun) (aL e g1 nofun)
   have JZ:f a0=!.tup [.str q.1,.str q.2]:=kT _ _ gb;have vw:f a5=!(.ins C a.dx<|zP a r):=kG U.hp (aL U.hp M nofun)<|aL U.hp g1 nofun;have NG:Rd f a.ds (.dT b):=.inr #[o,k _ _ gF W.symm];have ds':=F.keep kT;have gt':=kT _ _ gt;exists a.dx,_,vw,zQ a r Zk Zk Zk,a5,a,r,a4,a6,b,a0,q,L,n,Q,d,z,rfl,vw,NG,ds',JZ,A;show if decide (Q+r>L)=true then _ else _
   have old:∀B J,(∃j q t d z u,j<i/\b[j]?=!(pk q,u)/\a4 q=!.kept B t d z/\t+r>L/\J=oC t q d z)->∃j q t d z u,j<i+1/\b[j]?=!(pk q,u)/\a4 q=!.kept B t d z/\t+r>L/\J=oC t q d z:=λB J #[j,q,t,d,z,u,m,a1]=>#[j,q,t,d,z,u,lt_succ_of_lt m,a1]
   refine eN (λO9=>?_) λO9=>?_
   .have al:=WF O9;obtain⟨S,_⟩:bA b (pk q)=!.ref t/\True:=by
     obtain⟨u,S,gu⟩:=F.at A (rfl:fS (.kept n Q d z)=!_);refine#[?_,trivial];have h2:=List.mem_iff_getElem?.mp<|qT S;obtain⟨j,m⟩:=h2;have:=Tb F.nd (i:=j) (j:=i) (x:=pk q) (by rw[eJ,m];rfl) (by rw[eJ,H];rfl);rw[this,H]at m;rw[S,<- (Prod.mk.inj<|Option.some.inj m).2]
    have dg:=LP.rd NG<|jF JZ;rw[S]at dg;exists C,a.dx,_,.ref a.ds,vw,a2.cl,a2.nS,Eb a r,a.ds,.ref t,rfl,dg;refine#[.inl #[rfl,_,JX X],_,gt',λt1 H1 sa1 ga1=>#[_,_,ga1,sa1 _ _ JZ,?_,λt2 H2 sa2 ga2=>#[_,sa2 _ _<|sa1 _ _ gt',λt3 H3 sa3 ga3=>#[_,_,sa3 _ _ ga2,ga3,?_,λt4 H4 sa4 WM=>?_]]]]
    .show 2+2<=1000;decide
    .show 4+2<=1000;decide
    have s04:I7 f H4:=((sa1.trans sa2).trans sa3).trans sa4;replace WM:H4 t4=!.tup (.int n::oC Q q d z):=WM;have JI:=s04 _ _ X;have n4:t4≠l:=aL WM JI nofun;refine#[l,_,_,rfl,rfl,JI,?_,g++[(n,t4,oC Q q d z)],_,_,rfl,?_,λy hy=>?_,?_,?_,λB J=>?_,λc v e N=>?_]
    .unfold kA;rw[aV];have:=(NJ.mp H).1;have:=F.len;exact yR (show g.length<=64 by omega) Zd
    .rw[aA];unfold kA;rw[dL];rfl
    .have e:H4 y.2.1=!.tup (.int y.1::y.2.2):=by
      rcases MN.mp hy with h|h
      .exact s04 _ _<|O y h
      cases LV.mp h;exact WM
     rw[aD (aL e JI nofun)];exact e
    .rw[mU];exact Nat.succ_le_succ FK
    .rw[dL];refine uQ Y λyq=>?_
     obtain⟨y,hy,hyn⟩:=LA.mp yq;refine JB ((I y.1 y.2.2).mp<|LA.mpr #[y,hy,rfl]) (RG λj q' t' d' z' u'=>KJ λm E p _=>?_);rw[hyn]at p;have eq:=hu _ _ _ _ _ _ _ _ _ p A;have:=Tb F.nd (i:=j) (j:=i) (x:=pk q) (by rw[eJ,E,eq];rfl) (by rw[eJ,H];rfl);omega
    .unfold Hj;rw[dL,MN];constructor
     .rintro(h|h)
      .exact old _ _<|(I B J).mp h
      cases LV.mp h;exact#[i,q,Q,d,z,_,lt_succ_self _,H,A,al,rfl]
     refine RG λj q' t' d' z' u'=>MJ λm E p WN ζ=>?_;subst ζ;by_cases hji:j=i
     .rw[hji,H]at E;cases Bn (Prod.mk.inj<|Option.some.inj E).1;rw[A]at p;cases p;exact .inr<|LV.mpr rfl
     exact .inl<|(I B _).mpr #[j,q',t',d',z',u',Zo,E,p,WN,rfl]
    rw[aD N];exact s04 _ _<|k _ _ e N
   have al:=UV O9;refine#[g,_,_,rfl,X,O,le_succ_of_le FK,Y,λB J=>#[λh=>old _ _<|(I B J).mp h,?_],k];refine RG λj q' t' d' z' u'=>MJ λm E p WN ζ=>?_;subst ζ;by_cases hji:j=i
   .rw[hji,H]at E;cases Bn (Prod.mk.inj<|Option.some.inj E).1;rw[A]at p;cases p;exact IZ WN al
   exact(I B _).mpr #[j,q',t',d',z',u',Zo,E,p,WN,rfl]
  refine λσ f=>LB λg o3 o4=>QZ λζ X O FK Y I k=>?_;subst ζ;have KC:=k _ _ gF W.symm;exists a.ds,b,o,#[b,M],KC;have kU:∀c v,G c=!v->c≠l->(aH f a.ds<|.dT b) c=!v:=λc v e N=>by
   by_cases z:c=a.ds
   .rw[z]at e ⊢;rw[M]at e;cases e;exact aA
   rw[aD z];exact k _ _ (kF _ _ e z) N
  have gU:(aH f a.ds<|.dT b) l=!(.lst<|kA g):=by rw[aD W];exact X
  have hzU:RC (aH f a.ds<|.dT b) g:=RC.keep O (λa0 Z e=>by rw[aD (aL e KC nofun)];exact e);generalize aH f a.ds (.dT b)=vn at kU gU hzU ⊢;have RQ:g.length<64:=by
   rw[aV,WL]at FK;have:=F.len;omega
  refine#[g,JX gU,hzU,Y,RQ,λl2 og E7 hp hs=>?_];have s0:I7 a3 vn:=λc v e=>kU _ _ (s1 _ _ e) (aE e hl)
  have s2:=aF (o:=.lst (kA og)) E7;refine Q0 l2 og _ (s0.trans s2) ?_ aA (RC.keep (RC.perm hzU hp) λa0 Z e=>s2 _ _ e) hs ((hp.map _).nodup_iff.mpr Y) (λn rest=>?_) (by rw[hp.length_eq];exact RQ)
  .cases e:a3 l2 with
   | none=>rfl
   | some v=>rw[s0 _ _ e]at E7;cases E7
  have:(n,rest)∈Hj og↔(n,rest)∈Hj g:=(hp.map _).mem_iff;rw[this,I];constructor
  .refine RG λj q t d z u=>JE λ_ _ a1=>?_;exact#[q,t,d,z,a1]
  refine NF λq t d z=>JW λA a1=>?_;obtain⟨u,S,_⟩:=F.at A (rfl:fS (.kept n t d z)=!_);obtain⟨j,m⟩:=List.mem_iff_getElem?.mp<|qT S;refine#[j,q,t,d,z,_,?_,m,A,a1];rw[aV,WL];exact(NJ.mp m).1
inductive jY(vs:A1)(H:Hp)(Q:VK)(E_:XK):Prop
 | mk(d b m:_):vs=[.ref d,.int m]->Dk H d b->0<m->m<18446744073709551616->(∀r H',0<=r->r<m->Dk H' d b->Kp d b H H'->Q (.int r) H')->jY vs H Q E_
def Yy(T:Txt K mg)(D:KY K mg "_law_deck" lT CW):Callee^1 "_law_deck" CW (Qr K):=by
 refine D.gg Ei λf v A u s H vs Q E x h=>?_
 .revert h;refine JR λa c=>JE λζ j q=>?_;subst ζ;exists _,(!"{^R.jd0 %|t`Jg ~B0l'P]#!~AH'~J%{^R.jq1 %`T.b_sum `aB0 ~B0l'P]#!J',,'#!!!Z(&");have k:jK (c.map V.int) none (!63)=(c.take 63).map V.int:=by rw[Xu];exact congrArg _ (nQ c 63)
  refine#[_,j,λe l=>#[_,.inl<|JX aA,λb m=>?_]];have g:I7 H (aH (aH H e<|.lst<|jK (c.map V.int) none<|!63) b<|.lst<|jK (c.map V.int) none<|!63):=(aF l).trans<|aF m;have g2:(aH (aH H e<|.lst<|jK (c.map V.int) none<|!63) b<|.lst<|jK (c.map V.int) none<|!63) b=!(.lst<|(c.take 63).map V.int):=by rw[aA,k]
  have p:H b=none:=(aF l).free m;show tT _ _ _ (aH (aH H e<|.lst<|jK (c.map V.int) none<|!63) b<|.lst<|jK (c.map V.int) none<|!63) _;generalize aH (aH H e<|.lst<|jK (c.map V.int) none<|!63) b (.lst<|jK (c.map V.int) none<|!63)=t at g g2;refine#[_,g.seq j,λn i=>#[n,c.take 63,rfl,JX (by rw[aA,k]),by show(0:Int)<2147483629;decide,uR rfl,λd hd=>?_]];have o:I7 H (aH t n<|.lst<|jK (c.map V.int) none<|!63):=g.trans<|aF i;have r:b≠d:=aE ((aF i) _ _ g2) hd;refine q d b _ (o.free hd) p #[c.take 63,_,_,aA,?_,?_]<|o.trans<|aF hd
  .rw[aD r];exact(aF i) _ _ g2
  rw[mV];exact Nat.min_le_left _ _
def Tc(D:KY K mg "_law_draw" lU CV) :
  Callee^1 "_law_draw" CV jY:=by
 refine D.gg hV λa0 Z a1 Y s H vs a2 a3 Q h=>?_
 .obtain⟨d,b,m,rfl,dk,k,S,q⟩:=h;have T:=Q.units0;refine JB dk.ex (LB λa g f=>JE λF L M=>?_);have E:d≠b:=aL F L (by
   intro z;injection z with z
   cases a with
   | nil=>cases z
   | cons z1 zs=>injection z with z _;cases z)
  exists _,(!"H-`0 ~,',0'`R.jr ~+~*`2 |*-`0 ~,:`T {^R.jt1 -`0 ~,#Z=`2 |*~'`PySem.F.slot_list_pop `PySem.F.type_list_pop `R.ju -`0 ~,'#!y:`R.ge 2~x'',=~'`PySem.F.slot_list_insert `PySem.F.type_list_insert `R.iq -`0 ~,'`R.gq 21,#!!yE~J21,(&$;/&$;/`3 |*~JHH~U~J2',',~U'-`0 ~,,,',',:`3 |*~J~U33,',:~J`R.gq ~J~U3H3',,',',1,(&$$$$$");exists _,JX F,_,rfl,d,_,2,2,rfl,rfl,F,rfl;have g1:(aH H d<|.lst [.ref b,.int g,.int (f+1)]) d=!.lst [.ref b,.int g,.int (f+1)]:=aA;have g2:(aH H d<|.lst [.ref b,.int g,.int (f+1)]) b=!(.lst<|a.map V.int):=by rw[aD E.symm];exact L
  have N:Kp d b H (aH H d<|.lst [.ref b,.int g,.int (f+1)]):=λc o e l j=>by rw[aD l];exact e
  show Oj _ _ _ _ (aH H d<|.lst [.ref b,.int g,.int (f+1)]);generalize aH H d (.lst [.ref b,.int g,.int (f+1)])=n at g1 g2 N;exists _,JX g1,_,rfl;dsimp only [aI];refine x5 (t:=Om _ _ _) (λJ r=>∃c:Int,J=[!.ref d,!.int m,!.int c,none]/\(∃u:EZ,r d=!.lst [.ref b,.int g,.int (f+1)]/\r b=!(.lst<|u.map V.int)/\u.length<=63)/\Kp d b H r) (λnx O=>?_) ?_
  .refine#[_,JX g1,_,rfl,uR rfl,λp v=>#[b,p,_,rfl,rfl,JX (by rw[aD (aE g2 v)];exact g2),JX aA,?_]];have A:(aH n p<|.lst []) d=!.lst [.ref b,.int g,.int (f+1)]:=by rw[aD (aE g1 v)];exact g1
   have B:(aH n p<|.lst []) b=!(.lst<|a.map V.int):=by rw[aD (aE g2 v)];exact g2
   have G:Kp d b H (aH n p<|.lst []):=N.trans<|.new v;generalize aH n p (.lst [])=C at A B G;cases a with
   | nil=>
    exact O _ _ #[_,rfl,#[[],A,B,M],G]
   | cons z a=>
    have U:a.length+1<=63:=by simpa using M
    exists _,JX A,_,rfl,.inl #[rfl,_,JX B],b,_,0,0,.int z,rfl,rfl,B,Zd,Zd,by simp[seqIndex?],rfl;have f1:(aH C b<|.lst<|(List.map V.int (z::a)).eraseIdx 0) d=!.lst [.ref b,.int g,.int (f+1)]:=by rw[aD E];exact A
    have f2:(aH C b<|.lst<|(List.map V.int (z::a)).eraseIdx 0) b=!(.lst<|a.map V.int):=by rw[aA];rfl
    have I:Kp d b H (aH C b<|.lst<|(List.map V.int (z::a)).eraseIdx 0):=λc o e l j=>by rw[aD j];exact G c o e l j
    dsimp only [aI];generalize aH C b (.lst<|(List.map V.int (z::a)).eraseIdx 0)=H3 at f1 f2 I;exists #[Zd,Zd,Zd];refine eN (λ_=>?_) λ_=>?_
    .exists _,JX f1,_,rfl,.inl #[rfl,_,JX f2],#[k,S],b,_,0,_,rfl,rfl,f2,zero_le _,yR (m:=63) (by rw[aV];omega) Zd,k;refine q _ _ (Int.emod_nonneg _ Zo) (Int.emod_lt_of_pos _ k) #[z/m::a,g,f+1,by rw[aD E];exact f1,by rw[aA];rfl,by simpa using U] λc o e l j=>by rw[aD j];exact I c o e l j
    exact O _ _ #[_,rfl,#[a,f1,f2,Zo],I]
  refine λJ r=>JU λc=>JE λζ η X=>?_;subst ζ;obtain⟨u,f1,f2,W⟩:=η;refine#[by show(0:Int)<_;decide,.inr #[Zd,Zd],_,JX f1,_,rfl,.inl #[Zd,Zd],by show(0:Int)<_;decide,?_];generalize hx:(c%2147483629*16807+69621*(f+1)+7919)%2147483629=x;have NH:0<=x:=by omega
  have hx1:x<2147483629:=by omega
  refine#[.inl #[(by clear hx T M W;omega),(by clear hx T M W;omega)],by show(0:Int)<_;decide,?_];generalize hy:x*x%2147483587=y;have OU:0<=y:=by clear hx T M W;omega
  have hy1:y<2147483587:=by clear hx T M W;omega
  exists .inl #[Zo,Zo],by show(0:Int)<_;decide,#[Zd,Zd],k;exact q _ _ (Int.emod_nonneg _ Zo) (Int.emod_lt_of_pos _ k) #[u,g,f+1,f1,f2,W] X
def aE7{r:Int}(a:0<=r)(b:r<4):r=0∨r=1∨r=2∨r=3:=by omega
def six{r:Int}(a:0<=r)(b:r<6):r=0∨r=1∨r=2∨r=3∨r=4∨r=5:=by omega
structure QP(L:DO)(g:Nat)(ws:A2):Prop where
 nd:ws.Nodup
 of:∀z∈ws,1<=z.length/\z.length<=g/\∀c∈z.cps.toList,c∈L
inductive sU(vs:A1)(H:Hp)(Q:VK)(E_:XK):Prop
 | mk(d b:TD)(L:DO)(g m:Nat):vs=[.ref d,.str (tx L),.int (g:Int),.int (m:Int)]->Dk H d b->1<=m->m<=g->g<=12->L.Nodup->m<=L.length->L.length<=40->(∀(l:TD)(ws:A2)(H':Hp),QP L g ws->ws.length=m->H' l=!(.lst<|ws.map V.str)->l≠d->l≠b->Dk H' d b->Kp d b H H'->Q (.ref l) H')->sU vs H Q E_
def Td(xs:List c){i j:Nat}(a:i<=xs.length)(b:j<=xs.length):jK xs (!(i:Int)) (!(j:Int))=(xs.drop i).take (j-i):=by
 unfold jK;rw[HT.sIx_nat,HT.sIx_nat,Nat.min_eq_left a,Nat.min_eq_left b]
def wQ(L b:DO)(a sz f k:Nat):DO:=b.take a++[L.getD ((f+k)%L.length) 0]++(b.drop<|a+1).take (sz-(a+1))
def Yz{L:DO}(d:L.Nodup){i j:Nat}(a:i<L.length)(b:j<L.length)(h:L.getD i 0=L.getD j 0):i=j:=by
 rw[getD_eq_getElem?_getD,getD_eq_getElem?_getD,hX a,hX b]at h;have c:L[i]=L[j]:=h;have p:=pairwise_iff_getElem.mp d;rcases lt_trichotomy i j with z|z|z
 .exact IZ c<|p i j a b z
 .exact z
 exact IZ c.symm<|p j i b a z
def Za{f k a n:Nat}(d:k<n)(e:a<n)(h:(f+k)%n=(f+a)%n):k=a:=by
 have b:=Nat.mod_add_div (f+k) n;have c:=Nat.mod_add_div (f+a) n;rw[h]at b;generalize (f+k)/n=u at b;generalize (f+a)/n=v at c;rcases lt_trichotomy u v with z|z|z
 .have:n*(u+1)<=n*v:=Nat.mul_le_mul_left n z;rw[Nat.mul_add,Nat.mul_one]at this;omega
 .subst z;omega
 have:n*(v+1)<=n*u:=Nat.mul_le_mul_left n z;rw[Nat.mul_add,Nat.mul_one]at this;omega
def Te(d:L.Nodup){a sz f k b:Nat}(h:wQ L c a sz f k=wQ L c a sz f b)(e:k<L.length)(g:b<L.length):k=b:=by
 unfold wQ at h;have i:=List.append_inj_left' h rfl;have j:=List.append_inj_right' i rfl;have l:L.getD ((f+k)%L.length) 0=L.getD ((f+b)%L.length) 0:=by injection j
 exact Za e g<|Yz d (mod_lt _ Zo) (mod_lt _ Zo) l
def aD4{L:DO}{i:Nat}(h:i<L.length):L.getD i 0∈L/\L[i]?=!L.getD i 0:=by
 have e:L[i]?=!L[i]:=hX h;have a:L.getD i 0=L[i]:=by rw[getD_eq_getElem?_getD,e];rfl
 exact#[a▸getElem_mem _,a▸e]
def Zb{g a sz f k:Nat}(i:0<L.length)(j:d.length=g)(h:∀c∈d,c∈L)(l:a<sz)(hs:sz<=g):1<=(wQ L d a sz f k).length/\(wQ L d a sz f k).length<=g/\∀c∈wQ L d a sz f k,c∈L:=by
 have e:(wQ L d a sz f k).length=sz:=by
  unfold wQ;simp[j];clear i;omega
 refine#[Zo,Zo,λc b=>?_];unfold wQ at b;rcases MN.mp b with b|b
 .rcases MN.mp b with b|b
  .exact h c<|mem_of_mem_take b
  rw[LV.mp b];exact(aD4<|mod_lt _ i).1
 exact h c<|List.mem_of_mem_drop<|mem_of_mem_take b
def wR{n i:Nat}(h:(nO 0 n)[i]?=!x):x=.int (i:Int)/\i<n:=by
 unfold nO at h;rw[eJ]at h;cases a:(List.range n)[i]? with
 | none=>rw[a]at h;cases h
 | some y=>
  rw[a]at h;obtain⟨c,b⟩:=NJ.mp a;rw[List.getElem_range]at b;cases h;rw[<- b];exact#[Zs,by simpa using c]
def lZ(n:Nat):(nO 0 n).length=n:=by simp[nO]
def Ej{F:Nat->DO}(d:∀k a,k<m->a<m->F k=F a->k=a)(e:∀k,k<m->1<=(F k).length/\(F k).length<=g/\∀c∈F k,c∈L):QP L g ((List.range m).map λk=>tx<|F k):=by
 refine#[?_,λz f=>?_]
 .show List.Pairwise (·≠·) _;rw[pairwise_map];refine List.Pairwise.imp_of_mem (λ{x y} h i j b=>j ?_) List.nodup_range;exact d _ _ (mem_range.mp h) (mem_range.mp i) (by simpa using congrArg (λz:Str=>z.cps.toList) b)
 obtain⟨k,l,rfl⟩:=LA.mp f;have:=e k<|mem_range.mp l;exact#[by rw[dO];exact this.1,by rw[dO];exact this.2.1,λc n=>this.2.2 c (by simpa using n)]
def Mp(T:Txt K mg)(x:Callee^1 "_law_draw" CV jY)(D:KY K mg "_law_unlike" cV f6) :
  Callee^2 "_law_unlike" f6 sU:=by
 refine D.gg dD λa5 cdv a6 outer s H vs a7 a8 y h=>?_
 .obtain⟨d,b,L,g,m,rfl,dk,NI,LU,hg,uo,hmL,gd',a2⟩:=h;have E:(tx L).length=L.length:=dO L;have A:(tx L).length<=sizeLine:=jL Zo;have F:(tx L).cps.toList=L:=by simp
  exists _,(!"`4 ~u|q`PySem.F.slot_str_join `PySem.F.type_str_join {^R.jv0 )?#!y:LX|#%0'#!!<'=?(&;/`5 ~uH'X|#%02#!!<,:`6 ~uX|#%05#!!<:`7 ~uX|#%0|[%ps1#!J#!!<:`8 ~u|.4l6P]|.4H6',P5P]#!!|z:?(&$$$$$$" (yg rfl (js:=[none,!0,!1]) (N:=QZf) (JQ.by (aB cV) fz rfl rfl Zk) (aR rfl) (R.de rfl T.b_range<|lc (f8 2) li) λa3 X Y fp=>#[(vi (i:=0) (show(QZf:A2).Nodup by decide +kernel)),AX,(vk R.iS (f8 2)<|tz x y rfl<|lc (f8 1)<|lc (xm R.dw rfl T.b_len eI<|lc (f8 2) li) li)]) (yg rfl (js:=[none,!4]) (N:=["_law_k","_law_word"]) (JQ.by (aB cV) fz rfl rfl Zk) (aR rfl) (R.de rfl T.b_range<|lc (f8 3) li) λa3 X Y fp=>#[(vi (i:=0) (show(["_law_k","_law_word"]:A2).Nodup by decide +kernel)),AX,(xn R.sS (f8 1) yi<|vm<|pv wv (f8 0) o0)]) (yg rfl (js:=[none,!1,!7,!8]) (N:=QZe) (JQ.by (aB cV) fz rfl rfl Zk) (aR rfl) (R.de rfl T.b_range<|lc (f8 3) li) λa3 X Y fp=>#[(vi (i:=0) (show(QZe:A2).Nodup by decide +kernel)),AX,(pv R.dy (pv R.dy (sw K 3)<|vk R.iS (f8 1)<|pv CQ (pv wv (f8 2)<|f8 0)<|xm R.dw rfl T.b_len eI<|lc (f8 1) li)<|sw K 3)]));refine x5 (t:=Op _ _) (λZ j=>∃f:DO,Z=[!.ref d,!(.str<|tx L),!.int (g:Int),!.int m,!(.str<|tx f),none,none,none,none]/\f.length=g/\(∀c∈f,c∈L)/\Dk j d b/\Kp d b H j) (λnx z8=>?_) ?_
  .exists rfl,g,rfl,Zo,Zo;refine bB (iX 0 (g:Int).toNat) (by rw[lZ];omega) (λi l j=>Dk j d b/\Kp d b H j/\∃f:DO,l=f.map (λc=>V.str<|tx [c])/\f.length=i/\∀c∈f,c∈L) (λi l j #[_,_,f,e,n,_]=>#[trivial,by rw[e,aV,n];exact bD _]) #[dk,.refl,[],rfl,rfl,(λ_ h=>nomatch h)] (?_)<|?_
   .refine λi a4 l j B=>JE λG C=>JU λf=>JE λe n I=>?_;refine#[A,d,b,_,rfl,G,Zo,Zo,λr2 vn r20 r21 Dj kpj=>#[A,?_]];obtain⟨c,J,hm⟩:=qN (xs:=(tx L).cps.toList) r20 (by rw[F];omega);rw[F]at hm;refine#[c,J,Dj,C.trans kpj,f++[c],by rw[e,dL];rfl,by rw[mU,n];rfl,λc' GO=>?_];rcases MN.mp GO with h|h
    .exact I c' h
    rw[LV.mp h];exact hm
   refine λl j=>JE λG C=>JU λf=>JE λe n I=>?_;intro p q;have v:f.length=g:=by rw[n,lZ];omega
   exists _,p,f.map λc=>tx [c],rfl,rfl,JX (by rw[aA,e,map_map];rfl),?_
   .rw[Dr,aV,Qt,dO];simp;omega
   refine z8 _ _ #[f,?_,v,I,G.new q,C.trans<|.new q];rw[Qt,Gk];rfl
  refine λZ H1=>JU λf=>MJ λζ v RV D1 k1=>?_;subst ζ;have hcl:(tx f).cps.toList=f:=by simp
  have em:((m:Int)).toNat=m:=by omega
  refine#[d,b,3,rfl,D1,Zd,Zd,λa9 H2 r0 r1 M k2=>?_];refine eN (λ_=>?_) λ_=>?_
  .exists m,rfl,Zo,Zo;refine bB (iX 0 (m:Int).toNat) (by rw[lZ];omega) (λi l j=>l=((List.range i).map λk=>tx<|f.take<|k+1).map V.str/\j=H2) (λi l j #[e,_]=>#[trivial,by rw[e];simp]) #[rfl,rfl] (?_)<|?_
   .rintro i a4 l j B ⟨e,n⟩;subst n;obtain⟨rfl,hi⟩:=wR B;refine#[jL (by rw[dO];omega),?_,rfl];rw[hcl,show((i:Nat):Int)+1=((i+1:Nat):Int) by omega,nQ,e,range_succ,dL,dL];rfl
   rintro l j ⟨e,n⟩;subst n;intro p q;rw[lZ,em]at e;have hd:=M.ne q;refine a2 p ((List.range m).map λk=>tx<|f.take<|k+1) _ (Ej (λk k' O FG e=>?_) λk O=>?_) Zs (by rw[aA,e]) hd.1 hd.2 (M.new q)<|(k1.trans k2).trans<|.new q
   .have:=congrArg length e;rw[mV,mV,v]at this;clear v em A E;omega
   exact#[by rw[mV,v];clear v gd' em A;omega,by rw[mV,v];clear v em A E;omega,λc J=>RV c<|mem_of_mem_take J]
  refine#[d,b,g,rfl,M,(by clear v em hg A;omega),Zo,λQ H3 s0 s1 D3 k3=>?_];refine#[d,b,1+Q,rfl,D3,Zo,Zo,λra H4 a0 a1 D4 k4=>?_];refine#[A,d,b,_,rfl,D4,Zo,Zo,λrf S f0 f1 D5 k5=>?_];rw[E]at f1;dsimp only [aI];obtain⟨a,rfl⟩:∃a:Nat,ra=a:=#[ra.toNat,Zo];obtain⟨r,rfl⟩:∃z:Nat,Q=z:=#[Q.toNat,Zo];obtain⟨u,rfl⟩:∃z:Nat,rf=z:=#[rf.toNat,Zo];refine#[jL (by rw[dO];omega),jL (by rw[dO];omega),uR rfl,λtp htp=>?_];have U:(aH S tp<|.tup [.str (tx<|jK (tx f).cps.toList none<|!(a:Int)),.str (tx<|jK (tx f).cps.toList (some<|(a:Int)+1)<|some<|1+(r:Int))]) tp=!.tup [.str (tx<|f.take a),.str (tx<|(f.drop<|a+1).take<|r+1-(a+1))]:=by
   rw[aA,hcl,nQ,show(a:Int)+1=((a+1:Nat):Int) by omega,show 1+(r:Int)=((r+1:Nat):Int) by omega,Td f Zo Zo]
  have k6:Kp d b H (aH S tp<|.tup [.str (tx<|jK (tx f).cps.toList none<|!(a:Int)),.str (tx<|jK (tx f).cps.toList (some<|(a:Int)+1)<|some<|1+(r:Int))]):=((((k1.trans k2).trans k3).trans k4).trans k5).trans<|.new htp;have W:=D5.new (o:=.tup [.str (tx<|jK (tx f).cps.toList none<|!(a:Int)),.str (tx<|jK (tx f).cps.toList (some<|(a:Int)+1)<|some<|1+(r:Int))]) htp;dsimp only [aI];generalize aH S tp (.tup [.str (tx<|jK (tx f).cps.toList none<|!(a:Int)),.str (tx<|jK (tx f).cps.toList (some<|(a:Int)+1)<|some<|1+(r:Int))])=H6 at U k6 W;exists m,rfl,Zo,Zo;refine bB (iX 0 (m:Int).toNat) (by rw[lZ];omega) (λi l j=>l=((List.range i).map λk=>tx<|wQ L f a (r+1) u k).map V.str/\j=H6) (λi l j #[e,_]=>#[trivial,by rw[e];simp]) #[rfl,rfl] (?_)<|?_
  .rintro i a4 l j B ⟨e,n⟩;subst n;obtain⟨rfl,hi⟩:=wR B;have h0:0<L.length:=by omega
   have hL:=aD4 (L:=L)<|mod_lt (u+i) h0;have t1:(tx<|f.take a).length<=12:=by rw[dO,mV];clear s1 A E hi;omega
   have t2:(tx<|(f.drop<|a+1).take<|r+1-(a+1)).length<=12:=by rw[dO,mV,length_drop];clear A E t1 NI;omega
   refine#[_,JV U,_,rfl,A,by rw[E];omega,A,L.getD ((u+i)%L.length) 0,?_,jL (by have:=dO [L.getD ((u+i)%L.length) 0];simp only [mY,length_nil]at this;omega),_,JV U,_,rfl,jL ?_,?_,rfl]
   .rw[E,F,show((u:Int)+(i:Int))%(L.length:Int)=(((u+i)%L.length:Nat):Int) by rw[Int.natCast_emod,Int.natCast_add]];exact eW hL.2
   .rw[Bd,dO,mU,mV];simp only [mY,length_nil];clear s1 A E t1;omega
   rw[e,range_succ,dL,dL,Bd,Bd];rfl
  rintro l j ⟨e,n⟩;subst n;intro p q;rw[lZ,em]at e;have hd:=W.ne q;refine a2 p ((List.range m).map λk=>tx<|wQ L f a (r+1) u k) _ (Ej (λk k' O FG e=>?_) λk O=>?_) Zs (by rw[aA,e]) hd.1 hd.2 (W.new q)<|k6.trans<|.new q
  .exact Te uo e (by clear em E A v;omega) (by clear em E A v;omega)
  exact Zb Zo v RV Zo Zo
def bK{n:Nat}(h:Nat.ble n 1000=true):n<=1000:=IY h
def Mq:An->Str|.is1 _=>"is"|.is2 _ _=>"is"|.short _=>"short"|.full _=>"full"|.no _=>"no"|.ok=>"ok"
def By(B:Yg K C)(D:MethAt K C "amount" "Book.amount" gV ER):bP^1 C "amount" ER (lI C):=by
 refine D.gg wP λf j A i s H vs Q E b h=>?_
 .revert h;refine LB λp n l=>JE λζ bk q=>?_;subst ζ;have c:=dN b;refine JB bk.ex (JR λe d=>JW λg a=>?_);exists _,(!"U0*1'{R.jw4 (&");exists C,e,_,.ref d,g,B.cl,B.nA,hI _,d,rfl,.inl #[_,.inl a],_,LP.k (k:=Sum.inr n) a;rw[uT];exact q
def aM{xs:List a}{i:Nat}{x:a}(h:xs[i]?=!x):xs.take (i+1)=xs.take i++[x]:=by
 rw[List.take_succ,h];rfl
def Hk(T:Txt K mg)(B:Yg K C)(D:MethAt K C "rows" "Book.rows" hU EX):bP^1 C "rows" EX (wF C):=by
 refine D.gg Bv λa2 cdv a3 outer s H vs a4 a5 W h=>?_
 .revert h;refine JR λa6 b=>KJ λζ bk F a0=>?_;subst ζ;have G:=dN W;refine JB bk.ex (JR λv d=>JW λI J=>?_);exists _,(nv<|pi<|yg rfl (js:=[none,!0]) (N:=["name","self"]) (JQ.by (aB hU) EX rfl rfl Zk) (aR rfl) (!"%{R.ij1 %~^~m0*#!Ju") λC s₂ H₂ fp=>#[(vi (i:=0) (show(["name","self"]:A2).Nodup by decide +kernel)),(!"~T|$1*0T'={BF1 "),(!"0|$1*0T#!!|z")]);refine#[C,v,_,.ref d,I,B.cl,B.nA,hI _,b.map (·.1),_,.inl J,wC b,by rw[aV];exact F,λl X=>#[l,rfl,#[_,JX aA],?_]];have j:I7 H (aH H l<|.lst<|(qE<|b.map (·.1)).map V.str):=aF X;have g1:(aH H l<|.lst<|(qE<|b.map (·.1)).map V.str) l=!(.lst<|(qE<|b.map (·.1)).map V.str):=aA;generalize aH H l (.lst<|(qE<|b.map (·.1)).map V.str)=L at j g1;have hlen:(qE<|b.map (·.1)).length<64:=by rw[qO,aV];exact F
  refine bB (aX K l<|(qE<|b.map (·.1)).map V.str) (by rw[aV];omega) (λi q g=>∃c:FO,q=bM c/\I7 L g/\OS g c/\c.length<=i/\c.map (·.2)=(((qE<|b.map (·.1)).take i).filter λn=>decide (0<bZ b n)).map λn=>(n,bZ b n))
   (λi q g #[c,e,f,_,Y,_]=>#[JX<|f _ _ g1,by rw[e];unfold bM;rw[aV];exact Y]) #[[],rfl,I7.refl _,(λ_ h=>nomatch h),bD _,rfl] (λi a7 q g o #[c,e,f,r,M,u]=>?_) (λq g #[c,e,f,r,M,u]=>?_)
  .rw[eJ]at o;cases p:(qE<|b.map (·.1))[i]? with
   | none=>rw[p]at o;cases o
   | some n=>
    rw[p]at o;cases o;have U:n∈b.map (·.1):=(cN _).mem_iff.mp<|kI p;obtain⟨a,O⟩:=pW U;have x:bZ b n=a:=by unfold bZ;rw[O];rfl
    have gd:∀y,I7 L y->LP y d (.str n) (!.int a):=λy MV=>by
     have:=LP.k (k:=Sum.inr n)<|MV  _ _<|j _ _ J;rw[uS,O]at this;exact this
    have Q:=f _ _<|j _ _ I;exists C,v,_,.ref d,Q,B.cl,B.nA,hI _,d,_,rfl,gd g f;refine eN (λz=>?_) λz=>?_
    .have A:0<a:=by simpa using z
     refine#[C,v,_,.ref d,Q,B.cl,B.nA,hI _,d,_,rfl,gd g f,uR rfl,λt S=>#[c++[(t,n,a)],by rw[e];unfold bM;rw[dL];rfl,f.trans<|aF S,?_,by rw[mU];simpa using M,?_]]
     .intro a1 JJ;rcases MN.mp JJ with m|m
      .exact(r.same<|aF S) a1 m
      rw[LV.mp m];exact aA
     rw[dL,u,aM p,filter_append,dL];congr 1;rw[filter_cons,LM (by rw[x];exact UF A)];rw[<- x];rfl
    have A:¬ 0<a:=by simpa using z
    exists c,e,f,r,Zo;rw[u,aM p,filter_append,filter_cons,LK (by rw[x];simpa using A)];simp
  intro l2 E;subst e;refine a0 l2 c _ (j.trans<|f.trans<|aF E) ?_ aA (r.same<|aF E) ?_
  .exact j.free<|f.free E
  rw[u,aV,take_length];rfl
def eE(f:Str->Nat)(z:Str)(v:Nat):Str->Nat:=λy=>if y=z then v else f y
def aQ(f:Str->Nat):Dd->Option An
 | .add a n=>if 1000000000000<f a+n then some (.full<|f a) else some (.is1<|f a+n)
 | .take a n=>if f a<n then some (.short<|f a) else some (.is1<|f a-n)
 | .move a b n=>if f a<n then some (.short<|f a) else if 1000000000000<f b+n then some (.full<|f b) else some (.is2 (f a-n)<|f b+n)
 | .send _ a n=>if f a<n then some (.short<|f a) else none
 | .fetch _ a n=>if 1000000000000<f a+n then some (.full<|f a) else none
 | .pass _ _ _ _=>none
def dU(f:Str->Nat):Dd->List An
 | .send h a n=>[.no h,.is1 (f a-n)]
 | .fetch h a n=>[.no h,.is1 (f a+n)]
 | .pass h g _ _=>[.no h,.no g,.ok]
 | _=>[]
def after(f:Str->Nat):Dd->An->(Str->Nat)
 | .add a n,.is1 _=>eE f a (f a+n)
 | .take a n,.is1 _=>eE f a (f a-n)
 | .move a b n,.is2 _ _=>eE (eE f a<|f a-n) b (f b+n)
 | .send _ a n,.is1 _=>eE f a (f a-n)
 | .fetch _ a n,.is1 _=>eE f a (f a+n)
 | _,_=>f
def gM(f:Str->Nat)(x:Dd)(q:Bool)(y:An):Prop:=(q=false/\aQ f x=!y)∨(q=true/\aQ f x=none/\y∈dU f x)
def Ek(c:∀z,f z<=1000000000000)(m:x.Ok)(h:gM f x q y)(i:q=true->x.far=true):An.Of x y/\(x.far=true->(q=true↔y.early=false)):=by
 rcases h with⟨rfl,h⟩|⟨rfl,d,e⟩
 .cases x with
  | add a n=>
   simp only [aQ]at h;have:=c a;split at h<;>cases h
   .exact#[#[Zo,Zo],λz=>nomatch z]
   exact#[#[Zo,Zo],λz=>nomatch z]
  | take a n=>
   simp only [aQ]at h;have:=c a;split at h<;>cases h
   .exact#[by show f a<n;omega,λz=>nomatch z]
   exact#[by show f a-n+n<=1000000000000;omega,λz=>nomatch z]
  | move a b n=>
   simp only [aQ]at h;have:=c a;have:=c b;split at h
   .cases h;exact#[by show f a<n;omega,λz=>nomatch z]
   split at h<;>cases h
   .exact#[#[Zo,Zo],λz=>nomatch z]
   exact#[#[Zo,Zo,Zo],λz=>nomatch z]
  | send g a n=>
   simp only [aQ]at h;split at h<;>cases h;exact#[by show f a<n;omega,λ_=>#[nofun,nofun]]
  | fetch g a n=>
   simp only [aQ]at h;have:=c a;split at h<;>cases h;exact#[#[Zo,Zo],λ_=>#[nofun,nofun]]
  | pass g k a n=>cases h
 cases x with
 | add a n=>cases i rfl
 | take a n=>cases i rfl
 | move a b n=>cases i rfl
 | send g a n=>
  have:=c a;simp only [aQ]at d;simp only [dU,mem_cons,GH,or_false]at e;have l:n<=f a:=by
   by_cases j:f a<n
   .rw[LM j]at d;cases d
   omega
  rcases e with rfl|rfl
  .exact#[rfl,λ_=>#[λ_=>rfl,λ_=>rfl]]
  exact#[by show f a-n+n<=1000000000000;omega,λ_=>#[λ_=>rfl,λ_=>rfl]]
 | fetch g a n=>
  simp only [aQ]at d;simp only [dU,mem_cons,GH,or_false]at e;have l:¬ 1000000000000<f a+n:=by
   intro j;rw[LM j]at d;cases d
  rcases e with rfl|rfl
  .exact#[rfl,λ_=>#[λ_=>rfl,λ_=>rfl]]
  exact#[#[Zo,Zo],λ_=>#[λ_=>rfl,λ_=>rfl]]
 | pass g k a n=>
  simp only [dU,mem_cons,GH,or_false]at e;rcases e with rfl|rfl|rfl
  .exact#[.inl rfl,λ_=>#[λ_=>rfl,λ_=>rfl]]
  .exact#[.inr rfl,λ_=>#[λ_=>rfl,λ_=>rfl]]
  exact#[trivial,λ_=>#[λ_=>rfl,λ_=>rfl]]
def mD{v:Nat}(a:∀z,f z<=1000000000000)(b:v<=1000000000000):∀y,eE f z v y<=1000000000000:=λy=>by
 unfold eE;split
 .exact b
 exact a y
def El(c:∀z,f z<=1000000000000)(h:gM f x q y):∀z,after f x y z<=1000000000000:=by
 rcases h with⟨rfl,h⟩|⟨rfl,e,d⟩
 .cases x with
  | add a n=>
   simp only [aQ]at h;split at h<;>cases h
   .exact c
   exact mD c Zo
  | take a n=>
   simp only [aQ]at h;have:=c a;split at h<;>cases h
   .exact c
   exact mD c Zo
  | move a b n=>
   simp only [aQ]at h;have:=c a;split at h
   .cases h;exact c
   split at h<;>cases h
   .exact c
   exact mD (mD c Zo) Zo
  | send g a n=>
   simp only [aQ]at h;split at h<;>cases h;exact c
  | fetch g a n=>
   simp only [aQ]at h;split at h<;>cases h;exact c
  | pass g k a n=>cases h
 cases x with
 | add a n=>cases d
 | take a n=>cases d
 | move a b n=>cases d
 | send g a n=>
  have:=c a;simp only [dU,mem_cons,GH,or_false]at d;rcases d with rfl|rfl
  .exact c
  exact mD c Zo
 | fetch g a n=>
  simp only [aQ]at e;simp only [dU,mem_cons,GH,or_false]at d;have j:¬ 1000000000000<f a+n:=by
   intro i;rw[LM i]at e;cases e
  rcases d with rfl|rfl
  .exact c
  exact mD c Zo
 | pass g k a n=>
  simp only [dU,mem_cons,GH,or_false]at d;rcases d with rfl|rfl|rfl<;>exact c
def Bz:Dd->An->BD
 | .add a n,.is1 _=>[(a,(n:Int))]
 | .take a n,.is1 _=>[(a,-(n:Int))]
 | .move a b n,.is2 _ _=>[(a,-(n:Int)),(b,(n:Int))]
 | .send _ a n,.is1 _=>[(a,-(n:Int))]
 | .fetch _ a n,.is1 _=>[(a,(n:Int))]
 | _,_=>[]
def aD5(y:An):pI y.vs 0=!(.str<|Mq y):=by cases y<;>rfl
def aD6(h:Mq y="is"):(∃m,y=.is1 m)∨∃l m,y=.is2 l m:=by
 cases y with
 | is1 m=>exact .inl #[m,rfl]
 | is2 l m=>exact .inr #[l,m,rfl]
 | short m=>exact IZ (show("short":Str)="is" from h) Zk
 | full m=>exact IZ (show("full":Str)="is" from h) Zk
 | no m=>exact IZ (show("no":Str)="is" from h) Zk
 | ok=>exact IZ (show("ok":Str)="is" from h) Zk
def gN(f:Str->Nat)(c:Str×Int):Str->Nat:=eE f c.1 ((f c.1:Int)+c.2).toNat
def Tf(f:Str->Nat)(a:BD):Str->Nat:=a.foldl gN f
def Tg:(Str->Nat)->BD->Prop
 | _,[]=>True
 | f,c::a=>0<=(f c.1:Int)+c.2/\Tg (gN f c) a
def uA(j:x.Ok)(h:gM f x q y):Tf f (Bz x y)=after f x y/\Tg f (Bz x y):=by
 rcases h with⟨rfl,h⟩|⟨rfl,d,c⟩
 .cases x with
  | add a n=>
   simp only [aQ]at h;split at h<;>cases h
   .exact#[rfl,trivial]
   refine#[?_,by show(0:Int)<=_+_;omega,trivial];show eE f a ((f a:Int)+(n:Int)).toNat=eE f a (f a+n);rw[show((f a:Int)+(n:Int)).toNat=f a+n by omega]
  | take a n=>
   simp only [aQ]at h;split at h<;>cases h
   .exact#[rfl,trivial]
   refine#[?_,by show(0:Int)<=(f a:Int)+-(n:Int);omega,trivial];show eE f a ((f a:Int)+-(n:Int)).toNat=eE f a (f a-n);rw[show((f a:Int)+-(n:Int)).toNat=f a-n by omega]
  | move a b n=>
   have l:b≠a:=λz=>j.2.2.1 z.symm
   simp only [aQ]at h;split at h
   .cases h;exact#[rfl,trivial]
   split at h<;>cases h
   .exact#[rfl,trivial]
   have e:gN f (a,-(n:Int)) b=f b:=by unfold gN eE;exact LK l
   refine#[?_,by show(0:Int)<=(f a:Int)+-(n:Int);omega,?_,trivial]
   .show gN (gN f (a,-(n:Int))) (b,(n:Int))=eE (eE f a<|f a-n) b (f b+n);have i:gN f (a,-(n:Int))=eE f a (f a-n):=by
     unfold gN;rw[show((f a:Int)+-(n:Int)).toNat=f a-n by omega]
    unfold gN at e ⊢;dsimp only at e ⊢;rw[e,show((f b:Int)+(n:Int)).toNat=f b+n by clear e;omega];unfold gN at i;rw[i]
   show(0:Int)<=(gN f (a,-(n:Int)) b:Int)+(n:Int);omega
  | send g a n=>
   simp only [aQ]at h;split at h<;>cases h;exact#[rfl,trivial]
  | fetch g a n=>
   simp only [aQ]at h;split at h<;>cases h;exact#[rfl,trivial]
  | pass g k a n=>cases h
 cases x with
 | add a n=>cases c
 | take a n=>cases c
 | move a b n=>cases c
 | send g a n=>
  simp only [aQ]at d;simp only [dU,mem_cons,GH,or_false]at c;have o:¬ f a<n:=by
   intro m;rw[LM m]at d;cases d
  rcases c with rfl|rfl
  .exact#[rfl,trivial]
  refine#[?_,by show(0:Int)<=(f a:Int)+-(n:Int);omega,trivial];show eE f a ((f a:Int)+-(n:Int)).toNat=eE f a (f a-n);rw[show((f a:Int)+-(n:Int)).toNat=f a-n by omega]
 | fetch g a n=>
  simp only [dU,mem_cons,GH,or_false]at c;rcases c with rfl|rfl
  .exact#[rfl,trivial]
  refine#[?_,by show(0:Int)<=(f a:Int)+(n:Int);omega,trivial];show eE f a ((f a:Int)+(n:Int)).toNat=eE f a (f a+n);rw[show((f a:Int)+(n:Int)).toNat=f a+n by omega]
 | pass g k a n=>
  simp only [dU,mem_cons,GH,or_false]at c;rcases c with rfl|rfl|rfl<;>exact#[rfl,trivial]
def bQ:Dd->BD
 | .add a n=>[(a,(n:Int))]
 | .take a n=>[(a,-(n:Int))]
 | .move a b n=>[(a,-(n:Int)),(b,(n:Int))]
 | .send _ a n=>[(a,-(n:Int))]
 | .fetch _ a n=>[(a,(n:Int))]
 | .pass _ _ _ _=>[]
def Ti(a:An.Of x y)(h:Mq y="is"):Bz x y=bQ x:=by
 rcases aD6 h with⟨m,rfl⟩|⟨l,m,rfl⟩<;>cases x<;>first|rfl|exact a.elim
def aCr(h:Mq y≠"is"):Bz x y=[]:=by cases x<;>cases y<;>first|rfl|exact IZ rfl h
inductive Ca(vs:A1)(H:Hp)(Q:VK)(E_:XK):Prop
 | mk(t:TD)(x:Dd):vs=[.ref t]->H t=!.tup x.vs->(∀(tp:TD)(zs:FO)(H':Hp),I7 H H'->H' tp=!(.tup<|bM zs)->OS H' zs->zs.map (·.2)=bQ x->Q (.ref tp) H')->Ca vs H Q E_
def uM(T:Txt K mg)(D:KY K mg "done_changes" dP EV):Callee^1 "done_changes" EV Ca:=by
 refine D.gg mM λf J A I s H vs Q E L h=>?_
 .obtain⟨p,x,rfl,c,q⟩:=h;exists _,(!"L-`0 >)=#+(&;/L-`0 >)=-`0 >[0'MBM#!!+-`0 >[0'MB#!!+#!!+(&;/|a-`0 >))#!!+=[0'MB[0'MBM#!!+#!+(&;/[0'MB[0'MB#!!+#!+(&$$$");have u:∀ {B:Hp}{a:TD}{x:Str}{i:Int},B a=!.tup [.str x,.int i]->OS B [(a,x,i)]:=λh z r=>by
   rw[LV.mp r];exact h
  cases x with
  | add a n=>
   refine#[_,JV c,_,rfl,_,JV c,_,rfl,_,JV c,_,rfl,bK rfl,λk t d g1=>#[k,_,rfl,.inr<|JV g1,rfl,rfl,?_]];exact#[_,JV<|d _ _ c,_,rfl,_,JV<|d _ _ c,_,rfl,bK rfl,λl v j g2=>#[bK rfl,λm o e g3=>q m [(l,a,(n:Int))] o ((d.trans j).trans e) g3 (u<|e _ _ g2) rfl]]
  | take a n=>
   refine#[_,JV c,_,rfl,_,JV c,_,rfl,_,JV c,_,rfl,bK rfl,λk t d g1=>#[k,_,rfl,.inr<|JV g1,rfl,rfl,?_]];exact#[_,JV<|d _ _ c,_,rfl,_,JV<|d _ _ c,_,rfl,bK rfl,λl v j g2=>#[bK rfl,λm o e g3=>q m [(l,a,-(n:Int))] o ((d.trans j).trans e) g3 (u<|e _ _ g2) rfl]]
  | send h a n=>
   refine#[_,JV c,_,rfl,_,JV c,_,rfl,_,JV c,_,rfl,bK rfl,λk t d g1=>#[k,_,rfl,.inr<|JV g1,rfl,rfl,?_]];exact#[_,JV<|d _ _ c,_,rfl,_,JV<|d _ _ c,_,rfl,bK rfl,λl v j g2=>#[bK rfl,λm o e g3=>q m [(l,a,-(n:Int))] o ((d.trans j).trans e) g3 (u<|e _ _ g2) rfl]]
  | fetch h a n=>
   refine#[_,JV c,_,rfl,_,JV c,_,rfl,_,JV c,_,rfl,bK rfl,λk t d g1=>#[k,_,rfl,.inr<|JV g1,rfl,rfl,?_]];exact#[_,JV<|d _ _ c,_,rfl,_,JV<|d _ _ c,_,rfl,bK rfl,λl v j g2=>#[bK rfl,λm o e g3=>q m [(l,a,(n:Int))] o ((d.trans j).trans e) g3 (u<|e _ _ g2) rfl]]
  | move a b n=>
   refine#[_,JV c,_,rfl,_,JV c,_,rfl,_,JV c,_,rfl,_,JV c,_,rfl,bK rfl,λl v j g2=>#[_,JV<|j _ _ c,_,rfl,_,JV<|j _ _ c,_,rfl,bK rfl,λm o e g3=>#[bK rfl,λC F y G=>?_]]];refine q C [(l,a,-(n:Int)),(m,b,(n:Int))] F ((j.trans e).trans y) G (λz r=>?_) rfl;rcases mem_cons.mp r with rfl|r
   .exact y _ _<|e _ _ g2
   rw[LV.mp r];exact y _ _ g3
  | pass h g a n=>
   exists _,JV c,_,rfl;exact#[bK rfl,λk t d g1=>q k [] t d g1 (λ_ h=>nomatch h) rfl]
inductive Jy(vs:A1)(H:Hp)(Q:VK)(E_:XK):Prop
 | mk(t c:TD)(x:Dd)(y:An):vs=[.ref t,.ref c]->H t=!.tup x.vs->H c=!.tup y.vs->An.Of x y->(∀(tp:TD)(zs:FO)(H':Hp),I7 H H'->H' tp=!(.tup<|bM zs)->OS H' zs->zs.map (·.2)=Bz x y->Q (.ref tp) H')->Jy vs H Q E_
def yM(T:Txt K mg)(b:Callee^1 "done_changes" EV Ca)(D:KY K mg "changes_of" iG WK):Callee^2 "changes_of" WK Jy:=by
 refine D.gg yG λf u A r s H vs Q E d h=>?_
 .obtain⟨t,c,x,y,rfl,gt,i,j,q⟩:=h;exists _,(!"~w-`1 >)=#+(&;/^e%0#!<(&$");exists _,JV i,_,aD5 y;show if (not (decide (Mq y="is")))=true then _ else _
  by_cases a:Mq y="is"
  .refine Dp (by rw[UF a];rfl) ?_;exact#[t,x,rfl,gt,λtp k l m g z e=>q tp k l m g z (by rw[e,Ti j a])]
  refine Xs (by rw[T0 a];rfl) ?_;exact#[bK rfl,λn o p g1=>q n [] o p g1 (λ_ h=>nomatch h) (by rw[aCr a];rfl)]
def Tj(T:Txt K mg)(B:Yg K C)(D:ClsAt K mg "Book" C "Book.__init__" cE VU [[],[.non]]):∀d∈([[],[.non]]:HF),QJ^1 "Book" C VU d (Bm C):=by
 refine D.gg sK λf L A J s H vs Q E N h=>?_
 .revert h;refine NF λp c r M=>MI λζ j G nd k q=>?_;subst ζ;exists _,(!"0~hC~i1~%=0%|}%|u`Jh 1#!~AC&;/&$");intro a m;have n:=aE j m;exists C,c,[],(by rw[aD n];exact j),B.cl,B.nA,(by show 0<1000;decide);have g1:(aH (aH H a<|.dK []) p<|.ins C c [("amounts",.ref a)]) p=!.ins C c [("amounts",.ref a)]:=aA;have g2:(aH (aH H a<|.dK []) p<|.ins C c [("amounts",.ref a)]) a=!.dK []:=by rw[aD n.symm];exact aA
  have g:∀b o,H b=!o->b≠p->(aH (aH H a<|.dK []) p<|.ins C c [("amounts",.ref a)]) b=!o:=λb o e i=>by rw[aD i,aD (aE e m)];exact e
  dsimp only;rw[aE0];generalize aH (aH H a<|.dK []) p (.ins C c [("amounts",.ref a)])=t at g1 g2 g;rcases G with⟨rfl,rfl⟩|⟨l,u,rfl,v,x,rfl⟩
  .exact q t a m g1 g2 g
  have I:l≠p:=aL v j nofun;have y:OS t u:=λz k=>g _ _ (x z k) (aL (x z k) j nofun)
  refine#[wz u,by rw[aCe];exact JX<|g _ _ v I,aDY y,by unfold wz;rw[aV];simpa using k,λd hd=>?_];have F:H d=none:=by
   cases e:H d with
   | none=>rfl
   | some o=>
    by_cases z:d=p
    .rw[z,g1]at hd;cases hd
    rw[g d o e z]at hd;cases hd
  rw[aCf,zM nd];exists C,c,_,(by rw[aD (aE g1 hd)];exact g1),B.cl,B.nA,(by show 1<1000;decide);refine q _ d F (by rw[aA,aE1]) (by rw[aD (aE g1 hd).symm];exact aA) λb o e i=>?_;rw[aD i,aD (aE (g b o e i) hd)];exact g b o e i
def rB(prs:BD)(n:Str)(v:Int):BD:=if n∈prs.map (·.1) then Rr prs n v else prs++[(n,v)]
def mE:BD->BD->BD
 | prs,[]=>prs
 | prs,q::r=>mE (rB prs q.1<|bZ prs q.1+q.2) r
theorem zU:∀(a prs:BD)(q:Str×Int),mE prs (a++[q])=rB (mE prs a) q.1 (bZ (mE prs a) q.1+q.2)
 | [],_,_=>rfl
 | p::r,prs,q=>zU r _ q
def Em{n:Str}{v:Int}:cB (mK prs) (Sum.inr n) (.int v)=mK (rB prs n v):=by
 unfold rB;by_cases h:n∈prs.map (·.1)
 .rw[LM h];exact Yh h
 rw[LK h];have a:bA (mK prs) (Sum.inr n)=none:=by
  cases e:bA (mK prs) (Sum.inr n) with
  | none=>rfl
  | some x=>
   have:=Iz e;rw[wC]at this;obtain⟨m,b,c⟩:=LA.mp this;cases c;exact IZ b h
 rw[kL _ a];unfold mK;rw[dL];rfl
def sV{n:Str}{v:Int}:(rB prs n v).map (·.1)=if n∈prs.map (·.1) then prs.map (·.1) else prs.map (·.1)++[n]:=by
 unfold rB;by_cases h:n∈prs.map (·.1)
 .rw[LM h,LM h];exact Lz _ _ _
 rw[LK h,LK h,dL];rfl
def Zc{n:Str}{v:Int}(h:(prs.map (·.1)).Nodup):((rB prs n v).map (·.1)).Nodup:=by
 rw[sV];split
 .exact h
 rename_i a;exact uQ h a
def rC:∀(a prs:BD),(prs.map (·.1)).Nodup->((mE prs a).map (·.1)).Nodup
 | [],_,h=>h
 | _::r,_,h=>rC r _<|Zc h
def Jz(prs:BD)(q:Str×Int):Prop:=0<=bZ prs q.1+q.2/\bZ prs q.1+q.2<=1000000000000
def Cb{i:Nat}(hz:OS H zs)(a:(bM zs)[i]?=!x):∃z,zs[i]?=!z/\x=.ref z.1/\H z.1=!.tup [.str z.2.1,.int z.2.2]:=by
 unfold bM at a;rw[eJ]at a;obtain⟨z,b,rfl⟩:=Option.map_eq_some_iff.mp a;exact#[z,b,rfl,hz z<|kI b]
theorem En:∀(a prs:BD),(mE prs a).length<=prs.length+a.length
 | [],prs=>bD _
 | q::r,prs=>by
  have h:=En r<|rB prs q.1<|bZ prs q.1+q.2;have b:(rB prs q.1<|bZ prs q.1+q.2).length<=prs.length+1:=by
   have:=congrArg length<|sV (prs:=prs) (n:=q.1) (v:=bZ prs q.1+q.2);rw[aV]at this;rw[this];split<;>simp
  show(mE (rB prs q.1<|bZ prs q.1+q.2) r).length<=_;rw[mY];omega
inductive oS(C:TD)(vs:A1)(H:Hp)(Q:VK)(E:XK):Prop
 | mk(p dx d t:TD)(prs:BD)(zs:FO):vs=[.ref p,.ref t]->H p=!.ins C dx [("amounts",.ref d)]->H d=!(.dK<|mK prs)->(prs.map (·.1)).Nodup->H t=!(.tup<|bM zs)->OS H zs->prs.length+zs.length<=100->(∀q∈zs.map (·.2),Jz prs q)->(∀H',H' d=!(.dK<|mK<|mE prs<|zs.map (·.2))->(∀b o,H b=!o->b≠d->H' b=!o)->Q .non H')->oS C vs H Q E
def Hl(T:Txt K mg)(B:Yg K C)(M:bP^1 C "amount" ER (lI C))(D:MethAt K C "change" "Book.change" gW ZU):bP^2 C "change" ZU (oS C):=by
 refine D.gg dQ λa0 cdv a1 outer s H vs a2 a3 A h=>?_
 .obtain⟨p,r,d,t,q,a,rfl,y,hd,nd,u,E,hl,U,V⟩:=h;have W:=dN A;have O:(bM a).length=a.length:=by unfold bM;rw[aV]
  exists _,(!"V%1|'?~f~f'H~X|D02#!D3,%|J~c|xqI&;/&WV%1|'?H~X|D02#!D3,0*2`W ~@~+~*&W&$" (BO (K:=K) (n:=2) rfl (xp (vi (i:=2) dQ.nd) (xp (vi (i:=3) dQ.nd) BP))) (BO (K:=K) (n:=2) rfl (xp (vi (i:=2) dQ.nd) (xp (vi (i:=3) dQ.nd) BP))));refine cY (λQ f=>f=H/\∃j l,Q=[!.ref p,!.ref t,j,l]) (λnx X=>?_) ?_
  .refine#[t,rfl,#[_,JV u],bT (lH K t<|bM a) (λi c f=>f=H/\∃j l,c=[!.ref p,!.ref t,j,l]) (λi c f #[e,_]=>by rw[e];exact JV u) #[rfl,_,_,rfl] ?_ λc f h=>X c f h];refine λi x c f F=>JW λζ=>JR λj l η=>?_;subst ζ η;refine JB (Cb E F) (JU λz=>JE λG ζ I=>?_);subst ζ;have L:=U z.2<|mem_map_of_mem<|kI G;exists z.1,_,rfl,JV I,rfl,_,_,rfl,_,_,rfl,rfl,r,_,y,sD _ Zk,p,z.2.1,q,rfl,#[#[r,d,y,hd],nd];refine Xs (UF L.1) ?_;show if (not (decide (bZ q z.2.1+z.2.2<=1000000000000)))=true then _ else _
   refine Dp (by rw[UF L.2];rfl) ?_;exact#[rfl,_,_,rfl]
  refine λc f=>JW λζ=>JR λj l η=>?_;subst ζ η;have S:t≠d:=aL u hd nofun;refine#[t,rfl,#[_,JV u],bT (lH K t<|bM a) (λi c v=>v d=!(.dK<|mK<|mE q<|(a.map (·.2)).take i)/\(∀b o,f b=!o->b≠d->v b=!o)/\∃j l,c=[!.ref p,!.ref t,j,l]) (λi c v #[_,k,_]=>JV<|k _ _ u S) #[hd,λb o e _=>e,_,_,rfl] ?_ ?_]
  .refine λi x c v F=>JE λg k=>JR λj l ζ=>?_;subst ζ;refine JB (Cb (λz m=>k _ _ (E z m)<|aL (E z m) hd nofun) F) (JU λz=>JE λG ζ I=>?_);subst ζ;have Y:(a.map (·.2))[i]?=some z.2:=by rw[eJ,G];rfl
   have J:=k _ _ y<|aL y hd nofun;have Z:=rC ((a.map (·.2)).take i) q nd;have hle:=En ((a.map (·.2)).take i) q;have RY:((a.map (·.2)).take i).length<=a.length:=by rw[mV,aV];exact Nat.min_le_right _ _
   exists z.1,_,rfl,JV I,rfl,_,_,rfl,_,_,rfl,rfl,r,_,J,sD _ Zk,p,z.2.1,mE q<|(a.map (·.2)).take i,rfl,#[#[r,d,J,g],Z];refine#[C,r,_,.ref d,J,B.cl,B.nA,hI _,d,_,rfl,NZ.k (k:=Sum.inr z.2.1) g ?_,?_,λb o e N=>?_,_,_,rfl]
   .unfold mK;rw[aV];exact yR (m:=1000) Zo Zd
   .rw[aA,Em,aM Y,zU]
   rw[aD N];exact k b o e N
  refine λc v=>JE λg k=>JR λj l ζ=>?_;subst ζ;refine V _ ?_ k;rw[g,O,mW (by rw[aV];exact bD _)]
def Tk(prs:BD)(n m:Str)(v:Int):bZ (rB prs n v) m=if m=n then v else bZ prs m:=by
 have a:=uT (rB prs n v) m;rw[<- Em,kK]at a;by_cases e:m=n
 .rw[LM (by rw[e])]at a;rw[LM e];injection a with a
  exact a.symm
 rw[LK (λc=>e (by injection c)),uT]at a;rw[LK e];injection a with a
 exact a.symm
theorem wU:∀(a:BD)(prs:BD)(g:Str->Nat),Tg g a->(∀z,bZ prs z=(g z:Int))->∀z,bZ (mE prs a) z=(Tf g a z:Int)
 | [],prs,g,_,h=>h
 | c::a,prs,g,b,h=>by
  refine wU a (rB prs c.1<|bZ prs c.1+c.2) (gN g c) b.2 λz=>?_;rw[Tk,h];unfold gN eE;by_cases e:z=c.1
  .rw[LM e,LM e,Int.toNat_of_nonneg b.1]
  rw[LK e,LK e];exact h z
def Eo(i:∀z,f z<=1000000000000)(m:x.Ok)(h:gM f x q y):∀c∈Bz x y,0<=(f c.1:Int)+c.2/\(f c.1:Int)+c.2<=1000000000000:=by
 have o:=m.n;rcases h with⟨rfl,h⟩|⟨rfl,j,e⟩
 .cases x with
  | add a n=>
   have:=i a;simp only [aQ]at h;split at h<;>cases h
   .exact λc d=>nomatch d
   intro c d;rw[LV.mp d];exact#[by show(0:Int)<=(f a:Int)+(n:Int);omega,by show(f a:Int)+(n:Int)<=_;omega]
  | take a n=>
   have:=i a;simp only [aQ]at h;split at h<;>cases h
   .exact λc d=>nomatch d
   intro c d;rw[LV.mp d];exact#[by show(0:Int)<=(f a:Int)+-(n:Int);omega,by show(f a:Int)+-(n:Int)<=_;omega]
  | move a b n=>
   have:=i a;have:=i b;simp only [aQ]at h;split at h
   .cases h;exact λc d=>nomatch d
   split at h<;>cases h
   .exact λc d=>nomatch d
   intro c d;rcases mem_cons.mp d with rfl|d
   .exact#[by show(0:Int)<=(f a:Int)+-(n:Int);omega,by show(f a:Int)+-(n:Int)<=_;omega]
   rw[LV.mp d];exact#[by show(0:Int)<=(f b:Int)+(n:Int);omega,by show(f b:Int)+(n:Int)<=_;omega]
  | send g a n=>
   simp only [aQ]at h;split at h<;>cases h;exact λc d=>nomatch d
  | fetch g a n=>
   simp only [aQ]at h;split at h<;>cases h;exact λc d=>nomatch d
  | pass g k a n=>cases h
 cases x with
 | add a n=>cases e
 | take a n=>cases e
 | move a b n=>cases e
 | send g a n=>
  have:=i a;simp only [aQ]at j;simp only [dU,mem_cons,GH,or_false]at e;have l:¬ f a<n:=λl=>by rw[LM l]at j;cases j
  rcases e with rfl|rfl
  .exact λc d=>nomatch d
  intro c d;rw[LV.mp d];exact#[by show(0:Int)<=(f a:Int)+-(n:Int);omega,by show(f a:Int)+-(n:Int)<=_;omega]
 | fetch g a n=>
  have:=i a;simp only [aQ]at j;simp only [dU,mem_cons,GH,or_false]at e;have l:¬ 1000000000000<f a+n:=λl=>by rw[LM l]at j;cases j
  rcases e with rfl|rfl
  .exact λc d=>nomatch d
  intro c d;rw[LV.mp d];exact#[by show(0:Int)<=(f a:Int)+(n:Int);omega,by show(f a:Int)+(n:Int)<=_;omega]
 | pass g k a n=>
  simp only [dU,mem_cons,GH,or_false]at e;rcases e with rfl|rfl|rfl<;>exact λc d=>nomatch d
def uB:Dd->List (Str×A1)
 | .send h a n=>[(h,[.str "add",.str a,.int (n:Int)])]
 | .fetch h a n=>[(h,[.str "take",.str a,.int (n:Int)])]
 | .pass h g a n=>[(h,[.str "take",.str a,.int (n:Int)]),(g,[.str "add",.str a,.int (n:Int)])]
 | _=>[]
def Hm(T:Txt K mg)(D:KY K mg "done_changes" dP EV):Callee^1 "done_changes" EV sE:=by
 refine D.gg mM λf J A I s H vs Q E L h=>?_
 .revert h;refine QL λp wd u M N=>KJ λζ b η q=>?_;subst ζ;obtain⟨one,B,nm,n,hd⟩:=η;exists _,(!"L-`0 >)=#+(&;/L-`0 >)=-`0 >[0'MBM#!!+-`0 >[0'MB#!!+#!!+(&;/|a-`0 >))#!!+=[0'MB[0'MBM#!!+#!+(&;/[0'MB[0'MB#!!+#!+(&$$$");have r:∀ {y:Hp}{a:TD}{x:Str}{i:Int},y a=!.tup [.str x,.int i]->OS y [(a,x,i)]:=λh z m=>by
   rw[LV.mp m];exact h
  have two:∀(nm:Str)(i:Int),H p=!.tup u->pI u (-2)=!.str nm->pI u (-1)=!.int i->True:=λ_ _ _ _ _=>trivial
  cases hd with
  | add=>
   exists _,JV b,_,rfl;exists _,JV b,_,rfl;refine#[_,JV b,_,rfl,Zs,λg o c g1=>#[g,_,rfl,.inr<|JV g1,rfl,rfl,?_]];refine#[_,JV<|c _ _ b,_,rfl,_,JV<|c _ _ b,_,rfl,Zs,λj t e g2=>#[Zs,λk l d g3=>q k [(j,nm,n)] l ((c.trans e).trans d) g3 (r<|d _ _ g2) rfl]]
  | take=>
   exists _,JV b,_,rfl;exists _,JV b,_,rfl;refine#[_,JV b,_,rfl,Zs,λg o c g1=>#[g,_,rfl,.inr<|JV g1,rfl,rfl,?_]];refine#[_,JV<|c _ _ b,_,rfl,_,JV<|c _ _ b,_,rfl,Zs,λj t e g2=>#[Zs,λk l d g3=>q k [(j,nm,-n)] l ((c.trans e).trans d) g3 (r<|d _ _ g2) rfl]]
  | move=>
   exists _,JV b,_,rfl;exists _,JV b,_,rfl;refine#[_,JV b,_,rfl,_,JV b,_,rfl,Zs,λj t e g2=>#[_,JV<|e _ _ b,_,rfl,_,JV<|e _ _ b,_,rfl,Zs,λk l d g3=>#[Zs,λC F v G=>?_]]];refine q C [(j,one,-n),(k,B,n)] F ((e.trans d).trans v) G (λz m=>?_) rfl;rcases mem_cons.mp m with rfl|m
   .exact v _ _<|d _ _ g2
   rw[LV.mp m];exact v _ _ g3
  | send=>
   exists _,JV b,_,rfl;exists _,JV b,_,rfl;refine#[_,JV b,_,rfl,Zs,λg o c g1=>#[g,_,rfl,.inr<|JV g1,rfl,rfl,?_]];refine#[_,JV<|c _ _ b,_,rfl,_,JV<|c _ _ b,_,rfl,Zs,λj t e g2=>#[Zs,λk l d g3=>q k [(j,nm,-n)] l ((c.trans e).trans d) g3 (r<|d _ _ g2) rfl]]
  | fetch=>
   exists _,JV b,_,rfl;exists _,JV b,_,rfl;refine#[_,JV b,_,rfl,Zs,λg o c g1=>#[g,_,rfl,.inr<|JV g1,rfl,rfl,?_]];refine#[_,JV<|c _ _ b,_,rfl,_,JV<|c _ _ b,_,rfl,Zs,λj t e g2=>#[Zs,λk l d g3=>q k [(j,nm,n)] l ((c.trans e).trans d) g3 (r<|d _ _ g2) rfl]]
  | pass=>
   exists _,JV b,_,rfl;exact#[Zd,λg o c g1=>q g [] o c g1 (λ_ h=>nomatch h) rfl]
def Ep(h:OS H zs){i:Nat}(a:(bM zs)[i]?=!x):∃z,zs[i]?=!z/\x=.ref z.1/\H z.1=!.tup [.str z.2.1,.int z.2.2]:=by
 unfold bM at a;rw[eJ]at a;cases b:zs[i]? with
 | none=>rw[b]at a;cases a
 | some z=>
  rw[b]at a;cases a;exact#[z,rfl,rfl,h z<|kI b]
def wV(T:Txt K mg)(a0:Yg K C)(G:Callee^1 "done_changes" EV sE)(I:bP^1 C "amount" ER (lI C))(D:KY K mg "done_answer" eP EN):Callee^2 "done_answer" EN (zN C):=by
 refine D.gg wO λa1 cdv a2 Z s H vs a3 a4 o h=>?_
 .revert h;refine S5 λb p wd J l L k=>MJ λζ bk M hd q=>?_;subst ζ;exists _,(!"{^R.jg0 %|H|j})#!Z?,#!~A(&" (yg rfl (js:=[none,none,!0]) (N:=QZj) (JQ.by (aB eP) EN rfl rfl Zk) (Dm<|lG rfl<|lG rfl zF) (R.cx (K:=K)<|tz G o rfl<|lc (f8 1) li) λC s₂ H₂ fp=>#[(BO (K:=K) (n:=2) rfl<|xp (vi (i:=0) (show(QZj:A2).Nodup by decide +kernel))<|xp (vi (i:=1) (show(QZj:A2).Nodup by decide +kernel)) BP),AX,(pv wv (wl I o (f8 2)<|lc (f8 0) li)<|f8 1)]));refine#[uR rfl,λO r=>#[p,wd,J,l,L,rfl,aF r _ _ M,hd,λt f u v g1 Q g=>#[t,rfl,#[_,JV g1],?_]]];have m:I7 H u:=(aF r).trans v;have y:=bk.same m;have hlen:f.length<=2:=by
   obtain⟨one,other,nm,n,hd⟩:=hd;have:=congrArg length g;rw[aV]at this;rw[this];cases hd<;>simp
  refine bB (lH K t<|bM f) (by unfold bM;rw[aV];omega) (λi a c=>c=u/\a=((f.map (·.2)).take i).map λq=>V.int<|bZ k q.1+q.2) (λi a c #[e,d]=>#[by rw[e];exact JV g1,by rw[d,aV,mV];exact Nat.min_le_left _ _]) #[rfl,rfl] (?_)<|?_
  .rintro i x a c S ⟨e,d⟩;subst e;refine JB (Ep Q S) (JU λz=>JE λU ζ W=>?_);subst ζ;refine JB (id y.ex) (JR λX a5=>JW λj A=>?_);exists z.1,_,rfl,JV W,rfl,_,_,rfl,_,_,rfl,rfl,X,_,j,sD _ Zk,b,z.2.1,k,rfl,y,rfl;rw[aM (x:=z.2) (by rw[eJ,U];rfl),dL,d];rfl
  rintro a c ⟨e,d⟩;subst e;intro l1 j;have B:a=l.map λq=>V.int (bZ k q.1+q.2):=by
   rw[d,g];have:(bM f).length=l.length:=by rw[<- g];unfold bM;rw[aV,aV]
   rw[this,take_length]
  have E:c O=!.lst [.str "is"]:=v _ _ aA;refine#[[.str "is"],a,aF j _ _ E,aA,jL (by rw[B,aV,<- g,aV];simp;omega),λl2 A=>#[_,JX aA,λY F=>?_]];refine q Y _ (((m.trans<|aF j).trans<|aF A).trans<|aF F) ?_;rw[aA,B];rfl
def Mr(T:Txt K mg)(a3:Yg K C)(Z:Callee^1 "done_changes" EV sE)(qf:Callee^1 "asks_of" EV Gs)(i5:bP^1 C "amount" ER (lI C))(xx:Callee^2 "done_answer" EN (zN C))(D:KY K mg "early" uU EN):Callee^3 "early" EN (Jr C):=by
 refine D.gg qW λa4 cdv a5 outer s a6 vs a0 a7 x h=>?_
 .revert h;refine S5 λb p wd E a g c=>MJ λζ bk O hd q=>?_;subst ζ;exists _,(!"V%`Z X%1#!<|'?`4 `qW.nd `i5 X02#!D:~g3'=~gH43,'=|Q|Px)4#!!+(&;/~T3'=~TH43,%|J~c=|Q|Px)4#!!+(&;/&$$W~T~$%ps`qf X%1#!<#!J'=~%(&;/`xx X%01#!!<(&$$" (BO (K:=K) (n:=2) rfl (xp (vi (i:=2) qW.nd) (xp (vi (i:=3) qW.nd) BP))));refine#[p,wd,E,a,g,rfl,O,hd,λt Q H1 m g1 hz S=>#[t,rfl,#[_,JV g1],?_]];have U:=bk.same m;have W:=m _ _ O;refine bT (lH K t<|bM Q) (λi B d=>I7 H1 d/\(∃F G H:EY,B=[!.ref b,!.ref p,F,G,H])/\lJ (bZ c) (qS (bZ c) a g) a=lJ (bZ c) (qS (bZ c) a g) (a.drop i)) (λi B d #[I,_]=>JV<|I _ _ g1) #[I7.refl _,#[_,_,_,rfl],rfl] ?_ ?_
  .refine λi a8 B J hx=>JE λj ζ f=>?_;obtain⟨F,G,H,rfl⟩:=ζ;refine JB (Ep (λz a1=>j _ _<|hz z a1) hx) (JU λz=>JE λhn ζ gz=>?_);subst ζ;have M:=U.same j;refine JB (id M.ex) (JR λdx a9=>JW λh1 h2=>?_);have OO:a.drop i=z.2::a.drop (i+1):=by
    have:a[i]?=some z.2:=by rw[<- S,eJ,hn];rfl
    obtain⟨hi,e⟩:=NJ.mp this;rw[List.drop_eq_getElem_cons hi,e]
   rw[OO,Dx]at f;exists z.1,_,rfl,JV gz,rfl,_,_,rfl,_,_,rfl,rfl,dx,_,h1,sD _ Zk,b,z.2.1,c,rfl,M;dsimp only [aI];have N:∀u:TV,lJ (bZ c) (qS (bZ c) a g) a=u->∀v d,I7 J d->OL d 1 u v->a0 v d:=λu e v d I a2=>q v d ((m.trans j).trans I) (by rw[e];exact a2)
   refine x4 (t:=Vz _ _) (λv d=>v=decide (z.2.2<0/\bZ c z.2.1+z.2.2<0)/\d=J) (λk o=>?_) ?_
   .refine eN (λh=>?_) λh=>?_
    .exact o _ _ #[by rw[Bool.decide_and,h];rfl,rfl]
    exact o _ _ #[by rw[Bool.decide_and,h];rfl,rfl]
   rintro v d ⟨rfl,rfl⟩;refine eN (λh=>?_) λh=>?_
   .rw[LM (WF h)]at f;exact#[Zs,λy r l g3=>N _ f _ r l #[y,_,rfl,g3,.cons .s<|.cons .i .nil]]
   rw[LK (UV h)]at f;dsimp only [kJ];refine x4 (t:=Vz _ _) (λv X=>v=decide (0<z.2.2/\1000000000000<bZ c z.2.1+z.2.2)/\X=d) (λk o=>?_) ?_
   .refine eN (λh=>?_) λh=>?_
    .exact o _ _ #[by rw[Bool.decide_and,h];rfl,rfl]
    exact o _ _ #[by rw[Bool.decide_and,h];rfl,rfl]
   rintro v X ⟨rfl,rfl⟩;refine eN (λh=>?_) λh=>?_
   .rw[LM (WF h)]at f;exact#[Zs,λy r l g3=>N _ f _ r l #[y,_,rfl,g3,.cons .s<|.cons .i .nil]]
   rw[LK (UV h)]at f;exact#[j,#[_,_,_,rfl],f]
  refine λB J=>JE λj ζ f=>?_;obtain⟨F,G,H,rfl⟩:=ζ;have el:(bM Q).length=a.length:=by rw[<- S];unfold bM;rw[aV,aV]
  rw[el,drop_length]at f;have Y:lJ (bZ c) (qS (bZ c) a g) a=qS (bZ c) a g:=f;refine#[p,wd,E,a,g,rfl,j _ _ W,hd,λy A r l g3 ha=>#[A,.inr<|JV g3,?_]];have FD:A.length=g.length:=ha.length.symm;refine eN (λh=>?_) λh=>?_
  .have L:0<A.length:=by have:=WF h;omega
   refine q _ r ((m.trans j).trans l) ?_;rw[Y];unfold qS;rw[LK (λe=>by rw[FD,e]at L;exact IZ L<|Nat.lt_irrefl _)];exact OL.scal rfl
  have L:¬ 0<A.length:=by have:=UV h;omega
  have e0:g=[]:=List.length_eq_zero_iff.mp Zo;refine#[b,p,wd,E,a,g,c,rfl,U.same<|j.trans l,l _ _<|j _ _ W,hd,λt4 H4 s4 g4=>?_];refine q _ H4 (((m.trans j).trans l).trans s4) ?_;rw[Y];unfold qS;rw[LM e0];exact#[t4,_,rfl,g4,Js<|aCg _ _]
def Tl(x:Dd):eK x.wd x.vs (bQ x) (uB x):=by
 cases x with
 | add a n=>exact#[a,a,a,_,.add]
 | take a n=>exact#[a,a,a,_,.take]
 | move a b n=>exact#[a,b,a,_,.move]
 | send g a n=>exact#[g,a,a,_,.send]
 | fetch g a n=>exact#[g,a,a,_,.fetch]
 | pass g c a n=>exact#[g,c,a,_,.pass]
def Hn(d:∀z,bZ prs z=(f z:Int))(i:x.Ok) :
  lJ (bZ prs) (qS (bZ prs) (bQ x)<|uB x) (bQ x)=(match aQ f x with|some y=>RX.tvs y.vs|none=>.sc .non):=by
 have c:=i.n
 cases x with
 | add a n=>
  have c:1<=n/\n<=1000000000000:=c;show(if (n:Int)<0/\bZ prs a+(n:Int)<0 then _ else if 0<(n:Int)/\1000000000000<bZ prs a+(n:Int) then TV.tp [tS "full",tI (bZ prs a)] else TV.tp [tS "is",tI (bZ prs a+(n:Int))])=(match (if 1000000000000<f a+n then some (An.full<|f a) else some (.is1<|f a+n)) with|some y=>RX.tvs y.vs|none=>.sc .non);rw[LK Zo,d];by_cases h:1000000000000<f a+n
  .rw[LM h,LM Zo];rfl
  rw[LK h,LK Zo];rfl
 | take a n=>
  have c:1<=n/\n<=1000000000000:=c;show(if -(n:Int)<0/\bZ prs a+-(n:Int)<0 then TV.tp [tS "short",tI (bZ prs a)] else if 0 < -(n:Int)/\1000000000000<bZ prs a+-(n:Int) then _ else TV.tp [tS "is",tI (bZ prs a+-(n:Int))])=(match (if f a<n then some (An.short<|f a) else some (.is1<|f a-n)) with|some y=>RX.tvs y.vs|none=>.sc .non);rw[d];by_cases h:f a<n
  .rw[LM h,LM Zo];rfl
  rw[LK h,LK Zo,LK Zo,show(f a:Int)+-(n:Int)=((f a-n:Nat):Int) by omega];rfl
 | move a b n=>
  have c:1<=n/\n<=1000000000000:=c;show(if -(n:Int)<0/\bZ prs a+-(n:Int)<0 then TV.tp [tS "short",tI (bZ prs a)] else if 0 < -(n:Int)/\1000000000000<bZ prs a+-(n:Int) then TV.tp [tS "full",tI (bZ prs a)] else if (n:Int)<0/\bZ prs b+(n:Int)<0 then TV.tp [tS "short",tI (bZ prs b)] else if 0<(n:Int)/\1000000000000<bZ prs b+(n:Int) then TV.tp [tS "full",tI (bZ prs b)] else TV.tp [tS "is",tI (bZ prs a+-(n:Int)),tI (bZ prs b+(n:Int))])=(match (if f a<n then some (An.short<|f a) else if 1000000000000<f b+n then some (.full<|f b) else some (.is2 (f a-n)<|f b+n)) with|some y=>RX.tvs y.vs|none=>.sc .non);rw[d,d];by_cases h:f a<n
  .rw[LM h,LM Zo];rfl
  rw[LK h,LK Zo,LK Zo,LK Zo];by_cases e:1000000000000<f b+n
  .rw[LM e,LM Zo];rfl
  rw[LK e,LK Zo,show(f a:Int)+-(n:Int)=((f a-n:Nat):Int) by omega];rfl
 | send g a n=>
  have c:1<=n/\n<=1000000000000:=c;show(if -(n:Int)<0/\bZ prs a+-(n:Int)<0 then TV.tp [tS "short",tI (bZ prs a)] else if 0 < -(n:Int)/\1000000000000<bZ prs a+-(n:Int) then _ else TV.sc .non)=(match (if f a<n then some (An.short<|f a) else none) with|some y=>RX.tvs y.vs|none=>.sc .non);rw[d];by_cases h:f a<n
  .rw[LM h,LM Zo];rfl
  rw[LK h,LK Zo,LK Zo]
 | fetch g a n=>
  have c:1<=n/\n<=1000000000000:=c;show(if (n:Int)<0/\bZ prs a+(n:Int)<0 then _ else if 0<(n:Int)/\1000000000000<bZ prs a+(n:Int) then TV.tp [tS "full",tI (bZ prs a)] else TV.sc .non)=(match (if 1000000000000<f a+n then some (An.full<|f a) else none) with|some y=>RX.tvs y.vs|none=>.sc .non);rw[LK Zo,d];by_cases h:1000000000000<f a+n
  .rw[LM h,LM Zo];rfl
  rw[LK h,LK Zo]
 | pass g j a n=>rfl
abbrev sS(z:Str):TV:=.sc<|.str z
abbrev sI(n:Int):TV:=.sc<|.int n
inductive Er(one other nm:Str)(n:Int):A1->TV->TV->Prop
 | add:Er one other nm n [.str "add",.str nm,.int n] (.tp [sS nm]) (.tp [])
 | take:Er one other nm n [.str "take",.str nm,.int n] (.tp [sS nm]) (.tp [])
 | move:Er one other nm n [.str "move",.str one,.str other,.int n] (.tp<|(qE [one,other]).map sS) (.tp [])
 | send:Er one other nm n [.str "send",.str one,.str nm,.int n] (.tp [sS nm]) (.tp [.tp [sS one,.tp [sS "add",sS nm,sI n]]])
 | fetch:Er one other nm n [.str "fetch",.str one,.str nm,.int n] (.tp [sS nm]) (.tp [.tp [sS one,.tp [sS "take",sS nm,sI n]]])
 | pass:Er one other nm n [.str "pass",.str one,.str other,.str nm,.int n] (.tp []) (.tp [.tp [sS one,.tp [sS "take",sS nm,sI n]],.tp [sS other,.tp [sS "add",sS nm,sI n]]])
inductive sW(vs:A1)(H:Hp)(Q:VK)(E_:XK):Prop
 | mk(p xs tN tA one other nm n:_):vs=[.ref p]->H p=!.tup xs->Er one other nm n xs tN tA->(∀v H',I7 H H'->OL H' 1 tN v->Q v H')->sW vs H Q E_
def Ka{H:Hp}{n:Nat}:∀a:A2,Paired (OL H n) (a.map sS) (a.map V.str)
 | []=>.nil
 | z::r=>.cons .s<|Ka r
def Es(T:Txt K mg)(D:KY K mg "names_of" lP EV):Callee^1 "names_of" EV sW:=by
 refine D.gg Ee λf m A k s H vs Q E o h=>?_
 .obtain⟨p,r,t,u,one,e,nm,n,rfl,a,hd,q⟩:=h;exists _,(!"L-`0 >)=#+(&;/L-`0 >)={^R.jg0 %|H|j{^R.ii0 %~^~m~l0'P'P]#!J#!~A(&;/[0'MB#!+(&$$")
  cases hd with
  | add=>
   exists _,JV a,_,rfl;exists _,JV a,_,rfl;exact#[_,JV a,_,rfl,Zs,λc d b g1=>q _ d b #[c,_,rfl,g1,.cons .s .nil]]
  | take=>
   exists _,JV a,_,rfl;exists _,JV a,_,rfl;exact#[_,JV a,_,rfl,Zs,λc d b g1=>q _ d b #[c,_,rfl,g1,.cons .s .nil]]
  | move=>
   exists _,JV a,_,rfl;exists _,JV a,_,rfl;refine#[_,a,λc d b g1=>#[[one,e],.inr<|JV g1,Zs,λl g=>#[_,JX aA,λi j=>?_]]];exact q _ _ ((b.trans<|aF g).trans<|aF j) #[i,_,rfl,aA,Ka _]
  | send=>
   exists _,JV a,_,rfl;exists _,JV a,_,rfl;exact#[_,JV a,_,rfl,Zs,λc d b g1=>q _ d b #[c,_,rfl,g1,.cons .s .nil]]
  | fetch=>
   exists _,JV a,_,rfl;exists _,JV a,_,rfl;exact#[_,JV a,_,rfl,Zs,λc d b g1=>q _ d b #[c,_,rfl,g1,.cons .s .nil]]
  | pass=>
   exists _,JV a,_,rfl;exact#[Zd,λc d b g1=>q _ d b #[c,_,rfl,g1,.nil]]
def Tm{N:List g}(k:N.Nodup){i j:Nat}{x:g}(a:N[i]?=!x)(b:N[j]?=!x):i=j:=by
 obtain⟨c,d⟩:=NJ.mp a;obtain⟨e,f⟩:=NJ.mp b;have h:=pairwise_iff_getElem.mp k;rcases lt_trichotomy i j with z|z|z
 .exact IZ (d.trans f.symm)<|h i j c e z
 .exact z
 exact IZ (f.trans d.symm)<|h j i e c z
def zV{d:Type}:∀ {L:List d}{i:Nat}{a:d},L.Nodup->a∉L->(L.set i a).Nodup
 | [],_,_,_,_=>by simp
 | x::r,0,a,h,b=>by
  rw[List.set_cons_zero];exact nodup_cons.mpr #[λm=>b<|cR _ m,(nodup_cons.mp h).2]
 | x::r,i+1,a,h,b=>by
  rw[List.set_cons_succ];have c:=nodup_cons.mp h;refine nodup_cons.mpr #[λm=>?_,zV c.2 λm=>b<|cR _ m];rcases mem_or_eq_of_mem_set m with z|z
  .exact c.1 z
  exact b (by rw[<- z];exact eG)
def Own(H:Hp)(L:DL):Prop:=(L.map (·.1)).Nodup/\∀q∈L,H q.1=some q.2
def Own.get(h:Own H L)(i:Nat)(e:L[i]?=!(a,o)):H a=!o:=h.2 _<|kI e
def Own.same(s:I7 H H')(h:Own H L):Own H' L:=#[h.1,λq a=>s _ _<|h.2 q a]
def Own.keys(h:Own H L)(a:H b=none):b∉L.map (·.1):=λm=>by
 obtain⟨q,c,e⟩:=LA.mp m;rw[<- e,h.2 q c]at a;cases a
def Own.set(h:Own H L)(i:Nat)(e:L[i]?=!(a,o))(o':HO):Own (aH H a o') (L.set i (a,o')):=by
 obtain⟨l,d⟩:=NJ.mp e;refine#[?_,λq f=>?_]
 .have:(L.set i (a,o')).map (·.1)=L.map (·.1):=by
   rw[map_set];apply ext_getElem Zs;intro j m p;rw[getElem_set];split
   .rename_i z;subst z;simp[d]
   rfl
  rw[this];exact h.1
 obtain⟨j,c,b⟩:=List.mem_iff_getElem.mp f;rw[getElem_set]at b;split at b
 .rw[<- b];exact aA
 rename_i g;rw[List.length_set]at c;have k:L[j]∈L:=getElem_mem c;have:q.1≠a:=λz=>by
  have n:=Tm h.1 (i:=i) (j:=j) (x:=a) (by rw[eJ,e];rfl) (by rw[eJ,hX c,b,<- z];rfl);exact g n
 rw[aD this,<- b];exact h.2 _ k
def Own.swap(h:Own H L)(i:Nat)(a:b∉L.map (·.1))(g:H b=!o):Own H (L.set i (b,o)):=by
 refine#[?_,λq c=>?_]
 .rw[map_set];exact zV h.1 a
 rcases mem_or_eq_of_mem_set c with m|m
 .exact h.2 q m
 rw[m];exact g
def Own.cons(h:Own H L)(b:a∉L.map (·.1))(g:H a=!o):Own H ((a,o)::L):=
 #[by rw[map_cons];exact nodup_cons.mpr #[b,h.1],List.forall_mem_cons.mpr #[g,h.2]]
def Own.new(h:Own H L)(b:H a=none):Own (aH H a o) ((a,o)::L):=(h.same<|aF b).cons (h.keys b) aA
def iB(g:H a=!o)(b:∀xs,o≠.tup xs):TK H (aH H a o'):=λc xs e=>by
 rw[aD (λz=>by rw[z,g]at e;exact b xs<|Option.some.inj e)];exact e
def TK.of(s:I7 H H'):TK H H':=λc a e=>s _ _ e
def Own.ne(h:Own H L){i j:Nat}(c:L[i]?=!(a,o))(d:L[j]?=!(b,o'))(f:i≠j):a≠b:=λe=>
 f (Tm h.1 (x:=a) (by rw[eJ,c];rfl) (by rw[eJ,d,e];rfl))
def Own.at(h:Own H L)(i:Nat)(e:L[i]?=!(a,o))(g:H' a=!o')(k:∀b u,H b=!u->b≠a->H' b=!u):Own H' (L.set i (a,o')):=by
 have c:=h.set i e o';refine#[c.1,λq d=>?_];by_cases z:q.1=a
 .have:=c.2 q d;rw[z,aA]at this;rw[z,g];exact this
 have:=c.2 q d;rw[aD z]at this;exact k _ _ this z
def Own.sub(h:Own H L)(s:a.Sublist L):Own H a:=#[h.1.sublist<|s.map _,λq b=>h.2 q<|s.subset b]
def Own.snoc(h:Own H L)(b:a∉L.map (·.1))(g:H a=!o):Own H (L++[(a,o)]):=by
 refine#[?_,λq c=>(MN.mp c).elim (h.2 q) λz=>by rw[LV.mp z];exact g];rw[dL];exact nodup_append.mpr #[h.1,Zs,λx d y f e=>b<|(show y=a by simpa using f)▸e▸d]
structure CK where
 (D M R J B Ks:TD)
structure Rn where
 (p dx:TD)
 (n:Nat)
 (q:Str×Str)
 (d:TD)
 (x:Dd)
 (st:Str)
 (pl un:Int)
abbrev DM:=List Rn
def Rn.fs(r:Rn):CB:=[("number",.int r.n),("asker",.str r.q.1),("key",.str r.q.2),("deed",.ref r.d),("stage",.str r.st),("place",.int r.pl),("undos",.int r.un)]
structure DA where
 (dr dx hd j jx jl me mx bk bx bd ks rn:TD)
 (kf:KF)
structure DS where
 (name:Str)
 (life turn:Int)
 (next:Nat)
 (hs:DI)
 (prs:BD)
 (m:KM)
 (L:Nat)
 (runs:DM)
 (rows:A1)
 (safe:Int)
def jf(a:TD)(n:Int):CB:=[("written",.ref a),("safe_count",.int n)]
def df(a:DA)(s:DS):CB:=[("name",.str s.name),("life",.int s.life),("houses",.ref a.hd),("journal",.ref a.j),("memory",.ref a.me)]
def mf(a:DA)(turn:Int)(next:Int):CB:=[("turn",.int turn),("book",.ref a.bk),("standing",.ref a.ks),("runs",.ref a.rn),("next_number",.int next)]
def aS(rs:DM):DI:=rs.map λr=>(Sum.inl (r.n:Int),.ref r.p)
def pH(c:CK)(r:Rn):TD×HO:=(r.p,.ins c.R r.dx r.fs)
def DA.fix(a:DA):List Addr:=[a.dr,a.hd,a.j,a.jl,a.me,a.bk,a.bd,a.ks,a.kf.db,a.kf.ds,a.rn]
def DA.objs(c:CK)(a:DA)(s:DS)(bs b:BW):DL:=
  [(a.dr,.ins c.D a.dx<|df a s),(a.hd,.dK s.hs),(a.j,.ins c.J a.jx<|jf a.jl s.safe),(a.jl,.lst s.rows),(a.me,.ins c.M a.mx<|mf a s.turn s.next),(a.bk,.ins c.B a.bx [("amounts",.ref a.bd)]),(a.bd,.dK<|mK s.prs),
   (a.ks,.ins c.Ks a.kf.dx<|zP a.kf s.life),(a.kf.db,.dT bs),(a.kf.ds,.dT b),(a.rn,.dK<|aS s.runs)]
def DA.all(c:CK)(a:DA)(s:DS)(bs b:BW):DL:=a.objs c s bs b++s.runs.map (pH c)
structure K1(c:CK)(H:Hp)(a:DA)(s:DS):Prop where
 own:∃bs ss,Own H (a.all c s bs ss)/\MT H bs s.m fB s.L/\MT H ss s.m fS s.L
 nd:(s.prs.map (·.1)).Nodup
 up:s.runs.Pairwise λr r'=>r.n<r'.n
 dd:∀r∈s.runs,H r.d=!.tup r.x.vs
def kP(c:CK)(a:DA)(s:DS)(bs b:BW):(a.all c s bs b).map (·.1)=a.fix++s.runs.map (·.p):=by
 unfold DA.all;rw[dL,map_map];rfl
def Kb{a:DA}{s:DS}{bs b:BW}:∀q∈a.all c s bs b,∀xs,q.2≠.tup xs:=by
 intro q d xs;rcases MN.mp d with m|m
 .simp only [DA.objs,mem_cons,GH,or_false]at m;rcases m with rfl|rfl|rfl|rfl|rfl|rfl|rfl|rfl|rfl|rfl|rfl<;>exact λz=>nomatch z
 obtain⟨r,_,rfl⟩:=LA.mp m;exact λz=>nomatch z
structure Mv(a:DA)(s s':DS)(H H':Hp):Prop where
 fr:∀c o,H c=!o->c∉a.fix++s.runs.map (·.p)->H' c=!o
 nw:∀r∈s'.runs,r.p∈s.runs.map (·.p)∨H r.p=none
 gr:∀c,H' c=none->H c=none
def I7.gr(k:I7 H H')(c:TD)(e:H' c=none):H c=none:=by
 cases z:H c with
 | none=>rfl
 | some o=>rw[k _ _ z]at e;cases e
def Mv.same{s:DS}(k:I7 H H'):Mv a s s H H':=#[λc o e _=>k c o e,λr b=>.inl<|mem_map_of_mem b,λc e=>I7.gr k c e]
def Mv.trans{s f g:DS}(x:Mv a s f H H1)(y:Mv a f g H1 H2):Mv a s g H H2:=by
 refine#[λc o e b=>y.fr c o (x.fr c o e b) λm=>?_,λr d=>?_,λc e=>x.gr c<|y.gr c e]
 .rcases MN.mp m with m|m
  .exact b<|IN _ m
  obtain⟨r,d,rfl⟩:=LA.mp m;rcases x.nw r d with z|z
  .exact b<|GJ _ z
  rw[z]at e;cases e
 rcases y.nw r d with z|z
 .obtain⟨h,i,e⟩:=LA.mp z;rw[<- e];exact x.nw h i
 exact .inr<|x.gr _ z
section
variable {c:CK}{a:DA}{s s':DS}
def K1.out(h:K1 c H a s)(e:H b=!o)(f:∃xs,o=.tup xs):b∉a.fix++s.runs.map (·.p):=by
 refine JB h.own (JR λbs g=>JE λi _ _=>?_);obtain⟨xs,rfl⟩:=f;intro m;rw[<- kP c a s bs g]at m;obtain⟨q,d,rfl⟩:=LA.mp m;have:=i.2 q d;rw[e]at this;exact Kb q d xs (Option.some.inj this).symm
def K1.fresh(h:K1 c H a s)(d:H b=none):b∉a.fix++s.runs.map (·.p):=by
 refine JB h.own (JR λbs f=>JE λe _ _=>?_);have:=e.keys d
 rwa [kP]at this
def Mv.tk(m:Mv a s s' H H')(h:K1 c H a s):TK H H':=λb d e=>m.fr _ _ e<|h.out e #[d,rfl]
def K1.keep(h:K1 c H a s)(k:∀b o,H b=!o->b∈a.fix++s.runs.map (·.p)->H' b=!o)(t:TK H H'):K1 c H' a s:=by
 refine JB h.own (JR λbs d=>JE λe g i=>?_);refine#[#[bs,d,#[e.1,λq f=>k _ _ (e.2 q f) ?_],g.keep t,i.keep t],h.nd,h.up,λr j=>t _ _<|h.dd r j];rw[<- kP c a s bs d];exact mem_map_of_mem f
def K1.same(h:K1 c H a s)(k:I7 H H'):K1 c H' a s:=h.keep (λb o e _=>k b o e)<|TK.of k
def K1.put(h:K1 c H a s)(i:Nat)(s':DS)(e:∀bs d,(a.all c s bs d)[i]?=!(p,o))(x:∀bs d,(a.all c s bs d).set i (p,o')=a.all c s' bs d)(g:H' p=!o')(k:∀b u,H b=!u->b≠p->H' b=!u)(j:s'.m=s.m)(l:s'.L=s.L)(y:(s'.prs.map (·.1)).Nodup)(f:s'.runs=s.runs) :
  K1 c H' a s'/\Mv a s s' H H':=by
 refine JB h.own (JR λbs d=>JE λn A B=>?_);have C:p∈a.fix++s.runs.map (·.p):=by
  rw[<- kP c a s bs d];exact mem_map_of_mem (kI<|e bs d)
 have t:TK H H':=λb D z=>k _ _ z λw=>Kb (p,o) (kI<|e bs d) D (Option.some.inj<|(n.2 _<|kI<|e bs d).symm.trans<|w▸z)
 have v:=n.at i (e bs d) g k;rw[x bs d]at v;refine#[#[#[bs,d,v,?_,?_],y,by rw[f];exact h.up,by rw[f];exact λr m=>t _ _<|h.dd r m],#[λb u z E=>k b u z λw=>E<|w▸C,λr m=>.inl (by rw[f]at m;exact mem_map_of_mem m),λb z=>?_]]
 .rw[j,l];exact A.keep t
 .rw[j,l];exact B.keep t
 cases w:H b with
 | none=>rfl
 | some u=>
  by_cases q:b=p
  .rw[q,g]at z;cases z
  rw[k b u w q]at z;cases z
def K1.dr(h:K1 c H a s):H a.dr=!(.ins c.D a.dx<|df a s):=let #[_,_,b,_]:=h.own;b.get 0 rfl
def K1.hd(h:K1 c H a s):H a.hd=!.dK s.hs:=let #[_,_,b,_]:=h.own;b.get 1 rfl
def K1.j(h:K1 c H a s):H a.j=!(.ins c.J a.jx<|jf a.jl s.safe):=let #[_,_,b,_]:=h.own;b.get 2 rfl
def K1.jl(h:K1 c H a s):H a.jl=!.lst s.rows:=let #[_,_,b,_]:=h.own;b.get 3 rfl
def K1.me(h:K1 c H a s):H a.me=!(.ins c.M a.mx<|mf a s.turn s.next):=let #[_,_,b,_]:=h.own;b.get 4 rfl
def K1.bk(h:K1 c H a s):H a.bk=!.ins c.B a.bx [("amounts",.ref a.bd)]:=let #[_,_,b,_]:=h.own;b.get 5 rfl
def K1.bd(h:K1 c H a s):H a.bd=!(.dK<|mK s.prs):=let #[_,_,b,_]:=h.own;b.get 6 rfl
def K1.ks(h:K1 c H a s):H a.ks=!(.ins c.Ks a.kf.dx<|zP a.kf s.life):=let #[_,_,b,_]:=h.own;b.get 7 rfl
def K1.rn(h:K1 c H a s):H a.rn=!(.dK<|aS s.runs):=let #[_,_,b,_]:=h.own;b.get 10 rfl
def K1.run(h:K1 c H a s)(b:r∈s.runs):H r.p=!.ins c.R r.dx r.fs:=let #[_,_,d,_]:=h.own;d.2 (pH c r) (GJ _<|mem_map_of_mem b)
def K1.book(h:K1 c H a s):OQ c.B H a.bk s.prs:=#[#[_,_,h.bk,h.bd],h.nd]
def K1.ky(h:K1 c H a s):MM c.Ks H a.ks a.kf s.life s.m s.L:=by
 refine JB h.own (JR λbs d=>JE λb e f=>?_);exact#[b.get 7 rfl,#[bs,b.get 8 rfl,e],#[d,b.get 9 rfl,f],b.ne (i:=8) (j:=9) rfl rfl Zd]
def K1.keys(h:K1 c H a s){j:Nat}(k:MM c.Ks H' a.ks a.kf s.life m' j)(fr:Y9 H H' a.kf):K1 c H' a {s with m:=m',L:=j }/\Mv a s {s with m:=m',L:=j } H H':=by
 refine JB h.own (JR λbs p=>JE λd J M=>?_);obtain⟨v,g1,G⟩:=k.hb;obtain⟨x,g2,I⟩:=k.hs;have y:=d.get 8 rfl;have A:=d.get 9 rfl;have t:TK H H':=λb N z=>fr _ _ z (aL z y λw=>nomatch w) (aL z A λw=>nomatch w)
 have B:∀q∈a.all c s bs p,(∀n,q.2≠.dT n)->H' q.1=some q.2:=λq f l=>fr _ _ (d.2 q f) (aL (d.2 q f) y<|l _) (aL (d.2 q f) A<|l _)
 have F:Own H' (a.all c {s with m:=m',L:=j } v x):=by
  refine#[by rw[kP];have:=d.1;rwa [kP]at this,λq f=>?_];rcases MN.mp f with m|m
  .simp only [DA.objs,mem_cons,GH,or_false]at m;have z:∀(i:Nat)(q:TD×HO),(a.all c s bs p)[i]?=!q->(∀n,q.2≠.dT n)->H' q.1=some q.2:=λi q e l=>B q (kI e) l
   rcases m with rfl|rfl|rfl|rfl|rfl|rfl|rfl|rfl|rfl|rfl|rfl
   .exact z 0 _ rfl λ_ w=>nomatch w
   .exact z 1 _ rfl λ_ w=>nomatch w
   .exact z 2 _ rfl λ_ w=>nomatch w
   .exact z 3 _ rfl λ_ w=>nomatch w
   .exact z 4 _ rfl λ_ w=>nomatch w
   .exact z 5 _ rfl λ_ w=>nomatch w
   .exact z 6 _ rfl λ_ w=>nomatch w
   .exact z 7 _ rfl λ_ w=>nomatch w
   .exact g1
   .exact g2
   exact z 10 _ rfl λ_ w=>nomatch w
  obtain⟨r,g,rfl⟩:=LA.mp m;exact B (pH c r) (GJ _<|mem_map_of_mem g) λ_ w=>nomatch w
 refine#[#[#[v,x,F,G,I],h.nd,h.up,λr g=>t _ _<|h.dd r g],#[λb o z C=>fr b o z ?_ ?_,λr g=>.inl<|mem_map_of_mem g,λb z=>?_]]
 .exact λw=>C (by rw[w];simp[DA.fix])
 .exact λw=>C (by rw[w];simp[DA.fix])
 cases w:H b with
 | none=>rfl
 | some u=>
  by_cases D:b=a.kf.db
  .rw[D,g1]at z;cases z
  by_cases E:b=a.kf.ds
  .rw[E,g2]at z;cases z
  rw[fr b u w D E]at z;cases z
def K1.rput(h:K1 c H a s)(hs:s.runs=d++r::g)(j:r'.p=r.p)(n:r'.n=r.n)(B:r'.d=r.d)(C:r'.x=r.x) :
  K1 c (aH H r.p<|.ins c.R r'.dx r'.fs) a {s with runs:=d++r'::g }/\Mv a s {s with runs:=d++r'::g } H (aH H r.p<|.ins c.R r'.dx r'.fs):=by
 refine JB h.own (JR λbs i=>JE λD E F=>?_);have k:r∈s.runs:=by rw[hs];simp
 have gr:=h.run k;have t:TK H (aH H r.p<|.ins c.R r'.dx r'.fs):=iB gr λ_ z=>nomatch z
 have p:(a.objs c s bs i++d.map (pH c)).length=11+d.length:=by simp[DA.objs];omega
 have v:a.all c s bs i=(a.objs c s bs i++d.map (pH c))++pH c r::g.map (pH c):=by
  unfold DA.all;rw[hs,dL,map_cons,append_assoc]
 have G:aS (d++r'::g)=aS s.runs:=by rw[hs];unfold aS;simp[j,n]
 have I:a.objs c {s with runs:=d++r'::g } bs i=a.objs c s bs i:=by unfold DA.objs df;dsimp only;rw[G]
 have J:(a.all c s bs i)[11+d.length]?=!(r.p,.ins c.R r.dx r.fs):=by
  rw[v,List.getElem?_append_right Zo,p,sub_self];rfl
 have A:=D.set _ J<|.ins c.R r'.dx r'.fs;have L:(a.all c s bs i).set (11+d.length) (r.p,.ins c.R r'.dx r'.fs)=a.all c {s with runs:=d++r'::g } bs i:=by
  rw[v,List.set_append_right _ _ Zo,p,sub_self,List.set_cons_zero];unfold DA.all;rw[I];show _=a.objs c s bs i++List.map (pH c) (d++r'::g);rw[dL,map_cons,append_assoc];have:pH c r'=(r.p,.ins c.R r'.dx r'.fs):=by unfold pH;rw[j]
  rw[this]
 rw[L]at A;refine#[#[#[bs,i,A,E.keep t,F.keep t],h.nd,?_,λq l=>?_],#[λb o z M=>?_,λq l=>.inl ?_,λb z=>?_]]
 .have:=h.up;rw[hs]at this;have e:(d++r'::g).map (·.n)=(d++r::g).map (·.n):=by simp[n]
  have:=(pairwise_map (f:=λ(r:Rn)=>r.n) (R:=λ(x y:Nat)=>x<y)).mpr this;rw[<- e]at this;exact pairwise_map.mp this
 .rcases MN.mp l with m|m
  .exact t _ _<|h.dd q (by rw[hs];exact IN _ m)
  rcases mem_cons.mp m with rfl|m
  .rw[B,C];exact t _ _<|h.dd r k
  exact t _ _<|h.dd q (by rw[hs];simp[m])
 .rw[aD λw=>M (by rw[w];exact GJ _<|mem_map_of_mem k)];exact z
 .rw[hs];rcases MN.mp l with m|m
  .exact mem_map_of_mem<|IN _ m
  rcases mem_cons.mp m with rfl|m
  .rw[j];exact mem_map_of_mem Zs
  exact mem_map_of_mem (by simp[m])
 cases w:H b with
 | none=>rfl
 | some u=>
  by_cases q:b=r.p
  .rw[q,aA]at z;cases z
  rw[aD q,w]at z;cases z
end
def oT(a:H p=none)(s:I7 H H1):I7 H (aH H1 p o):=λc u e=>by
 rw[aD (aE e a)];exact s _ _ e
def aY(h:y∈xs++[x]):y∈xs∨y=x:=by
 rcases MN.mp h with h|h
 .exact .inl h
 exact .inr<|LV.mp h
def QR(kvs:DI)(f:Str->Nat):Prop:=∀z:Str,(bA kvs<|Sum.inr z).getD (.int 0)=.int (f z:Int)
def QR.put(h:QR kvs f)(z:Str)(v:Nat):QR (cB kvs (Sum.inr z)<|.int (v:Int)) (eE f z v):=λy=>by
 rw[kK];unfold eE;by_cases e:y=z
 .rw[LM (by rw[e]),LM e];rfl
 rw[LK (λc=>e (by injection c)),LK e];exact h y
def Ze(x:Dd)(y:An):(Bz x y).length<=2:=by cases x<;>cases y<;>exact IY rfl
def dW:RX->Str|.next _ _=>"next"|.has _ _=>"has"|.kept _ _ _ _ _ _=>"kept"|.came _ _ _ _ _=>"came"|.asked _=>"asked"|.done _ _ _=>"done"
def rj:RX->V|.next n _=>.int (n:Int)|.has z _=>.str z|.kept n _ _ _ _ _=>.int (n:Int)|.came n _ _ _ _=>.int (n:Int)|.asked n=>.int (n:Int)|.done n _ _=>.int (n:Int)
def rp:RX->V|.next _ t=>.int (t:Int)|.has _ m=>.int (m:Int)|.kept _ t _ _ _ _=>.int (t:Int)|.came _ t _ _ _=>.int (t:Int)|.asked _=>.non|.done _ t _=>.int (t:Int)
def uC(h:r.At H a):∃xs,H a=!.tup xs/\pI xs 0=!(.str<|dW r)/\pI xs 1=!rj r/\(rp r≠.non->pI xs 2=!rp r):=by
 cases r with
 | next n t=>exact#[_,h,rfl,rfl,λ_=>rfl]
 | has z m=>exact#[_,h,rfl,rfl,λ_=>rfl]
 | kept n t p k d y=>revert h;refine JR λb c=>JE λe f g=>?_;exact#[_,e,rfl,rfl,λ_=>rfl]
 | came n t p k d=>obtain⟨b,e,f⟩:=h;exact#[_,e,rfl,rfl,λ_=>rfl]
 | asked n=>exact#[_,h,rfl,rfl,λz=>IZ rfl z]
 | done n t y=>obtain⟨b,e,f⟩:=h;exact#[_,e,rfl,rfl,λ_=>rfl]
def kE(rs:BR):Str->Nat:=rs.foldl (λf r=>match r with|.has z m=>eE f z m|_=>f) λ_=>0
def To(rs:BR):DI:=rs.filterMap λr=>match r with|.has z m=>some (Sum.inr z,.int (m:Int))|_=>none
theorem fG:∀(rs:BR)(kvs:DI)(f:Str->Nat),QR kvs f->QR (aK kvs<|To rs) (rs.foldl (λf r=>match r with|.has z m=>eE f z m|_=>f) f)
 | [],kvs,f,h=>h
 | r::rs,kvs,f,h=>by
  cases r with
  | has z m=>exact fG rs _ _ (h.put z m)
  | next n t=>exact fG rs _ _ h
  | kept n t p k x y=>exact fG rs _ _ h
  | came n t p k x=>exact fG rs _ _ h
  | asked n=>exact fG rs _ _ h
  | done n t y=>exact fG rs _ _ h
def aCu(h:dW r="has"):∃z m,r=.has z m:=by
 cases r with
 | has z m=>exact#[z,m,rfl]
 | next n t=>exact IZ (show("next":Str)="has" from h) Zk
 | kept n t p k x y=>exact IZ (show("kept":Str)="has" from h) Zk
 | came n t p k x=>exact IZ (show("came":Str)="has" from h) Zk
 | asked n=>exact IZ (show("asked":Str)="has" from h) Zk
 | done n t y=>exact IZ (show("done":Str)="has" from h) Zk
def Zf(h:dW r="next"):∃n t,r=.next n t:=by
 cases r with
 | next n t=>exact#[n,t,rfl]
 | has z m=>exact IZ (show("has":Str)="next" from h) Zk
 | kept n t p k x y=>exact IZ (show("kept":Str)="next" from h) Zk
 | came n t p k x=>exact IZ (show("came":Str)="next" from h) Zk
 | asked n=>exact IZ (show("asked":Str)="next" from h) Zk
 | done n t y=>exact IZ (show("done":Str)="next" from h) Zk
def Zh(h:dW r="kept"):∃n t p k x y,r=.kept n t p k x y:=by
 cases r with
 | kept n t p k x y=>exact#[n,t,p,k,x,y,rfl]
 | has z m=>exact IZ (show("has":Str)="kept" from h) Zk
 | next n t=>exact IZ (show("next":Str)="kept" from h) Zk
 | came n t p k x=>exact IZ (show("came":Str)="kept" from h) Zk
 | asked n=>exact IZ (show("asked":Str)="kept" from h) Zk
 | done n t y=>exact IZ (show("done":Str)="kept" from h) Zk
def kQ:RX->bC|.next n _=>Sum.inl (n:Int)|.has z _=>Sum.inr z|.kept n _ _ _ _ _=>Sum.inl (n:Int)|.came n _ _ _ _=>Sum.inl (n:Int)|.asked n=>Sum.inl (n:Int)|.done n _ _=>Sum.inl (n:Int)
def aCv(r:RX):rj r=kV (kQ r):=by cases r<;>rfl
def mF(wd:Str)(r:RX)(a:TD):DI:=if dW r=wd then [(kQ r,.ref a)] else []
def bN(wd:Str)(rs:BR)(as:BZ):Nat->DI
 | 0=>[]
 | i+1=>bN wd rs as i++(match rs[i]?,as[i]? with|some r,!a=>mF wd r a|_,_=>[])
def kW{wd:Str}{i:Nat}(b:rs[i]?=!r)(c:as[i]?=!a):bN wd rs as (i+1)=bN wd rs as i++mF wd r a:=by
 simp only [bN,b,c]
theorem wW(wd:Str)(rs:BR)(as:BZ):∀i,(bN wd rs as i).length<=i
 | 0=>bD _
 | i+1=>by
  have:=wW wd rs as i;unfold bN;rw[mU];split
  .unfold mF;split<;>simp<;>omega
  simp;omega
theorem wX{wd:Str}{rs:BR}{as:BZ}{k:bC}{v:V}:∀ {i:Nat},(k,v)∈bN wd rs as i->∃j r a,j<i/\rs[j]?=!r/\as[j]?=!a/\dW r=wd/\k=kQ r/\v=.ref a
 | 0,h=>nomatch h
 | i+1,h=>by
  unfold bN at h;rcases MN.mp h with h|h
  .refine JB (wX h) (LB λj r a=>JW λc b=>?_);exact#[j,r,a,Zo,b]
  split at h
  .rename_i r a d e;unfold mF at h;split at h
   .rename_i f;have:=LV.mp h;injection this with c b
    exact#[i,r,a,lt_succ_self _,d,e,f,c,b]
   cases h
  cases h
theorem Et{wd:Str}{rs:BR}{as:BZ}{j:Nat}{r:RX}{a:TD}(b:rs[j]?=!r)(c:as[j]?=!a)(d:dW r=wd):∀ {i:Nat},j<i->(kQ r,V.ref a)∈bN wd rs as i
 | 0,h=>nomatch h
 | i+1,h=>by
  by_cases e:j=i
  .subst e;rw[kW b c];refine GJ _ ?_;unfold mF;rw[LM d];exact eG
  unfold bN;exact IN _<|Et b c d Zo
def Ho(kvs l:DI)(k:bC)(v:V):aK kvs (l++[(k,v)])=cB (aK kvs l) k v:=by unfold aK;rw[foldl_append];rfl
theorem qA{k:bC}{v:V}:∀ {l kvs:DI},bA (aK kvs l) k=!v->(k,v)∈l∨bA kvs k=!v
 | [],kvs,h=>.inr h
 | (a,b)::l,kvs,h=>by
  have c:bA (aK (cB kvs a b) l) k=!v:=h;rcases qA c with h1|h1
  .exact .inl<|cR _ h1
  rw[kK]at h1;by_cases e:k=a
  .rw[LM e]at h1;injection h1 with h1
   rw[<- h1,e];exact .inl eG
  rw[LK e]at h1;exact .inr h1
theorem Eu{k:bC}:∀ {l kvs:DI},(k∈l.map (·.1)∨∃v,bA kvs k=!v)->∃v,bA (aK kvs l) k=!v
 | [],kvs,h=>by
  rcases h with h|h
  .cases h
  exact h
 | (a,b)::l,kvs,h=>by
  refine Eu (l:=l) (kvs:=cB kvs a b) ?_;rcases h with h|⟨v,h⟩
  .rcases mem_cons.mp h with h|h
   .right
    rw[kK,LM h];exact#[_,rfl]
   exact .inl h
  right
  rw[kK];split
  .exact#[_,rfl]
  exact#[v,h]
def wY{wd:Str}(q:rs.length=as.length)(d:r∈rs)(e:dW r=wd):∃(j:Nat)(r':RX)(a:TD),bA (!"?|kN~n~arv" []) (kQ r)=!.ref a/\rs[j]?=!r'/\as[j]?=!a/\dW r'=wd/\kQ r=kQ r':=by
 obtain⟨j,c,f⟩:=getElem_of_mem d;have g:rs[j]?=!r:=by rw[hX c,f]
 have h:as[j]?=some as[j]:=hX Zo;have i:=Et g h e c;obtain⟨v,b⟩:=Eu (kvs:=[]) (k:=kQ r) (l:=bN wd rs as rs.length)<|.inl<|mem_map_of_mem i;rcases qA b with h4|h4
 .refine JB (wX h4) (LB λm r' n=>MI λ_ g1 g2 g3 o p=>?_);rw[p]at b;exact#[m,r',n,b,g1,g2,g3,o]
 cases h4
inductive uV(vs:A1)(H:Hp)(Q:VK)(E_:XK):Prop
 | mk(ra:TD)(wd:Str)(rs:BR)(as:BZ):vs=[.ref ra,.str wd]->JY H ra rs as->rs.length<=400->(∀(p:TD)(H':Hp),H p=none->H' p=!(.dK<|aK []<|bN wd rs as rs.length)->I7 H H'->Q (.ref p) H')->uV vs H Q E_
def yN(D:KY K mg "by_numbers" iJ Z4):Callee^1 "by_numbers" Z4 uV:=by
 refine D.gg kB λf O A N s H vs Q E y h=>?_
 .obtain⟨l,wd,e,j,rfl,n,S,q⟩:=h;have z:=dN y;have le:=n.len;exists _,(!"`2 `kB.nd ~h:V%0u`3 `kB.nd tL-`3 >1=32-`3 >~W~@~+~*&;/&W2(&$$");refine λp o=>?_;have T:p≠l:=(aE n.lst o).symm;dsimp only [aI];refine cY (λb k=>∃c,b=[!.ref l,!.str wd,!.ref p,c]/\k p=!(.dK<|aK []<|bN wd e j e.length)/\I7 H k) (λU B=>?_) ?_
  .refine#[l,rfl,#[_,JX<|fE n.lst o],bT (aX K l<|j.map V.ref) (λi b k=>∃c,b=[!.ref l,!.str wd,!.ref p,c]/\k p=!(.dK<|aK []<|bN wd e j i)/\I7 H k) (λi b k #[_,_,_,C]=>JX<|C _ _ n.lst)
    #[_,rfl,aA,aF o] ?_ ?_]
   .refine λi x b t F=>JU λc=>JE λζ g1 d=>?_;subst ζ;refine JB ((n.same d).get F) (JR λa r=>KJ λζ u v G=>?_);subst ζ;refine JB (uC G) (JU λW=>KJ λg I J X=>?_);have Y:=(NJ.mp u).1;have Z:=wW wd e j i;have L:=gQ (bN wd e j i) [];exists _,JV g,_,I;show if decide (dW r=wd)=true then _ else _
    refine eN (λh=>?_) λh=>?_
    .have M:NZ t p (rj r) (.ref a) (aH t p<|.dK<|cB (aK []<|bN wd e j i) (kQ r)<|.ref a):=by
      rw[aCv];exact NZ.k g1 (yR (m:=1000) (by simp at L;omega) Zd)
     exists _,JV g,_,J,p,_,rfl,M
     .refine#[_,rfl,?_,oT o d];rw[aA,kW v u];unfold mF;rw[LM (WF h),Ho]
    refine#[_,rfl,?_,d];rw[kW v u];unfold mF;rw[LK (UV h),append_nil];exact g1
   refine λb t=>JU λc=>JE λζ g1 d=>?_;subst ζ;rw[aV,<- le]at g1;exact B _ _ #[c,rfl,g1,d]
  rintro b t ⟨c,rfl,g1,d⟩;exact q p t o g1 d
def kX(h:RX.Whole rs){n t t':Nat}{p k b c:Str}(h1:.came n t p k x∈rs)(h2:.came n t' b c d∈rs):RX.came n t p k x=.came n t' b c d:=by
 induction h with
 | nil=>cases h1
 | snoc f a e=>
  rcases aY h1 with h1|h1
  .rcases aY h2 with h2|h2
   .exact e h1 h2
   rw[<- h2]at a;exact IZ (a.1 _ _ _ _ _ h1)<|Nat.lt_irrefl _
  rcases aY h2 with h2|h2
  .rw[<- h1]at a;exact IZ (a.1 _ _ _ _ _ h2)<|Nat.lt_irrefl _
  rw[h1,h2]
def gO(h:RX.Whole rs){n t:Nat}(h1:.done n t y∈rs):∃a p k x,RX.came n a p k x∈rs/\An.Of x y:=by
 induction h with
 | nil=>cases h1
 | snoc f d e=>
  rcases aY h1 with h1|h1
  .refine JB (e h1) (NF λa p k x=>JW λb c=>?_);exact#[a,p,k,x,IN _ b,c]
  rw[<- h1]at d;revert d;refine JE λ_ _=>NF λa p k x=>JE λb c _=>?_;exact#[a,p,k,x,IN _ b,c]
def uW(h:dW r="came"):∃n t p k x,r=.came n t p k x:=by
 cases r with
 | came n t p k x=>exact#[n,t,p,k,x,rfl]
 | has z m=>exact IZ (show("has":Str)="came" from h) Zk
 | next n t=>exact IZ (show("next":Str)="came" from h) Zk
 | kept n t p k x y=>exact IZ (show("kept":Str)="came" from h) Zk
 | asked n=>exact IZ (show("asked":Str)="came" from h) Zk
 | done n t y=>exact IZ (show("done":Str)="came" from h) Zk
def oU(h:dW r="done"):∃n t y,r=.done n t y:=by
 cases r with
 | done n t y=>exact#[n,t,y,rfl]
 | has z m=>exact IZ (show("has":Str)="done" from h) Zk
 | next n t=>exact IZ (show("next":Str)="done" from h) Zk
 | kept n t p k x y=>exact IZ (show("kept":Str)="done" from h) Zk
 | asked n=>exact IZ (show("asked":Str)="done" from h) Zk
 | came n t p k x=>exact IZ (show("came":Str)="done" from h) Zk
structure QK(rs:BR)(F:Nat->Str->Nat)(f:Str->Nat):Prop where
 z:F 0=kE rs
 done:∀i n t y,rs[i]?=!.done n t y->∃t0 p k x q,.came n t0 p k x∈rs/\gM (F i) x q y/\F (i+1)=after (F i) x y
 rest:∀i r,rs[i]?=!r->dW r≠"done"->F (i+1)=F i
 last:F rs.length=f
def jH:RX->Bool|.came _ _ _ _ _=>true|_=>false
def dA(rs:BR):DO:=rs.filterMap λr=>match r with|.done n _ _=>some n|_=>none
def bW(rs:BR):DO:=rs.filterMap λr=>match r with|.came n _ _ _ _=>some n|_=>none
def iZ{n:Nat}(h:n∈dA rs):∃t y,.done n t y∈rs:=by
 obtain⟨r,a,e⟩:=mem_filterMap.mp h;cases r<;>cases e;exact#[_,_,a]
def sX{n t:Nat}{p k:Str}(h:.came n t p k x∈rs):n∈bW rs:=mem_filterMap.mpr #[_,h,rfl]
def Tp(h:RX.Whole rs):(dA rs).Nodup:=by
 induction h with
 | nil=>exact nodup_nil
 | @snoc rs r j d c=>
  unfold dA at c ⊢;rw[GG];cases r with
  | done n t y=>
   refine nodup_append.mpr #[c,Zs,λa e b f=>?_];have g:b=n:=by simpa using f
   subst g;rintro rfl;obtain⟨k,l,i⟩:=iZ e;exact d.2.1 _ _ i
  | _=>simpa using c
def Cc{xs:DO}:∀ {ys:DO},xs.Nodup->(∀x∈xs,x∈ys)->xs.length<=ys.length:=by
 induction xs with
 | nil=>exact λ_ _=>zero_le _
 | cons x r c=>
  intro ys d h;obtain⟨f,g⟩:=nodup_cons.mp d;have a:=h x eG;have:=c (ys:=ys.erase x) g λy b=>(List.mem_erase_of_ne λe=>f (by rw[<- e];exact b)).mpr (h y<|cR _ b)
  rw[List.length_erase_of_mem a]at this;have i:0<ys.length:=List.length_pos_of_mem a;rw[mY];omega
def Zi{n:Str}{v:Int}{a:A2}(h:∀m∈prs.map (·.1),m∈a)(b:n∈a):∀m∈(rB prs n v).map (·.1),m∈a:=by
 rw[sV];split
 .exact h
 intro m hm;rcases MN.mp hm with hm|hm
 .exact h m hm
 cases LV.mp hm;exact b
def Cd{a:A2}:∀(b prs:BD),(∀m∈prs.map (·.1),m∈a)->(∀q∈b,q.1∈a)->∀m∈(mE prs b).map (·.1),m∈a
 | [],_,h,_=>h
 | q::r,_,h,c=>Cd r _ (Zi h<|c q eG) λp d=>c p<|cR _ d
def Kc{xs:A2}:∀ {ys:A2},xs.Nodup->(∀x∈xs,x∈ys)->xs.length<=ys.length:=by
 induction xs with
 | nil=>exact λ_ _=>zero_le _
 | cons x r c=>
  intro ys d h;obtain⟨f,g⟩:=nodup_cons.mp d;have a:=h x eG;have:=c (ys:=ys.erase x) g λy b=>(List.mem_erase_of_ne λe=>f (by rw[<- e];exact b)).mpr (h y<|cR _ b)
  rw[List.length_erase_of_mem a]at this;have i:0<ys.length:=List.length_pos_of_mem a;rw[mY];omega
def Tq:RX->Prop|.has _ m=>m<=1000000000000|.came _ _ _ _ d=>d.Ok|_=>True
def Hq(h:∀r∈rs,Tq r)(z:Str):kE rs z<=1000000000000:=by
 have:∀(rs:BR)(f:Str->Nat),(∀r∈rs,Tq r)->(∀z,f z<=1000000000000)->∀z,rs.foldl (λf r=>match r with|.has z m=>eE f z m|_=>f) f z<=1000000000000:=by
  intro rs;induction rs with
  | nil=>exact λf _ a=>a
  | cons r rs b=>
   intro f h a z;rw[foldl_cons];refine b _ (λr c=>h r<|cR _ c) ?_ z
   cases r with
   | has y m=>exact mD a (h _ eG)
   | _=>exact a
 exact this rs _ h (λ_=>zero_le _) z
def QK.leS{rs:BR}{F:Nat->Str->Nat}{f:Str->Nat}(h:QK rs F f)(ok:∀r∈rs,Tq r):∀i,i<=rs.length->∀z,F i z<=1000000000000
 | 0,_,z=>by rw[h.z];exact Hq ok z
 | i+1,g,z=>by
  have a:=h.leS ok i Zo;obtain⟨r,b⟩:∃r,rs[i]?=!r:=#[rs[i],hX Zo];by_cases e:dW r="done"
  .refine JB (oU e) (LB λn t y ζ=>?_);subst ζ;refine JB (h.done i n t y b) (QL λj p k x q=>JE λ_ c d=>?_);rw[d];exact El a c z
  rw[h.rest i r b e];exact a z
def kY(rs:BR):BD:=rs.filterMap λr=>match r with|.has z m=>some (z,(m:Int))|_=>none
theorem zW:∀rs:BR,To rs=mK (kY rs)
 | []=>rfl
 | r::rs=>by
  have a:=zW rs;unfold To kY mK at a ⊢;cases r<;>simp only [FS,map_cons]<;>first|exact a|rw[a]
def Ev(h:(z,m)∈kY rs):∃m',.has z m'∈rs:=by
 obtain⟨r,a,e⟩:=mem_filterMap.mp h;cases r<;>cases e;exact#[_,a]
def Ce(h:RX.Whole rs):((kY rs).map (·.1)).Nodup:=by
 induction h with
 | nil=>exact nodup_nil
 | @snoc rs r l d c=>
  have e:kY (rs++[r])=kY rs++kY [r]:=by unfold kY;rw[GG]
  rw[e,dL];cases r with
  | has z m=>
   refine nodup_append.mpr #[c,by simp[kY],λa f b g=>?_];have i:b=z:=by simpa [kY]using g
   subst i;rintro rfl;obtain⟨q,j,rfl⟩:=LA.mp f;obtain⟨n,k⟩:=Ev (z:=q.1) (m:=q.2) j;exact IZ (d.2.2 _ _ k) (List.lt_irrefl _)
  | _=>simpa [kY]using c
def Tr(h:RX.Whole rs)(z:Str):bZ (kY rs) z=(kE rs z:Int):=by
 have a:=fG rs [] (λ_=>0) (λ_=>rfl) z;rw[zW,zM (Ce h),uT]at a;injection a
inductive Cf(C:TD)(vs:A1)(H:Hp)(Q:VK)(E_:XK):Prop
 | mk(ra:TD)(rs:BR)(as:BZ):vs=[.ref ra]->JY H ra rs as->rs.length<=400->RX.Whole rs->(∀(p dx d:TD)(H':Hp),H p=none->H d=none->H' p=!.ins C dx [("amounts",.ref d)]->H' d=!(.dK<|mK<|kY rs)->I7 H H'->Q (.ref p) H')->Cf C vs H Q E_
def yO(T:Txt K mg)(S:QJ^1 "Book" C VU [] (Bm C))(D:KY K mg "first_book" fV ET):Callee^3 "first_book" ET (Cf C):=by
 refine D.gg yH λa6 cdv a7 outer s H vs a8 a9 U h=>?_
 .obtain⟨B,u,W,rfl,n,hl,X,a0⟩:=h;have le:=n.len;exists _,(!"~M`U %?#!~Q(&" (yg rfl (js:=[none]) (N:=EO) (JQ.by (aB fV) ET rfl rfl Zk) (aR rfl) (xo (K:=K)<|f8 0) λC s₂ H₂ fp=>#[(vi (i:=0) (show(EO:A2).Nodup by decide +kernel)),(BF<|re ww (sw K 0) pc),(xn AY (f8 0) (vm o0) yi)]));exists B,rfl,#[_,JX n.lst];refine bB (aX K B<|W.map V.ref) (by rw[aV];omega) (λi c b=>∃a:FO,c=bM a/\OS b a/\a.map (·.2)=kY (u.take i)/\I7 H b/\a.length<=i) (λi c b #[a,e,_,_,d,o]=>#[JX<|d _ _ n.lst,by rw[e];unfold bM;rw[aV];exact o]) #[[],rfl,(λ_ h=>nomatch h),rfl,(λ_ _ e=>e),bD _] (?_)<|?_
  .refine λi x c b g=>JU λa=>MJ λe p f d o=>?_;refine JB ((n.same d).get g) (JR λb0 r=>KJ λζ ha Y E=>?_);subst ζ;refine JB (uC E) (JU λxs=>KJ λa1 x0 x1 x2=>?_);have F:=aM Y;have A:kY (u.take i++[r])=kY (u.take i)++kY [r]:=by unfold kY;rw[GG]
   exists _,JV a1,_,x0;show if decide (dW r="has")=true then _ else _
   refine eN (λh=>?_) λh=>?_
   .refine JB (aCu<|WF h) (JR λz m ζ=>?_);subst ζ;refine#[_,E,λtp G I g2=>#[a++[(tp,z,(m:Int))],by rw[e];unfold bM;rw[dL];rfl,λa2 v=>?_,?_,d.trans I,by simp;omega]]
    .rcases aY v with v|rfl
     .exact I _ _<|p a2 v
     exact g2
    rw[dL,f,F,A];rfl
   refine#[a,e,p,?_,d,Zo];rw[f,F,A];have:kY [r]=[]:=by
    cases r with
    | has z m=>exact IZ rfl (UV h)
    | _=>rfl
   rw[this,append_nil]
  refine λc b=>JU λa=>MJ λe p f d o=>?_;intro l J;rw[aV]at o f;rw[<- le,mW (bD _)]at f;have j:I7 H (aH b l<|.lst c):=d.trans<|aF J;have L:(aH b l<|.lst c) l=!(.lst<|bM a):=by rw[aA,e]
  have M:OS (aH b l<|.lst c) a:=λz y=>fE (p z y) J
  generalize aH b l (.lst c)=O at j L M;intro x q g KG d8;have t:I7 O (aH (aH O q<|.own x) x<|.ins C q []):=λa3 a4 e=>by
   rw[aD (aE e g),aD (aE e KG)];exact e
  refine#[x,q,.ref l,a.map (·.2),rfl,aA,.inr #[l,a,rfl,t _ _ L,λz y=>t _ _<|M z y,rfl],by rw[f];exact Ce X,by rw[aV];omega,λG a5 hd h1 Q k=>#[rfl,?_]];rw[f]at Q;refine a0 x q a5 G (j.free g) (j.free<|t.free hd) h1 Q λa3 a4 e=>k _ _ (t _ _<|j _ _ e)<|aE (j _ _ e) g
def Ts(rs:BR)(nm:A2):Prop:=nm.length<=43/\(∀z m,RX.has z m∈rs->z∈nm)/\∀n t p k x y c,RX.came n t p k x∈rs->c∈Bz x y->c.1∈nm
inductive Cg(C:TD)(vs:A1)(H:Hp)(Q:VK)(E_:XK):Prop
 | mk(ra cd:TD)(rs:BR)(as:BZ)(F:Nat->Str->Nat)(f:Str->Nat)(nm:A2):vs=[.ref ra,.ref cd]->JY H ra rs as->rs.length<=400->Ts rs nm->RX.Whole rs->(∀r∈rs,Tq r)->QK rs F f->H cd=!(.dK<|aK []<|bN "came" rs as rs.length)->(∀(p dx d:TD)(prs:BD)(H':Hp),H p=none->H d=none->H' p=!.ins C dx [("amounts",.ref d)]->H' d=!(.dK<|mK prs)->(prs.map (·.1)).Nodup->(∀z,bZ prs z=(f z:Int))->prs.length<=43->I7 H H'->Q (.ref p) H')->Cg C vs H Q E_
def uX(s:RX.Whole rs)(RR:JY H r rs as){n t:Nat}{p k:Str}(d:.came n t p k x∈rs):∃(a b:TD)(t':Nat),bA (!"??N~n~arv" [] "came") (Sum.inl (n:Int))=!.ref a/\H a=!.tup [.str "came",.int (n:Int),.int (t':Int),.str p,.str k,.ref b]/\H b=!.tup x.vs:=by
 refine JB (wY RR.len d (wd:="came") rfl) (LB λj I e=>MJ λu f y l m=>?_);refine JB (uW l) (QL λg t' J L M ζ=>?_);subst ζ;have z:n=g:=by
  have:(Sum.inl (n:Int):bC)=Sum.inl (g:Int):=m;injection this with this
  omega
 subst z;have o:=kX s d<|kI f;injection o with _ _ A B C
 subst A;subst B;subst C;refine JB (RR.get (i:=j) (v:=.ref e) (by rw[eJ,y];rfl)) (JR λN O=>KJ λc G h D=>?_);injection c with c
 subst c;rw[f]at h;injection h with c
 subst c;obtain⟨E,F,q⟩:=D;exact#[e,E,t',u,F,q]
def yP(T:Txt K mg)(yr:Callee^3 "first_book" ET (Cf C))(P1:Callee^2 "changes_of" WK Jy)(K4:bP^2 C "change" ZU (oS C))(D:KY K mg "risen_book" iK CU):Callee^4 "risen_book" CU (Cg C):=by
 refine D.gg kC λa0 cdv a5 outer s a1 vs a6 a7 H h=>?_
 .obtain⟨A,I,Q,W,F,a0,nm,rfl,r,hl,J,u,U,B,gcd,q⟩:=h;have j7:=dN H;have le:=r.len;exists _,(!"`2 `kC.nd `yr ~o%0#!<:V%0u`3 `kC.nd tL-`3 >)=`K4 ~o2`P1 ~o%[c1-`3 >T'B-`3 >#!!<#!DE&;/&W2(&$$");refine#[A,Q,W,rfl,r,Zo,u,λp E d H1 fp X Y gd Z=>?_];have npd:p≠d:=aL Y gd nofun;dsimp only [aI];refine cY (λl g=>∃(a:BD)(v:EY),l=[!.ref A,!.ref I,!.ref p,v]/\g p=!.ins C E [("amounts",.ref d)]/\g d=!(.dK<|mK a)/\(a.map (·.1)).Nodup/\(∀z,bZ a z=(a0 z:Int))/\(∀z∈a.map (·.1),z∈nm)/\I7 a1 g) (λnx z8=>?_) ?_
  .refine#[A,rfl,#[_,JX<|Z _ _ r.lst],bT (aX K A<|W.map V.ref) (λi l g=>∃(a:List (Str × Int))(v:EY),l=[!.ref A,!.ref I,!.ref p,v]/\g p=!.ins C E [("amounts",.ref d)]/\g d=!(.dK<|mK a)/\(a.map (·.1)).Nodup/\(∀z,bZ a z=(F i z:Int))/\(∀z∈a.map (·.1),z∈nm)/\I7 a1 g) (λi l g #[_,_,_,_,_,_,_,_,s']=>JX<|s' _ _ r.lst)
    #[kY Q,_,rfl,Y,gd,Ce u,λz=>by rw[B.z];exact Tr u z,(λz R=>let #[q,L,e]:=LA.mp R;let #[m',O8]:=Ev (z:=q.1) (m:=q.2) L;e ▸ J.2.1 _ _ O8),Z] ?_ ?_]
   .refine λi a8 l M hx=>JR λa v=>QZ λζ j x b c o f=>?_;subst ζ;refine JB ((r.same f).get hx) (JR λa9 a2=>KJ λζ ha G yn=>?_);subst ζ;have hil:i<Q.length:=(NJ.mp G).1;refine JB (uC yn) (JU λxs=>KJ λa3 x0 x1 x2=>?_);have qg:=aM G;exists _,JV a3,_,x0;show if decide (dW a2="done")=true then _ else _
    refine eN (λh=>?_) λh=>?_
    .refine JB (oU<|WF h) (LB λn t y ζ=>?_);subst ζ;obtain⟨cy,gr,gy⟩:=yn;refine JB (B.done i n t y G) (QL λt0 pp kk xd qq=>JE λN hR SA=>?_);refine JB (gO u<|kI G) (NF λt0' pp' kk' xd'=>JW λaH' KN=>?_);have ecm:=kX u N aH';injection ecm with _ _ _ _ e5
     subst e5;have SD:xd.Ok:=U _ N;refine JB (uX u (r.same f) N) (LB λca cb ct=>JE λhv NK NL=>?_);have SE:LP M I (.int (n:Int)) (!.ref ca):=by rw[<- hv];exact LP.k (k:=Sum.inl (n:Int)) (f _ _ gcd)
     obtain⟨ea,hG⟩:=uA SD hR;have hle:=B.leS U i Zo;refine#[E,_,j,sD _ Zk,_,JV gr,_,rfl,I,_,rfl,SE,_,JV NK,_,rfl,_,JV gr,_,rfl,cb,cy,xd,y,rfl,NL,gy,KN,λtp zs H3 O g3 R S=>?_];have lz:zs.length<=2:=by
      have:=congrArg length S;rw[aV]at this;have:=Ze xd y;omega
     refine#[p,E,d,tp,a,zs,rfl,O _ _ j,O _ _ x,b,g3,R,?_,λqc L=>?_,λH4 g4 k4=>?_]
     .have:=Kc b o;have:=J.1;simp only [aV]at *;omega
     .rw[S]at L;have:=Eo hle SD hR qc L;unfold Jz;rw[c];exact this
     rw[S]at g4;refine#[mE a<|Bz xd y,_,rfl,k4 _ _ (O _ _ j) npd,g4,rC _ _ b,λz=>?_,?_,λa4 b0 e=>k4 _ _ (O _ _<|f _ _ e)<|aE e X]
     .rw[wU _ _ _ hG c,ea,SA]
     exact Cd _ _ o λa4 hc=>J.2.2 _ _ _ _ _ _ _ N hc
    refine#[a,_,rfl,j,x,b,λz=>?_,?_,f]
    .rw[B.rest i a2 G (UV h)];exact c z
    exact o
   refine λl M=>JR λa v=>QZ λζ j x b c o f=>?_;subst ζ;rw[aV,<- le]at c;rw[B.last]at c;exact z8 _ _ #[a,_,rfl,j,x,b,c,o,f]
  refine λl M=>JR λa v=>QZ λζ j x b c o f=>?_;subst ζ;exact q p E d a M fp X j x b c (by have:=Kc b o;have:=J.1;simp only [aV]at *;omega) f
abbrev E6:=Nat×Nat×Str×Str×Dd×An
abbrev DE:=List E6
abbrev Gf:=List (E6×TD)
abbrev O4:=Nat×Str×Str×Dd
def PV(H:Hp)(e:E6)(a:TD):Prop:=∃b c,H a=!.tup [.int (e.1:Int),.int (e.2.1:Int),.str e.2.2.1,.str e.2.2.2.1,.ref b,.ref c]/\H b=!.tup e.2.2.2.2.1.vs/\H c=!.tup e.2.2.2.2.2.vs
def UN(H:Hp)(e:O4)(a:TD):Prop:=∃b,H a=!.tup [.int (e.1:Int),.str e.2.1,.str e.2.2.1,.ref b]/\H b=!.tup e.2.2.2.vs
def PV.tk(s:TK H H')(h:PV H e a):PV H' e a:=let #[b,c,d,f,g]:=h;#[b,c,s _ _ d,s _ _ f,s _ _ g]
def UN.tk(s:TK H H')(h:UN H e a):UN H' e a:=let #[b,c,d]:=h;#[b,s _ _ c,s _ _ d]
def fH(rs:BR)(n:Nat):Option (Str×Str×Dd):=rs.findSome? λr=>match r with|.came m _ p k x=>if m=n then some (p,k,x) else none|_=>none
def jA(c:RX.Whole rs){n t:Nat}{p k:Str}(b:.came n t p k x∈rs):fH rs n=!(p,k,x):=by
 cases h:fH rs n with
 | none=>
  unfold fH at h;have:=List.findSome?_eq_none_iff.mp h _ b;simp at this
 | some v=>
  unfold fH at h;obtain⟨r,d,e⟩:=List.exists_of_findSome?_eq_some h
  cases r with
  | came m j l o q=>
   dsimp only at e;by_cases a:m=n
   .rw[LM a]at e;subst a;have:=kX c b d;injection this with _ _ f g i
    rw[<- e,f,g,i]
   rw[LK a]at e;cases e
  | _=>cases e
def hW:RX->DE|.kept n t p k x y=>[(n,t,p,k,x,y)]|_=>[]
def jZ(rs:BR):RX->DE
 | .done n t y=>match fH rs n with|some (p,k,x)=>[(n,t,p,k,x,y)]|none=>[]
 | _=>[]
def bH(rs:BR):DE:=rs.flatMap hW++rs.flatMap (jZ rs)
def cG(f:a->List b)(xs:List a)(x:a):(xs++[x]).flatMap f=xs.flatMap f++f x:=by rw[flatMap_append];simp
def Ew(h:dW r≠"kept"):hW r=[]:=by cases r<;>first|rfl|exact IZ rfl h
def wZ(h:dW r≠"done"):jZ rs r=[]:=by cases r<;>first|rfl|exact IZ rfl h
def kZ(a:RX.Whole rs){n t b:Nat}{p k:Str}(c:.came n b p k x∈rs):jZ rs (.done n t y)=[(n,t,p,k,x,y)]:=by
 show(match fH rs n with|some (p,k,x)=>[(n,t,p,k,x,y)]|none=>[])=_;rw[jA a c]
def Paired.append'(h:Paired R xs ys)(h':Paired R b c):Paired R (xs++b) (ys++c):=by
 induction h with
 | nil=>exact h'
 | cons a t f=>exact .cons a f
def Tt(rs:BR)(f:RX->DE)(h:∀r,(f r).length<=1):(rs.flatMap f).length<=rs.length:=by
 induction rs with
 | nil=>exact bD _
 | cons r rs a=>have:=h r;rw[FM,mU,mY];omega
def Tu(r:RX):(hW r).length<=1:=by cases r<;>exact IY rfl
inductive Ch(vs:A1)(H:Hp)(Q:VK)(E_:XK):Prop
 | mk(ra cd:TD)(rs:BR)(as:BZ):vs=[.ref ra,.ref cd]->JY H ra rs as->rs.length<=400->RX.Whole rs->H cd=!(.dK<|aK []<|bN "came" rs as rs.length)->(∀(l:TD)(ls:BZ)(H':Hp),H l=none->H' l=!(.lst<|ls.map V.ref)->Paired (PV H') (bH rs) ls->I7 H H'->Q (.ref l) H')->Ch vs H Q E_
def yQ(T:Txt K mg)(D:KY K mg "risen_kept" dY CU):Callee^1 "risen_kept" CU Ch:=by
 refine D.gg pO λa7 cdv a8 outer s a0 vs a9 b0 hr h=>?_
 .obtain⟨m,H,p,W,rfl,q,hl,I,gcd,a1⟩:=h;have j7:=dN hr;have le:=q.len;exists _,(!"?}2?,(&$" (R.dj (i:=2) pO.nd rfl (Or.inl rfl) rfl (js:=[none]) (N:=EO) (JQ.by (aB dY) lL rfl rfl Zk) (aR rfl) (xo (K:=K) (f8 0)) (λa2 s₂ H₂ fp=>#[(vi (i:=0) (show(EO:A2).Nodup by decide +kernel)),(BF<|re ww (sw K 0) pc),(xn AY (f8 0) (vm o0) yi)]) rfl) (yg rfl (js:=[none,!1]) (N:=["row","came"]) (JQ.by (aB dY) lL rfl rfl Zk) (aR rfl) (xo (K:=K)<|f8 0) λa2 s₂ H₂ fp=>#[(vi (i:=0) (show(["row","came"]:A2).Nodup by decide +kernel)),(BF<|re ww (sw K 0) pc),(pv BJ (pv BJ (xn AY (f8 0) (vm o0)<|vm o0)<|xn AY (xr j7 (f8 1)<|sw K 0) (vm o0) yi)<|xn AY (f8 0) (vm o0) yi)]));refine cY (λU a=>∃(u:TD)(ls:BZ),U=[!.ref m,!.ref H,!.ref u]/\a u=!(.lst<|ls.map V.ref)/\Paired (PV a) (p.flatMap hW) ls/\I7 a0 a) (λnx z8=>?_) ?_
  .exists m,rfl,#[_,JX q.lst];refine bB (aX K m<|W.map V.ref) (by rw[aV];omega) (λi d a=>∃ls:BZ,d=ls.map V.ref/\Paired (PV a) ((p.take i).flatMap hW) ls/\I7 a0 a/\ls.length<=i) (λi d a #[ls,e,_,b,j]=>#[JX<|b _ _ q.lst,by rw[e,aV];exact j]) #[[],rfl,.nil,(λ_ _ e=>e),bD _] (?_)<|?_
   .refine λi x d a J=>JU λls=>KJ λe f b j=>?_;refine JB ((q.same b).get J) (JR λa3 r=>KJ λζ ha B v=>?_);subst ζ;refine JB (uC v) (JU λxs=>KJ λg L x1 x2=>?_);have y:=aM B;exists _,JV g,_,L;show if decide (dW r="kept")=true then _ else _
    refine eN (λh=>?_) λh=>?_
    .refine JB (Zh<|WF h) (RG λn t a4 k x a5 ζ=>?_);subst ζ;refine JB v (JR λb1 M=>JE λA O gx3=>?_);refine#[_,A,λtp X c g2=>#[ls++[tp],by rw[e,dL];rfl,?_,b.trans c,by simp;omega]];rw[y,cG];exact Paired.snoc (Paired.map' (λ_ _ z=>z.tk<|I7.tk c) f) #[b1,M,g2,c _ _ O,c _ _ gx3]
    refine#[ls,e,?_,b,Zo];rw[y,cG,Ew (UV h),append_nil];exact f
   refine λd a=>JU λls=>KJ λe f b j=>?_;intro u Y;rw[aV,<- le,mW (bD _)]at f;exact z8 _ _ #[u,ls,rfl,by rw[aA,e],Paired.map' (λ_ _ z=>z.tk<|I7.tk<|aF Y) f,b.trans<|aF Y]
  refine λU H1=>JR λu ls=>KJ λζ JK Z C=>?_;subst ζ;have E:=q.same C;have lk:=Z.length;have lk1:=Tt p hW Tu;exists m,rfl,#[_,JX E.lst];refine bB (aX K m<|W.map V.ref) (by rw[aV];omega) (λi d a=>∃ls:BZ,d=ls.map V.ref/\Paired (PV a) ((p.take i).flatMap<|jZ p) ls/\I7 H1 a/\ls.length<=i) (λi d a #[ls,e,_,b,j]=>#[JX<|b _ _ E.lst,by rw[e,aV];exact j]) #[[],rfl,.nil,(λ_ _ e=>e),bD _] (?_)<|?_
  .refine λi x d a J=>JU λF=>KJ λe f b j=>?_;refine JB ((E.same b).get J) (JR λa3 r=>KJ λζ ha B v=>?_);subst ζ;refine JB (uC v) (JU λxs=>KJ λg L x1 x2=>?_);have y:=aM B;exists _,JV g,_,L;show if decide (dW r="done")=true then _ else _
   refine eN (λh=>?_) λh=>?_
   .refine JB (oU<|WF h) (LB λn t a5 ζ=>?_);subst ζ;obtain⟨M,A,O⟩:=v;refine JB (gO I<|kI B) (NF λt0 a4 k x=>JW λU1 _=>?_);refine JB (uX I (E.same b) U1) (LB λca cb ct=>JE λhv NK NL=>?_);have SE:∀Q,I7 a Q->LP Q H (.int (n:Int)) (!.ref ca):=λQ ss=>by rw[<- hv];exact LP.k (k:=Sum.inl (n:Int)) (ss _ _<|b _ _<|C _ _ gcd)
    refine#[_,A,λt1 X c g2=>#[_,JV<|c _ _ A,_,rfl,H,_,rfl,SE X c,_,c _ _ NK,λt2 H3 l g3=>#[_,_,l _ _ g2,g3,IY rfl,λt3 H4 s4 g4=>#[_,s4 _ _<|l _ _<|c _ _ A,λt4 H5 s5 g5=>#[_,_,s5 _ _ g4,g5,IY rfl,λt5 H6 s6 g6=>?_]]]]];have G:I7 a H6:=(((c.trans l).trans s4).trans s5).trans s6;refine#[F++[t5],by rw[e,dL];rfl,?_,b.trans G,by simp;omega];rw[y,cG,kZ I U1];exact Paired.snoc (Paired.map' (λ_ _ z=>z.tk<|I7.tk G) f) #[cb,M,g6,G _ _ NL,G _ _ O]
   refine#[F,e,?_,b,Zo];rw[y,cG,wZ (UV h),append_nil];exact f
  refine λd a=>JU λF=>KJ λe f b j=>?_;intro kl2 SH;rw[aV,<- le,mW (bD _)]at f;rw[aV]at j;have c:=b.trans<|aF (o:=.lst d) SH;refine#[_,_,c _ _ JK,aA,by rw[e,aV,aV];exact jL Zo,λa6 S=>?_];have l:=c.trans<|aF (o:=.lst (ls.map V.ref++d)) S;refine a1 a6 (ls++F) _ (C.free<|c.free S) (by rw[aA,e,dL]) ?_<|C.trans l;exact Paired.append' (Paired.map' (λ_ _ z=>z.tk<|I7.tk l) Z)<|Paired.map' (λ_ _ z=>z.tk<|I7.tk<|(aF SH).trans<|aF S) f
def mG(wd:Str)(rs:BR)(k:bC):Bool:=rs.any λr=>decide (dW r=wd)&&decide (kQ r=k)
def sY{wd:Str}(c:rs.length=as.length)(k:bC):(bA (!"?|kN~n~arv" []) k).isSome=mG wd rs k:=by
 cases h:mG wd rs k with
 | true=>
  obtain⟨r,d,e⟩:=any_eq_true.mp h;rw[Bool.and_eq_true]at e;refine JB (wY c d<|WF e.1) (LB λj g a=>JW λb _=>?_);rw[WF e.2]at b;rw[b];rfl
 | false=>
  cases b:bA (!"?|kN~n~arv" []) k with
  | none=>rfl
  | some v=>
   exfalso;rcases qA b with h4|h4
   .refine JB (wX h4) (LB λj r a=>MI λ_ g1 g2 g3 f i=>?_);have:=any_eq_false.mp h r<|kI g1;rw[UF g3,UF f.symm]at this;exact this rfl
   cases h4
def fI(rs:BR)(n:Nat):Bool:=mG "asked" rs (Sum.inl (n:Int))&&(not (mG "done" rs (Sum.inl (n:Int))))
def mO(rs:BR):RX->List O4|.came n _ p k x=>if fI rs n=true then [(n,p,k,x)] else []|_=>[]
def cS(rs:BR):List O4:=rs.flatMap<|mO rs
def sZ(h:RX.Whole rs):(bW rs).Pairwise (·<·):=by
 induction h with
 | nil=>exact .nil
 | @snoc rs r l d c=>
  have e:bW (rs++[r])=bW rs++bW [r]:=by unfold bW;rw[GG]
  rw[e];cases r with
  | came n t p k x=>
   refine pairwise_append.mpr #[c,List.pairwise_singleton _ _,λa f b g=>?_];have i:b=n:=LV.mp g;subst i;obtain⟨r,j,e⟩:=mem_filterMap.mp f;cases r<;>cases e;exact d.1 _ _ _ _ _ j
  | _=>simpa [bW]using c
theorem tD{rs:BR}{as:BZ}(c:rs.length=as.length):∀i,i<=rs.length->(bN "came" rs as i).map (·.1)=(bW<|rs.take i).map λn:Nat=>(Sum.inl (n:Int):bC)
 | 0,_=>rfl
 | i+1,f=>by
  obtain⟨r,b⟩:∃r,rs[i]?=!r:=#[rs[i],hX Zo];obtain⟨a,d⟩:∃a,as[i]?=!a:=#[as[i],hX Zo];have e:bW (rs.take i++[r])=bW (rs.take i)++bW [r]:=by unfold bW;rw[GG]
  rw[kW b d,aM b,e,dL,dL,tD c i Zo]
  congr 1
  unfold mF;by_cases h:dW r="came"
  .rw[LM h];refine JB (uW h) (QL λn t p k x ζ=>?_);subst ζ;rfl
  rw[LK h];cases r<;>first|rfl|exact IZ rfl h
def xA(c:RX.Whole rs)(d:rs.length=as.length):aK [] (!"?N~n~ar" "came")=bN "came" rs as rs.length:=by
 rw[oN _ _ ?_ (λ_ _=>rfl)]
 .rfl
 rw[tD d _ (bD _),mW (bD _)];show List.Pairwise (·≠·) _;rw[pairwise_map];exact(sZ c).imp λ{a b} h e=>by
  have:(Sum.inl (a:Int):bC)=Sum.inl (b:Int):=e;injection this with this
  omega
def bX(rs:BR):DO:=rs.filterMap λr=>match r with|.next n _=>some n|_=>none
def cQ(rs:BR):DO:=rs.filterMap λr=>match r with|.next _ t=>some t|.came _ t _ _ _=>some t|.done _ t _=>some t|_=>none
def nI(a:DO):A1:=a.map λn:Nat=>V.int (n:Int)
def cJ(rs:BR):EZ:=(1::(bX rs).map λn:Nat=>(n:Int))++(bW rs).map λn:Nat=>(n:Int)+1
def turnL(rs:BR):EZ:=0::(cQ rs).map λn:Nat=>(n:Int)
def ML(l:EZ)(m:Int):Prop:=m∈l/\∀a∈l,a<=m
def ML.uniq(h:ML l m)(h':ML l m'):m=m':=by
 have:=h.2 _ h'.1;have:=h'.2 _ h.1;omega
def uD(rs:BR)(r:RX):bX (rs++[r])=bX rs++bX [r]:=by unfold bX;rw[GG]
def uE(rs:BR)(r:RX):cQ (rs++[r])=cQ rs++cQ [r]:=by unfold cQ;rw[GG]
def Tv(f:RX->Option a)(rs:BR)(i:Nat):((rs.take i).filterMap f).length<=i:=gK (List.length_filterMap_le _ _) (by rw[mV];omega)
def Ms{q:St}{H:Hp}{f:TD}{rs:BR}{as:BZ}{Q:A1->Hp->Prop}(RR:JY H f rs as)(s:rs.length<=400)(h:Q (nI<|bX rs) H) :
  tX [none] (aI 0) (!"`mEq -|Y`0 |Z?~S~v?~S~v{mT1 " (.int 0) (.str "next")) (yT (Bf K) (vr 0)<|tC<|.int 1) q (UE K f) H Q:=by
 have le:=RR.len;refine bB (aX K f<|as.map V.ref) (by rw[aV];omega) (λi c d=>d=H/\c=nI (bX<|rs.take i)) (λi c d #[b,e]=>#[by rw[b];exact JX RR.lst,by rw[e];unfold nI bX;rw[aV];exact Tv _ _ _]) #[rfl,rfl] (?_)<|?_
 .rintro i x c d k ⟨b,e⟩;subst b;refine JB (RR.get k) (JR λa r=>KJ λζ u l m=>?_);subst ζ;refine JB (uC m) (JU λv=>KJ λg o p y=>?_);have j:=aM l;exists _,JV g,_,o;show if decide (dW r="next")=true then _ else _
  refine eN (λh=>?_) λh=>?_
  .refine JB (Zf<|WF h) (JR λn t ζ=>?_);subst ζ;exists _,JV g,_,p,rfl;rw[j,uD,e];unfold nI;rw[dL];rfl
  exists rfl;rw[j,uD,e];have:bX [r]=[]:=by
   cases r with
   | next n t=>exact IZ rfl (UV h)
   | _=>rfl
  rw[this,append_nil]
 rintro c d ⟨b,e⟩;subst b;rw[aV,<- le,mW (bD _)]at e;rw[e];exact h
def aCw(r:RX):vL (.str<|dW r) [.str "next",.str "came",.str "done"]=true↔∃t,cQ [r]=[t]/\rp r=.int ((t:Nat):Int):=by
 cases r with
 | next n t=>exact#[λ_=>#[t,rfl,rfl],λ_=>rfl]
 | came n t p k x=>exact#[λ_=>#[t,rfl,rfl],λ_=>rfl]
 | done n t y=>exact#[λ_=>#[t,rfl,rfl],λ_=>rfl]
 | has z m=>exact#[λz=>IZ (show false=true from z) WP,λ#[t,h,_]=>nomatch h]
 | kept n t p k x y=>exact#[λz=>IZ (show false=true from z) WP,λ#[t,h,_]=>nomatch h]
 | asked n=>exact#[λz=>IZ (show false=true from z) WP,λ#[t,h,_]=>nomatch h]
def Mt{C:St}{H:Hp}{d:TD}{rs:BR}{as:BZ}{Q:A1->Hp->Prop}(RR:JY H d rs as)(D:rs.length<=400)(h:∀H',I7 H H'->Q (nI<|cQ rs) H') :
  tX [none] (aI 0) (!"-`false {YI2 -|Y`0 |Z?~S~v?~S?~S?~S`iF |b|b|b{Ri1 ~v{mT1 " (.int 0) (.str "next") (.str "came") (.str "done")) (yT (Bf K) (vr 0)<|tC<|.int 2) C (UE K d) H Q:=by
 have le:=RR.len;refine bB (aX K d<|as.map V.ref) (by rw[aV];omega) (λi c H'=>I7 H H'/\c=nI (cQ<|rs.take i)) (λi c H' #[b,e]=>#[JX<|b _ _ RR.lst,by rw[e];unfold nI cQ;rw[aV];exact Tv _ _ _]) #[(λ_ _ e=>e),rfl] (?_)<|?_
 .rintro i x c H' o ⟨b,e⟩;refine JB ((RR.same b).get o) (JR λa r=>KJ λζ E q s=>?_);subst ζ;refine JB (uC s) (JU λF=>KJ λg u G v=>?_);have j:=aM q;refine#[_,JV g,_,u,bK rfl,λA I f g2=>#[A,_,rfl,.inr<|JV g2,rfl,rfl,?_]];show if vL (.str<|dW r) [.str "next",.str "came",.str "done"]=true then _ else _
  refine eN (λh=>?_) λh=>?_
  .obtain⟨t,B,l⟩:=(aCw r).mp h;exists _,JV<|f _ _ g,_,v (by rw[l];exact λz=>nomatch z),b.trans f;rw[j,uE,e,B,l];unfold nI;rw[dL];rfl
  exists b.trans f;rw[j,uE,e];have:cQ [r]=[]:=by
   cases r with
   | has z m=>rfl
   | kept n t p k x y=>rfl
   | asked n=>rfl
   | _=>exact IZ (show true=false from h) Zd
  rw[this,append_nil]
 rintro c H' ⟨b,e⟩;rw[aV,<- le,mW (bD _)]at e;rw[e];exact h H' b
def Mu{k:TD}{b:DO}(g:H k=!(.frz o<|.dK kvs))(m:kvs.map (·.1)=b.map λn:Nat=>(Sum.inl (n:Int):bC))(r:b.length<=400)(h:Q (b.map λn:Nat=>V.int<|(n:Int)+1) H) :
  tX [none] (aI 0) Pz (yT (Gh λi j=>.int<|i+j) (vr 0)<|tC<|.int 1) q (i3 k o kvs) H Q:=by
 have lk:kvs.length=b.length:=by have:=congrArg length m;simpa using this
 refine bB (Jp k o kvs) (by rw[aV];omega) (λi d f=>f=H/\d=(b.take i).map λn:Nat=>V.int<|(n:Int)+1) (λi d f #[c,e]=>#[by rw[c];exact g,by rw[e,aV,mV];omega]) #[rfl,rfl] (?_)<|?_
 .rintro i x d f p ⟨c,e⟩;subst c;have a:(kvs.map (·.1))[i]?.map kV=!x:=by rw[eJ]at p ⊢;rw[<- p];cases kvs[i]? <;> rfl
  rw[m,eJ]at a;cases l:b[i]? with
  | none=>rw[l]at a;cases a
  | some n=>
   rw[l]at a;injection a with a
   subst a;exists rfl;rw[aM l,dL,e];rfl
 rintro d f ⟨c,e⟩;subst c;rw[aV,lk,mW (bD _)]at e;rw[e];exact h
def zX(g:H a=!u)(s:I7 (aH H a<|.frz o u) H2):I7 H (aH H2 a u):=λc x e=>by
 by_cases z:c=a
 .subst z;rw[g]at e;cases e;exact aA
 rw[aD z];exact s _ _ (by rw[aD z];exact e)
def I7.keep{H H2:Hp}{a:TD}{u:HO}(g:H a=!u)(o:Obj):∀c x,H c=!x->c≠a->(aH H a<|.frz o u) c=!x:=λc x e n=>by rw[aD n];exact e
theorem Ex{H:Hp}{c:TD}{rs:BR}{as:BZ}(RR:JY H c rs as):∀i,i<=rs.length->Paired (λ(r:RX) (d:bC×V)=>jH r=true/\d.1=kQ r/\r∈rs) ((rs.take i).filter jH) (bN "came" rs as i)
 | 0,_=>.nil
 | i+1,f=>by
  have le:=RR.len;obtain⟨r,b⟩:∃r,rs[i]?=!r:=#[rs[i],hX Zo];obtain⟨a,e⟩:∃a,as[i]?=!a:=#[as[i],hX Zo];rw[kW b e,aM b,filter_append];refine Paired.append' (Ex RR i Zo) ?_;unfold mF;by_cases h:dW r="came"
  .rw[LM h];refine JB (uW h) (QL λn t p k x ζ=>?_);subst ζ;exact .cons #[rfl,rfl,kI b] .nil
  rw[LK h];have:jH r=false:=by cases r<;>first|rfl|exact IZ rfl h
  rw[filter_cons,this];exact .nil
theorem uF(a:BR):∀rs:BR,rs.flatMap (mO a)=(rs.filter jH).flatMap (mO a)
 | []=>rfl
 | r::rs=>by
  rw[FM,uF a rs,filter_cons];cases r<;>rfl
def ry(H:Hp)(e:O4)(a:TD):Prop:=∃(t:Nat)(b:TD),H a=!.tup [.str "came",.int (e.1:Int),.int (t:Int),.str e.2.1,.str e.2.2.1,.ref b]/\H b=!.tup e.2.2.2.vs
def Tw(a rs:BR):(rs.flatMap<|mO a).length<=rs.length:=by
 induction rs with
 | nil=>exact bD _
 | cons r rs b=>
  have:(mO a r).length<=1:=by
   cases r with
   | came n t p k x=>
    show(if fI a n=true then [(n,p,k,x)] else []).length<=1;split
    .exact bD _
    exact zero_le _
   | _=>exact zero_le _
  rw[FM,mU,mY];omega
theorem xB{f:Type}{lt:f->f->Prop}(c:∀a,¬ lt a a)(g:∀a b,lt a b->¬ lt b a):∀ {xs ys:List f},xs.Pairwise lt->ys.Pairwise lt->(∀a,a∈xs↔a∈ys)->xs=ys
 | [],[],_,_,_=>rfl
 | [],y::ys,_,_,h=>nomatch (h y).mpr eG
 | x::xs,[],_,_,h=>nomatch (h x).mp eG
 | x::xs,y::ys,k,l,h=>by
  obtain⟨i,n⟩:=pairwise_cons.mp k;obtain⟨j,o⟩:=pairwise_cons.mp l;have e:x=y:=by
   rcases mem_cons.mp ((h x).mp eG) with z|z
   .exact z
   rcases mem_cons.mp ((h y).mpr eG) with d|d
   .exact d.symm
   exact IZ (j _ z) (g _ _<|i _ d)
  subst e;rw[xB c g n o λa=>#[λm=>?_,λm=>?_]]
  .rcases mem_cons.mp ((h a).mp<|cR _ m) with z|z
   .subst z;exact IZ (i _ m)<|c _
   exact z
  rcases mem_cons.mp ((h a).mpr<|cR _ m) with z|z
  .subst z;exact IZ (j _ m)<|c _
  exact z
structure Tx(f:Str->Nat)(hs:A2):Prop where
 asc:hs.Pairwise λa b=>a.cps.toList<b.cps.toList
 iff:∀z,z∈hs↔0<f z
def Mw{zs:A2}(hs:zs.Pairwise λa b=>a.cps.toList<=b.cps.toList)(c:zs.Nodup):zs.Pairwise λa b=>a.cps.toList<b.cps.toList:=
 (hs.and c).imp λ{y z} #[d,e]=>by
  rcases List.le_iff_lt_or_eq.mp d with h3|h3
  .exact h3
  exact IZ (by rw[Dq y,Dq z,h3]) e
def Mx(prs:BD):A2:=(qE<|prs.map (·.1)).filter λn=>decide (0<bZ prs n)
def Ty(prs:BD):(Mx prs).length<=prs.length:=gK (length_filter_le _ _) (by rw[qO,aV];exact bD _)
def xC(h:z∉prs.map (·.1)):bZ prs z=0:=by
 unfold bZ;cases e:prs.lookup z with
 | none=>rfl
 | some a=>
  exfalso;have:(z,a)∈prs:=by
   clear h;induction prs with
   | nil=>cases e
   | cons q prs c=>
    rw[lookup_cons]at e;by_cases b:z==q.1
    .rw[b]at e;cases e;rw[eq_of_beq b];exact eG
    rw[Bool.eq_false_iff.mpr b]at e;exact cR _ (c e)
  exact h<|LA.mpr #[_,this,rfl]
def Zj(nd:(prs.map (·.1)).Nodup)(a:∀z,bZ prs z=(f z:Int)):Tx f (Mx prs)/\dF prs=(Mx prs).map λz=>(z,(f z:Int)):=by
 exists #[List.Pairwise.filter _<|Mw (jE _)<|(cN _).nodup_iff.mpr nd,λz=>?_]
 .unfold Mx;rw[mem_filter,(cN _).mem_iff,decide_eq_true_iff,a];refine#[λh=>by omega,λh=>#[?_,Zo]];by_cases c:z∈prs.map (·.1)
  .exact c
  have:=xC c;rw[a]at this;omega
 unfold dF Mx;exact map_congr_left λz _=>by rw[a]
structure aD7(H0 H:Hp)(rs:BR)(f:Str->Nat)(tp:TD)(kl ol:TD):Prop where
 ex:∃(bl:TD)(m1 m2:Int)(ks os:BZ)(zs:FO)(hs:A2),H tp=!.tup [.ref bl,.ref kl,.ref ol,.int m1,.int m2]/\H kl=!(.lst<|ks.map V.ref)/\Paired (PV H) (bH rs) ks/\H ol=!(.lst<|os.map V.ref)/\Paired (UN H) (cS rs) os/\ML (cJ rs) m1/\ML (turnL rs) m2/\H bl=!(.lst<|bM zs)/\OS H zs/\Tx f hs/\zs.map (·.2)=(hs.map λz=>(z,(f z:Int)))/\hs.length<=43
 fk:H0 kl=none
 fo:H0 ol=none
 ne:kl≠ol
inductive rD(vs:A1)(H:Hp)(Q:VK)(E_:XK):Prop
 | mk(ra:TD)(rs:BR)(as:BZ)(F:Nat->Str->Nat)(f:Str->Nat)(nm:A2):vs=[.ref ra]->JY H ra rs as->rs.length<=400->Ts rs nm->RX.Whole rs->(∀r∈rs,Tq r)->QK rs F f->(∀(tp kl ol:TD)(H':Hp),aD7 H H' rs f tp kl ol->I7 H H'->Q (.ref tp) H')->rD vs H Q E_
def Tz(T:Txt K mg)(j8:Callee^1 "by_numbers" Z4 uV)(yt:Callee^4 "risen_book" CU (Cg C))(U2:bP^1 C "rows" EX (wF C))(yu:Callee^1 "risen_kept" CU Ch)(D:KY K mg "risen" iI ET):Callee^5 "risen" ET rD:=by
 refine D.gg nY λa3 cdv a7 outer s a0 vs a8 a9 B a4=>?_
 .obtain⟨v,b,c,F,a3,nm,rfl,I,hl,hct,O,hok,hF,a1⟩:=a4;have j7:=dN B;have le:=I.len;exists _,(!"`1 |T~z~N%0)#!!<:`2 |T~z~N%0)#!!<:`3 |T~z~N%0)#!!<:?{R.jy1 `U2 ~N`yt ~N%03#!!<A`yu ~N%03#!!<?%{^R.ia1 %|w`Qq }}'#!Z?,?{R.jz1 ,#!J%{^R.ia1 %|w`Qq }'#!Z?,#!J#!!!!!+(&$$$$" (R.dj (i:=4) nY.nd rfl (Or.inl rfl) rfl (js:=[none,!1,!2,!3]) (N:=["number","done","asked","came"]) (JQ.by (aB iI) XJ rfl rfl Zk) (aR rfl) (R.wD (f8 3)) (λC Y Z Q=>#[(vi (i:=0) (show(["number","done","asked","came"]:A2).Nodup by decide +kernel)),(BF<|BA<|R.fh (re (R.ib j7) (f8 0)<|f8 2)<|R.fm<|re (R.fe j7) (f8 0)<|f8 1),(xr j7 (f8 3)<|f8 0)]) rfl) (yg rfl (js:=[none]) (N:=EO) (JQ.by (aB iI) XJ rfl rfl Zk) (aR rfl) (xo (K:=K)<|f8 4) λC Y Z Q=>#[(vi (i:=0) (show(EO:A2).Nodup by decide +kernel)),AX,(pv BJ (xn AY (f8 0) (vm o0)<|vm o0)<|xn AY (f8 0) (vm o0) yi)]) (yg rfl (js:=[none]) (N:=EO) (JQ.by (aB iI) XJ rfl rfl Zk) (aR rfl) (xo (K:=K)<|f8 0) λC Y Z Q=>#[(vi (i:=0) (show(EO:A2).Nodup by decide +kernel)),(BF<|re ww (sw K 0) pc),(sw K 0)]) (yg rfl (js:=[none]) (N:=["number"]) (JQ.by (aB iI) XJ rfl rfl Zk) (aR rfl) (R.wD<|f8 3) λC Y Z Q=>#[(vi (i:=0) (show(["number"]:A2).Nodup by decide +kernel)),AX,(pv wv (f8 0) o0)]) (yg rfl (js:=[none]) (N:=EO) (JQ.by (aB iI) XJ rfl rfl Zk) (aR rfl) (xo (K:=K)<|f8 0) λC Y Z Q=>#[(vi (i:=0) (show(EO:A2).Nodup by decide +kernel)),(BF<|re (R.ed (K:=K)) (sw K 0)<|px<|lc pc<|lc pc<|lc pc li),(sw K 0)]));refine#[v,"done",b,c,rfl,I,Zo,λdn H1 fdn gdn s1=>?_];refine#[v,"asked",b,c,rfl,I.same s1,Zo,λak H2 fak OY S=>?_];refine#[v,"came",b,c,rfl,(I.same s1).same S,Zo,λd l WW gcd s3=>?_];have sH:I7 a0 l:=(s1.trans S).trans s3;have R3:=I.same sH;have aJ':=s3 _ _<|S _ _ gdn;have SI:=s3 _ _ OY;have ndc:dn≠d:=aE (S _ _ gdn) WW;have nac:ak≠d:=aE OY WW;have nrc:v≠d:=aE ((I.same s1).same S).lst WW;dsimp only [aI];refine cY (λσ' f=>∃(sl:TD)(h:BZ),σ'=[!.ref v,!.ref dn,!.ref ak,!.ref d,!.ref sl]/\f sl=!(.lst<|h.map V.ref)/\Paired (ry f) (cS b) h/\I7 l f) (λnx z8=>?_) ?_
  .refine#[_,gcd,λo=>?_];have em:=xA O le;have np:=Ex R3 b.length<|bD _;rw[mW (bD _)]at np;have gu':=wW "came" b c b.length;have kF:=I7.keep (H2:=l) gcd o;have y:(aH l d<|.frz o<|.dK<|aK []<|bN "came" b c b.length) d=!(.frz o<|.dK<|aK []<|bN "came" b c b.length):=aA;have WX:TK l (aH l d<|.frz o<|.dK<|aK []<|bN "came" b c b.length):=λa xs e=>kF _ _ e (λz=>by rw[z,gcd]at e;cases e)
   have lpp:(b.filter jH).length=(bN "came" b c b.length).length:=np.length;refine bB (!"e|A??^U~Grv{Jp3 " [] "came") (by rw[aV,em];omega) (λj g f=>f=aH l d (.frz o<|.dK<|aK []<|bN "came" b c b.length)/\∃h:BZ,g=h.map V.ref/\Paired (ry f) (((b.filter jH).take j).flatMap<|mO b) h/\h.length<=j) (λj g f #[U,h,e,_,E]=>#[by rw[U];exact y,by rw[e,aV];exact E]) #[rfl,[],rfl,.nil,bD _] (?_)<|?_
   .refine λj x g f m=>JW λU=>JU λh=>JE λe u E=>?_;rw[eJ,em]at m;cases DQ:(bN "came" b c b.length)[j]? with
    | none=>rw[DQ]at m;cases m
    | some kv=>
     rw[DQ]at m;injection m with m
     subst m;obtain⟨hj,ej⟩:=NJ.mp DQ;refine JB (Paired.get' (j:=j) np hj) (JU λMH=>JE λhc1 JP hc3=>?_);rw[ej]at JP;have SJ:(b.filter jH)[j]?=some (b.filter jH)[j]:=hX MH;generalize (b.filter jH)[j]=a5 at hc1 JP hc3 SJ;cases a5 with
     | came n t p k x=>
      dsimp only;rw[JP];have qg:=aM SJ;subst U;refine JB (uX O R3 hc3) (LB λca cb ct=>JE λhv NK NL=>?_);have SK:LP (aH l d<|.frz o<|.dK<|aK []<|bN "came" b c b.length) ak (.int (n:Int)) (!"??^U~Grv?~b~j" [] "asked" (n:Int)):=LP.k (k:=Sum.inl (n:Int))<|kF _ _ SI nac;have dgd:LP (aH l d<|.frz o<|.dK<|aK []<|bN "came" b c b.length) dn (.int (n:Int)) (!"??^U~Grv?~b~j" [] "done" (n:Int)):=LP.k (k:=Sum.inl (n:Int))<|kF _ _ aJ' ndc;have dgc:LP (aH l d<|.frz o<|.dK<|aK []<|bN "came" b c b.length) d (.int (n:Int)) (!.ref ca):=.inl #[_,Sum.inl (n:Int),.inr #[o,y],rfl,hv.symm];have no:fI b n=false->(aH l d (.frz o<|.dK<|aK []<|bN "came" b c b.length)=aH l d (.frz o<|.dK<|aK []<|bN "came" b c b.length)/\∃h:BZ,g=h.map V.ref/\Paired (ry<|aH l d<|.frz o<|.dK<|aK []<|bN "came" b c b.length) (((b.filter jH).take<|j+1).flatMap<|mO b) h/\h.length<=j+1):=λuj=>by
       refine#[rfl,h,e,?_,Zo];rw[qg,cG];have:mO b (.came n t p k x)=[]:=by show(if fI b n=true then _ else _)=_;rw[LK (by rw[uj];exact WP)]
       rw[this,append_nil];exact u
      exists _,SK;show if (!"??^U~Grv?~b~j" [] "asked" (n:Int)).isSome=true then _ else _
      rw[sY le];refine eN (λJ=>?_) λJ=>no (by unfold fI;rw[J];rfl);exists _,dgd;show if (not ((!"??^U~Grv?~b~j" [] "done" (n:Int)).isSome))=true then _ else _
      rw[sY le];refine eN (λW=>?_) λW=>no (by unfold fI;rw[J,W];rfl);refine#[d,_,rfl,dgc,rfl,h++[ca],by rw[e,dL];rfl,?_,by simp;omega];rw[qg,cG];have:mO b (.came n t p k x)=[(n,p,k,x)]:=by show(if fI b n=true then _ else _)=_;rw[LM (by unfold fI;rw[J,W];rfl)]
      rw[this];exact Paired.snoc u #[ct,cb,WX _ _ NK,WX _ _ NL]
     | _=>cases hc1
   refine λg f=>JW λU=>JU λh=>JE λe u E=>?_;intro sl WY;subst U;rw[mW (show(b.filter jH).length<=((!"??^U~Grv" [] "came").map λa1=>kV a1.1).length by rw[aV,em];omega),<- uF]at u;have ncl:d≠sl:=aE y WY;have G:=zX gcd<|aF (o:=.lst g) WY;exists d,_,o,#[_,gcd],fE y WY;refine z8 _ _ #[sl,h,rfl,by rw[aD ncl.symm,aA,e],Paired.map' (λ_ _ z=>?_) u,G];revert z;refine JR λt a2=>JW λJ W=>?_;have back:∀ {a:TD}{xs:A1},(aH l d<|.frz o<|.dK<|aK []<|bN "came" b c b.length) a=!.tup xs->(aH (aH (aH l d<|.frz o<|.dK<|aK []<|bN "came" b c b.length) sl<|.lst g) d<|.dK<|aK []<|bN "came" b c b.length) a=!.tup xs:=λ{a xs} e=>by
    have:a≠d:=λz=>by rw[z,y]at e;cases e
    rw[aD this];exact fE e WY
   exact#[t,a2,back J,back W]
  refine λσ' H4=>JR λsl h=>KJ λζ gsl ps G=>?_;subst ζ;have R4:=R3.same G;have HG:=G _ _ gcd;refine#[v,d,b,c,F,a3,nm,rfl,R4,hl,hct,O,hok,hF,HG,λp dx a6 prs H5 Q fd gp gd nd am ln s5=>?_];refine#[dx,_,gp,sD _ Zk,p,prs,rfl,#[#[dx,a6,gp,gd],nd],yR ln Zd,λbl zs H6 s6 fb gb hz ez=>?_];have WZ:=s5.trans s6;refine#[v,d,b,c,rfl,R4.same WZ,hl,O,WZ _ _ HG,λkl ks H7 fkl JK pk s7=>?_];have X:=WZ.trans s7;have SN:=X _ _ gsl;have SO:=ps.length;have lop:=Tw b b;exists sl,rfl,#[_,JX SN];refine bB (aX K sl<|h.map V.ref) (by rw[aV];unfold cS at SO;omega) (λi g f=>∃os:BZ,g=os.map V.ref/\Paired (UN f) ((cS b).take i) os/\I7 H7 f/\os.length<=i) (λi g f #[os,e,_,q,E]=>#[JX<|q _ _ SN,by rw[e,aV];exact E]) #[[],rfl,.nil,(λ_ _ e=>e),bD _] (?_)<|?_
  .refine λi x g f m=>JU λos=>KJ λe u q E=>?_;rw[eJ]at m;cases hsi:h[i]? with
   | none=>rw[hsi]at m;cases m
   | some a=>
    rw[hsi]at m;cases m;obtain⟨hi,ei⟩:=NJ.mp hsi;obtain⟨oe,pa⟩:=Paired.get' (j:=i) ps hi;rw[ei]at pa;have OZ:(cS b)[i]?=some (cS b)[i]:=hX oe;generalize (cS b)[i]=eo at pa OZ;revert pa;refine JR λt a2=>JW λg1 g2=>?_;have g1':=q _ _<|X _ _ g1;refine#[_,g1',λt1 Ha L ga=>#[_,L _ _ g1',λt2 Hb M JZ=>#[_,_,M _ _ ga,JZ,IY rfl,λt3 Hc sc gc=>?_]]];have GU:=(L.trans M).trans sc;refine#[os++[t3],by rw[e,dL];rfl,?_,q.trans GU,by simp;omega];rw[aM OZ];exact Paired.snoc (Paired.map' (λ_ _ z=>z.tk<|I7.tk GU) u) #[a2,gc,GU _ _<|q _ _<|X _ _ g2]
  refine λg f=>JU λos=>KJ λe u q E=>?_;intro r A;rw[aV,<- SO,mW (bD _)]at u;have XD:=X.trans<|q.trans<|aF (o:=.lst g) A;have XF:Paired (PV<|aH f r<|.lst g) (bH b) ks:=Paired.map' (λ_ _ z=>z.tk<|I7.tk<|q.trans<|aF A) pk;have po8:Paired (UN<|aH f r<|.lst g) (cS b) os:=Paired.map' (λ_ _ z=>z.tk<|I7.tk<|aF A) u;have SQ:(aH f r<|.lst g) bl=!(.lst<|bM zs):=fE (q _ _<|s7 _ _ gb) A;have hz8:OS (aH f r<|.lst g) zs:=λz BS=>fE (q _ _<|s7 _ _<|hz z BS) A
  have PB:(aH f r<|.lst g) r=!(.lst<|os.map V.ref):=by rw[aA,e]
  have SR:(aH f r<|.lst g) kl=!(.lst<|ks.map V.ref):=fE (q _ _ JK) A;have nko:kl≠r:=aE (q _ _ JK) A;have fol:a0 r=none:=sH.free<|G.free<|(X.trans q).free A;have aL':a0 kl=none:=sH.free<|G.free<|WZ.free fkl;generalize aH f r (.lst g)=H8 at XD XF po8 PB SR SQ hz8;have R8:=R4.same XD;have aM':=XD _ _ HG;refine#[uR rfl,λp1 FR=>?_];have s9:=aF (o:=.lst [.int 1]) FR;have g1:(aH H8 p1<|.lst [.int 1]) p1=!.lst [.int 1]:=aA;generalize aH H8 p1 (.lst [.int 1])=H9 at s9 g1;refine#[v,rfl,#[_,JX (R8.same s9).lst],Ms (R8.same s9) Zo λp2 uk=>?_];have nle:(bX b).length<=b.length:=List.length_filterMap_le _ _;have cle:(bW b).length<=b.length:=List.length_filterMap_le _ _;refine#[_,_,fE g1 uk,aA,by unfold nI;rw[aV];exact jL (by simp;omega),λp3 HE=>?_];have L:=((s9.trans<|aF (o:=.lst (nI<|bX b)) uk).trans<|aF (o:=.lst ([.int 1]++nI (bX b))) HE);have g3:(aH (aH H9 p2<|.lst<|nI<|bX b) p3<|.lst<|[.int 1]++nI (bX b)) p3=!.lst (.int 1::nI (bX b)):=aA;generalize aH (aH H9 p2<|.lst<|nI<|bX b) p3 (.lst<|[.int 1]++nI (bX b))=Ha at L g3;have NN:=L _ _ aM';refine#[_,NN,λo=>?_];have hk:(aK []<|bN "came" b c b.length).map (·.1)=(bW b).map λn:Nat=>(Sum.inl (n:Int):bC):=by
   rw[xA O le,tD le _ (bD _),mW (bD _)]
  refine Mu aA hk Zo λp4 JM=>?_;have y:(aH Ha d<|.frz o<|.dK<|aK []<|bN "came" b c b.length) d=!(.frz o<|.dK<|aK []<|bN "came" b c b.length):=aA;have nc4:d≠p4:=aE y JM;exists d,_,o,#[_,NN],fE y JM;have M:=zX NN<|aF (o:=.lst ((bW b).map λn:Nat=>V.int<|(n:Int)+1)) JM;have g4:(aH (aH (aH Ha d<|.frz o<|.dK<|aK []<|bN "came" b c b.length) p4<|.lst ((bW b).map λn:Nat=>V.int<|(n:Int)+1)) d<|.dK<|aK []<|bN "came" b c b.length) p4=!.lst ((bW b).map λn:Nat=>V.int<|(n:Int)+1):=by rw[aD nc4.symm];exact aA
  generalize aH (aH (aH Ha d<|.frz o<|.dK<|aK []<|bN "came" b c b.length) p4<|.lst ((bW b).map λn:Nat=>V.int<|(n:Int)+1)) d (.dK<|aK []<|bN "came" b c b.length)=Hb at M g4;refine#[_,_,M _ _ g3,g4,by unfold nI;rw[aV];exact jL (by simp;clear le j7 E SO;omega),λp5 XH=>?_];refine#[p5,cJ b,rfl,JX (by rw[aA];unfold cJ nI;simp[dL,map_map]<;>rfl),by unfold cJ;simp,λm1 NI SS=>?_];have sc:=((L.trans M).trans<|aF (o:=.lst ((.int 1::nI (bX b))++(bW b).map λn:Nat=>V.int<|(n:Int)+1)) XH);generalize aH Hb p5 (.lst ((.int 1::nI (bX b))++(bW b).map λn:Nat=>V.int<|(n:Int)+1))=Hc at sc;refine#[uR rfl,λp6 hp6=>?_];have sd:=sc.trans<|aF (o:=.lst [.int 0]) hp6;have g6:(aH Hc p6<|.lst [.int 0]) p6=!.lst [.int 0]:=aA;generalize aH Hc p6 (.lst [.int 0])=Hd at sd g6;refine#[v,rfl,#[_,JX (R8.same sd).lst],Mt (R8.same sd) Zo λHe se p7 hp7=>?_];have tle:(cQ b).length<=b.length:=List.length_filterMap_le _ _;refine#[_,_,fE (se _ _ g6) hp7,aA,by unfold nI;rw[aV];exact jL (by simp;omega),λp8 hp8=>?_];refine#[p8,turnL b,rfl,JX (by rw[aA];unfold turnL nI;simp[map_map]<;>rfl),by unfold turnL;simp,λm2 RS SU=>#[bK rfl,λtp Hf sf gf=>?_]];have H:=((sd.trans se).trans<|(aF (o:=.lst (nI<|cQ b)) hp7).trans<|aF (o:=.lst ([.int 0]++nI (cQ b))) hp8).trans sf;obtain⟨pR,eR⟩:=Zj nd am;refine a1 tp kl r Hf #[#[bl,m1,m2,ks,os,zs,Mx prs,gf,H _ _ SR,Paired.map' (λ_ _ z=>z.tk<|I7.tk H) XF,H _ _ PB,Paired.map' (λ_ _ z=>z.tk<|I7.tk H) po8,#[NI,SS],#[RS,SU],H _ _ SQ,λz BS=>H _ _<|hz8 z BS,pR,ez.trans eR,gK (Ty prs) ln],aL',fol,nko]<|(sH.trans G).trans<|XD.trans H
def aJ(e:E6):Str×Str:=(e.2.2.1,e.2.2.2.1)
def tE(s:Str×Str):FU:=[Sum.inr s.1,Sum.inr s.2]
def Ua{s t:Str×Str}(h:tE s=tE t):s=t:=by
 unfold tE at h;injection h with b a
 injection a with a _
 injection b with b
 injection a with a
 exact Prod.ext b a
def cK(l:DE)(s:Str×Str):Option E6:=l.foldl (λo e=>if aJ e=s then some e else o) none
def jI(l:DE)(e:E6)(s:Str×Str):cK (l++[e]) s=if aJ e=s then some e else cK l s:=by unfold cK;rw[foldl_append];rfl
def dE{s:Str×Str}(h:cK l s=!e):e∈l/\aJ e=s:=by
 have:∀(l:DE)(o:Option E6)(e:E6),l.foldl (λo e=>if aJ e=s then some e else o) o=!e->o=!e∨(e∈l/\aJ e=s):=by
  intro l;induction l with
  | nil=>exact λo e h=>.inl h
  | cons x l a=>
   intro o e h;rw[foldl_cons]at h;rcases a _ e h with h|⟨b,d⟩
   .by_cases c:aJ x=s
    .rw[LM c]at h;cases h;exact .inr #[eG,c]
    rw[LK c]at h;exact .inl h
   exact .inr #[cR _ b,d]
 rcases this l none e h with h|h
 .cases h
 exact h
structure MS(A:E6->TD->Prop)(l:DE)(kvs:BW):Prop where
 nd:(kvs.map (·.1)).Nodup
 at_:∀k v,(k,v)∈kvs->∃e a,k=tE (aJ e)/\v=.ref a/\A e a/\cK l (aJ e)=!e
 all:∀s e,cK l s=!e->tE s∈kvs.map (·.1)
 len:kvs.length<=l.length
def MS.nil(A:E6->TD->Prop):MS A [] []:=#[nodup_nil,(λ_ _ h=>nomatch h),(λ_ _ h=>nomatch h),bD _]
def MS.mono{A b:E6->TD->Prop}(h:MS A l kvs)(m:∀e a,A e a->b e a):MS b l kvs:=
 #[h.nd,λk v c=>let #[e,a,d,f,g,i]:=h.at_ k v c;#[e,a,d,f,m _ _ g,i],h.all,h.len]
def MS.put{A:E6->TD->Prop}(h:MS A l kvs)(i:A e a):MS A (l++[e]) (cB kvs (tE<|aJ e)<|.ref a):=by
 exists Jv h.nd,λk v b=>?_,λs d f=>?_
 .rcases Ea b with b|⟨b,j⟩
  .cases b;exact#[e,a,rfl,rfl,i,by rw[jI,LM rfl]]
  refine JB (h.at_ k v b) (JR λd m=>KJ λg n o p=>?_);exists d,m,g,n,o;rw[jI,LK (λz=>j (by rw[g,z]))];exact p
 .rw[zO];rw[jI]at f;by_cases c:aJ e=s
  .exact .inl (by rw[c])
  rw[LK c]at f;exact .inr<|h.all s d f
 have:=fL kvs (tE<|aJ e)<|.ref a;have:=h.len;rw[mU,length_singleton];omega
def jB{a e:Type}{R:a->e->Prop}:∀ {xs:List a},(∀x∈xs,∃y,R x y)->∃ys,Paired R xs ys
 | [],_=>#[[],.nil]
 | x::xs,h=>by
  obtain⟨y,c⟩:=h x eG;obtain⟨ys,b⟩:=jB λx d=>h x (cR _ d)
  exact#[y::ys,.cons c b]
abbrev KvE(A:E6->TD->Prop)(l:DE)(a:FU×V)(q:E6×TD):Prop:=a.1=tE (aJ q.1)/\a.2=.ref q.2/\A q.1 q.2/\cK l (aJ q.1)=some q.1
def MS.list{A:E6->TD->Prop}(h:MS A l kvs):∃es:Gf,Paired (KvE A l) kvs es/\(es.map λq=>aJ q.1).Nodup/\∀e,e∈es.map (·.1)↔cK l (aJ e)=!e:=by
 obtain⟨es,c⟩:=jB (R:=KvE A l) (xs:=kvs) λo g=>by
  refine JB (h.at_ o.1 o.2 g) (JR λe a=>KJ λp n v x=>?_);exact#[(e,a),p,n,v,x]
 have y:=c.length;have r:kvs.map (·.1)=(es.map λq=>aJ q.1).map tE:=by
  refine ext_getElem (by simp[y]) λi p n=>?_;have d:i<es.length:=by simpa using n
  obtain⟨t,f⟩:=Paired.get' (j:=i) c d;simp only [List.getElem_map];exact f.1
 refine#[es,c,?_,λe=>#[λz=>?_,λu=>?_]]
 .have:=h.nd;rw[r]at this;exact List.Pairwise.of_map tE (λa b B e=>B (by rw[e])) this
 .obtain⟨q,k,rfl⟩:=LA.mp z;obtain⟨i,d,rfl⟩:=getElem_of_mem k;obtain⟨t,f⟩:=Paired.get' (j:=i) c d;exact f.2.2.2
 have g:=h.all _ _ u;rw[r]at g;obtain⟨s,C,D⟩:=LA.mp g;obtain⟨q,k,rfl⟩:=LA.mp C;obtain⟨i,d,rfl⟩:=getElem_of_mem k;obtain⟨t,f⟩:=Paired.get' (j:=i) c d;have E:=Ua D;have m:=f.2.2.2;rw[E,u]at m;injection m with m
 rw[m];exact LA.mpr #[_,k,rfl]
def aAO(g:H b=!.dT kvs):TK H (aH H b o):=λa c e=>by rw[aD (aL e g nofun)];exact e
def eO(p:Paired R xs ys)(h:x∈xs):∃y∈ys,R x y:=by
 induction p with
 | nil=>cases h
 | @cons a b i bs r t f=>
  rcases mem_cons.mp h with rfl|h
  .exact#[_,eG,r]
  obtain⟨y,g,e⟩:=f h;exact#[y,cR _ g,e]
def Mz(p:Paired R xs ys)(h:y∈ys):∃x∈xs,R x y:=by
 induction p with
 | nil=>cases h
 | @cons a b i bs r t f=>
  rcases mem_cons.mp h with rfl|h
  .exact#[_,eG,r]
  obtain⟨y,g,e⟩:=f h;exact#[y,cR _ g,e]
def UO(p:Paired R xs ys)(h:∀x y,R x y->f x=g y):xs.map f=ys.map g:=by
 induction p with
 | nil=>rfl
 | cons r t d=>rw[map_cons,map_cons,d,h _ _ r]
def Hr{f:c->o}{l:List c}(h:(l.map f).Nodup){a b:c}(d:a∈l)(m:b∈l)(e:f a=f b):a=b:=by
 induction l with
 | nil=>cases d
 | cons x l n=>
  rw[map_cons,nodup_cons]at h;rcases mem_cons.mp d with g|i<;>rcases mem_cons.mp m with j|k
  .rw[g,j]
  .exact IZ (LA.mpr #[b,k,by rw[<- e,g]]) h.1
  .exact IZ (LA.mpr #[a,i,by rw[e,j]]) h.1
  exact n h.2 i k
def Ub{A:Hp->E6->TD->Prop}{H:Hp}{fl:Gf}{zs c:GY}(i:(fl.map λq=>(q.1.1:Int)).Nodup)(j:Paired (λ(q:E6×TD) (z:Tn)=>z.1=(q.1.1:Int)/\z.2.1=q.2) fl zs)(k:c.Perm zs)(hs:c.Pairwise WG) :
  ∃out:Gf,out.Perm fl/\kA c=out.map (λq=>V.ref q.2)/\(out.map (·.1)).Pairwise λa b=>a.1<b.1:=by
 have x:=UO j (f:=λq=>((q.1.1:Int),q.2)) (g:=λz:Tn=>(z.1,z.2.1)) λq z h=>by rw[h.1,h.2]
 obtain⟨out,l⟩:=jB (R:=λ(z:Tn) (q:E6×TD)=>(z.1,z.2.1)=((q.1.1:Int),q.2)/\q∈fl) (xs:=c) λz m=>by
  obtain⟨q,d,h⟩:=Mz j<|k.mem_iff.mp m;exact#[q,by rw[h.1,h.2],d]
 have r:=UO l (f:=λz:Tn=>(z.1,z.2.1)) (g:=λq=>((q.1.1:Int),q.2)) λz q h=>h.1
 have o:(c.map λz:Tn=>z.1).Nodup:=by
  refine((k.map _).nodup_iff).mpr ?_;have:zs.map (λz:Tn=>z.1)=fl.map λq=>(q.1.1:Int):=by
   have:=congrArg (List.map Prod.fst) x;rw[map_map,map_map]at this;exact this.symm
  rw[this];exact i
 have s:c.map (λz:Tn=>z.1)=out.map λq=>(q.1.1:Int):=by
  have:=congrArg (List.map Prod.fst) r;rw[map_map,map_map]at this;exact this
 exists out,?_,?_
 .have v:fl.Nodup:=(pairwise_map.mp i).imp λ{a b} n e=>n (by rw[e])
  have y:out.Nodup:=(pairwise_map.mp (show(out.map λq=>(q.1.1:Int)).Nodup by rw[<- s];exact o)).imp λ{a b} n e=>n (by rw[e])
  refine(List.perm_ext_iff_of_nodup y v).mpr λq=>#[λd=>?_,λd=>?_]
  .obtain⟨z,_,h⟩:=Mz l d;exact h.2
  obtain⟨z,m,h⟩:=eO j d;obtain⟨B,C,t⟩:=eO l<|k.mem_iff.mpr m;have:(q.1.1:Int)=(B.1.1:Int):=by
   have:=congrArg Prod.fst t.1;exact h.1.symm.trans this
  rw[Hr i d t.2 this];exact C
 .have:=congrArg (List.map λp:Int×Addr=>V.ref p.2) r;rw[map_map,map_map]at this;exact this
 have D:(c.map λz:Tn=>z.1).Pairwise (·<=·):=pairwise_map.mpr hs;have u:=(D.and o).imp λ{a b}(h:a<=b/\a≠b)=>(by omega:a<b)
 rw[s,pairwise_map]at u;exact pairwise_map.mpr (u.imp λh=>by omega)
def Zl{l:DE}(k:∀q∈es,PV H q.1 q.2/\q.1∈l)(u:(es.map λq=>aJ q.1).Nodup)(B:(l.map (·.1)).Nodup)(hs:fl.Sublist es) :
  ∃zs:GY,kA zs=fl.map (λq=>V.ref q.2)/\RC H zs/\(zs.map (·.1)).Nodup/\zs.length<=es.length/\∀i,i.Perm zs->i.Pairwise WG->∃out:Gf,out.Perm fl/\kA i=out.map (λq=>V.ref q.2)/\(out.map (·.1)).Pairwise (λa b=>a.1<b.1)/\Paired (PV H) (out.map (·.1)) (out.map (·.2)):=by
 have m:∀q∈fl,PV H q.1 q.2:=λq d=>(k q<|hs.subset d).1
 have v:(es.map λq=>(q.1.1:Int)).Nodup:=by
  refine pairwise_map.mpr ?_;refine(pairwise_map.mp u).imp_of_mem λ{a b} C D E e=>E ?_;rw[Hr (f:=λx:E6=>x.1) B (k a C).2 (k b D).2 Zo]
 have n:(fl.map λq=>(q.1.1:Int)).Nodup:=List.Nodup.sublist (List.Sublist.map _ hs) v;obtain⟨zs,j⟩:=jB (R:=λ(q:E6×TD) (z:Tn)=>(z.1=(q.1.1:Int)/\z.2.1=q.2)/\H z.2.1=!.tup (.int z.1::z.2.2)) (xs:=fl) λq d=>by
  refine JB (m q d) (JR λb c=>JW λge _=>?_);exact#[(_,_,_),#[rfl,rfl],ge]
 have r:=UO j (f:=λq=>((q.1.1:Int),q.2)) (g:=λz:Tn=>(z.1,z.2.1)) λq z h=>by rw[h.1.1,h.1.2]
 refine#[zs,?_,λz F=>?_,?_,?_,λi G I=>?_]
 .have:=congrArg (List.map λp:Int×Addr=>V.ref p.2) r;rw[map_map,map_map]at this;exact this.symm
 .obtain⟨M,_,h⟩:=Mz j F;exact h.2
 .have:=congrArg (List.map Prod.fst) r;rw[map_map,map_map]at this;rw[show zs.map (·.1)=fl.map (λq=>(q.1.1:Int)) from this.symm];exact n
 .rw[<- j.length];exact hs.length_le
 refine JB (Ub (A:=PV) (H:=H) n (Paired.map' (λ_ _ h=>h.1) j) G I) (JU λout=>JE λs J y=>?_);exists out,s,J,y;have:∀ {o:Gf},(∀q∈o,q∈fl)->Paired (PV H) (o.map (·.1)) (o.map (·.2)):=λ{o} t=>by
  induction o with
  | nil=>exact .nil
  | cons x o L=>exact .cons (m x<|t x eG) (L λq d=>t q<|cR _ d)
 exact this λq d=>s.mem_iff.mp d
def Zm(l:DE)(qs:DD):Prop:=l.length<=400/\qs.length<=43/\∀e∈l,aJ e∈qs
def Ci[DecidableEq a]{xs:List a}:∀ {ys:List a},xs.Nodup->(∀x∈xs,x∈ys)->xs.length<=ys.length:=by
 induction xs with
 | nil=>exact λ_ _=>zero_le _
 | cons x xs f=>
  intro ys b h;have c:=h x eG;have g:=List.length_erase_of_mem c;have i:0<ys.length:=List.length_pos_of_mem c;have j:=f (ys:=ys.erase x) (nodup_cons.mp b).2 λy d=>(List.mem_erase_of_ne (show y≠x from λe=>(nodup_cons.mp b).1 (by rw[<- e];exact d))).mpr (h y<|cR _ d)
  rw[mY];omega
def MS.few{A:E6->TD->Prop}(h:MS A l kvs)(b:Zm l qs):kvs.length<=43:=by
 have:=Ci (ys:=qs.map tE) h.nd λk d=>by
  obtain⟨c,f,rfl⟩:=LA.mp d;refine JB (h.at_ c.1 c.2 f) (JR λe a=>KJ λg _ _ i=>?_);rw[g];exact mem_map_of_mem (b.2.2 e (dE i).1)
 have:=b.2.1;simp only [aV]at *;omega
structure Zp(l:DE)(lf tu:Nat)(out:DE):Prop where
 asc:out.Pairwise λa b=>a.1<b.1
 iff:∀e,e∈out↔cK l (aJ e)=!e/\tu<e.2.1+lf
inductive Cj(vs:A1)(H:Hp)(Q:VK)(E_:XK):Prop
 | mk(kl:TD)(ks:BZ)(l:DE)(lf tu:Nat)(qs:DD):vs=[.ref kl,.int (lf:Int),.int (tu:Int)]->H kl=!(.lst<|ks.map V.ref)->Paired (PV H) l ks->Zm l qs->(l.map (·.1)).Nodup->(∀(p:TD)(os:BZ)(out:DE)(H':Hp),H p=none->H' p=!(.lst<|os.map V.ref)->Paired (PV H') out os->Zp l lf tu out->I7 H H'->Q (.ref p) H')->Cj vs H Q E_
def Uc(T:Txt K mg)(Z2:Callee^1 "is_alive" WU Bp)(D:KY K mg "still_kept" fW fM):Callee^2 "still_kept" fM Cj:=by
 refine D.gg kD λa1 cdv a2 outer s H vs a3 a4 hr h=>?_
 .obtain⟨I,ks,l,C,E,qs,rfl,gk,pk,PD,uo,q⟩:=h;have hl:=PD.1;have j7:=dN hr;have lk:=pk.length;exists _,(!"`3 `kD.nd |^:V%0u`4 `kD.nd t43~l4'P'P]c~@~+~*&W{^R.gv0 %~^~m?{R.kh1 #!J(&$$" (yg rfl (js:=[none,!1,!2]) (N:=["entry","life","turn"]) (JQ.by (aB fW) tq rfl rfl Zk) (aR rfl) (R.iw<|f8 3) λa5 s₂ H₂ fp=>#[(vi (i:=0) (show(["entry","life","turn"]:A2).Nodup by decide +kernel)),(BF<|AC<|tz Z2 hr rfl<|lc (sw K 0)<|lc (f8 1)<|lc (f8 2) li),(f8 0)]));intro d Z;dsimp only [aI];have O:=aF (o:=.dT []) Z;have g1:(aH H d<|.dT []) d=!.dT []:=aA;generalize aH H d (.dT [])=H1 at O g1;refine cY (λu g=>∃(f:BW)(v:EY),u=[!.ref I,!.int (C:Int),!.int (E:Int),!.ref d,v]/\g d=!.dT f/\MS (PV g) l f/\I7 H g) (λnx z8=>?_) ?_
  .refine#[I,rfl,#[_,JX<|O _ _ gk],bT (aX K I<|ks.map V.ref) (λi u g=>∃(f:BW)(v:EY),u=[!.ref I,!.int (C:Int),!.int (E:Int),!.ref d,v]/\g d=!.dT f/\MS (PV g) (l.take i) f/\I7 H g) (λi u g #[_,_,_,_,_,s']=>JX<|s' _ _ gk) #[[],_,rfl,g1,MS.nil _,O] ?_ ?_]
   .refine λi a0 u r n=>JR λf v=>KJ λζ g2 L2 x=>?_;subst ζ;rw[eJ]at n;cases M:ks[i]? with
    | none=>rw[M]at n;cases n
    | some a=>
     rw[M]at n;cases n;obtain⟨hi,ei⟩:=NJ.mp M;obtain⟨oe,Q⟩:=Paired.get' (j:=i) pk hi;rw[ei]at Q;have FL:l[i]?=some l[i]:=hX oe;generalize l[i]=e at Q FL;have pa2:=Q.tk<|I7.tk x;refine JB (id pa2) (JR λb c=>JE λge gb gc=>?_);refine#[_,ge,λtp H3 F g3=>#[d,_,rfl,NZ.t (k:=tE (aJ e)) (F _ _ g2) g3 ?_,?_]]
     .have:=L2.len;rw[mV]at this;exact yR (m:=1000) Zo Zd
     have tk:TK H3 (aH H3 d<|.dT<|cB f (tE<|aJ e)<|.ref a):=aAO<|F _ _ g2;refine#[_,_,rfl,aA,?_,oT Z<|x.trans F];rw[aM FL];exact MS.put (L2.mono λ_ _ z=>(z.tk<|I7.tk F).tk tk)<|(pa2.tk<|I7.tk F).tk tk
   refine λu r=>JR λf v=>KJ λζ g2 L2 x=>?_;subst ζ;rw[aV,<- lk,mW (bD _)]at L2;exact z8 _ _ #[f,v,rfl,g2,L2,x]
  refine λu r=>JR λf v=>KJ λζ g2 L2 x=>?_;subst ζ;refine JB L2.list (JU λes=>JE λS nde SV=>?_);have le:=S.length;have lkv:=L2.few PD;refine#[_,g2,λo=>?_];have WX:TK r (aH r d<|.frz o<|.dT f):=aAO g2;have U:(aH r d<|.frz o<|.dT f) d=!(.frz o<|.dT f):=aA;refine bB (aCo d o f) (by rw[aV];omega) (λj t g=>g=aH r d (.frz o<|.dT f)/\t=((es.take j).filter λq=>decide ((E:Int)<(q.1.2.1:Int)+(C:Int))).map λq=>V.ref q.2) (λj t g #[y,e]=>#[by rw[y];exact U,by rw[e,aV];exact gK (length_filter_le _ _) (by rw[mV];omega)]) #[rfl,rfl] (?_)<|?_
  .rintro j a0 t g n ⟨y,e⟩;subst y;rw[eJ]at n;cases W:f[j]? with
   | none=>rw[W]at n;cases n
   | some kv=>
    rw[W]at n;injection n with n
    subst n;obtain⟨hj,ej⟩:=NJ.mp W;have ME:j<es.length:=by omega
    obtain⟨MH,A⟩:=Paired.get' (j:=j) S ME;rw[ej]at A;have hqj:es[j]?=some es[j]:=hX ME;generalize es[j]=B at A hqj;revert A;refine KJ λJ G h3 h4=>?_;dsimp only;rw[G];refine JB (h3.tk WX) (JR λb c=>JE λge gb gc=>?_);exists _,JV ge,_,rfl,_,_,_,rfl;have qg:=aM hqj;show if decide ((E:Int)<(B.1.2.1:Int)+(C:Int))=true then _ else _
    refine eN (λh=>?_) λh=>?_
    .exists rfl;rw[qg,filter_append,filter_cons,LM h,dL,e];rfl
    exists rfl;rw[qg,filter_append,filter_cons,LK (by rw[h];exact WP),e];simp
  rintro t g ⟨y,e⟩;intro p A;subst y;rw[aV,le,mW (bD _)]at e;have ndp:d≠p:=aE U A;exists d,_,o,#[_,g2],fE U A;have L:I7 r (aH (aH (aH r d<|.frz o<|.dT f) p<|.lst t) d<|.dT f):=λc a0 e=>by
   by_cases z:c=d
   .subst z;rw[g2]at e;cases e;exact aA
   rw[aD z];exact fE (by rw[aD z];exact e) A
  have gp:(aH (aH (aH r d<|.frz o<|.dT f) p<|.lst t) d<|.dT f) p=!.lst t:=by rw[aD ndp.symm];exact aA
  generalize aH (aH (aH r d<|.frz o<|.dT f) p<|.lst t) d (.dT f)=H4 at L gp;generalize JG:(es.filter λq=>decide ((E:Int)<(q.1.2.1:Int)+(C:Int)))=fl at e;have XQ:∀q,q∈fl↔q∈es/\E<q.1.2.1+C:=λq=>by
   rw[<- JG,mem_filter,decide_eq_true_iff];exact#[λ#[a,b]=>#[a,Zo],λ#[a,b]=>#[a,Zo]]
  refine JB (Zl (H:=H4) (l:=l) (es:=es) (fl:=fl) (λq hq=>by obtain⟨kv,_,h⟩:=Mz S hq;exact#[h.2.2.1.tk<|I7.tk L,(dE h.2.2.2).1]) nde uo (by rw[<- JG];exact List.filter_sublist)) (JU λzs=>MJ λc1 c2 c3 c4 cq=>?_);refine#[zs,JX (by rw[c1,<- e];exact gp),c2,c3,Zo,λl2 og X SW SX=>?_];refine JB (cq og SW SX) (JU λout=>KJ λHH DC ho3 ho4=>?_);refine q l2 (out.map (·.2)) (out.map (·.1)) _ ((x.trans L).free X) (by rw[aA,DC,map_map];rfl) (Paired.map' (λ_ _ w=>w.tk<|I7.tk<|aF X) ho4) #[ho3,λy=>#[λhm=>?_,?_]]<|(x.trans L).trans<|aF X
  .obtain⟨B,Y,rfl⟩:=LA.mp hm;obtain⟨J,G⟩:=(XQ B).mp<|HH.mem_iff.mp Y;exact#[(SV _).mp<|LA.mpr #[B,J,rfl],G]
  rintro ⟨J,G⟩;obtain⟨B,Y,rfl⟩:=LA.mp<|(SV y).mpr J;exact LA.mpr #[B,HH.mem_iff.mpr<|(XQ B).mpr #[Y,G],rfl]
def gP(rs:BR)(a n:Nat):BR:=match fH rs n with|some (p,k,x)=>.came n a p k x::(if mG "asked" rs (Sum.inl (n:Int))=true then [.asked n] else [])|none=>[]
def bF(rs:BR)(a:Nat)(b:DO):BR:=b.flatMap<|gP rs a
def Na(rs:BR)(a n:Nat):(gP rs a n).length<=2:=by
 unfold gP;cases fH rs n with
 | none=>exact zero_le _
 | some v=>
  dsimp only;split<;>simp
theorem oV(rs:BR)(b:Nat):∀a:DO,(bF rs b a).length<=2*a.length
 | []=>zero_le _
 | n::a=>by
  have d:=Na rs b n;have c:=oV rs b a;unfold bF at c ⊢;rw[FM,mU,mY];omega
def Zq{n:Nat}(h:n∈bW rs):∃t p k x,.came n t p k x∈rs:=by
 obtain⟨r,a,e⟩:=mem_filterMap.mp h;cases r<;>cases e;exact#[_,_,_,_,a]
def xD(h:dW r="asked"):∃n,r=.asked n:=by
 cases r with
 | asked n=>exact#[n,rfl]
 | has z m=>exact IZ (show("has":Str)="asked" from h) Zk
 | next n t=>exact IZ (show("next":Str)="asked" from h) Zk
 | kept n t p k x y=>exact IZ (show("kept":Str)="asked" from h) Zk
 | came n t p k x=>exact IZ (show("came":Str)="asked" from h) Zk
 | done n t y=>exact IZ (show("done":Str)="asked" from h) Zk
def Ud(RR:JY H l rs as){n:Nat}(h:mG "asked" rs (Sum.inl (n:Int))=true):∃a,bA (!"??N~n~arv" [] "asked") (Sum.inl (n:Int))=!.ref a/\H a=!.tup [.str "asked",.int (n:Int)]:=by
 obtain⟨r,o,e⟩:=any_eq_true.mp h;rw[Bool.and_eq_true]at e;obtain⟨m,rfl⟩:=xD<|WF e.1;have p:m=n:=by
  have:(Sum.inl (m:Int):bC)=Sum.inl (n:Int):=WF e.2;injection this with this
  omega
 subst p;refine JB (wY RR.len o (wd:="asked") rfl) (LB λj z c=>MJ λq s t g k=>?_);obtain⟨d,rfl⟩:=xD g;have u:m=d:=by
  have:(Sum.inl (m:Int):bC)=Sum.inl (d:Int):=k;injection this with this
  omega
 subst u;refine JB (RR.get (i:=j) (v:=.ref c) (by rw[eJ,t];rfl)) (JR λA B=>KJ λb y f x=>?_);injection b with b
 subst b;rw[s]at f;injection f with b
 subst b;exact#[c,q,x]
inductive xE(vs:A1)(H:Hp)(Q:VK)(E_:XK):Prop
 | mk(ra nl:TD)(rs:BR)(as:BZ)(tu:Nat)(ns:DO):vs=[.ref ra,.int (tu:Int),.ref nl]->JY H ra rs as->rs.length<=400->RX.Whole rs->H nl=!(.lst<|nI ns)->(∀n∈ns,n∈bW rs)->ns.length<=400->(∀(p:TD)(os:BZ)(H':Hp),H p=none->JY H' p (bF rs tu ns) os->I7 H H'->Q (.ref p) H')->xE vs H Q E_
def Nb(T:Txt K mg)(j8:Callee^1 "by_numbers" Z4 uV)(D:KY K mg "came_again" iM ff):Callee^2 "came_again" ff xE:=by
 refine D.gg eS λa5 cdv a6 outer s a0 vs a7 a8 O a2=>?_
 .obtain⟨v,y,b,E,c,d,rfl,z,hl,hw,gn,yq,XR,a3⟩:=a2;have Q:=dN O;have le:=z.len;exists _,(!"`3 |+~z|F%0)#!!<:`4 |+~z|F%0)#!!<:`5 |+#Z:V%2u`6 |+t~'~E~F~I5|;)61#!!!+~l~q36T'Pl],#!yE~q{R.ib1 64=~'~E~F~I5~q46T#!yE&;/&$W5(&$$$$");refine#[v,"came",b,E,rfl,z,Zo,λA H1 WW gcd l=>?_];refine#[v,"asked",b,E,rfl,z.same l,Zo,λB q fak S h=>?_];refine#[uR rfl,λa M=>?_];dsimp only [aI];have C:=aF (o:=.lst []) M;have Z:(aH q a<|.lst []) a=!.lst []:=aA;have ft0:a0 a=none:=(l.trans h).free M;generalize aH q a (.lst [])=H3 at C Z;have sH:I7 a0 H3:=(l.trans h).trans C;have gM':=C _ _<|h _ _ gcd;have SI:=C _ _ S;have ft2:q a=none:=M;refine cY (λe g=>∃(os:BZ)(p:EY),e=[!.ref v,!.int (c:Int),!.ref y,!.ref A,!.ref B,!.ref a,p]/\JY g a (bF b c d) os/\I7 q g) (λnx z8=>?_) ?_
  .refine#[y,rfl,#[_,JX<|sH _ _ gn],bT (aX K y<|nI d) (λi e g=>∃(os:BZ)(p:EY),e=[!.ref v,!.int (c:Int),!.ref y,!.ref A,!.ref B,!.ref a,p]/\JY g a (bF b c<|d.take i) os/\I7 q g) (λi e g #[_,_,_,_,s']=>JX<|s' _ _<|(l.trans h) _ _ gn) #[[],_,rfl,JY.nil Z,C] ?_ ?_]
   .refine λi x e F t=>JR λos p=>JE λζ f j=>?_;subst ζ;unfold nI at t;rw[eJ]at t;cases G:d[i]? with
    | none=>rw[G]at t;cases t
    | some n=>
     rw[G]at t;cases t;refine JB (Zq<|yq n<|kI G) (NF λt0 a1 k x U1=>?_);have RB:=(z.same<|l.trans h).same j;refine JB (uX hw RB U1) (LB λca cb ct=>JE λhv NK NL=>?_);have GZ:=f.len;have JL:=oV b c<|d.take i;have htk:(d.take i).length<=d.length:=by rw[mV];exact Nat.min_le_right _ _
     have HG:=j _ _<|h _ _ gcd;have gN':=j _ _ S;dsimp only [aI];have e1:bF b c (d.take<|i+1)=bF b c (d.take i)++gP b c n:=by unfold bF;rw[aM G,cG]
     have e2:gP b c n=.came n c a1 k x::(if mG "asked" b (Sum.inl (n:Int))=true then [.asked n] else []):=by unfold gP;rw[jA hw U1]
     have SE:∀U,I7 F U->LP U A (.int (n:Int)) (!.ref ca):=λU ss=>by rw[<- hv];exact LP.k (k:=Sum.inl (n:Int)) (ss _ _ HG)
     refine cY (λe g=>∃(os:BZ),e=[!.ref v,!.int (c:Int),!.ref y,!.ref A,!.ref B,!.ref a,!.int (n:Int)]/\JY g a (bF b c (d.take i)++[.came n c a1 k x]) os/\I7 q g) (λnx' aR'=>?_) ?_
     .refine#[.inl #[rfl,_,JX f.lst],bK rfl,λt1 Ha H ga=>#[A,_,rfl,SE Ha H,_,H _ _ NK,λt2 Hb W gb=>#[_,_,W _ _ ga,gb,IY rfl,λt3 Hc sc gc=>#[a,_,_,rfl,rfl,sc _ _<|W _ _<|H _ _ f.lst,?_,?_]]]]
      .rw[aV];exact yR (m:=1000) Zo Zd
      have I:=(H.trans W).trans sc;have tk:TK Hc (aH Hc a<|.lst<|os.map V.ref++[.ref t3]):=Rh<|I _ _ f.lst;exact aR' _ _ #[os++[t3],rfl,f.snoc (λa9 xs a4=>tk _ _<|I _ _ a4) #[cb,tk _ _ gc,tk _ _<|I _ _ NL] aA,oT ft2<|j.trans I]
     refine λe X=>JU λN=>JE λζ u J=>?_;subst ζ;have aT':=u.len;rw[mU,length_singleton]at aT';have Y:LP X B (.int (n:Int)) (!"??^`E ~Grv?~b~j" [] "asked" (n:Int)):=LP.k (k:=Sum.inl (n:Int))<|J _ _ S;exists _,Y;show if (!"??^`E ~Grv?~b~j" [] "asked" (n:Int)).isSome=true then _ else _
     rw[sY le];refine eN (λL=>?_) λL=>?_
     .obtain⟨aa,ha,gaa⟩:=Ud (z.same<|(l.trans h).trans J) L;rw[ha]at Y;exists .inl #[rfl,_,JX u.lst],B,_,rfl,Y,a,_,_,rfl,rfl,u.lst,?_
      .rw[aV];exact yR (m:=1000) Zo Zd
      have tk:TK X (aH X a<|.lst<|N.map V.ref++[.ref aa]):=Rh u.lst;refine#[N++[aa],_,rfl,?_,oT ft2 J];rw[e1,e2,LM L];have:=u.snoc tk (r:=.asked n) (tk _ _ gaa) aA;rw[append_assoc]at this;exact this
     refine#[N,_,rfl,?_,J];rw[e1,e2,LK (by rw[L];exact WP)];exact u
   refine λe F=>JR λos p=>JE λζ f j=>?_;subst ζ;rw[show(nI d).length=d.length by unfold nI;rw[aV],mW (bD _)]at f;exact z8 _ _ #[os,p,rfl,f,j]
  refine λe F=>JR λos p=>JE λζ f j=>?_;subst ζ;exact a3 a os F ft0 f<|(l.trans h).trans j
def cT(e:E6):RX:=.kept e.1 e.2.1 e.2.2.1 e.2.2.2.1 e.2.2.2.2.1 e.2.2.2.2.2
def zY(h:RX.Whole rs){n t t':Nat}{p k b c:Str}(h1:.came n t p k x∈rs)(h2:.kept n t' b c d y∈rs):False:=by
 induction h with
 | nil=>cases h1
 | @snoc rs r f a e=>
  rcases aY h1 with h1|h1
  .rcases aY h2 with h2|h2
   .exact e h1 h2
   rw[<- h2]at a;exact IZ (a.1 _ h1) (by show ¬ (3<=2);decide)
  rcases aY h2 with h2|h2
  .rw[<- h1]at a;exact a.2.1 _ _ _ _ _ h2
  rw[<- h1]at h2;cases h2
theorem zZ{a:BR}(b:RX.Whole a):∀ {rs:BR},(∀r∈rs,r∈a)->(rs.flatMap<|jZ a).map (·.1)=dA rs
 | [],_=>rfl
 | r::rs,h=>by
  have c:=zZ b (rs:=rs) λr d=>h r (cR _ d)
  unfold dA at c ⊢;rw[FM,FS,dL,c];cases r with
  | done n t y=>
   refine JB (gO b<|h _ eG) (NF λf p k x=>JW λe _=>?_);rw[kZ b e];rfl
  | _=>rfl
def Ue(c:RX.Whole rs):((bH rs).map (·.1)).Nodup:=by
 have q:((rs.flatMap hW).map (·.1)).Nodup:=by
  induction c with
  | nil=>exact nodup_nil
  | @snoc rs r c l m=>
   rw[cG,dL];cases r with
   | kept n t p k x y=>
    refine nodup_append.mpr #[m,by simp[hW],λa f b g=>?_];have s:b=n:=by simpa [hW]using g
    subst s;rintro rfl;obtain⟨e,i,rfl⟩:=LA.mp f;obtain⟨r,j,d⟩:=mem_flatMap.mp i
    cases r with
    | kept u v z A B C=>
     rw[LV.mp d]at l;exact IZ (l.2.2.1 _ _ _ _ _ _ j) (Nat.lt_irrefl _)
    | _=>cases d
   | _=>simpa [hW]using m
 unfold bH;rw[dL,zZ c λ_ h=>h];refine nodup_append.mpr #[q,Tp c,λa f b g=>?_];rintro rfl;obtain⟨e,i,rfl⟩:=LA.mp f;obtain⟨r,j,d⟩:=mem_flatMap.mp i;obtain⟨t,y,hd⟩:=iZ g;refine JB (gO c hd) (NF λD p k x=>JW λo _=>?_)
 cases r with
 | kept u v z A B C=>
  rw[LV.mp d]at o;exact zY c o j
 | _=>cases d
def Ke(rs:BR)(n:Nat):DD:=match fH rs n with|some (p,k,_)=>[(p,k)]|none=>[]
def mH(rs:BR)(a:DO):DD:=a.flatMap<|Ke rs
def Uf:RX->DD|.came _ _ p k _=>[(p,k)]|_=>[]
theorem xF(rs:BR)(b:Nat):∀a:DO,(bF rs b a).flatMap Uf=mH rs a
 | []=>rfl
 | n::a=>by
  have c:=xF rs b a;unfold bF mH at c ⊢;rw[FM,flatMap_append,c,FM];congr 1;unfold gP Ke;cases fH rs n with
  | none=>rfl
  | some v=>
   dsimp only;split<;>rfl
structure Ug(rs:BR)(f:Str->Nat)(lf tu:Nat)(ns:DO)(out:BR):Prop where
 ex:∃(m:Nat)(hs:A2)(es:DE),ML (cJ rs) (m:Int)/\Tx f hs/\es.Pairwise (λa b=>a.1<b.1)/\(∀e,e∈es↔(cK (bH rs) (aJ e)=!e/\tu<e.2.1+lf)/\aJ e∉mH rs ns)/\hs.length<=43/\es.length<=(bH rs).length ∧
  out=.next m tu::(hs.map (λz=>.has z<|f z)++(es.map cT++bF rs tu ns))
def WH(H:Hp)(s:Str×Str)(a:TD):Prop:=H a=!.tup [.str s.1,.str s.2]
def WH.all(s:TK H H')(p:Paired (WH H) sp as):Paired (WH H') sp as:=Paired.map' (λ_ _ w=>s _ _ w) p
def Hs(a b p k:Str):cO [.str a,.str b] [.str p,.str k]=decide ((a,b)=(p,k)):=by
 have:cO [.str a,.str b] [.str p,.str k]=((a==p)&&((b==k)&&true)&&true):=rfl;rw[this,Bool.and_true,Bool.and_true];by_cases c:a=p
 .by_cases d:b=k
  .rw[c,d];simp
  rw[beq_eq_false_iff_ne.mpr d,Bool.and_false];exact(T0 λe=>d (Prod.mk.inj e).2).symm
 rw[beq_eq_false_iff_ne.mpr c,Bool.false_and];exact(T0 λe=>c (Prod.mk.inj e).1).symm
def Ht(p:Paired (WH H) sp as):∃zs:HP,zs.map (·.1)=as/\(∀z∈zs,H z.1=!.tup z.2)/\∀s,wN [.str s.1,.str s.2] zs=decide (s∈sp)/\∀z∈zs,cZ z.2 [.str s.1,.str s.2]:=by
 induction p with
 | nil=>exact#[[],rfl,(λ_ h=>nomatch h),λs=>#[rfl,λ_ h=>nomatch h]]
 | @cons s a sp as h t i=>
  revert i;refine JU λzs=>JE λk l g=>?_;refine#[(a,[.str s.1,.str s.2])::zs,by rw[map_cons,k],λz d=>?_,λb=>#[?_,λz d=>?_]]
  .rcases mem_cons.mp d with rfl|d
   .exact h
   exact l z d
  .have:wN [.str b.1,.str b.2] ((a,[.str s.1,.str s.2])::zs)=(cO [.str s.1,.str s.2] [.str b.1,.str b.2]||wN [.str b.1,.str b.2] zs):=rfl;rw[this,Hs,(g b).1];by_cases c:s=b
   .subst c;simp
   rw[T0 (show ¬ (s.1,s.2)=(b.1,b.2) from c),Bool.false_or];simp[mem_cons,Ne.symm c]
  rcases mem_cons.mp d with rfl|d
  .intro j u v e f;match j,e,f with
   | 0,e,f=>cases e;cases f;exact#[rfl,rfl]
   | 1,e,f=>cases e;cases f;exact#[rfl,rfl]
   | j+2,e,_=>cases e
  exact(g b).2 z d
inductive xG(vs:A1)(H:Hp)(Q:VK)(E_:XK):Prop
 | mk(ra nl:TD)(rs:BR)(as:BZ)(F:Nat->Str->Nat)(f:Str->Nat)(lf tu:Nat)(ns:DO)(nm:A2)(qs:DD):vs=[.ref ra,.int (lf:Int),.int (tu:Int),.ref nl]->JY H ra rs as->rs.length<=400->Ts rs nm->Zm (bH rs) qs->RX.Whole rs->(∀r∈rs,Tq r)->QK rs F f->H nl=!(.lst<|nI ns)->(∀n∈ns,n∈bW rs)->ns.length<=100->(∀(p:TD)(os:BZ)(out:BR)(H':Hp),H p=none->JY H' p out os->Ug rs f lf tu ns out->I7 H H'->Q (.ref p) H')->xG vs H Q E_
def Nc(h:ML (cJ rs) m):∃n:Nat,m=(n:Int):=by
 have:=h.2 1 (by unfold cJ;simp);exact#[m.toNat,Zo]
def Nd(T:Txt K mg)(oh:Callee^5 "risen" ET rD)(yx:Callee^2 "came_again" ff xE)(yy:Callee^2 "still_kept" fM Cj)(D:KY K mg "folded" jG fD):Callee^6 "folded" fD xG:=by
 refine D.gg iY λa7 cdv a8 outer s a9 vs b0 b2 W h=>?_
 .obtain⟨G,X,l,b,F,Y,H,q,x,nm,qs,rfl,RR,I,hc,SY,hw,hok,hF,gn,yq,XR,a4⟩:=h;have do':=SY.1;have T1:=W.units;have le:=RR.len;exists _,(!"`4 |U|l`W %0#!<:?`6 |U`yx `W %023#!!!<:`7 |U?:?}}})-`4 >2#!!!+#!Z5,8,6,(&$$$$$" (R.dj (i:=5) iY.nd rfl (Or.inl rfl) rfl (js:=[none]) (N:=["pair"]) (JQ.by (aB jG) fC rfl rfl Zk) (aR rfl) (xo (K:=K) (sw K 4)) (λa2 s₂ H₂ fp=>#[(vi (i:=0) (show(["pair"]:A2).Nodup by decide +kernel)),AX,(pv BJ (px<|lc pc li)<|f8 0)]) rfl) (yg rfl (js:=[none]) (N:=EO) (JQ.by (aB jG) fC rfl rfl Zk) (aR rfl) (xo (K:=K)<|f8 6) λa2 s₂ H₂ fp=>#[(vi (i:=0) (show(EO:A2).Nodup by decide +kernel)),(BF<|re ww (sw K 0) pc),(xn AY (f8 0) (vm o0)<|vm o0)]) (R.dj (i:=8) iY.nd rfl (Or.inl rfl) rfl (js:=[none,!7]) (N:=["entry","busy"]) (JQ.by (aB jG) fC rfl rfl Zk) (aR rfl) (xo (K:=K) (tz yy W rfl (lc (sw K 4) (lc (f8 1) (lc (f8 2) li))))) (λa2 s₂ H₂ fp=>#[(vi (i:=0) (show(["entry","busy"]:A2).Nodup by decide +kernel)),(BF<|re (R.iu T1) (xn AY (f8 0) (vm o0)<|vm o0)<|f8 1),(pv BJ (px<|lc pc li)<|f8 0)]) rfl));refine#[G,l,b,F,Y,nm,rfl,RR,I,hc,hw,hok,hF,λtp kl ol H1 rd Z=>?_];refine JB rd.ex (S5 λbl m1 m2 ks oo zs B=>TY λHI JK pk _ _ NI _ gbl=>KJ λhz pR ez lh=>?_);obtain⟨a3,rfl⟩:=Nc NI;have lz:zs.length=B.length:=by have:=congrArg length ez;simpa using this
  dsimp only [aI];refine cY (λv c=>∃(I:TD)(has:BZ),v=[!.ref G,!.int (H:Int),!.int (q:Int),!.ref X,!.ref tp,!.ref I,none,none,none]/\JY c I (B.map λz=>RX.has z<|Y z) has/\I7 H1 c) (λnx J=>?_) ?_
  .exists _,JV HI,_,rfl,bl,rfl,#[_,JX gbl];refine bB (aX K bl<|bM zs) (by unfold bM;rw[aV];omega) (λi ys c=>∃b:BZ,ys=b.map V.ref/\Paired (λr a=>RX.At c a r) ((B.take i).map λz=>RX.has z<|Y z) b/\I7 H1 c/\b.length<=i) (λi ys c #[b,e,_,d,p]=>#[JX<|d _ _ gbl,by rw[e,aV];exact p]) #[[],rfl,.nil,(λ_ _ e=>e),bD _] (?_)<|?_
   .refine λi a0 ys c u=>JU λb=>KJ λe f d p=>?_;refine JB (Cb hz u) (JU λz=>JE λhn ζ gz=>?_);subst ζ;have KD:(zs.map (·.2))[i]?=some z.2:=by rw[eJ,hn];rfl
    rw[ez,eJ]at KD;obtain⟨nm,Z0,enm⟩:=Option.map_eq_some_iff.mp KD;rw[<- enm]at gz;refine#[bK rfl,λm Ha g L=>#[_,_,L,g _ _<|d _ _ gz,IY rfl,λt2 Hb C gb=>#[b++[t2],by rw[e,dL];rfl,?_,(d.trans g).trans C,by simp;omega]]];rw[aM Z0,dL];exact Paired.snoc (Paired.map' (λ_ _ w=>RX.At.tk (I7.tk<|g.trans C) w) f) gb
   refine λys c=>JU λb=>KJ λe f d p=>?_;intro E7 hhl;have lz2:(bM zs).length=B.length:=by unfold bM;rw[aV];exact lz
   rw[lz2,mW (bD _)]at f;exact J _ _ #[E7,b,rfl,#[by rw[aA,e],Paired.map' (λ_ _ w=>RX.At.tk (I7.tk<|aF hhl) w) f],d.trans<|aF hhl]
  refine λv H2=>JR λE7 has=>JE λζ R2 s2=>?_;subst ζ;refine#[G,X,l,b,q,x,rfl,(RR.same Z).same s2,I,hw,s2 _ _<|Z _ _ gn,yq,gK XR Zd,λcl cs H3 fcl M s3=>?_];have lal:=oV l q x;have lcs:=M.len;have lhs:=R2.len;rw[aV]at lhs;dsimp only [aI];refine cY (λv c=>∃(E:TD)(bs:BZ),v=[!.ref G,!.int (H:Int),!.int (q:Int),!.ref X,!.ref tp,!.ref E7,!.ref cl,!.ref E,none]/\c E=!(.lst<|bs.map V.ref)/\Paired (WH c) (mH l x) bs/\I7 H3 c) (λnx J=>?_) ?_
  .exists cl,rfl,#[_,JX M.lst];refine bB (aX K cl<|cs.map V.ref) (by rw[aV];omega) (λi ys c=>∃b:BZ,ys=b.map V.ref/\Paired (WH c) (((bF l q x).take i).flatMap Uf) b/\I7 H3 c/\b.length<=i) (λi ys c #[b,e,_,d,p]=>#[JX<|d _ _ M.lst,by rw[e,aV];exact p]) #[[],rfl,.nil,(λ_ _ e=>e),bD _] (?_)<|?_
   .refine λi a0 ys c u=>JU λb=>KJ λe f d p=>?_;refine JB ((M.same d).get u) (JR λa r=>KJ λζ ha xy yn=>?_);subst ζ;refine JB (uC yn) (JU λxs=>KJ λa5 x0 x1 x2=>?_);have qg:=aM xy;exists _,JV a5,_,x0;show if decide (dW r="came")=true then _ else _
    refine eN (λh=>?_) λh=>?_
    .refine JB (uW<|WF h) (QL λn t b3 k a0 ζ=>?_);subst ζ;obtain⟨b1,gx,WT⟩:=yn;refine#[_,gx,λm Ha g L=>#[b++[m],by rw[e,dL];rfl,?_,d.trans g,by simp;omega]];rw[qg,cG];exact Paired.snoc (Paired.map' (λ_ _ w=>(I7.tk g) _ _ w) f) L
    refine#[b,e,?_,d,Zo];rw[qg,cG];have:Uf r=[]:=by cases r<;>first|rfl|exact IZ rfl (UV h)
    rw[this,append_nil];exact f
   refine λys c=>JU λb=>KJ λe f d p=>?_;intro E hbz;rw[aV,<- lcs,mW (bD _),xF]at f;exact J _ _ #[E,b,rfl,by rw[aA,e],Paired.map' (λ_ _ w=>(I7.tk<|aF hbz) _ _ w) f,d.trans<|aF hbz]
  refine λv H4=>JR λE bs=>KJ λζ gbz pb s4=>?_;subst ζ;have GV:=(s2.trans s3).trans s4;refine cY (λv c=>∃(O:TD)(y:DE)(Q:BZ),v=[!.ref G,!.int (H:Int),!.int (q:Int),!.ref X,!.ref tp,!.ref E7,!.ref cl,!.ref E,!.ref O]/\JY c O (y.map cT) Q/\y.length<=(bH l).length/\y.Pairwise (λa a1=>a.1<a1.1)/\(∀e,e∈y↔(cK (bH l) (aJ e)=!e/\q<e.2.1+H)/\aJ e∉mH l x)/\I7 H4 c) (λnx J=>?_) ?_
  .refine#[_,JV<|GV _ _ HI,_,rfl,kl,ks,bH l,H,q,qs,rfl,GV _ _ JK,Paired.map' (λ_ _ z=>z.tk<|I7.tk GV) pk,SY,Ue hw,λpl os out H5 fpl gpl po N8 A=>?_];have lo:=po.length;have QU:out.length<=(bH l).length:=(by
    have h1:(out.map (·.1)).Nodup:=pairwise_map.mpr<|N8.asc.imp λh=>ne_of_lt h;have h2:=Cc h1 (ys:=(bH l).map (·.1)) λn hn=>by
     obtain⟨e,he,rfl⟩:=LA.mp hn;exact LA.mpr #[e,(dE ((N8.iff e).mp he).1).1,rfl]
    rw[aV,aV]at h2;exact h2)
   exists pl,rfl,#[_,JX gpl];refine bB (aX K pl<|os.map V.ref) (by rw[aV];omega) (λi ys c=>∃b:BZ,ys=b.map V.ref/\Paired (λr a=>RX.At c a r) (((out.take i).filter λe=>(not (decide (aJ e∈mH l x)))).map cT) b/\I7 H5 c/\b.length<=i) (λi ys c #[b,e,_,d,p]=>#[JX<|d _ _ gpl,by rw[e,aV];exact p]) #[[],rfl,.nil,(λ_ _ e=>e),bD _] (?_)<|?_
   .refine λi a0 ys c u=>JU λb=>KJ λe f d p=>?_;rw[eJ]at u;cases OZ:os[i]? with
    | none=>rw[OZ]at u;cases u
    | some a=>
     rw[OZ]at u;cases u;obtain⟨hi,ei⟩:=NJ.mp OZ;obtain⟨oe,pa⟩:=Paired.get' (j:=i) po hi;rw[ei]at pa;have FL:out[i]?=some out[i]:=hX oe;generalize out[i]=S at pa FL;refine JB (pa.tk<|I7.tk d) (JR λa1 a6=>JE λge gb gc=>?_);refine#[_,ge,λm Ha g L=>?_];refine JB (Ht<|WH.all (I7.tk<|(A.trans d).trans g) pb) (JU λzl=>JE λz1 z2 z3=>?_);exists _,zl,L,by rw[(A.trans<|d.trans g) _ _ gbz,<- z1,map_map];rfl,λz hz=>#[z2 z hz,(z3<|aJ S).2 z hz];show if (not (wN [.str (aJ S).1,.str (aJ S).2] zl))=true then _ else _
     rw[(z3<|aJ S).1];refine eN (λh=>?_) λh=>?_
     .refine#[bK rfl,λt2 Hb C TB=>#[_,_,TB,C _ _<|g _ _ ge,IY rfl,λt3 Hc sc gc3=>#[b++[t3],by rw[e,dL];rfl,?_,d.trans<|(g.trans C).trans sc,by simp;omega]]];rw[aM FL,filter_append,filter_cons,LM h,dL];have GU:=(g.trans C).trans sc;exact Paired.snoc (Paired.map' (λ_ _ w=>RX.At.tk (I7.tk GU) w) f) #[a1,a6,gc3,GU _ _ gb,GU _ _ gc]
     refine#[b,e,?_,d.trans g,Zo];rw[aM FL,filter_append,filter_cons,LK (by rw[h];exact WP),List.filter_nil,append_nil];exact Paired.map' (λ_ _ w=>RX.At.tk (I7.tk g) w) f
   refine λys c=>JU λb=>KJ λe f d p=>?_;intro O hkp;rw[aV,<- lo,mW (bD _)]at f;refine J _ _ #[O,_,b,rfl,#[by rw[aA,e],Paired.map' (λ_ _ w=>RX.At.tk (I7.tk<|aF hkp) w) f],gK (length_filter_le _ _) QU,List.Pairwise.filter _ N8.asc,λS=>?_,A.trans<|d.trans<|aF hkp];rw[mem_filter,N8.iff];simp
  refine λv H5=>LB λO y Q=>MI λζ RK le5 he1 he2 A=>?_;subst ζ;have lka:=RK.len;rw[aV]at lka;have KQ:=GV.trans A;have R25:=(R2.same<|s3.trans s4).same A;have RC5:=(M.same s4).same A;refine#[_,JV<|KQ _ _ HI,_,rfl,bK rfl,λm H6 s6 g6=>#[uR rfl,λp1 FR=>?_]];have s7:=aF (o:=.lst [.ref m]) FR;have g7:(aH H6 p1<|.lst [.ref m]) p1=!.lst [.ref m]:=aA;have g67:=s7 _ _ g6;generalize aH H6 p1 (.lst [.ref m])=H7 at s7 g7 g67;have U:=s6.trans s7;refine#[_,_,g7,(R25.same U).lst,by rw[aV];exact jL (by simp;omega),λp2 uk=>?_];refine#[_,_,aA,fE (RK.same U).lst uk,by rw[mU,aV,aV];exact jL (by simp;omega),λp3 HE=>?_];refine#[_,_,aA,fE (fE (RC5.same U).lst uk) HE,by rw[mU,mU,aV,aV,aV];exact jL (by simp;omega),λp4 JM=>?_];have s74:I7 H7 (aH (aH (aH H7 p2<|.lst<|[V.ref m]++has.map V.ref) p3<|.lst<|[V.ref m]++has.map V.ref++Q.map V.ref) p4<|.lst<|[V.ref m]++has.map V.ref++Q.map V.ref++cs.map V.ref):=((aF uk).trans<|aF HE).trans<|aF JM;have XU:=U.trans s74;refine a4 p4 (m::(has++(Q++cs))) (.next a3 q::(B.map (λz=>.has z<|Y z)++(y.map cT++bF l q x))) _ (Z.free<|KQ.free<|U.free<|((aF uk).trans<|aF HE).free JM) #[?_,?_] #[a3,B,y,NI,pR,he1,he2,lh,le5,rfl]<|Z.trans<|KQ.trans XU
  .rw[aA];simp
  refine .cons (s74 _ _ g67) ?_;exact Paired.append' (Paired.map' (λ_ _ w=>RX.At.tk (I7.tk XU) w) R25.each)<|Paired.append' (Paired.map' (λ_ _ w=>RX.At.tk (I7.tk XU) w) RK.each)<|Paired.map' (λ_ _ w=>RX.At.tk (I7.tk XU) w) RC5.each
def Hu(rs:BR):RX->Option Nat|.came n _ _ _ _=>if mG "done" rs (Sum.inl (n:Int))=true then none else some n|_=>none
def xH(rs:BR):DO:=rs.filterMap<|Hu rs
def oW{n:Nat}:n∈xH rs↔(∃t p k x,.came n t p k x∈rs)/\mG "done" rs (Sum.inl (n:Int))=false:=by
 exists λh=>?_
 .obtain⟨r,b,e⟩:=mem_filterMap.mp h
  cases r with
  | came m t p k x=>
   have a:(if mG "done" rs (Sum.inl (m:Int))=true then none else some m)=!n:=e;split at a
   .cases a
   rename_i c;cases a;exact#[#[_,_,_,_,b],Bool.eq_false_iff.mpr c]
  | _=>cases e
 rintro ⟨⟨t,p,k,x,h⟩,hd⟩;refine mem_filterMap.mpr #[_,h,?_];show(if mG "done" rs (Sum.inl (n:Int))=true then none else some n)=!n;rw[LK (by rw[hd];exact WP)]
def Aa(rs:BR):(xH rs).Sublist (bW rs):=by
 have:∀a:BR,(a.filterMap<|Hu rs).Sublist (bW a):=λa=>by
  induction a with
  | nil=>exact List.Sublist.refl _
  | cons r a b=>
   unfold bW at b ⊢;rw[FS,FS];cases r with
   | came n t p k x=>
    have e:Hu rs (.came n t p k x)=if mG "done" rs (Sum.inl (n:Int))=true then none else some n:=rfl
    rw[e];split
    .rename_i h;split at h
     .exact b.trans<|sublist_cons_self _ _
     cases h
    rename_i h;split at h
    .cases h
    cases h;exact b.cons_cons _
   | _=>exact b
 exact this rs
def Ab{n t:Nat}(h:.done n t y∈rs):mG "done" rs (Sum.inl (n:Int))=true:=any_eq_true.mpr #[_,h,by simp[dW,kQ]]
def fJ{n:Nat}:mG "asked" rs (Sum.inl (n:Int))=true↔.asked n∈rs:=by
 refine#[λh=>?_,λh=>any_eq_true.mpr #[_,h,by simp[dW,kQ]]];obtain⟨r,a,e⟩:=any_eq_true.mp h;rw[Bool.and_eq_true]at e;obtain⟨m,rfl⟩:=xD<|WF e.1;have:(Sum.inl (m:Int):bC)=Sum.inl (n:Int):=WF e.2;injection this with this
 rw[show n=m by omega];exact a
def Ac(h:RX.Whole rs){n:Nat}(h1:.asked n∈rs):∃t p k x,.came n t p k x∈rs/\x.far=true:=by
 induction h with
 | nil=>cases h1
 | snoc e c d=>
  rcases aY h1 with h1|h1
  .refine JB (d h1) (NF λt p k x=>JW λa b=>?_);exact#[t,p,k,x,IN _ a,b]
  rw[<- h1]at c;obtain⟨⟨t,p,k,x,a,b⟩,_⟩:=c;exact#[t,p,k,x,IN _ a,b]
def Nf(h:RX.Whole rs){n t:Nat}{p k:Str}(h1:.kept n t p k x y∈rs):An.Of x y/\∃a b,.next a b∈rs/\n<a/\t<=b:=by
 induction h with
 | nil=>cases h1
 | snoc i f g=>
  rcases aY h1 with h1|h1
  .refine JB (g h1) (JW λc=>JR λa b=>JW λd e=>?_);exact#[c,a,b,IN _ d,e]
  rw[<- h1]at f;revert f;refine KJ λ_ ζ _ e=>?_;obtain⟨a,b,d,c⟩:=ζ;exact#[e,a,b,IN _ d,c]
structure aAQ(rs:BR)(e:E6):Prop where
 an:An.Of e.2.2.2.2.1 e.2.2.2.2.2
 num:∀m:Int,ML (cJ rs) m->(e.1:Int)<m
 tn:∀t:Int,ML (turnL rs) t->(e.2.1:Int)<=t
 no:∀n∈xH rs,e.1≠n
 dd:(∀r∈rs,Tq r)->(∀n t p k x y,.kept n t p k x y∈rs->x.Ok)->e.2.2.2.2.1.Ok
def aCy(f:RX.Whole rs)(h:e∈bH rs):aAQ rs e:=by
 unfold bH at h;rcases MN.mp h with h|h
 .obtain⟨r,a,c⟩:=mem_flatMap.mp h
  cases r with
  | kept n t p k x y=>
   rw[LV.mp c];refine JB (Nf f a) (JW λz=>JR λs g=>JE λu B C=>?_);refine#[z,λm i=>?_,λv j=>?_,λl o b=>?_,λ_ d=>d _ _ _ _ _ _ a]
   .have:=i.2 (s:Int) (by unfold cJ;simp only [cons_append,mem_cons,MN,LA];exact .inr<|.inl #[s,mem_filterMap.mpr #[_,u,rfl],rfl]);show((n:Nat):Int)<m;omega
   .have:=j.2 (g:Int) (by unfold turnL;exact cR _<|LA.mpr #[g,mem_filterMap.mpr #[_,u,rfl],rfl]);show((t:Nat):Int)<=v;omega
   obtain⟨⟨D,E,F,G,d⟩,_⟩:=oW.mp o;have b:n=l:=b;subst b;exact zY f d a
  | _=>cases c
 obtain⟨r,a,c⟩:=mem_flatMap.mp h
 cases r with
 | done n t y=>
  refine JB (gO f a) (NF λg p k x=>JW λq A=>?_);rw[kZ f q]at c;rw[LV.mp c];refine#[A,λm i=>?_,λv j=>?_,λl o b=>?_,λd _=>d _ q]
  .have:=i.2 ((n:Int)+1) (by unfold cJ;simp only [cons_append,mem_cons,MN,LA];exact .inr<|.inr #[n,sX q,rfl]);show((n:Nat):Int)<m;omega
  .exact j.2 (t:Int) (by unfold turnL;exact cR _<|LA.mpr #[t,mem_filterMap.mpr #[_,a,rfl],rfl])
  have b:n=l:=b;subst b;exact IZ (oW.mp o).2 (by rw[Ab a];decide)
 | _=>cases c
def Uh:∀(l:EZ),0<l.length->∃m,ML l m
 | [a],_=>#[a,LV.mpr rfl,λb f=>by rw[LV.mp f];exact Int.le_refl _]
 | a::b::l,_=>by
  obtain⟨m,g,e⟩:=Uh (b::l) Zs;by_cases h:a<=m
  .exact#[m,cR _ g,λc d=>by rcases mem_cons.mp d with rfl|d;exact h;exact e c d]
  exact#[a,eG,λc d=>by rcases mem_cons.mp d with rfl|d;exact Int.le_refl _;have:=e c d;omega]
structure LS(rs:BR)(f:Str->Nat)(tu:Nat)(ns:DO):Prop where
 hw:RX.Whole rs
 snd:∀r∈rs,Tq r
 kd:∀n t p k x y,.kept n t p k x y∈rs->x.Ok
 le:∀z,f z<=1000000000000
 sub:ns.Sublist (xH rs)
 tn:∀t:Int,ML (turnL rs) t->t<=(tu:Int)
def LS.asc(c:LS rs f b a):a.Pairwise (·<·):=List.Pairwise.sublist (c.sub.trans<|Aa rs)<|sZ c.hw
def LS.came(c:LS rs f a d){n:Nat}(h:n∈d):∃p k x,fH rs n=!(p,k,x)/\x.Ok/\gP rs a n=.came n a p k x::(if mG "asked" rs (Sum.inl (n:Int))=true then [.asked n] else [])/\(∃t,.came n t p k x∈rs):=by
 obtain⟨⟨t,p,k,x,b⟩,_⟩:=oW.mp<|c.sub.subset h;have e:=jA c.hw b;refine#[p,k,x,e,c.snd _ b,?_,t,b];unfold gP;rw[e]
structure NS(rs:BR)(f:Str->Nat)(lf tu:Nat)(ns:DO)(m:Nat)(hs:A2)(es:DE):Prop where
 mx:ML (cJ rs) (m:Int)
 pos:Tx f hs
 asc:es.Pairwise λa b=>a.1<b.1
 iff:∀e,e∈es↔(cK (bH rs) (aJ e)=!e/\tu<e.2.1+lf)/\aJ e∉mH rs ns
def eF(rs:BR)(f:Str->Nat)(a:Nat)(b:DO)(m:Nat)(hs:A2)(es:DE):BR:=.next m a::(hs.map (λz=>.has z<|f z)++(es.map cT++bF rs a b))
section
variable {rs:BR}{f:Str->Nat}{lf tu m:Nat}{ns:DO}{hs:A2}{es:DE}
def NS.ent(c:LS rs f tu ns)(x:NS rs f lf tu ns m hs es)(h:e∈es):aAQ rs e:=aCy c.hw (dE ((x.iff e).mp h).1.1).1
def lA(c:LS rs f tu ns)(d:DO)(j:∀n∈d,n∈ns):r∈bF rs tu d↔∃n∈d,(∃p k x,fH rs n=!(p,k,x)/\r=.came n tu p k x)∨(r=.asked n/\.asked n∈rs):=by
 unfold bF;rw[mem_flatMap];refine#[λ#[n,a,h]=>#[n,a,?_],λ#[n,a,h]=>#[n,a,?_]]
 .refine JB (c.came<|j n a) (LB λp k x=>KJ λe _ g _=>?_);rw[g]at h;rcases mem_cons.mp h with h|h
  .exact .inl #[p,k,x,e,h]
  split at h
  .rename_i l;exact .inr #[LV.mp h,fJ.mp l]
  cases h
 refine JB (c.came<|j n a) (LB λp k x=>KJ λe _ g _=>?_);rw[g];rcases h with⟨o,q,s,b,i⟩|⟨b,i⟩
 .rw[e]at b;cases b;rw[i];exact eG
 rw[b,LM (fJ.mpr i)];exact cR _ eG
def oX{lt:a->a->Prop}{xs:List a}(h:xs.Pairwise lt){k:Nat}{x y:a}(c:xs[k]?=!x)(d:y∈xs.take k):lt y x:=by
 obtain⟨e,g⟩:=NJ.mp c;obtain⟨j,i,b⟩:=getElem_of_mem d;rw[mV]at i;rw[List.getElem_take]at b;have:=(pairwise_iff_getElem.mp h) j k Zo e Zo;rw[b,g]at this;exact this
def Ck{xs:List a}{k:Nat}(h:k<xs.length):∃x,xs[k]?=!x/\x∈xs/\xs.take (k+1)=xs.take k++[x]:=#[xs[k],hX h,getElem_mem h,aM<|hX h]
def Ng(c:LS rs f tu ns)(x:NS rs f lf tu ns m hs es):RX.Whole (!"N@h~!Kibg"):=by
 have U:RX.Whole [.next m tu]:=.snoc .nil rfl;have V:∀k,k<=hs.length->RX.Whole (.next m tu::(hs.take k).map λz=>RX.has z<|f z):=by
  intro k;induction k with
  | zero=>exact λ_=>U
  | succ k i=>
   intro I;refine JB (Ck (xs:=hs) (k:=k) Zo) (JU λz=>JE λW RW X=>?_);rw[X,dL];refine .snoc (i Zo) #[λq a=>?_,#[m,tu,eG],λz' m' a=>?_]
   .rcases mem_cons.mp a with rfl|a
    .exact zero_le _
    obtain⟨y,_,rfl⟩:=LA.mp a;exact bD _
   rcases mem_cons.mp a with a|a
   .cases a
   obtain⟨y,j,e⟩:=LA.mp a;cases e;exact oX x.pos.asc W j
 have F:=V hs.length<|bD _;rw[mW (bD _)]at F;have Y:∀k,k<=es.length->RX.Whole ((.next m tu::hs.map λz=>RX.has z<|f z)++(es.take k).map cT):=by
  intro k;induction k with
  | zero=>intro _;rw[show(es.take 0).map cT=[] from rfl,append_nil];exact F
  | succ k i=>
   intro I;refine JB (Ck (xs:=es) (k:=k) Zo) (JU λe=>JE λZ T ee=>?_);have u:=x.ent c T;rw[ee,dL,<- append_assoc];refine .snoc (i Zo) #[λq a=>?_,#[m,tu,IN _ eG,?_,?_],λb v A B C J a=>?_,u.an]
   .rcases MN.mp a with a|a
    .rcases mem_cons.mp a with rfl|a
     .exact zero_le _
     obtain⟨y,_,rfl⟩:=LA.mp a;exact le_succ _
    obtain⟨y,_,rfl⟩:=LA.mp a;exact bD _
   .have:=u.num _ x.mx;omega
   .obtain⟨t,L⟩:=Uh (turnL rs) (by unfold turnL;simp);have:=u.tn t L;have:=c.tn t L;omega
   rcases MN.mp a with a|a
   .rcases mem_cons.mp a with a|a
    .cases a
    obtain⟨y,_,e⟩:=LA.mp a;cases e
   obtain⟨y,j,e⟩:=LA.mp a;have M:cT y=.kept b v A B C J:=e;unfold cT at M;injection M with N
   rw[<- N];exact oX x.asc Z j
 have G:=Y es.length<|bD _;rw[mW (bD _)]at G;have w3:∀k,k<=ns.length->RX.Whole (((.next m tu::hs.map λz=>RX.has z<|f z)++es.map cT)++bF rs tu (ns.take k)):=by
  intro k;induction k with
  | zero=>intro _;rw[show bF rs tu (ns.take 0)=[] from rfl,append_nil];exact G
  | succ k i=>
   intro I;refine JB (Ck (xs:=ns) (k:=k) Zo) (JU λn=>JE λO Q en=>?_);refine JB (c.came Q) (LB λp R d=>KJ λN hd e2=>JU λt0 U1=>?_);have TC:∀b∈ns.take k,b∈ns:=λb a0=>mem_of_mem_take a0
   have e3:bF rs tu (ns.take<|k+1)=bF rs tu (ns.take k)++gP rs tu n:=by unfold bF;rw[en,cG]
   have h:∀ {q:RX},q∈((.next m tu::hs.map λz=>RX.has z<|f z)++es.map cT)++bF rs tu (ns.take k)->q=.next m tu∨(∃z,q=.has z (f z))∨(∃e∈es,q=cT e)∨∃b∈ns.take k,(∃p k x,fH rs b=!(p,k,x)/\q=.came b tu p k x)∨(q=.asked b/\.asked b∈rs):=λ{q} a=>by
    rcases MN.mp a with a|a
    .rcases MN.mp a with a|a
     .rcases mem_cons.mp a with a|a
      .exact .inl a
      obtain⟨y,_,e⟩:=LA.mp a;exact .inr<|.inl #[y,e.symm]
     obtain⟨y,j,e⟩:=LA.mp a;exact .inr<|.inr<|.inl #[y,j,e.symm]
    exact .inr (.inr<|.inr<|(lA c _ TC).mp a)
   rw[e3,e2];have S:RX.Whole (((.next m tu::hs.map λz=>RX.has z<|f z)++es.map cT)++bF rs tu (ns.take k)++[.came n tu p R d]):=by
    refine .snoc (i Zo) #[λb v A B C a=>?_,λv A B C J a=>?_,λq a=>?_]
    .rcases h a with e|⟨z,e⟩|⟨l,_,e⟩|⟨o,g,⟨_,_,_,_,e⟩|⟨e,_⟩⟩
     .cases e
     .cases e
     .cases e
     .cases e;exact oX c.asc O g
     cases e
    .rcases h a with e|⟨z,e⟩|⟨l,s,e⟩|⟨o,g,⟨_,_,_,_,e⟩|⟨e,_⟩⟩
     .cases e
     .cases e
     .unfold cT at e;injection e with D;exact(x.ent c s).no n (c.sub.subset Q) D.symm
     .cases e
     cases e
    rcases h a with e|⟨z,e⟩|⟨l,s,e⟩|⟨o,g,⟨_,_,_,_,e⟩|⟨e,_⟩⟩<;>rw[e]
    .exact bD _
    .exact zero_le _
    .exact zero_le _
    .exact bD _
    exact zero_le _
   by_cases E:mG "asked" rs (Sum.inl (n:Int))=true
   .rw[LM E];have:=RX.Whole.snoc (r:=.asked n) S #[#[tu,p,R,d,GJ _ eG,?_],λa=>?_,λt y a=>?_]
    .simpa using this
    .refine JB (Ac c.hw<|fJ.mp E) (NF λt1 p1 k1 x1=>JW λh1 h2=>?_);have:=kX c.hw U1 h1;injection this with _ _ _ _ D
     rw[D];exact h2
    .rcases aY a with a|a
     .rcases h a with e|⟨z,e⟩|⟨l,s,e⟩|⟨o,g,⟨_,_,_,_,e⟩|⟨e,_⟩⟩
      .cases e
      .cases e
      .cases e
      .cases e
      cases e;exact IZ (oX c.asc O g)<|Nat.lt_irrefl _
     cases a
    rcases aY a with a|a
    .rcases h a with e|⟨z,e⟩|⟨l,s,e⟩|⟨o,g,⟨_,_,_,_,e⟩|⟨e,_⟩⟩<;>cases e
    cases a
   rw[LK E,<- append_assoc];exact S
 have H:=w3 ns.length<|bD _;rw[mW (bD _)]at H;unfold eF;simpa using H
def mJ(c:LS rs f tu ns):q∈eF rs f tu ns m hs es↔q=.next m tu∨(∃z∈hs,q=.has z (f z))∨(∃e∈es,q=cT e)∨∃n∈ns,(∃p k x,fH rs n=!(p,k,x)/\q=.came n tu p k x)∨(q=.asked n/\.asked n∈rs):=by
 unfold eF;rw[mem_cons,MN,MN,lA c ns λ_ h=>h,LA,LA];constructor
 .rintro(h|⟨z,a,b⟩|⟨e,a,b⟩|h)
  .exact .inl h
  .exact .inr<|.inl #[z,a,b.symm]
  .exact .inr<|.inr<|.inl #[e,a,b.symm]
  exact .inr<|.inr<|.inr h
 rintro(h|⟨z,a,b⟩|⟨e,a,b⟩|h)
 .exact .inl h
 .exact .inr<|.inl #[z,a,b.symm]
 .exact .inr<|.inr<|.inl #[e,a,b.symm]
 exact .inr<|.inr<|.inr h
def Kf{g:a->Option c}{xs:List a}(h:∀x,g x=none):xs.filterMap g=[]:=by
 induction xs with
 | nil=>rfl
 | cons x xs b=>rw[FS,h,b]
def Hv(g:RX->Option c)(a:∀z m,g (.has z m)=none)(b:∀e,g (cT e)=none):(eF rs f tu ns m hs es).filterMap g=(g<|.next m tu).toList++(bF rs tu ns).filterMap g:=by
 unfold eF;rw[FS,GG,GG,filterMap_map,filterMap_map,Kf (g:=g∘λz=>RX.has z<|f z) λz=>a z<|f z,Kf (g:=g∘cT) b];cases g (.next m tu)<;>rfl
def Ey(g:RX->Option b)(c:LS rs f tu ns){v:Nat->b}(d:∀n p k x,g (.came n tu p k x)=!v n)(e:∀n,g (.asked n)=none):(bF rs tu ns).filterMap g=ns.map v:=by
 have:∀a:DO,(∀n∈a,n∈ns)->(bF rs tu a).filterMap g=a.map v:=λa=>by
  induction a with
  | nil=>exact λ_=>rfl
  | cons n a i=>
   intro h;refine JB (c.came<|h n eG) (LB λp k x=>KJ λ_ _ j _=>?_);have l:bF rs tu (n::a)=gP rs tu n++bF rs tu a:=by unfold bF;rw[FM]
   have o:(if mG "asked" rs (Sum.inl (n:Int))=true then [RX.asked n] else []).filterMap g=[]:=by split<;>simp[e]
   rw[l,j,cons_append,List.filterMap_cons_some (d n p k x),GG,i λn q=>h n<|cR _ q,o];rfl
 exact this ns λ_ h=>h
def Nh(c:LS rs f tu ns):bW (!"N@h~!Kibg")=ns:=by
 refine(Hv _ (λ_ _=>rfl) λ_=>rfl).trans ?_;refine(nil_append _).trans<|(Ey _ c (v:=λn=>n) (λ_ _ _ _=>rfl) λ_=>rfl).trans Zs
def xI(c:LS rs f tu ns){n t:Nat}:.done n t y∉eF rs f tu ns m hs es:=λh=>by
 rcases(mJ c).mp h with e|⟨z,_,e⟩|⟨a,_,e⟩|⟨b,_,⟨_,_,_,_,e⟩|⟨e,_⟩⟩<;>cases e
def Ni(c:LS rs f tu ns):dA (!"N@h~!Kibg")=[]:=by
 cases h:dA (!"N@h~!Kibg") with
 | nil=>rfl
 | cons n l=>
  obtain⟨t,y,a⟩:=iZ (rs:=eF rs f tu ns m hs es) (n:=n) (by rw[h];exact eG);exact IZ a<|xI c
def tF{g:a->List b}{xs:List a}(h:∀x∈xs,g x=[]):xs.flatMap g=[]:=List.flatMap_eq_nil_iff.mpr h
def Ez(c:LS rs f tu ns):bH (!"N@h~!Kibg")=es:=by
 unfold bH;have b:(eF rs f tu ns m hs es).flatMap (!"N@h~!Kibg{jZ1 ")=[]:=tF λr a=>wZ λe=>by
  obtain⟨n,t,y,rfl⟩:=oU e;exact xI c a
 have d:(bF rs tu ns).flatMap hW=[]:=tF λr a=>by
  rcases(lA c ns λ_ h=>h).mp a with⟨k,_,⟨_,_,_,_,e⟩|⟨e,_⟩⟩<;>rw[e]<;>rfl
 have g:(hs.map λz=>RX.has z<|f z).flatMap hW=[]:=tF λr a=>by
  obtain⟨z,_,rfl⟩:=LA.mp a;rfl
 have i:(es.map cT).flatMap hW=es:=by
  clear b d g c;induction es with
  | nil=>rfl
  | cons e es j=>rw[map_cons,FM,j];rfl
 rw[b,append_nil];unfold eF;rw[FM,flatMap_append,flatMap_append,d,g,i];simp[hW]
def Ui(c:LS rs f tu ns)(x:NS rs f lf tu ns m hs es):ML (!"N@h~!Kibg{cJ1 ") (m:Int):=by
 have g:bX (!"N@h~!Kibg")=[m]:=by
  refine(Hv _ (λ_ _=>rfl) λ_=>rfl).trans ?_;have:(bF rs tu ns).filterMap (λr=>match r with|.next n _=>some n|_=>none)=[]:=by
   rw[List.filterMap_eq_nil_iff];intro r i;rcases(lA c ns λ_ h=>h).mp i with⟨q,_,⟨_,_,_,_,e⟩|⟨e,_⟩⟩<;>rw[e]
  exact congrArg (λl=>[m]++l) this
 unfold cJ;rw[g,Nh c];refine#[Zs,λa b=>?_];simp only [map_cons,map_nil,cons_append,nil_append,mem_cons,LA]at b;rcases b with rfl|rfl|⟨n,j,rfl⟩
 .exact x.mx.2 1 (by unfold cJ;simp)
 .exact Int.le_refl _
 refine JB (c.came j) (LB λp k d=>KJ λ_ _ _=>JU λt o=>?_);exact x.mx.2 _ (by unfold cJ;simp only [cons_append,mem_cons,MN,LA];exact .inr<|.inr #[n,sX o,rfl])
def Uj(c:LS rs f tu ns):ML (!"N@h~!Kibg{turnL1 ") (tu:Int):=by
 have d:cQ (!"N@h~!Kibg")=tu::ns.map λ_=>tu:=by
  refine(Hv _ (λ_ _=>rfl) λ_=>rfl).trans ?_;exact congrArg (λl=>[tu]++l) (Ey _ c (v:=λ_=>tu) (λ_ _ _ _=>rfl) λ_=>rfl)
 unfold turnL;rw[d];refine#[Zs,λa b=>?_];simp only [map_cons,map_map,mem_cons,LA]at b;rcases b with rfl|rfl|⟨n,e,rfl⟩
 .omega
 .exact Int.le_refl _
 exact Int.le_refl _
def rz(f:Str->Nat)(r:RX):Str->Nat:=match r with|.has z m=>eE f z m|_=>f
theorem Uk:∀(l:BR)(g:Str->Nat),(∀r∈l,dW r≠"has")->l.foldl rz g=g
 | [],_,_=>rfl
 | r::l,g,h=>by
  rw[foldl_cons];have a:=Uk l g λr b=>h r (cR _ b)
  cases r with
  | has z m=>exact IZ rfl (h _ eG)
  | _=>exact a
theorem Kg:∀(l:A2)(g:Str->Nat)(z:Str),(l.map λz=>RX.has z<|f z).foldl rz g z=if z∈l then f z else g z
 | [],g,z=>by rw[LK (λh=>nomatch h)];rfl
 | y::l,g,z=>by
  rw[map_cons,foldl_cons,Kg l];by_cases b:z∈l
  .rw[LM b,LM (cR _ b)]
  rw[LK b];show eE g y (f y) z=_;unfold eE;by_cases a:z=y
  .rw[LM a,LM (by rw[a];exact eG),a]
  rw[LK a,LK (λh=>by rcases mem_cons.mp h with e|e;exact a e;exact b e)]
def Nj(c:LS rs f tu ns)(x:NS rs f lf tu ns m hs es):kE (!"N@h~!Kibg")=f:=by
 show(eF rs f tu ns m hs es).foldl rz (λ_=>0)=f;unfold eF;rw[foldl_cons,foldl_append,Uk (es.map cT++bF rs tu ns) _ λr a=>?_]
 .funext z
  rw[Kg];by_cases h:z∈hs
  .rw[LM h]
  rw[LK h];have b:¬ 0<f z:=λb=>h ((x.pos.iff z).mpr b)
  show 0=f z;omega
 rcases MN.mp a with a|a
 .obtain⟨e,_,rfl⟩:=LA.mp a;exact show("kept":Str)≠"has" by decide +kernel
 rcases(lA c ns λ_ h=>h).mp a with⟨d,_,⟨_,_,_,_,e⟩|⟨e,_⟩⟩<;>rw[e]
 .exact show("came":Str)≠"has" by decide +kernel
 exact show("asked":Str)≠"has" by decide +kernel
def Zr(c:LS rs f tu ns)(x:NS rs f lf tu ns m hs es):QK (!"N@h~!Kibg") (λ_=>f) f:=
 #[(Nj c x).symm,λi n t y e=>IZ (kI e)<|xI c,λ_ _ _ _=>rfl,rfl]
def Zt(c:LS rs f tu ns):∀r∈eF rs f tu ns m hs es,Tq r:=λr b=>by
 rcases(mJ c).mp b with e|⟨z,_,e⟩|⟨i,_,e⟩|⟨j,g,⟨p,k,d,h,e⟩|⟨e,_⟩⟩<;>rw[e]
 .trivial
 .exact c.le z
 .trivial
 .refine JB (c.came g) (LB λl n o=>JE λa hd _=>?_);rw[h]at a;cases a;exact hd
 trivial
def aCA(c:LS rs f tu ns)(x:NS rs f lf tu ns m hs es):∀n t p k d y,.kept n t p k d y∈eF rs f tu ns m hs es->d.Ok:=λn t p k d y b=>by
 rcases(mJ c).mp b with e|⟨z,_,e⟩|⟨h,a,e⟩|⟨i,a,⟨p,k,d,j,e⟩|⟨e,_⟩⟩
 .cases e
 .cases e
 .have:=(x.ent c a).dd c.snd c.kd;unfold cT at e;injection e with _ _ _ _ g _
  rw[g];exact this
 .cases e
 cases e
def xJ(c:BR)(h:RX.Whole rs):(rs.flatMap<|mO c).Pairwise λa b=>a.1<b.1:=by
 induction h with
 | nil=>exact .nil
 | @snoc rs r z l d=>
  rw[cG];cases r with
  | came n t p k x=>
   have e:mO c (.came n t p k x)=if fI c n=true then [(n,p,k,x)] else []:=rfl
   rw[e];split
   .refine pairwise_append.mpr #[d,List.pairwise_singleton _ _,λa o b q=>?_];rw[LV.mp q];obtain⟨r,s,i⟩:=mem_flatMap.mp o
    cases r with
    | came j A u v y=>
     have g:a∈(if fI c j=true then [(j,u,v,y)] else []):=i;split at g
     .rw[LV.mp g];exact l.1 _ _ _ _ _ s
     cases g
    | _=>cases i
   rw[append_nil];exact d
  | _=>simpa [mO]using d
def Fa:o∈cS rs↔(∃t,.came o.1 t o.2.1 o.2.2.1 o.2.2.2∈rs)/\fI rs o.1=true:=by
 unfold cS;rw[mem_flatMap];refine#[?_,λ#[#[t,a],h]=>#[_,a,?_]]
 .rintro ⟨r,a,h⟩;cases r with
  | came n t p k x=>
   have b:o∈(if fI rs n=true then [(n,p,k,x)] else []):=h;split at b
   .rename_i c;rw[LV.mp b];exact#[#[t,a],c]
   cases b
  | _=>cases h
 show o∈(if fI rs o.1=true then [(o.1,o.2.1,o.2.2.1,o.2.2.2)] else []);rw[LM h];exact LV.mpr rfl
end
def Zu{g:TG}{tb:TS}{D:iE}{c:St}{H:Hp}{a:TD}(e:MO K H a [])(h:D.nx c H) :
  ∃W:Nat->Nat->St->Hp->Prop,(∃m,W 0 m c H)/\∀i m c H,W i m c H →
   ((UE K a).stop i H/\D.nx c H)∨((UE K a).go i H/\∃N:St->Hp->Prop,(∀ b H',N b H'->∃m',m'<m/\W (i+1) m' b H')/\∀x H',(UE K a).yld i H x H'->g x c H' λf H2=>tb {D with nx:=N,ct:=N,bk:=D.nx } f H2):=
 bT (aX K a []) (λi b H'=>H'=H/\b=c) (λi b H' #[d,_]=>by rw[d];exact e) #[rfl,rfl] (λi x b H' j _=>by simp at j) (λb H' #[d,k]=>by subst d;subst k;exact h)
structure JT(K:W.Frag)(C:TD):Prop where
 cl:PM K C
 nW:KA K C "written"
 nS:KA K C "safe_count"
def Ad:Sp:=λvs H Q _=>vs=[.str ("":Str)]/\∀l a,H l=none->a l=!.lst []->I7 H a->Q (.ref l) a
def Fb(T:Txt K mg)(D:KY K mg "rows_of" oR ["text"]):Callee^1 "rows_of" ["text"] Ad:=by
 refine D.gg lX λf I A G s H vs Q E J h=>?_
 .obtain⟨rfl,q⟩:=h;exists _,(!"`1 `lX.nd #Z:V%%`T.b_enumerate ~B|q`PySem.F.slot_str_split `PySem.F.type_str_split `R.ig 0)#!yl'MP]{^R.ik3 ?I&W1(&$$" (BO (K:=K) (n:=2) rfl (xp (vi (i:=2) lX.nd) (xp (vi (i:=3) lX.nd) BP))));refine#[uR rfl,λl j=>?_];dsimp only [aI];have k:=aF (o:=.lst []) j;have g1:(aH H l<|.lst []) l=!.lst []:=aA;generalize aH H l (.lst [])=m at k g1 ⊢;refine#[rfl,Zk,Zk,λg p=>?_];have C:(Txt.split ("":Str) ("\n":Str)).map V.str=[V.str ("":Str)]:=by kernel_rfl
  rw[C];have r:=k.trans<|aF (o:=.lst [V.str ("":Str)]) p;have g2:=aF (o:=.lst [V.str ("":Str)]) p _ _ g1;have u:(aH m g<|.lst [V.str ("":Str)]) g=!.lst [V.str ("":Str)]:=aA;generalize aH m g (.lst [V.str ("":Str)])=v at r g2 u ⊢;refine#[_,JX u,λb y=>?_];rw[show jK [V.str ("":Str)] none (some<|-1)=[] by kernel_rfl];have z:=r.trans<|aF (o:=.lst []) y;have g3:=aF (o:=.lst []) y _ _ g2;have e:(aH v b<|.lst []) b=!.lst []:=aA;generalize aH v b (.lst [])=B at z g3 e ⊢;exists _,JX e;refine Rt (K:=K) (a:=b) (xs:=[]) (tb:=λ_ _ _=>False) (λi d c=>c=B/\d=[!.str ("":Str),!.ref l,none,none]) (λi d c h=>by rw[h.1];exact JX e) #[rfl,rfl] (λi x d c t F=>by simp at F) λd c h=>?_;rw[h.1,h.2];exact q l B j g3 z
inductive Kh(C:TD)(vs:A1)(H:Hp)(Q:VK)(E_:XK):Prop
 | mk(p dx:_):vs=[.ref p,.str ("":Str)]->H p=!.ins C dx []->(∀H' lw,H lw=none->H' p=!(.ins C dx<|jf lw 0)->H' lw=!.lst []->(∀c o,H c=!o->c≠p->H' c=!o)->Q .non H')->Kh C vs H Q E_
def Nk(T:Txt K mg)(B:JT K C)(t:Callee^1 "rows_of" ["text"] Ad)(D:ClsAt K mg "Journal" C "Journal.__init__" bO VW [[],[.str ("":Str)]]):∀d∈([[],[.str ("":Str)]]:HF),QJ^2 "Journal" C VW d (Kh C):=by
 refine D.gg pF λf x A v s H vs Q E u h=>?_
 .obtain⟨p,a,rfl,j,q⟩:=h;exists _,(!"0|B~&%1#!<C0~$%ps0*#!JC&$");refine#[rfl,λl b k g1 m=>?_];have n:p≠l:=aE j k;exists C,a,[],m _ _ j,B.cl,B.nW,(by show 0<1000;decide);dsimp only;rw[show bI "written" (.ref l) []=([("written",.ref l)]:CB) from rfl];have g2:(aH b p<|.ins C a [("written",.ref l)]) p=!.ins C a [("written",.ref l)]:=aA;have i:(aH b p<|.ins C a [("written",.ref l)]) l=!.lst []:=by rw[aD n.symm];exact g1
  have r:∀c o,b c=!o->c≠p->(aH b p<|.ins C a [("written",.ref l)]) c=!o:=λc o e g=>by rw[aD g];exact e
  generalize aH b p (.ins C a [("written",.ref l)])=y at g2 i r ⊢;exists C,a,_,.ref l,g2,B.cl,B.nW,by kernel_rfl,_,.inl<|JX i;exists C,a,_,g2,B.cl,B.nS,(by show 1<1000;decide);refine q _ l k (by rw[aA];congr 1) (by rw[aD n.symm];exact i) λc o e g=>?_;rw[aD g];exact r _ _ (m _ _ e) g
inductive lB(C:TD)(vs:A1)(H:Hp)(Q:VK)(E_:XK):Prop
 | mk(x lw dx:TD)(n:Int)(us:A1)(v:V):vs=[.ref x,v]->H x=!(.ins C dx<|jf lw n)->H lw=!.lst us->us.length<=1000->Q .non (aH H lw<|.lst<|us++[v])->lB C vs H Q E_
inductive oE(C:TD)(vs:A1)(H:Hp)(Q:VK)(E_:XK):Prop
 | mk(x lw dx:TD)(n:Int)(us:A1):vs=[.ref x]->H x=!(.ins C dx<|jf lw n)->H lw=!.lst us->Q .non (aH H x<|.ins C dx<|jf lw us.length)->oE C vs H Q E_
inductive oY(C:TD)(vs:A1)(H:Hp)(Q:VK)(E_:XK):Prop
 | mk(x lw dx:TD)(n:Int)(us:A1):vs=[.ref x]->H x=!(.ins C dx<|jf lw n)->H lw=!.lst us->(∀l,H l=none->Q (.ref l) (aH H l<|.lst us))->oY C vs H Q E_
inductive uY(C:TD)(vs:A1)(H:Hp)(Q:VK)(E_:XK):Prop
 | mk(x lw dx:TD)(n:Int):vs=[.ref x]->H x=!(.ins C dx<|jf lw n)->Q (.int n) H->uY C vs H Q E_
def Nl(B:JT K C)(D:MethAt K C "write" "Journal.write" eX ES):bP^1 C "write" ES (lB C):=by
 refine D.gg sM λf j A i s H vs Q E k h=>?_
 .obtain⟨x,a,c,n,d,v,rfl,e,b,g,q⟩:=h;exists _,(!"~'~E~F~I0*1#!yE&");exact#[C,c,_,.ref a,e,B.cl,B.nW,by kernel_rfl,.inl #[rfl,_,JX b],a,d,v,rfl,rfl,b,yR g Zd,q]
def Nm(T:Txt K mg)(B:JT K C)(D:MethAt K C "force" "Journal.force" eY EX):bP^1 C "force" EX (oE C):=by
 refine D.gg sN λf i A g s H vs Q E j h=>?_
 .obtain⟨x,a,b,n,c,rfl,d,e,q⟩:=h;exists _,(!"0~$%ps0*#!JC&");exists C,b,_,.ref a,d,B.cl,B.nW,by kernel_rfl,_,.inl<|JX e;exists C,b,_,d,B.cl,B.nS,(by show 2<1000;decide);dsimp only;rw[show bI "safe_count" (.int c.length) (jf a n)=jf a c.length by kernel_rfl];exact q
def Ul(T:Txt K mg)(B:JT K C)(D:MethAt K C "rows" "Journal.rows" fY EX):bP^1 C "rows" EX (oY C):=by
 refine D.gg uI λf g A e s H vs Q E i h=>?_
 .obtain⟨x,a,b,n,j,rfl,c,d,q⟩:=h;exists _,(!"{^R.jd0 %|t`Jg 0*#!~A(&");exact#[C,b,_,.ref a,c,B.cl,B.nW,by kernel_rfl,_,.inl<|JX d,q]
def Um(B:JT K C)(D:MethAt K C "safe" "Journal.safe" fZ EX):bP^1 C "safe" EX (uY C):=by
 refine D.gg uJ λf d A c s H vs Q E e h=>?_
 .obtain⟨x,g,a,n,rfl,b,q⟩:=h;exists _,(!"0*(&");exact#[C,a,_,.int n,b,B.cl,B.nS,by kernel_rfl,q]
inductive Cl(C:TD)(vs:A1)(H:Hp)(Q:VK)(E_:XK):Prop
 | mk(x lw dx:TD)(m:Int)(us:A1):vs=[.ref x,.int m]->H x=!(.ins C dx<|jf lw us.length)->H lw=!.lst us->(∀lw' H',H lw'=none->H' x=!(.ins C dx<|jf lw' us.length)->H' lw'=!.lst us->(∀c o,H c=!o->c≠x->H' c=!o)->Q .non H')->Cl C vs H Q E_
def Uo(B:JT K C)(z:bP^1 C "force" EX (oE C))(D:MethAt K C "fall" "Journal.fall" fX CZ):bP^2 C "fall" CZ (Cl C):=by
 refine D.gg hZ λf L A J s H vs Q E F h=>?_
 .obtain⟨x,l,d,m,a,rfl,j,u,q⟩:=h;exists _,(!"`2 `hZ.nd 0*:V%~B0*0*Pl]u`3 `hZ.nd tIII&$$W0~B0*l2P]C~W~L0AE&$$$");refine#[C,d,_,.int a.length,j,B.cl,B.nS,by kernel_rfl,?_];refine#[C,d,_,.ref l,j,B.cl,B.nW,by kernel_rfl,C,d,_,.int a.length,j,B.cl,B.nS,by kernel_rfl,_,JX u,λk G=>?_];rw[vX,drop_length];have g:=aF (o:=.lst []) G;have g2:(aH H k<|.lst []) k=!.lst []:=aA;generalize aH H k (.lst [])=v at g g2 ⊢;refine#[k,rfl,#[_,JX g2],Zu (tb:=λ_ _ _=>False) (JX g2) ?_];have n:=g _ _ j;have I:=g _ _ u;refine#[C,d,_,.ref l,n,B.cl,B.nW,by kernel_rfl,_,JX I,λc p=>?_];rw[nQ,take_length];have r:=aF (o:=.lst a) p;have g3:(aH v c<|.lst a) c=!.lst a:=aA;have t:x≠c:=aE n p;generalize aH v c (.lst a)=M at r g3 ⊢;exists C,d,_,r _ _ n,B.cl,B.nW,(by show 2<1000;decide);dsimp only;rw[show bI "written" (.ref c) (jf l a.length)=jf c a.length by kernel_rfl];refine#[d,_,aA,by kernel_rfl,x,c,d,a.length,a,rfl,aA,by rw[aD t.symm];exact g3,?_];refine q c _ (g.free p) (by rw[aA]) (by rw[aD t.symm,aD t.symm];exact g3) λb o e y=>?_;rw[aD y,aD y];exact r _ _<|g _ _ e
inductive xK(C:TD)(vs:A1)(H:Hp)(Q:VK)(E_:XK):Prop
 | mk(x lw dx t:TD)(k:Nat)(us:A1)(zs:HP)(xs:A1):vs=[.ref x,.ref t]->H x=!(.ins C dx<|jf lw k)->H lw=!.lst us->H t=!.tup xs->us.take k=zs.map (λz=>V.ref z.1)->(∀z∈zs,H z.1=!.tup z.2/\cZ z.2 xs)->(∀H',I7 H H'->Q (.bl<|wN xs zs) H')->xK C vs H Q E_
def Nn(B:JT K C)(D:MethAt K C "is_safe" "Journal.is_safe" dH ES):bP^1 C "is_safe" ES (xK C):=by
 refine D.gg pY λf F A y s H vs Q E g h=>?_
 .obtain⟨x,i,b,t,k,G,c,j,rfl,d,n,p,r,e,q⟩:=h;have u:=g.units;exists _,(!"~&{R.ir1 1~B0*l0*P]~)(&");refine#[C,b,_,.ref i,d,B.cl,B.nW,by kernel_rfl,C,b,_,.int k,d,B.cl,B.nS,by kernel_rfl,_,JX n,λl v=>?_];rw[nQ,r];have a:=aF (o:=.lst (c.map λz=>V.ref z.1)) v;exact#[j,c,a _ _ p,aA,λz m=>#[a _ _ (e z m).1,(e z m).2],q _ a]
structure Vw(K:W.Frag)(C:TD):Prop where
 cl:PM K C
 nN:KA K C "number"
 nA:KA K C "asker"
 nK:KA K C "key"
 nD:KA K C "deed"
 nS:KA K C "stage"
 nP:KA K C "place"
 nU:KA K C "undos"
structure Fl(K:W.Frag)(C:TD):Prop where
 cl:PM K C
 nT:KA K C "turn"
 nB:KA K C "book"
 nS:KA K C "standing"
 nR:KA K C "runs"
 nN:KA K C "next_number"
inductive Hw(C:TD)(vs:A1)(H:Hp)(Q:VK)(E_:XK):Prop
 | mk(r:Rn):vs=[.ref r.p,.int r.n,.str r.q.1,.str r.q.2,.ref r.d,.str r.st]->r.pl=0->r.un=0->H r.p=!.ins C r.dx []->Q .non (aH H r.p<|.ins C r.dx r.fs)->Hw C vs H Q E_
def Zv(B:Vw K C)(D:ClsAt K mg "Run" C "Run.__init__" cP EQ [[]]):∀d∈([[]]:HF),QJ^1 "Run" C EQ d (Hw C):=by
 refine D.gg uK λf g A e s H vs Q E i h=>?_
 .obtain⟨⟨p,a,n,q,d,x,st,j,un⟩,rfl,rfl,rfl,b,c⟩:=h;exists _,(!"01C02C03C04C05C0'C0'C&$$$$$$");exists C,a,[],b,B.cl,B.nN,(by show 0<1000;decide);dsimp only;rw[show bI "number" (.int n) []=([("number",.int n)]:CB) by kernel_rfl];exists C,a,_,aA,B.cl,B.nA,(by show 1<1000;decide);dsimp only;rw[jN,show bI "asker" (.str q.1) ([("number",.int n)]:CB)=([("number",.int n),("asker",.str q.1)]:CB) by kernel_rfl];exists C,a,_,aA,B.cl,B.nK,(by show 2<1000;decide);dsimp only;rw[jN,show bI "key" (.str q.2) ([("number",.int n),("asker",.str q.1)]:CB)=([("number",.int n),("asker",.str q.1),("key",.str q.2)]:CB) by kernel_rfl];exists C,a,_,aA,B.cl,B.nD,(by show 3<1000;decide);dsimp only;rw[jN,show bI "deed" (.ref d) ([("number",.int n),("asker",.str q.1),("key",.str q.2)]:CB)=([("number",.int n),("asker",.str q.1),("key",.str q.2),("deed",.ref d)]:CB) by kernel_rfl];exists C,a,_,aA,B.cl,B.nS,(by show 4<1000;decide);dsimp only;rw[jN,show bI "stage" (.str st) ([("number",.int n),("asker",.str q.1),("key",.str q.2),("deed",.ref d)]:CB)=([("number",.int n),("asker",.str q.1),("key",.str q.2),("deed",.ref d),("stage",.str st)]:CB) by kernel_rfl];exists C,a,_,aA,B.cl,B.nP,(by show 5<1000;decide);dsimp only;rw[jN,show bI "place" (.int 0) ([("number",.int n),("asker",.str q.1),("key",.str q.2),("deed",.ref d),("stage",.str st)]:CB)=([("number",.int n),("asker",.str q.1),("key",.str q.2),("deed",.ref d),("stage",.str st),("place",.int 0)]:CB) by kernel_rfl];exists C,a,_,aA,B.cl,B.nU,(by show 6<1000;decide);dsimp only;rw[jN,show bI "undos" (.int 0) ([("number",.int n),("asker",.str q.1),("key",.str q.2),("deed",.ref d),("stage",.str st),("place",.int 0)]:CB)=([("number",.int n),("asker",.str q.1),("key",.str q.2),("deed",.ref d),("stage",.str st),("place",.int 0),("undos",.int 0)]:CB) by kernel_rfl];exact c
def aD9(r:Rn):A1:=[.int r.n,.str r.q.1,.str r.q.2,.ref r.d,.str r.st]
inductive Uq(C:TD)(vs:A1)(H:Hp)(Q:VK)(E_:XK):Prop
 | mk(r:Rn):vs=[.ref r.p]->H r.p=!.ins C r.dx r.fs->(∀t H',I7 H H'->H' t=!(.tup<|aD9 r)->Q (.ref t) H')->Uq C vs H Q E_
def aCB(B:Vw K C)(D:MethAt K C "as_tuple" "Run.as_tuple" gD EX):bP^1 C "as_tuple" EX (Uq C):=by
 refine D.gg uL λf c A b s H vs Q E d h=>?_
 .obtain⟨r,rfl,a,q⟩:=h;exists _,(!"0*0*0*0*0*#!!!!!+(&");exact#[C,_,_,.int r.n,a,B.cl,B.nN,by kernel_rfl,C,_,_,.str r.q.1,a,B.cl,B.nA,by kernel_rfl,C,_,_,.str r.q.2,a,B.cl,B.nK,by kernel_rfl,C,_,_,.ref r.d,a,B.cl,B.nD,by kernel_rfl,C,_,_,.str r.st,a,B.cl,B.nS,by kernel_rfl,bK rfl,q]
def rE(b:rs.Pairwise λr r'=>r.n<r'.n)(a:r∈rs):bA (aS rs) (Sum.inl (r.n:Int))=!.ref r.p:=by
 induction rs with
 | nil=>cases a
 | cons z g c=>
  obtain⟨d,f⟩:=pairwise_cons.mp b;unfold aS;rw[map_cons];rcases mem_cons.mp a with rfl|m
  .exact cH rfl
  have h:=d r m;rw[cI (λe=>by have i:(z.n:Int)=(r.n:Int):=Sum.inl.inj e;omega)];exact c f m
def Ae{n:Nat}(h:∀r∈rs,r.n<n):bA (aS rs) (Sum.inl (n:Int))=none:=by
 cases e:bA (aS rs) (Sum.inl (n:Int)) with
 | none=>rfl
 | some v=>
  have:=qT e;unfold aS at this;obtain⟨r,a,b⟩:=LA.mp this;have c:(r.n:Int)=(n:Int):=Sum.inl.inj<|congrArg Prod.fst b;have:=h r a;omega
def No(g:(b++r::a).Pairwise λr r'=>r.n<r'.n):cM (aS (b++r::a)) (Sum.inl (r.n:Int))=aS (b++a):=by
 have f:=pairwise_append.mp g;have h:=pairwise_cons.mp f.2.1;unfold aS cM;rw[dL,map_cons,filter_append,filter_cons,LK Zs,dL]
 congr 1
 .rw[filter_eq_self];intro i c;obtain⟨z,d,rfl⟩:=LA.mp c;have:=f.2.2 z d r eG;exact UF λe=>by have j:(z.n:Int)=(r.n:Int):=Sum.inl.inj e;omega
 rw[filter_eq_self];intro i c;obtain⟨z,d,rfl⟩:=LA.mp c;have:=h.1 z d;exact UF λe=>by have j:(z.n:Int)=(r.n:Int):=Sum.inl.inj e;omega
section
variable {c:CK}{a:DA}{s s':DS}
def K1.radd(h:K1 c H a s)(g:H r.p=none)(i:H r.dx=none)(G:r.dx≠r.p)(hd:H r.d=!.tup r.x.vs)(u:∀r'∈s.runs,r'.n<r.n) :
  K1 c (aH (aH (aH H r.dx<|.own r.p) r.p<|.ins c.R r.dx r.fs) a.rn<|.dK<|aS<|s.runs++[r]) a {s with runs:=s.runs++[r] }/\Mv a s {s with runs:=s.runs++[r] } H (aH (aH (aH H r.dx<|.own r.p) r.p<|.ins c.R r.dx r.fs) a.rn<|.dK<|aS<|s.runs++[r]):=by
 have d:I7 H (aH (aH H r.dx<|.own r.p) r.p<|.ins c.R r.dx r.fs):=λb o e=>by rw[aD (aE e g),aD (aE e i)];exact e
 have g1:(aH (aH H r.dx<|.own r.p) r.p<|.ins c.R r.dx r.fs) r.p=!.ins c.R r.dx r.fs:=aA;generalize aH (aH H r.dx<|.own r.p) r.p (.ins c.R r.dx r.fs)=v at d g1 ⊢;refine JB h.own (JR λbs f=>JE λj A B=>?_);have n:=j.get 10 rfl;have l:r.p≠a.rn:=(aE n g).symm;have t:TK H (aH v a.rn<|.dK<|aS<|s.runs++[r]):=λb I e=>by rw[aD (aL e n λz=>nomatch z)];exact d _ _ e
 have C:=(j.same d).set 10 rfl<|.dK<|aS<|s.runs++[r];have D:r.p∉((a.all c s bs f).set 10 (a.rn,.dK<|aS<|s.runs++[r])).map (·.1):=by
  rw[map_set];intro m;rcases mem_or_eq_of_mem_set m with z|z
  .exact j.keys g z
  exact l z
 have p:=C.snoc D (o:=.ins c.R r.dx r.fs) (by rw[aD l];exact g1);have e:(a.all c s bs f).set 10 (a.rn,.dK<|aS<|s.runs++[r])++[(r.p,.ins c.R r.dx r.fs)]=a.all c {s with runs:=s.runs++[r] } bs f:=by
  unfold DA.all;show _=a.objs c {s with runs:=s.runs++[r] } bs f++(s.runs++[r]).map (pH c);rw[dL,<- append_assoc];rfl
 rw[e]at p;refine#[#[#[bs,f,p,A.keep t,B.keep t],h.nd,?_,λq k=>?_],#[λb o z E=>?_,λq k=>?_,λb z=>?_]]
 .exact pairwise_append.mpr #[h.up,Zs,λx i y F=>by rw[LV.mp F];exact u x i]
 .rcases MN.mp k with m|m
  .exact t _ _<|h.dd q m
  rw[LV.mp m];exact t _ _ hd
 .rw[aD λw=>E (by rw[w];simp[DA.fix])];exact d _ _ z
 .rcases MN.mp k with m|m
  .exact .inl<|mem_map_of_mem m
  rw[LV.mp m];exact .inr g
 by_cases q:b=a.rn
 .rw[q,aA]at z;cases z
 rw[aD q]at z;exact I7.gr d b z
def K1.rdrop(h:K1 c H a s)(hs:s.runs=f++r::d):K1 c (aH H a.rn<|.dK<|aS<|f++d) a {s with runs:=f++d }/\Mv a s {s with runs:=f++d } H (aH H a.rn<|.dK<|aS<|f++d):=by
 refine JB h.own (JR λbs g=>JE λj l m=>?_);have n:=j.get 10 rfl;have t:TK H (aH H a.rn<|.dK<|aS<|f++d):=iB n λ_ z=>nomatch z
 have k:=j.set 10 rfl<|.dK<|aS<|f++d;have sub:(f++d).Sublist s.runs:=by rw[hs];exact List.Sublist.append_left (sublist_cons_self _ _) _
 have e:(a.all c s bs g).set 10 (a.rn,.dK<|aS<|f++d)=a.objs c {s with runs:=f++d } bs g++s.runs.map (pH c):=rfl;rw[e]at k;have p:Own _ (a.all c {s with runs:=f++d } bs g):=k.sub<|List.Sublist.append_left (sub.map _) _;refine#[#[#[bs,g,p,l.keep t,m.keep t],h.nd,h.up.sublist sub,λq i=>t _ _<|h.dd q<|sub.subset i],#[λb o z u=>?_,λq i=>.inl<|mem_map_of_mem<|sub.subset i,λb z=>?_]]
 .rw[aD λw=>u (by rw[w];simp[DA.fix])];exact z
 by_cases q:b=a.rn
 .rw[q,aA]at z;cases z
 rw[aD q]at z;exact z
end
def kH(p a:TD)(n:Nat)(q:Str×Str)(d:TD)(x:Dd)(st:Str):Rn:=#[p,a,n,q,d,x,st,0,0]
def i4(t:Int):CB:=[("turn",.int t)]
def i6(t:Int)(b:TD):CB:=[("turn",.int t),("book",.ref b)]
def ec(t:Int)(b k:TD):CB:=[("turn",.int t),("book",.ref b),("standing",.ref k)]
def ef(t:Int)(b k r:TD):CB:=[("turn",.int t),("book",.ref b),("standing",.ref k),("runs",.ref r)]
def Oe(t:Int)(b k r:TD)(n:Int):CB:=[("turn",.int t),("book",.ref b),("standing",.ref k),("runs",.ref r),("next_number",.int n)]
inductive Cm(c:CK)(vs:A1)(H:Hp)(Q:VK)(E_:XK):Prop
 | mk(me mx bk ks rn:TD)(kf:KF)(life tu nx:Int)(m:KM)(L:Nat)(kvs:DI)(n:Nat)(q:Str×Str)(d:TD)(x:Dd)(st:Str):vs=[.ref me,.int n,.str q.1,.str q.2,.ref d,.str st]->H me=!(.ins c.M mx<|Oe tu bk ks rn nx)->MM c.Ks H ks kf life m L->L<=500->(∀n' d',m q≠some (.busy n' d'))->H rn=!.dK kvs->bA kvs (Sum.inl (n:Int))=none->kvs.length<=500->(∀p dx H1,MM c.Ks H1 ks kf life (m.set q<|!.busy n d) (L+1)->Y9 H H1 kf->H1 p=none->H1 dx=none->dx≠p->Q .non (aH (aH (aH H1 dx<|.own p) p<|.ins c.R dx (kH p dx n q d x st).fs) rn<|.dK<|kvs++[(Sum.inl (n:Int),V.ref p)]))->Cm c vs H Q E_
def Zw(b:Fl K c.M)(G:bP^1 c.Ks "begin" ZR (Bq c.Ks))(H:QJ^1 "Run" c.R EQ [] (Hw c.R))(D:MethAt K c.M "put" "Memory.put" iN EQ) :
  bP^3 c.M "put" EQ (Cm c):=by
 refine D.gg yI λf Y A X s a0 vs a1 a2 j h=>?_
 .obtain⟨me,I,bk,ks,rn,u,B,J,M,m,L,C,n,q,d,x,st,rfl,e,ky,N,O,l,Q,S,T⟩:=h;have U:=dN j;exists _,(!"|$~D0*2314#!!!!DE~o~D%12345#!!!!!~Q0*1`U ~@~+~*&$");obtain⟨bs,v,_⟩:=ky.hb;obtain⟨Z,y,_⟩:=ky.hs;refine#[c.M,_,_,.ref ks,e,b.cl,b.nS,by kernel_rfl,u.dx,_,ky.hp,zQ _ _ Zk Zk Zk,ks,u,B,m,L,q,n,d,rfl,ky,N,O,λg V f1=>?_];have i:=f1 _ _ e (aL e v λz=>nomatch z) (aL e y λz=>nomatch z);have o:=f1 _ _ l (aL l v λz=>nomatch z) (aL l y λz=>nomatch z);dsimp only [aI];intro p a r t W;exists kH p a n q d x st,rfl,rfl,rfl,aA,rfl;show mu _ _ _ _ _ (aH (aH (aH g a<|.own p) p<|.ins c.R a []) p<|.ins c.R a (kH p a n q d x st).fs) _;rw[jN];have E:(aH (aH g a<|.own p) p<|.ins c.R a (kH p a n q d x st).fs) me=!(.ins c.M I<|Oe J bk ks rn M):=by rw[aD (aE i r),aD (aE i t)];exact i
  have F:(aH (aH g a<|.own p) p<|.ins c.R a (kH p a n q d x st).fs) rn=!.dK C:=by rw[aD (aE o r),aD (aE o t)];exact o
  exists c.M,_,_,.ref rn,E,b.cl,b.nR,by kernel_rfl,rn,_,rfl,NZ.k (k:=Sum.inl (n:Int)) F<|yR S Zd;rw[kL _ Q];exact T p a g V f1 r t W
inductive xL(c:CK)(vs:A1)(H:Hp)(Q:VK)(E_:XK):Prop
 | mk(a:DA)(s:DS)(q:Str×Str)(d:TD)(x:Dd):vs=[.ref a.me,.str q.1,.str q.2,.ref d]->K1 c H a s->s.L<=500->(∀n' d',s.m q≠some (.busy n' d'))->H d=!.tup x.vs->(∀r∈s.runs,r.n<s.next)->s.runs.length<=500->(∀p dx H',K1 c H' a {s with m:=s.m.set q<|!.busy s.next d,L:=s.L+1,runs:=s.runs++[kH p dx s.next q d x "new"],next:=s.next+1 }->Mv a s {s with m:=s.m.set q<|!.busy s.next d,L:=s.L+1,runs:=s.runs++[kH p dx s.next q d x "new"],next:=s.next+1 } H H'->Q (.int s.next) H')->xL c vs H Q E_
def Np(j:Fl K c.M)(o:bP^3 c.M "put" EQ (Cm c))(D:MethAt K c.M "begin" "Memory.begin" gE fi):bP^4 c.M "begin" fi (xL c):=by
 refine D.gg mN λf R A O s H vs Q E t h=>?_
 .obtain⟨a,s,q,d,x,rfl,h,v,y,hd,m,z,B⟩:=h;exists _,(!"`4 `mN.nd 0*:0H4',C|A|B04123)#!!!!!DE4(&$$$");refine#[c.M,_,_,.int s.next,h.me,j.cl,j.nN,by kernel_rfl,?_];exists c.M,a.mx,_,h.me,j.cl,j.nN,(by show 5<1000;decide);dsimp only;rw[show bI "next_number" (.int<|s.next+1) (mf a s.turn s.next)=mf a s.turn ((s.next+1:Nat):Int) by kernel_rfl];obtain⟨g,k⟩:=h.put (H':=aH H a.me (.ins c.M a.mx<|mf a s.turn ((s.next+1:Nat):Int))) 4 {s with next:=s.next+1 } (λ_ _=>rfl) (λ_ _=>rfl) aA (λb u e C=>by rw[aD C];exact e) rfl rfl h.nd rfl;generalize aH H a.me (.ins c.M a.mx<|mf a s.turn ((s.next+1:Nat):Int))=S at g k ⊢;refine#[a.mx,_,g.me,by kernel_rfl,a.me,a.mx,a.bk,a.ks,a.rn,a.kf,s.life,s.turn,((s.next+1:Nat):Int),s.m,s.L,aS s.runs,s.next,q,d,x,"new",rfl,g.me,g.ky,v,y,g.rn,Ae m,by unfold aS;rw[aV];exact z,λp l T F f2 G I J=>?_];obtain⟨L,n⟩:=g.keys F f2;obtain⟨M,N⟩:=L.radd (r:=kH p l s.next q d x "new") G I J (n.tk g _ _<|k.tk h _ _ hd) m;have e:aS s.runs++[(Sum.inl (s.next:Int),V.ref p)]=aS (s.runs++[kH p l s.next q d x "new"]):=by unfold aS;rw[dL];rfl
  rw[e];exact B p l _ M<|(k.trans n).trans N
def iC:Dd->A2
 | .add a _=>[a]
 | .take a _=>[a]
 | .move a b _=>qE [a,b]
 | .send _ a _=>[a]
 | .fetch _ a _=>[a]
 | .pass _ _ _ _=>[]
def Ki(x:Dd):∃d one c nm n,Er one c nm n x.vs (.tp<|(iC x).map sS) d:=by
 cases x with
 | add a n=>exact#[_,a,a,a,_,.add]
 | take a n=>exact#[_,a,a,a,_,.take]
 | move a b n=>exact#[_,a,b,a,_,.move]
 | send g a n=>exact#[_,g,a,a,_,.send]
 | fetch g a n=>exact#[_,g,a,a,_,.fetch]
 | pass g e a n=>exact#[_,g,e,a,_,.pass]
def Fc{a:A2}{v:V}(h:OL H 1 (.tp<|a.map sS) v):∃z,v=.ref z/\H z=!(.tup<|a.map V.str):=by
 revert h;refine JR λz b=>JE λζ g p=>?_;subst ζ;exists z,rfl;have:∀ {a:A2}{b:A1},Paired (OL H 0) (a.map sS) b->b=a.map V.str:=by
  intro a;induction a with
  | nil=>intro b h;cases h;rfl
  | cons t f c=>
   intro b h;cases h with
   | cons d e=>rw[c e,d.1];rfl
 rw[g,this p]
def mP(x y:Dd):Bool:=(iC x).any λz=>decide (z∈iC y)
def qB(r r':Rn):Bool:=(not (decide (r'.st="new")))&&mP r.x r'.x
def Fd(z:Str)(a:A2):vL (.str z) (a.map V.str)=decide (z∈a):=by
 induction a with
 | nil=>rfl
 | cons s a b=>
  have e:vL (.str z) ((s::a).map V.str)=(decide (s=z)||vL (.str z) (a.map V.str)):=by
   unfold vL;rw[map_cons,any_cons];congr 1
  rw[e,b,<- Bool.decide_or];congr 1;rw[mem_cons];exact propext #[λh=>h.imp Eq.symm id,λh=>h.imp Eq.symm id]
def Nq(x:Dd):(iC x).length<=2:=by
 cases x<;>simp[iC,qO]
inductive Hx(C:TD)(vs:A1)(H:Hp)(Q:VK)(E_:XK):Prop
 | mk(r r':Rn):vs=[.ref r.p,.ref r'.p]->H r.p=!.ins C r.dx r.fs->H r'.p=!.ins C r'.dx r'.fs->H r.d=!.tup r.x.vs->H r'.d=!.tup r'.x.vs->(∀H',I7 H H'->Q (.bl<|qB r r') H')->Hx C vs H Q E_
def Zx(T:Txt K mg)(B:Vw K C)(g:Callee^1 "names_of" EV sW)(D:MethAt K C "is_held_up_by" "Run.is_held_up_by" bY XP):bP^2 C "is_held_up_by" XP (Hx C):=by
 refine D.gg nZ λa0 Z a1 U s H vs a2 a3 k h=>?_
 .obtain⟨r,a,rfl,A,m,hd,E,q⟩:=h;exists _,(!"L1*)=k(&;/%{^R.kj1 %`T.b_any `aBZ ?#!J(&$" (yg rfl (js:=[none,!1]) (N:=["name","other"]) (JQ.by (aB bY) XP rfl rfl Zk) (aR rfl) (R.cx (K:=K)<|tz g k rfl<|lc (pq (K:=K)<|f8 0) li) λC X Y fp=>#[(vi (i:=0) (show(["name","other"]:A2).Nodup by decide +kernel)),AX,(BC (R.ed (K:=K)) (f8 0)<|tz g k rfl<|lc (pq (K:=K)<|f8 1) li)]));refine#[C,_,_,.str a.st,m,B.cl,B.nS,by kernel_rfl,?_];show if decide (a.st="new")=true then _ else _
  refine eN (λf=>?_) λf=>?_
  .have h:=q H<|I7.refl H;unfold qB at h;rw[f]at h;exact h
  refine JB (Ki r.x) (QL λtA one W nm n F=>?_);refine JB (Ki a.x) (QL λtA' gV' ba' nm' n' G=>?_);refine#[C,_,_,.ref r.d,A,B.cl,B.nD,by kernel_rfl,r.d,_,_,_,_,_,_,_,rfl,hd,F,λv I p J=>?_];obtain⟨t,rfl,gt⟩:=Fc J;have hl:=Nq r.x;exists t,rfl,#[_,JV gt];refine bB (lH K t<|(iC r.x).map V.str) (by rw[aV];omega) (λj c d=>c=((iC r.x).take j).map (λz=>V.bl<|decide (z∈iC a.x))/\I7 I d) (λj c d #[e,b]=>#[JV<|b _ _ gt,by rw[e,aV,mV];omega]) #[rfl,I7.refl _] (?_)<|?_
  .rintro j a4 c d u ⟨e,b⟩;rw[eJ]at u;obtain⟨z,L,rfl⟩:=Option.map_eq_some_iff.mp u;have x:=p.trans b;refine#[C,_,_,.ref a.d,x _ _ m,B.cl,B.nD,by kernel_rfl,a.d,_,_,_,_,_,_,_,rfl,x _ _ E,G,λv2 H2 M O=>?_];obtain⟨Q,rfl,y⟩:=Fc O;refine#[Q,_,rfl,.inr<|JV y,rfl,by simp[eM],?_,b.trans M];rw[aM L,dL,e];show _++[V.bl (vL (.str z)<|(iC a.x).map V.str)]=_;rw[Fd];rfl
  rintro c d ⟨e,b⟩;rw[aV,take_length]at e;intro l S;exists l,(iC r.x).map λz=>decide (z∈iC a.x),rfl,JX (by rw[aA,e,map_map];rfl);have h:=q _<|(p.trans b).trans<|aF (o:=.lst c) S;unfold qB mP at h;rw[f,Bool.not_false,Bool.true_and]at h;rw[any_map];exact h
theorem oF:∀ {xs ys:EZ},xs.Pairwise (·<=·)->ys.Pairwise (·<=·)->xs.Perm ys->xs=ys
 | [],ys,_,_,p=>(nil_perm.mp p).symm
 | x::xs,[],_,_,p=>IZ (perm_nil.mp p) Zs
 | x::xs,y::ys,d,f,p=>by
  have b:=pairwise_cons.mp d;have c:=pairwise_cons.mp f;have e:x=y:=by
   have g:x∈y::ys:=p.mem_iff.mp eG;have h:y∈x::xs:=p.mem_iff.mpr eG;rcases mem_cons.mp g with z|z
   .exact z
   rcases mem_cons.mp h with a|a
   .exact a.symm
   have:=c.1 _ z;have:=b.1 _ a;omega
  subst e;rw[oF b.2 c.2 ((List.perm_cons x).mp p)]
def fQ(s:DS)(r:Rn):DM:=s.runs.filter λa=>qB r a
inductive Hy(c:CK)(vs:A1)(H:Hp)(Q:VK)(E_:XK):Prop
 | mk(a:DA)(s:DS)(pre post:DM)(r:Rn):vs=[.ref a.me,.ref r.p]->K1 c H a s->s.runs=pre++r::post->s.runs.length<64->((∀r' rest,fQ s r=r'::rest->∀t H',I7 H H'->H' t=!.tup [.str "waits",.int r'.n]->Q (.ref t) H'))->((fQ s r=[]->∀t H',K1 c H' a {s with runs:=pre++{r with st:="held" }::post }->Mv a s {s with runs:=pre++{r with st:="held" }::post } H H'->H' t=!.tup [.str "holds"]->Q (.ref t) H'))->Hy c vs H Q E_
def Zy(T:Txt K mg)(j:Fl K c.M)(C:Vw K c.R)(Q:bP^2 c.R "is_held_up_by" XP (Hx c.R))(D:MethAt K c.M "hold" "Memory.hold" eQ T8):bP^3 c.M "hold" T8 (Hy c):=by
 refine D.gg oB λa0 cdv a1 outer s H vs a2 a3 E h=>?_
 .obtain⟨a,s,pre,post,r,rfl,h,F,S,U,W⟩:=h;have X:=dN E;have m:r∈s.runs:=by rw[F];simp
  exists _,(!"?~T~$%ps2#!J'=)-`2 ~,#!!+(&;/1)C)#!+(&$$$" (R.dj (i:=2) oB.nd rfl (Or.inl rfl) rfl (js:=[none,!0,!1]) (N:=["other","self","run"]) (JQ.by (aB eQ) ["self","run","holders"] rfl rfl Zk) (aR rfl) (xo (K:=K) (xm (R.dq rfl) rfl T.b_sorted fO (lc (pq (K:=K) (f8 0)) li))) (λa4 s₂ H₂ fp=>#[(vi (i:=0) (show(["other","self","run"]:A2).Nodup by decide +kernel)),(BF<|AC<|wl Q E (f8 2)<|lc (xr X (pq (K:=K)<|f8 1)<|f8 0) li),(f8 0)]) rfl));refine#[c.M,_,_,.ref a.rn,h.me,j.cl,j.nR,by kernel_rfl,s.runs.map λr=>(r.n:Int),_,.inl h.rn,by unfold aS;rw[map_map,map_map];rfl,by rw[aV];exact S,λl Y Z hp KO=>#[l,rfl,#[_,JX aA],?_]];have TM:Y=s.runs.map λr=>(r.n:Int):=oF KO (pairwise_map.mpr (h.up.imp λa5=>by omega)) hp
  subst TM;have v:=aF (o:=.lst ((s.runs.map λr=>(r.n:Int)).map V.int)) Z;have G:(aH H l<|.lst<|(s.runs.map λr=>(r.n:Int)).map V.int) l=!(.lst<|(s.runs.map λr=>(r.n:Int)).map V.int):=aA;generalize aH H l (.lst<|(s.runs.map λr=>(r.n:Int)).map V.int)=H1 at v G ⊢;have I:((s.runs.map λr=>(r.n:Int)).map V.int).length=s.runs.length:=by rw[aV,aV]
  have h1:=h.same v;refine bB (aX K l<|(s.runs.map λr=>(r.n:Int)).map V.int) (by rw[I];omega) (λi b g=>I7 H1 g/\b=((s.runs.take i).filter λr'=>qB r r').map λr'=>V.int (r'.n:Int)) (λi b g #[e,f]=>#[JX<|e _ _ G,by rw[f,aV];exact gK (length_filter_le _ _) (by rw[mV];omega)]) #[I7.refl _,rfl] (?_)<|?_
  .rintro i a6 b g J ⟨e,f⟩;rw[map_map,eJ]at J;obtain⟨r',L,rfl⟩:=Option.map_eq_some_iff.mp J;have x:=kI L;have d:=h1.same e;dsimp only [aI];have M:=LP.k (k:=Sum.inl (r'.n:Int)) d.rn;rw[rE h.up x]at M;refine#[r.dx,_,d.run m,by kernel_rfl,c.M,_,_,.ref a.rn,d.me,j.cl,j.nR,by kernel_rfl,a.rn,.ref r'.p,rfl,M,r,r',rfl,d.run m,d.run x,d.dd r m,d.dd r' x,λn O=>?_];rw[aM L,filter_append,dL,f];show if qB r r'=true then _ else _
   refine eN (λy=>?_) λy=>?_
   .exact#[e.trans O,by rw[filter_cons,LM y];rfl]
   exact#[e.trans O,by rw[filter_cons,LK (by rw[y];exact WP)];simp]
  rintro b g ⟨e,f⟩;rw[I,take_length]at f;intro z E7;dsimp only [aI];have p:=(v.trans e).trans<|aF (o:=.lst b) E7;have A:(aH g z<|.lst b) z=!.lst b:=aA;generalize aH g z (.lst b)=H2 at p A ⊢;have d:=h.same p;exists _,.inl<|JX A
  cases q:fQ s r with
  | nil=>
   have B:b=[]:=by rw[f];show(fQ s r).map _=_;rw[q];rfl
   subst B;exists c.R,r.dx,_,d.run m,C.cl,C.nS,(by show 7<1000;decide);dsimp only;rw[show bI "stage" (.str "held") r.fs={r with st:="held" }.fs by kernel_rfl];obtain⟨h3,v3⟩:=d.rput (r':={r with st:="held" }) F rfl rfl rfl rfl;exact#[bK rfl,λt n u gt=>W q t n (h3.same u) (((Mv.same p).trans v3).trans<|.same u) gt]
  | cons r' rest=>
   have B:b=.int (r'.n:Int)::rest.map λr'=>V.int (r'.n:Int):=by rw[f];show(fQ s r).map _=_;rw[q];rfl
   subst B;show if decide (0<((V.int (r'.n:Int)::rest.map λr'=>V.int (r'.n:Int)).length:Int))=true then _ else _
   refine Xs (by rw[UF];simp) ?_;exact#[_,JX A,.int (r'.n:Int),eW (show(V.int (r'.n:Int)::_)[0]?=some _ from rfl),bK rfl,λt n u gt=>U r' rest q t n (p.trans u) gt]
inductive Hz(c:CK)(vs:A1)(H:Hp)(Q:VK)(E_:XK):Prop
 | mk(a:DA)(s:DS)(pre post:DM)(r:Rn)(w:Int)(z:TD)(y:An):vs=[.ref a.me,.int r.n,.int w,.ref z]->K1 c H a s->s.runs=pre++r::post->H z=!.tup y.vs->An.Of r.x y->(∀q∈Bz r.x y,Jz s.prs q)->s.prs.length<=90->s.L<=500->s.m r.q=!.busy r.n r.d->(∀t H',K1 c H' a {s with runs:=pre++post,prs:=mE s.prs<|Bz r.x y,m:=s.m.set r.q<|!.kept r.n w r.d z,L:=s.L+1 }->Mv a s {s with runs:=pre++post,prs:=mE s.prs<|Bz r.x y,m:=s.m.set r.q<|!.kept r.n w r.d z,L:=s.L+1 } H H'->H' t=!.tup [.int r.n,.str r.q.1,.str r.q.2,.ref z]->Q (.ref t) H')->Hz c vs H Q E_
def Zz(d:Fl K c.M)(b:Vw K c.R)(BB:Yg K c.B)(L:Callee^2 "changes_of" WK Jy)(M:bP^2 c.B "change" ZU (oS c.B))(N:bP^2 c.Ks "settle" ZS (wH c.Ks))(D:MethAt K c.M "end" "Memory.end" iO fv) :
  bP^3 c.M "end" fv (Hz c):=by
 refine D.gg pP λa0 cdv a1 outer s H vs a2 a3 v h=>?_
 .obtain⟨a,s,u,q,r,O,z,y,rfl,h,j,Q,S,T,TN,U,V,W⟩:=h;have k:r∈s.runs:=by rw[j];simp
  exists _,(!"`4 `pP.nd 0*1{R.iy2 :~X~Y0*~O~Y%4*3#!!<#!DEG~Y0*4*4*23#!!!!DE14*4*3#!!!!+(&$$$");exists c.M,_,_,.ref a.rn,h.me,d.cl,d.nR,by kernel_rfl,a.rn,rfl,.inl #[_,.inl h.rn],_,Sum.inl (r.n:Int),.ref r.p,h.rn,rfl,rE h.up k;rw[j,No (by rw[<- j];exact h.up)];obtain⟨l,m⟩:=h.rdrop j;have J:r.p≠a.rn:=aL (h.run k) h.rn λz=>nomatch z
  have n:(aH H a.rn<|.dK<|aS<|u++q) r.p=!.ins c.R r.dx r.fs:=by rw[aD J];exact h.run k
  have B:=m.tk h _ _ Q;have C:=m.tk h _ _<|h.dd r k;generalize aH H a.rn (.dK<|aS<|u++q)=H1 at l m n B C ⊢;refine#[c.M,_,_,.ref a.bk,l.me,d.cl,d.nB,by kernel_rfl,a.bx,_,l.bk,by kernel_rfl,c.R,_,_,.ref r.d,n,b.cl,b.nD,by kernel_rfl,r.d,z,r.x,y,rfl,C,B,S,λtp E H2 o X Y x=>?_];have p:=l.same o;have FK:E.length<=2:=by
   have:=congrArg length x;rw[aV]at this;rw[this];cases r.x<;>cases y<;>simp[Bz]
  refine#[a.bk,a.bx,a.bd,tp,s.prs,E,rfl,p.bk,p.bd,h.nd,X,Y,Zo,by rw[x];exact T,λZ g3 F=>?_];rw[x]at g3;obtain⟨f,v3⟩:=p.put (H':=Z) 6 {s with runs:=u++q,prs:=mE s.prs (Bz r.x y) } (λ_ _=>rfl) (λ_ _=>rfl) g3 F rfl rfl (rC _ _ h.nd) rfl;have g:=F _ _ (o _ _ n) (aL (o _ _ n) p.bd λz=>nomatch z);refine#[c.M,_,_,.ref a.ks,f.me,d.cl,d.nS,by kernel_rfl,a.kf.dx,_,f.ks,zQ _ _ Zk Zk Zk,c.R,_,_,.str r.q.1,g,b.cl,b.nA,by kernel_rfl,c.R,_,_,.str r.q.2,g,b.cl,b.nK,by kernel_rfl,a.ks,a.kf,s.life,s.m,s.L,r.q,r.n,r.d,O,z,rfl,f.ky,U,V,λH4 k4 G=>?_];obtain⟨h4,v4⟩:=f.keys k4 G;have A:H4 r.p=!.ins c.R r.dx r.fs:=by
   have e:=f.ky;obtain⟨b1,e1,_⟩:=e.hb;obtain⟨b2,e2,_⟩:=e.hs;exact G _ _ g (aL g e1 λz=>nomatch z) (aL g e2 λz=>nomatch z)
  refine#[c.R,_,_,.str r.q.1,A,b.cl,b.nA,by kernel_rfl,c.R,_,_,.str r.q.2,A,b.cl,b.nK,by kernel_rfl,bK rfl,λt H5 I gt=>W t H5 (h4.same I) ((((m.trans<|.same o).trans v3).trans v4).trans<|.same I) gt]
def Own.rev(h:Own H L):Own H L.reverse:=#[by rw[List.map_reverse];exact List.pairwise_reverse.mpr<|h.1.imp λz=>Ne.symm z,λq a=>h.2 q<|List.mem_reverse.mp a]
structure Gw(p:TD)(H0:Hp)(L:DL)(H:Hp):Prop where
 own:Own H L
 fr:∀c o,H0 c=!o->c≠p->H c=!o
 nw:∀q∈L,q.1=p∨H0 q.1=none
 hp:∃o,H p=!o
section
variable {p:TD}{H0:Hp}{L:DL}
def Gw.free(g:Gw p H0 L H)(a:H b=none):H0 b=none:=by
 obtain⟨o,e⟩:=g.hp
 cases z:H0 b with
 | none=>rfl
 | some u=>rw[g.fr b u z (λw=>by rw[w,e]at a;cases a)]at a;cases a
def Gw.same(g:Gw p H0 L H)(k:I7 H H'):Gw p H0 L H':=#[g.own.same k,λc o e n=>k _ _<|g.fr c o e n,g.nw,let #[o,e]:=g.hp;#[o,k _ _ e]]
def Gw.set(g:Gw p H0 L H)(i:Nat)(e:L[i]?=!(p,o))(o':HO):Gw p H0 (L.set i (p,o')) (aH H p o'):=
 #[g.own.set i e o',λc u z n=>by rw[aD n];exact g.fr c u z n,λq a=>(mem_or_eq_of_mem_set a).elim (g.nw q) λz=>.inl (by rw[z]),#[o',aA]]
def Gw.add(g:Gw p H0 L H)(M:DL)(k:I7 H H')(d:(M.map (·.1)).Nodup)(b:∀q∈M,H q.1=none/\H' q.1=some q.2):Gw p H0 (M++L) H':=by
 have c:=g.same k;refine#[#[?_,λq a=>(MN.mp a).elim (λm=>(b q m).2)<|c.own.2 q],c.fr,λq a=>(MN.mp a).elim (λm=>.inr<|g.free (b q m).1)<|g.nw q,c.hp];rw[dL];refine nodup_append.mpr #[d,g.own.1,λx f y h e=>?_];obtain⟨q,a,rfl⟩:=LA.mp f;exact g.own.keys (b q a).1 (by rw[e];exact h)
def Gw.add1(g:Gw p H0 L H)(o:HO)(a:H b=none):Gw p H0 ((b,o)::L) (aH H b o):=g.add [(b,o)] (aF a) Zs (λq c=>by rw[LV.mp c];exact#[a,aA])
end
def Gw.keys{h i j k:HO}(g:Gw p f (x::(d.ds,h)::(d.db,i)::R) H)(fr:Y9 H H' d)(g1:H' d.ds=!j)(g2:H' d.db=!k)(r:∃o,(p,o)∈R):Gw p f (x::(d.ds,j)::(d.db,k)::R) H':=by
 have nd:=g.own.1;simp only [map_cons,nodup_cons,mem_cons,not_or]at nd;have l:∀q∈R,H' q.1=some q.2:=λq a=>fr _ _ (g.own.2 q (by simp[a])) (λe=>nd.2.2.1<|e▸mem_map_of_mem a) (λe=>nd.2.1.2<|e▸mem_map_of_mem a)
 have m:∀b,(b=d.ds∨b=d.db)->b=p∨f b=none:=λb s=>by
  rcases s with rfl|rfl
  .exact g.nw (d.ds,h) Zs
  exact g.nw (d.db,i) Zs
 exists #[g.own.1,λq a=>?_],λc o e n=>fr _ _ (g.fr c o e n) (λz=>?_) λz=>?_,λq a=>?_
 .rcases mem_cons.mp a with rfl|a
  .exact fr _ _ (g.own.2 q Zs) (λe=>nd.1.2.1 e) (λe=>nd.1.1 e)
  rcases mem_cons.mp a with rfl|a
  .exact g1
  rcases mem_cons.mp a with rfl|a
  .exact g2
  exact l q a
 .rcases m c (.inr z) with w|w
  .exact n w
  rw[w]at e;cases e
 .rcases m c (.inl z) with w|w
  .exact n w
  rw[w]at e;cases e
 .rcases mem_cons.mp a with rfl|a
  .exact g.nw q Zs
  rcases mem_cons.mp a with rfl|a
  .exact g.nw (d.ds,h) Zs
  rcases mem_cons.mp a with rfl|a
  .exact g.nw (d.db,i) Zs
  exact g.nw q (by simp[a])
 obtain⟨o,t⟩:=r;exact#[o,l _ t]
def OX(H:Hp)(es:DE)(m:KM):Prop:=∀q,(cK es q=none->m q=none)/\∀e,cK es q=!e->∃d y,m q=!.kept (e.1:Int) (e.2.1:Int) d y/\H d=!.tup e.2.2.2.2.1.vs/\H y=!.tup e.2.2.2.2.2.vs
def OX.tk(h:OX H es m)(t:TK H H'):OX H' es m:=λq=>#[(h q).1,λe f=>let #[d,y,a,b,c]:=(h q).2 e f;#[d,y,a,t _ _ b,t _ _ c]]
def OX.nb(h:OX H es m)(q:Str×Str)(n:Int)(d:TD):m q≠some (.busy n d):=λe=>by
 cases z:cK es q with
 | none=>rw[(h q).1 z]at e;cases e
 | some x=>refine JB ((h q).2 x z) (JR λd y=>JW λa _=>?_);rw[a]at e;cases e
def OX.snoc(h:OX H es m)(e:E6)(gd:H d=!.tup e.2.2.2.2.1.vs)(a:H y=!.tup e.2.2.2.2.2.vs){n:Int}:OX H (es++[e]) ((m.set (aJ e)<|!.busy n d).set (aJ e)<|!.kept (e.1:Int) (e.2.1:Int) d y):=λq=>by
 rw[jI];by_cases c:aJ e=q
 .rw[LM c,<- c,KM.set_same];exact#[nofun,λx b=>by cases b;exact#[d,y,rfl,gd,a]]
 rw[LK c,KM.set_ne (Ne.symm c),KM.set_ne (Ne.symm c)];exact h q
def Own.perm(h:Own H L)(p:a.Perm L):Own H a:=#[(p.map _).nodup_iff.mpr h.1,λq b=>h.2 q<|p.mem_iff.mp b]
def Gw.put(g:Gw p a L H)(i:Nat)(e:L[i]?=!(b,o))(d:b≠p)(o':HO):Gw p a (L.set i (b,o')) (aH H b o'):=by
 exists g.own.set i e o',λc u z n=>?_,λq f=>?_
 .rw[aD λw=>?_]
  .exact g.fr c u z n
  rcases g.nw (b,o) (kI e) with q|q
  .exact d q
  have h:a b=none:=q;rw[w,h]at z;cases z
 .rcases mem_or_eq_of_mem_set f with m|m
  .exact g.nw q m
  rw[m];exact g.nw (b,o)<|kI e
 obtain⟨u,j⟩:=g.hp;exact#[u,by rw[aD d.symm];exact j]
def Gw.snoc(g:Gw p a L H)(o:HO)(c:H b=none):Gw p a (L++[(b,o)]) (aH H b o):=
 let k:=g.add1 o c
 #[k.own.perm<|List.perm_append_comm (l₁:=L) (l₂:=[(b,o)]),k.fr,λq d=>k.nw q<|(List.perm_append_comm (l₁:=L) (l₂:=[(b,o)])).mem_iff.mp d,k.hp]
def eU(rs:DM)(m:KM):KM:=rs.foldl (λm r=>m.set r.q<|!.busy r.n r.d) m
def xM(rs:DM)(r:Rn)(m:KM):eU (rs++[r]) m=(eU rs m).set r.q (!.busy r.n r.d):=by unfold eU;rw[foldl_append];rfl
theorem lC{q:Str×Str}:∀ {rs:DM}{m:KM},(∀r∈rs,r.q≠q)->eU rs m q=m q
 | [],_,_=>rfl
 | r::rs,m,h=>by
  show eU rs (m.set r.q<|!.busy r.n r.d) q=m q;rw[lC λa b=>h a<|cR _ b,KM.set_ne (h r eG).symm]
theorem xN:∀ {rs:DM}{m:KM}{r:Rn},(rs.map (·.q)).Nodup->r∈rs->eU rs m r.q=!.busy r.n r.d
 | a::rs,m,r,nd,h=>by
  rw[map_cons]at nd;have b:=nodup_cons.mp nd;show eU rs (m.set a.q<|!.busy a.n a.d) r.q=_;rcases mem_cons.mp h with e|h
  .rw[e,lC λc d f=>b.1<|LA.mpr #[c,d,f],KM.set_same]
  exact xN b.2 h
def lD(o:O4):Str×Str:=(o.2.1,o.2.2.1)
def QS(H:Hp)(o:O4)(r:Rn):Prop:=∃p a d,r=kH p a o.1 (lD o) d o.2.2.2 "asked"/\H d=!.tup o.2.2.2.vs
def QS.tk(h:QS H o r)(t:TK H H'):QS H' o r:=let #[p,a,d,e,g]:=h;#[p,a,d,e,t _ _ g]
def uZ{f:O4->a}{g:Rn->a}(h:∀o r,QS H o r->f o=g r){os:List O4}(p:Paired (QS H) os rs):os.map f=rs.map g:=UO p h
def Ia(c:CK)(p d bk e bd ks rn:TD)(a:KF)(bs f:BW)(b g h:Int)(prs:BD)(rs:DM):DL:=
 [(rn,.dK<|aS rs),(a.ds,.dT f),(a.db,.dT bs),(ks,.ins c.Ks a.dx<|zP a b),(bd,.dK<|mK prs),(bk,.ins c.B e [("amounts",.ref bd)]),(p,.ins c.M d<|Oe g bk ks rn h)]++rs.map (pH c)
inductive Kj(c:CK)(vs:A1)(H:Hp)(Q:VK)(E_:XK):Prop
 | mk(p dx:TD)(life tn m1 m2:Int)(t b l o:TD)(zs:FO)(as oa:BZ)(es:DE)(os:List O4):vs=[.ref p,.int life,.int tn,.ref t]->H p=!.ins c.M dx []->H t=!.tup [.ref b,.ref l,.ref o,.int m1,.int m2]->H b=!(.lst<|bM zs)->OS H zs->((zs.map (·.2)).map (·.1)).Nodup->zs.length<=43->H l=!(.lst<|as.map V.ref)->Paired (PV H) es as->es.length<=220->H o=!(.lst<|oa.map V.ref)->Paired (UN H) os oa->os.length<=60->(os.Pairwise λa b=>a.1<b.1)->(os.map lD).Nodup->(∀(bk bx bd ks rn:TD)(kf:KF)(bs ss:BW)(m:KM)(L:Nat)(rs:DM)(H':Hp),Gw p H (Ia c p dx bk bx bd ks rn kf bs ss life tn m1 (zs.map (·.2)) rs) H'->MT H' bs (eU rs m) fB L->MT H' ss (eU rs m) fS L->OX H' es m->Paired (QS H') os rs->L<=2*es.length+os.length->Q .non H')->Kj c vs H Q E_
def aCC(q:Fl K c.M)(DP:QJ^1 "Book" c.B VU [] (Bm c.B))(P2:bP^1 c.Ks "begin" ZR (Bq c.Ks))(K8:bP^2 c.Ks "settle" ZS (wH c.Ks))(NP:QJ^1 "Keys" c.Ks WQ [] (Jw c.Ks))(P4:bP^3 c.M "put" EQ (Cm c))(D:ClsAt K mg "Memory" c.M "Memory.__init__" bU TZ [[]]) :
  ∀d∈([[]]:HF),QJ^4 "Memory" c.M TZ d (Kj c):=by
 refine D.gg aP λa7 cdv a8 outer s a0 vs a9 b0 hr a3=>?_
 .obtain⟨p,f,r,a,C,m2,t,b,a4,o,F,as,oa,es,os,rfl,E,ht,hb,hz,uo,TR,hl,pe,hel,ho,po,JL,YA,GZ,a2⟩:=a3;exists _,(!"02C0`DP ~H%-`3 >#!~QC0`NP ~H%1#!~QC0~hC0-`3 >CV%-`3 >u?`P2 ~H0*6748#!!!!DE`K8 ~H0*6759#!!!!DE&$WV%-`3 >u?`P4 ~H04678)#!!!!!DE&W&$$$$$$" (BO (K:=K) (n:=6) rfl (xp (vi (i:=4) aP.nd) (xp (vi (i:=5) aP.nd) (xp (vi (i:=6) aP.nd) (xp (vi (i:=7) aP.nd) (xp (vi (i:=8) aP.nd) (xp (vi (i:=9) aP.nd) BP))))))) (BO (K:=K) (n:=4) rfl (xp (vi (i:=4) aP.nd) (xp (vi (i:=6) aP.nd) (xp (vi (i:=7) aP.nd) (xp (vi (i:=8) aP.nd) BP))))));have g0:Gw p a0 [(p,.ins c.M f [])] a0:=#[#[Zs,λa2 H=>by rw[LV.mp H];exact E],λ_ _ e _=>e,λa2 H=>.inl (by rw[LV.mp H]),#[_,E]];have YB:t≠p:=aL ht E λz=>nomatch z
  have nbp:b≠p:=aL hb E λz=>nomatch z
  have YC:a4≠p:=aL hl E λz=>nomatch z
  have nop:o≠p:=aL ho E λz=>nomatch z
  exists c.M,f,[],E,q.cl,q.nT,(by show 0<1000;decide);dsimp only;rw[show bI "turn" (.int a) []=(i4 a) by kernel_rfl];have g1:=g0.set 0 rfl<|.ins c.M f<|i4 a;generalize aH a0 p (.ins c.M f<|i4 a)=H1 at g1 ⊢;refine#[_,JV<|g1.fr _ _ ht YB,_,rfl,λbk I PH YD d8=>?_];have nb:H1 b=!(.lst<|bM F):=g1.fr _ _ hb nbp;have nz:OS (aH (aH H1 I<|.own bk) bk<|.ins c.B I []) F:=λz BS=>by
   have e:=g1.fr _ _ (hz z BS) (aL (hz z BS) E λz=>nomatch z);rw[aD (aE e PH),aD (aE e YD)];exact e
  refine#[bk,I,_,F.map (·.2),rfl,aA,.inr #[b,F,rfl,by rw[aD (aE nb PH),aD (aE nb YD)];exact nb,nz,rfl],uo,by rw[aV];omega,λH2 bd hbd gbk gbd k2=>#[rfl,?_]];have s2:I7 H1 H2:=λc o e=>k2 _ _ (by rw[aD (aE e PH),aD (aE e YD)];exact e) (aE e PH)
  have bd':H1 bd=none:=by
   cases e:H1 bd with
   | none=>rfl
   | some u=>rw[aD (aE e PH),aD (aE e YD),e]at hbd;cases hbd
  have nbk:bd≠bk:=aL gbd gbk λz=>nomatch z
  have g2:=g1.add [(bd,.dK<|mK<|F.map (·.2)),(bk,.ins c.B I [("amounts",.ref bd)])] s2 (by simp [nbk]) (λa2 H=>by
   simp only [mem_cons,GH,or_false]at H;rcases H with rfl|rfl
   .exact#[bd',gbd]
   .exact#[PH,gbk])
  exists c.M,f,_,g2.own.get 2 rfl,q.cl,q.nB,(by show 1<1000;decide);dsimp only;rw[show bI "book" (.ref bk) (i4 a)=(i6 a bk) by kernel_rfl];have g3:=g2.set 2 rfl<|.ins c.M f<|i6 a bk;generalize aH H2 p (.ins c.M f<|i6 a bk)=H3 at g3 ⊢;intro ks kx NB hkx hnk;refine#[ks,kx,r,rfl,aA,λH4 h fdb fds ky k4=>#[rfl,?_]];have s4:I7 H3 H4:=λc o e=>k4 _ _ (by rw[aD (aE e NB),aD (aE e hkx)];exact e) (aE e NB)
  have LR:∀d,(aH (aH H3 kx<|.own ks) ks<|.ins c.Ks kx []) d=none->H3 d=none:=λd hd=>by
   cases e:H3 d with
   | none=>rfl
   | some u=>rw[aD (aE e NB),aD (aE e hkx),e]at hd;cases hd
  obtain⟨bs,TJ,db⟩:=ky.hb;obtain⟨B,TL,ds⟩:=ky.hs;have n1:h.ds≠h.db:=ky.ne.symm;have n2:h.ds≠ks:=aL TL ky.hp λz=>nomatch z
  have n3:h.db≠ks:=aL TJ ky.hp λz=>nomatch z
  have g4:=g3.add [(h.ds,.dT B),(h.db,.dT bs),(ks,.ins c.Ks h.dx<|zP h r)] s4 (by simp [n1,n2,n3]) (λa2 H=>by
   simp only [mem_cons,GH,or_false]at H;rcases H with rfl|rfl|rfl
   .exact#[LR _ fds,TL]
   .exact#[LR _ fdb,TJ]
   .exact#[NB,ky.hp])
  exists c.M,f,_,g4.own.get 5 rfl,q.cl,q.nS,(by show 2<1000;decide);dsimp only;rw[show bI "standing" (.ref ks) (i6 a bk)=(ec a bk ks) by kernel_rfl];have g5:=g4.set 5 rfl<|.ins c.M f<|ec a bk ks;have t5:TK H4 (aH H4 p<|.ins c.M f<|ec a bk ks):=iB (g4.own.get 5 rfl) λ_ z=>nomatch z
  generalize aH H4 p (.ins c.M f<|ec a bk ks)=H5 at g5 t5 ⊢;intro rn PJ;have g6:=g5.add1 (.dK []) PJ;have t6:=t5.trans<|TK.of<|aF (o:=.dK []) PJ;generalize aH H5 rn (.dK [])=H6 at g6 t6 ⊢;exists c.M,f,_,g6.own.get 6 rfl,q.cl,q.nR,(by show 3<1000;decide);dsimp only;rw[show bI "runs" (.ref rn) (ec a bk ks)=(ef a bk ks rn) by kernel_rfl];have g7:=g6.set 6 rfl<|.ins c.M f<|ef a bk ks rn;have t7:=t6.trans (iB (g6.own.get 6 rfl) (o':=.ins c.M f (ef a bk ks rn)) λ_ z=>nomatch z);generalize aH H6 p (.ins c.M f<|ef a bk ks rn)=H7 at g7 t7 ⊢;exists _,JV<|g7.fr _ _ ht YB,_,rfl;exists c.M,f,_,g7.own.get 6 rfl,q.cl,q.nN,(by show 4<1000;decide);dsimp only;rw[show bI "next_number" (.int C) (ef a bk ks rn)=(Oe a bk ks rn C) by kernel_rfl];have g8:=g7.set 6 rfl<|.ins c.M f<|Oe a bk ks rn C;have t8:=t7.trans (iB (g7.own.get 6 rfl) (o':=.ins c.M f (Oe a bk ks rn C)) λ_ z=>nomatch z);generalize aH H7 p (.ins c.M f<|Oe a bk ks rn C)=H8 at g8 t8 ⊢;have gl8:=g8.fr _ _ hl YC;have go8:=g8.fr _ _ ho nop;have dK:=db.keep t8;have dS:=ds.keep t8;have TU:∀ {bs B:BW}{m:KM}{L:Nat}{l:Hp},Gw p a0 [(rn,.dK []),(h.ds,.dT B),(h.db,.dT bs),(ks,.ins c.Ks h.dx<|zP h r),(bd,.dK<|mK<|F.map (·.2)),(bk,.ins c.B I [("amounts",.ref bd)]),(p,.ins c.M f<|Oe a bk ks rn C)] l->MT l bs m fB L->MT l B m fS L->MM c.Ks l ks h r m L:=λg d1 d2=>#[g.own.get 3 rfl,#[_,g.own.get 2 rfl,d1],#[_,g.own.get 1 rfl,d2],g.own.ne (i:=2) (j:=1) rfl rfl Zd]
  exists _,JV<|g8.fr _ _ ht YB,_,rfl,a4,rfl,#[_,JX gl8];refine bT (aX K a4<|as.map V.ref) (λi Q l=>∃(S T U W X Y:EY)(bs B:BW)(m:KM)(L:Nat),Q=[!.ref p,!.int r,!.int a,!.ref t,S,T,U,W,X,Y]/\Gw p a0 [(rn,.dK []),(h.ds,.dT B),(h.db,.dT bs),(ks,.ins c.Ks h.dx<|zP h r),(bd,.dK<|mK<|F.map (·.2)),(bk,.ins c.B I [("amounts",.ref bd)]),(p,.ins c.M f<|Oe a bk ks rn C)] l/\MT l bs m fB L/\MT l B m fS L/\OX l (es.take i) m/\L<=2*i)
   (λi Q l #[_,_,_,_,_,_,_,_,_,_,_,g,_]=>JX<|g.fr _ _ hl YC) #[_,_,_,_,_,_,bs,B,_,0,rfl,g8,dK,dS,(λa2=>#[λ_=>rfl,λe a3=>nomatch a3]),bD _] ?_ ?_
  .refine λi a6 Q l hx=>RH λS T U W X Y bs' MC m=>JU λL=>MI λζ A d1 d2 km hL=>?_;subst ζ;rw[eJ]at hx;obtain⟨a5,ha,rfl⟩:=Option.map_eq_some_iff.mp hx;obtain⟨hi,ei⟩:=NJ.mp ha;obtain⟨oe,Z⟩:=Paired.get' (j:=i) pe hi;rw[ei]at Z;have FL:es[i]?=some es[i]:=hX oe;generalize es[i]=e at Z FL;have tk0:TK a0 l:=λb xs z=>A.fr _ _ z (aL z E λw=>nomatch w)
   refine JB (Z.tk tk0) (JR λJ c1=>JE λge gb gc=>?_);exists a5,_,rfl,JV ge,rfl,_,_,rfl,_,_,rfl,_,_,rfl,_,_,rfl,_,_,rfl,_,_,rfl,rfl;refine#[c.M,f,_,.ref ks,A.own.get 6 rfl,q.cl,q.nS,by kernel_rfl,_,_,A.own.get 3 rfl,by kernel_rfl,ks,h,r,m,L,aJ e,_,J,rfl,TU A d1 d2,(by have:=pe.length;omega),(λn d=>km.nb _ n d),λHa ka fa=>?_];obtain⟨b2,TB,e1⟩:=ka.hb;obtain⟨s2,RP,e2⟩:=ka.hs;have M:=A.keys fa RP TB #[_,.tail _<|.tail _<|.tail _<|.head _];refine#[c.M,f,_,.ref ks,M.own.get 6 rfl,q.cl,q.nS,by kernel_rfl,_,_,M.own.get 3 rfl,by kernel_rfl,ks,h,r,_,L+1,aJ e,_,J,_,c1,rfl,TU M e1 e2,(by have:=pe.length;omega),KM.set_same,λHb kb fb=>?_];obtain⟨b3,gb3,f1⟩:=kb.hb;obtain⟨s3,gs3,f2⟩:=kb.hs;have gB:=M.keys fb gs3 gb3 #[_,.tail _<|.tail _<|.tail _<|.head _];have ta:TK l Ha:=λb xs z=>fa _ _ z (aL z (A.own.get 2 rfl) λw=>nomatch w) (aL z (A.own.get 1 rfl) λw=>nomatch w)
   have tb:TK Ha Hb:=λb xs z=>fb _ _ z (aL z (M.own.get 2 rfl) λw=>nomatch w) (aL z (M.own.get 1 rfl) λw=>nomatch w)
   refine#[_,_,_,_,_,_,b3,s3,_,L+1+1,rfl,gB,f1,f2,?_,Zo];rw[aM FL];exact(km.tk<|ta.trans tb).snoc e (tb _ _<|ta _ _ gb)<|tb _ _<|ta _ _ gc
  refine λQ l=>RH λS T U W X Y bs' MC m=>JU λL=>MI λζ A d1 d2 km hL=>?_;subst ζ;have go9:=A.fr _ _ ho nop;rw[aV]at km hL;rw[<- pe.length,mW (bD _)]at km;have hLe:L<=2*es.length:=by rw[pe.length];exact hL
  have po9:Paired (UN l) os oa:=Paired.map' (λ_ _ w=>w.tk λb xs z=>A.fr _ _ z (aL z E λw=>nomatch w)) po;exists _,JV<|A.fr _ _ ht YB,_,rfl,o,rfl,#[_,JX go9];refine bT (aX K o<|oa.map V.ref) (λi Q G=>∃(S T U W X Y:EY)(bs B:BW)(N:Nat)(k:DM),Q=[!.ref p,!.int r,!.int a,!.ref t,S,T,U,W,X,Y]/\Gw p a0 (Ia c p f bk I bd ks rn h bs B r a C (F.map (·.2)) k) G/\MT G bs (eU k m) fB N/\MT G B (eU k m) fS N/\OX G es m/\Paired (QS G) (os.take i) k/\TK l G/\N<=L+i)
   (λi Q G=>RH λ_ _ _ _ _ _ _ _ _=>JU λ_=>JE λ_ g _=>JX<|g.fr _ _ ho nop) #[_,_,_,_,_,_,bs',MC,L,[],rfl,by unfold Ia;rw[map_nil,append_nil];exact A,d1,d2,km,.nil,λ_ _ e=>e,Zo] ?_ ?_
  .refine λi a6 Q G hx=>RH λS T U W X Y bs1 ss1 N=>JU λk=>UR λζ x e1 e2 YE pr tG hL'=>?_;subst ζ;rw[eJ]at hx;obtain⟨a5,ha,rfl⟩:=Option.map_eq_some_iff.mp hx;obtain⟨hi,ei⟩:=NJ.mp ha;obtain⟨oe,Z⟩:=Paired.get' (j:=i) po9 hi;rw[ei]at Z;have FL:os[i]?=some os[i]:=hX oe;generalize os[i]=u at Z FL;obtain⟨J,gu,gb⟩:=Z.tk tG;have HJ:k.length=i:=by rw[<- pr.length,mV];omega
   have DH:∀a1∈k,a1.q≠lD u/\a1.n<u.1:=λa1 A4=>by
    obtain⟨v,hv,rr⟩:=Mz pr A4;revert rr;refine LB λ_ _ _=>JW λer _=>?_;rw[er];exact#[λe=>(oX (pairwise_map.mp GZ) FL hv) e,oX YA FL hv]
   exists a5,_,rfl,JV gu,rfl,_,_,rfl,_,_,rfl,_,_,rfl,_,_,rfl,rfl;dsimp only [aI];have gky:MM c.Ks G ks h r (eU k m) N:=#[x.own.get 3 rfl,#[_,x.own.get 2 rfl,e1],#[_,x.own.get 1 rfl,e2],x.own.ne (i:=2) (j:=1) rfl rfl Zd];refine#[f,_,x.own.get 6 rfl,by kernel_rfl,p,f,bk,ks,rn,h,r,a,C,eU k m,N,aS k,u.1,lD u,J,u.2.2.2,"asked",rfl,x.own.get 6 rfl,gky,Zo,(λn d e=>YE.nb _ n d<|(lC λa1 A4=>(DH a1 A4).1).symm.trans e),x.own.get 0 rfl,Ae λa1 A4=>(DH a1 A4).2,by unfold aS;rw[aV];omega,λy O Ha ka fa hrp TX d8=>?_];obtain⟨b2,TB,f1⟩:=ka.hb;obtain⟨s2,RP,f2⟩:=ka.hs;have M:=Gw.keys (R:=[(ks,.ins c.Ks h.dx<|zP h r),(bd,.dK<|mK<|F.map (·.2)),(bk,.ins c.B I [("amounts",.ref bd)]),(p,.ins c.M f<|Oe a bk ks rn C)]++k.map (pH c)) x fa RP TB #[_,.tail _<|.tail _<|.tail _<|.head _];have nrp:y≠O:=d8.symm;have gB:=(M.same<|aF (o:=.own y) TX).snoc (b:=y) (.ins c.R O (kH y O u.1 (lD u) J u.2.2.2 "asked").fs) (by rw[aD nrp];exact hrp);have nrn:rn≠p:=x.own.ne (i:=0) (j:=6) rfl rfl Zd;have gC:=gB.put 0 rfl nrn<|.dK<|aS k++[(Sum.inl (u.1:Int),V.ref y)];have grA:Ha rn=!(.dK<|aS k):=M.own.get 0 rfl;have ta:TK G Ha:=λb xs z=>fa _ _ z (aL z (x.own.get 2 rfl) λw=>nomatch w) (aL z (x.own.get 1 rfl) λw=>nomatch w)
   have tb:TK Ha (aH (aH (aH Ha O<|.own y) y<|.ins c.R O (kH y O u.1 (lD u) J u.2.2.2 "asked").fs) rn<|.dK<|aS k++[(Sum.inl (u.1:Int),V.ref y)]):=λb xs z=>by
    rw[aD (aL z grA λw=>nomatch w),aD (aE z hrp),aD (aE z TX)];exact z
   have tab:=ta.trans tb;refine#[_,_,_,_,_,_,b2,s2,N+1,k++[kH y O u.1 (lD u) J u.2.2.2 "asked"],rfl,?_,?_,?_,YE.tk tab,?_,tG.trans tab,Zo]
   .unfold Ia;rw[show aS (k++[kH y O u.1 (lD u) J u.2.2.2 "asked"])=aS k++[(Sum.inl (u.1:Int),V.ref y)] by unfold aS;rw[dL];rfl,dL];exact gC
   .rw[xM];exact f1.keep tb
   .rw[xM];exact f2.keep tb
   rw[aM FL];exact Paired.snoc (Paired.map' (λ_ _ w=>w.tk tab) pr) #[y,O,J,rfl,tab _ _ gb]
  refine λQ G=>RH λS T U W X Y bs1 ss1 N=>JU λk=>UR λζ x e1 e2 YE pr tG hL'=>?_;subst ζ;rw[aV]at pr hL';rw[<- po.length,mW (bD _)]at pr;exact a2 bk I bd ks rn h bs1 ss1 m N k G x e1 e2 YE pr (by have:=po.length;omega)
def Callee.imp{n:Nat}{ps:A2}(c:Callee P w K mg base n x ps sp)(h:∀vs H Q E,a vs H Q E->sp vs H Q E):Callee P w K mg base n x ps a:=
 let #[f,b,F,r]:=c.ex
 #[f,b,F.imp h,r]
def QJ.imp{n:Nat}{ps:A2}(c:QJ P w K mg base n x C ps dvs sp)(h:∀vs H Q E,d vs H Q E->sp vs H Q E):QJ P w K mg base n x C ps dvs d:=
 let #[f,e,g,a,b,F,r]:=c.ex
 #[f,e,g,a,b,F.imp h,r]
inductive Ib(vs:A1)(H:Hp)(Q:VK)(E_:XK):Prop
 | mk(ra:TD):vs=[.ref ra]->H ra=!.lst []->(∀t b l o H',I7 H H'->H' t=!.tup [.ref b,.ref l,.ref o,.int 1,.int 0]->H' b=!.lst []->H' l=!.lst []->H' o=!.lst []->Q (.ref t) H')->Ib vs H Q E_
inductive Ur(c:CK)(vs:A1)(H:Hp)(Q:VK)(E_:XK):Prop
 | mk(p dx:TD)(life:Int)(t b l o:TD):vs=[.ref p,.int life,.int 0,.ref t]->H p=!.ins c.M dx []->H t=!.tup [.ref b,.ref l,.ref o,.int 1,.int 0]->H b=!.lst []->H l=!.lst []->H o=!.lst []->(∀(bk bx bd ks rn:TD)(kf:KF)(bs ss:BW)(H':Hp),Gw p H [(rn,.dK []),(kf.ds,.dT ss),(kf.db,.dT bs),(ks,.ins c.Ks kf.dx<|zP kf life),(bd,.dK<|mK []),(bk,.ins c.B bx [("amounts",.ref bd)]),(p,.ins c.M dx<|Oe 0 bk ks rn 1)] H'->MT H' bs (λ_=>none) fB 0->MT H' ss (λ_=>none) fS 0->Q .non H')->Ur c vs H Q E_
def aAa(c:Callee^5 "risen" ET rD):Callee^5 "risen" ET Ib:=Callee.imp c λvs H Q E h=>by
 obtain⟨e,rfl,g,q⟩:=h;refine#[e,[],[],λ_ _=>0,λ_=>0,[],rfl,#[g,.nil],Zd,#[Zd,(λ_ _ h=>nomatch h),(λ_ _ _ _ _ _ _ h=>nomatch h)],.nil,(λ_ h=>nomatch h),#[rfl,(λ_ _ _ _ h=>nomatch h),(λ_ _ h=>nomatch h),rfl],λtp f i j R s=>?_];refine JB R.ex (S5 λbl k m2 ks os a b=>TY λg1 g2 l g3 m n o p=>KJ λA t d _=>?_);cases l;cases m;have u:k=1:=by simpa [cJ,bX,bW]using n.1
 have v:m2=0:=by simpa [turnL,cQ]using o.1
 have x:b=[]:=by
  cases b with
  | nil=>rfl
  | cons z r=>exact IZ ((t.iff z).mp Zs) Zs
 rw[x]at d;have y:a=[]:=by cases a with
  | nil=>rfl
  | cons z r=>cases d
 subst u v y;exact q tp bl f i j s g1 p g2 g3
def aCD(h:QJ^4 "Memory" c.M TZ [] (Kj c)):QJ^4 "Memory" c.M TZ [] (Ur c):=QJ.imp h λvs H Q E h=>by
 obtain⟨p,d,a,t,b,l,o,rfl,e,f,g,i,j,q⟩:=h;refine#[p,d,a,0,1,0,t,b,l,o,[],[],[],[],[],rfl,e,f,g,(λ_ h=>nomatch h),nodup_nil,Zd,i,.nil,Zd,j,.nil,Zd,.nil,nodup_nil,λbk k bd ks rn n bs r m L C s G u v x y z=>?_];cases y;have A:m=λ_=>none:=funext λq=>(x q).1 rfl
 have B:L=0:=by simpa using z
 subst A B;exact q bk k bd ks rn n bs r s G u v
def Us{z a:Str}{n:Int}(hz:z="add"∨z="take")(b:isNm a)(c:1<=n)(d:n<=1000000000000):pK [.str z,.str a,.int n]=true:=(OM.one z a n hz b c d).ok
def Ut{n:Int}(hz:z="send"∨z="fetch")(c:isNm a)(d:isNm b)(f:1<=n)(g:n<=1000000000000):pK [.str z,.str a,.str b,.int n]=true:=by
 show(gZ (.str z) [.str a,.str b]&&Ds 1 1000000000000 (.int n))=true;have e:gZ (.str z) [.str a,.str b]=true:=by
  rcases hz with rfl|rfl
  all_goals
   show(true&&(zJ (.str a)&&(zJ (.str b)&&true))&&(true||_))=true;rw[jD c,jD d];rfl
 rw[e];show(decide (1<=n)&&decide (n<=1000000000000))=true;rw[UF f,UF g];rfl
def aAb{x:Dd}(h:x.Ok):pK x.vs=true:=by
 cases x with
 | add a n=>exact Us (.inl rfl) h.1 (by have:=h.2.1;omega) (by have:=h.2.2;omega)
 | take a n=>exact Us (.inr rfl) h.1 (by have:=h.2.1;omega) (by have:=h.2.2;omega)
 | move a b n=>exact(OM.two "move" a b n (.inl rfl) h.1 h.2.1 h.2.2.1 (by have:=h.2.2.2.1;omega) (by have:=h.2.2.2.2;omega)).ok
 | send g a n=>exact Ut (.inl rfl) h.1 h.2.1 (by have:=h.2.2.1;omega) (by have:=h.2.2.2;omega)
 | fetch g a n=>exact Ut (.inr rfl) h.1 h.2.1 (by have:=h.2.2.1;omega) (by have:=h.2.2.2;omega)
 | pass g c a n=>exact(OM.three g c a n h.1 h.2.1 h.2.2.1 h.2.2.2.1 (by have:=h.2.2.2.2.1;omega) (by have:=h.2.2.2.2.2;omega)).ok
def aEc(h:RA z):gL (.str z) (LET++YP) 12=true:=by
 rw[jC,UF (by have:=h.1;omega),UF (by have:=h.2.1;omega),all_eq_true.mpr λc a=>UF (show c∈LET++YP from h.2.2 c a)];rfl
def dX(h:z.length<=1000):Pt H (.str z):=#[.str,trivial,λy e=>by cases e;exact h]
def tH{n:Int}:Pt H (.int n):=#[.int,trivial,λy e=>nomatch e]
def aEd{x:Dd}(h:x.Ok)(g:H d=!.tup x.vs):Th H (.ref d):=by
 refine#[#[.tup,#[_,g],λy e=>nomatch e],λa xs e g' y hy=>?_];cases e;rw[g]at g';cases g';refine JB Ra (MI λw1 w2 w3 w4 w5 w6=>?_);cases x<;>simp only [Dd.vs,mem_cons,GH,or_false]at hy
 case add=>rcases hy with rfl|rfl|rfl<;>first|exact tH|exact dX w1|exact dX h.1.len
 case take=>rcases hy with rfl|rfl|rfl<;>first|exact tH|exact dX w2|exact dX h.1.len
 case move=>rcases hy with rfl|rfl|rfl|rfl<;>first|exact tH|exact dX w3|exact dX h.1.len|exact dX h.2.1.len
 case send=>rcases hy with rfl|rfl|rfl|rfl<;>first|exact tH|exact dX w4|exact dX h.1.len|exact dX h.2.1.len
 case fetch=>rcases hy with rfl|rfl|rfl|rfl<;>first|exact tH|exact dX w5|exact dX h.1.len|exact dX h.2.1.len
 case pass=>rcases hy with rfl|rfl|rfl|rfl|rfl<;>first|exact tH|exact dX w6|exact dX h.1.len|exact dX h.2.1.len|exact dX h.2.2.1.len
structure Nr(K:W.Frag)(C:TD):Prop where
 cl:PM K C
 nN:KA K C "name"
 nL:KA K C "life"
 nH:KA K C "houses"
 nJ:KA K C "journal"
 nM:KA K C "memory"
def ZJ(name:Str)(a:Int)(hs:DI):DS:=#[name,a,0,1,hs,[],λ_=>none,0,[],[],0]
inductive Cn(c:CK)(vs:A1)(H:Hp)(Q:VK)(E_:XK):Prop
 | mk(p dx l:TD)(name:Str)(life:Int)(zs:List W):vs=[.ref p,.str name,.int life,.ref l]->H p=!.ins c.D dx []->isNm name->name.length<=5->H l=!(.lst<|zs.map λz=>V.ref z.1)->eH H zs->zs.length<=6->(∀(a:DA)(H':Hp),a.dr=p->K1 c H' a (ZJ name life<|aK []<|zs.map (·.2))->(∀b∈a.fix,b=p∨H b=none)->(∀b o,H b=!o->b≠p->H' b=!o)->Q .non H')->Cn c vs H Q E_
def Uu(T:Txt K mg)(h:Nr K c.D)(O0:Callee^2 "is_name" EU (rV LET 8))(Z3:QJ^2 "Journal" c.J VW [.str ("":Str)] (Kh c.J))(oh:Callee^5 "risen" ET Ib)(vz:QJ^4 "Memory" c.M TZ [] (Ur c))(D:ClsAt K mg "Door" c.D "Door.__init__" cF XX [[]]):∀a0∈([[]]:HF),QJ^6 "Door" c.D XX a0 (Cn c):=by
 refine D.gg sO λa4 cdv a5 outer s a1 vs a6 a7 l a2=>?_
 .obtain⟨p,f,a3,a,d,C,rfl,v,E,hn5,L,M,FK,q⟩:=a2;exists _,(!"`O0 ~/%1#!<jq~T|[%ps1#!J%`T.g_LONGEST_DOOR_NAME ~c=~>~=xI&;/01C02C0%|}%|u`Jh 3#!~AC0`Z3 ~/%{R.ie3 C0`vz ~/%2'|l~/%#Z#!<#!!!~QC&$$$$$");refine#[.str a,.str,rfl,trivial,λz e=>by cases e;exact E.len,λN x=>?_];rw[show gL (.str a) LET 8=true from jD E];exists jL E.len;refine Dp (by rw[T0];omega) ?_;have g0:Gw p a1 [(p,.ins c.D f [])] N:=#[#[Zs,λq k=>by rw[LV.mp k];exact x _ _ v],λ_ _ e _=>x _ _ e,λq k=>.inl (by rw[LV.mp k]),#[_,x _ _ v]];exists c.D,f,_,x _ _ v,h.cl,h.nN,(by show 0<1000;decide);dsimp only;rw[show bI "name" (.str a) []=([("name",.str a)]:CB) by kernel_rfl];have g1:=g0.set 0 rfl<|.ins c.D f [("name",.str a)];generalize aH N p (.ins c.D f [("name",.str a)])=H2 at g1 ⊢;exists c.D,f,_,g1.own.get 0 rfl,h.cl,h.nL,(by show 1<1000;decide);dsimp only;rw[show bI "life" (.int d) ([("name",.str a)]:CB)=([("name",.str a),("life",.int d)]:CB) by kernel_rfl];have g2:=g1.set 0 rfl<|.ins c.D f [("name",.str a),("life",.int d)];generalize aH H2 p (.ins c.D f [("name",.str a),("life",.int d)])=H3 at g2 ⊢;have YC:a3≠p:=aL L v λz=>nomatch z
  refine#[C,JX<|g2.fr _ _ L YC,λz O=>g2.fr _ _ (M z O) (aL (M z O) v λz=>nomatch z),Zo,λhd hhd=>?_];have g3:=g2.add1 (.dK<|aK []<|C.map (·.2)) hhd;generalize aH H3 hd (.dK<|aK []<|C.map (·.2))=H4 at g3 ⊢;exists c.D,f,_,g3.own.get 1 rfl,h.cl,h.nH,(by show 2<1000;decide);dsimp only;rw[show bI "houses" (.ref hd) ([("name",.str a),("life",.int d)]:CB)=([("name",.str a),("life",.int d),("houses",.ref hd)]:CB) by kernel_rfl];have Q:=g3.set 1 rfl<|.ins c.D f [("name",.str a),("life",.int d),("houses",.ref hd)];generalize aH H4 p (.ins c.D f [("name",.str a),("life",.int d),("houses",.ref hd)])=F at Q ⊢;intro j H y S hjn;refine#[j,H,rfl,aA,λU jl W X Y k6=>#[rfl,?_]];have s6:I7 F U:=λc o e=>k6 _ _ (by rw[aD (aE e y),aD (aE e S)];exact e) (aE e y)
  have bf':F jl=none:=by
   cases e:F jl with
   | none=>rfl
   | some u=>rw[aD (aE e y),aD (aE e S),e]at W;cases W
  have njl:jl≠j:=aL Y X λz=>nomatch z
  have Z:=Q.add [(jl,.lst []),(j,.ins c.J H<|jf jl 0)] s6 (by simp [njl]) (λq k=>by
   simp only [mem_cons,GH,or_false]at k;rcases k with rfl|rfl
   .exact#[bf',Y]
   .exact#[y,X])
  exists c.D,f,_,Z.own.get 3 rfl,h.cl,h.nJ,(by show 3<1000;decide);dsimp only;rw[show bI "journal" (.ref j) ([("name",.str a),("life",.int d),("houses",.ref hd)]:CB)=([("name",.str a),("life",.int d),("houses",.ref hd),("journal",.ref j)]:CB) by kernel_rfl];have g6:=Z.set 3 rfl<|.ins c.D f [("name",.str a),("life",.int d),("houses",.ref hd),("journal",.ref j)];generalize aH U p (.ins c.D f [("name",.str a),("life",.int d),("houses",.ref hd),("journal",.ref j)])=H7 at g6 ⊢;refine#[uR rfl,λe he=>?_];have g7:=g6.same<|aF (o:=.lst []) he;refine#[e,rfl,aA,λt b kl ol m s8 gt gb JK PB=>?_];have g8:=g7.same s8;intro me n I OT SF;have r:∀ {b u},m b=!u->(aH (aH m n<|.own me) me<|.ins c.M n []) b=!u:=λe=>by rw[aD (aE e I),aD (aE e OT)];exact e
  refine#[me,n,d,t,b,kl,ol,rfl,aA,r gt,r gb,r JK,r PB,λbk bx bd ks rn kf bs ss A G db ds=>#[rfl,?_]];have s9:I7 m A:=λb u e=>G.fr _ _ (r e) (aE e I)
  have fr8:∀b,(aH (aH m n<|.own me) me<|.ins c.M n []) b=none->m b=none:=λb e=>by
   cases z:m b with
   | none=>rfl
   | some u=>rw[r z]at e;cases e
  have J:=g8.add _ s9 G.own.1 λq k=>#[(G.nw q k).elim (λe=>by rw[e];exact I)<|fr8 _,G.own.2 q k]
  exists c.D,f,_,J.own.get 10 rfl,h.cl,h.nM,(by show 4<1000;decide);dsimp only;rw[show bI "memory" (.ref me) ([("name",.str a),("life",.int d),("houses",.ref hd),("journal",.ref j)]:CB)=([("name",.str a),("life",.int d),("houses",.ref hd),("journal",.ref j),("memory",.ref me)]:CB) by kernel_rfl];have B:TK A (aH A p<|.ins c.D f [("name",.str a),("life",.int d),("houses",.ref hd),("journal",.ref j),("memory",.ref me)]):=iB (J.own.get 10 rfl) λ_ z=>nomatch z
  have g:=J.set 10 rfl<|.ins c.D f [("name",.str a),("life",.int d),("houses",.ref hd),("journal",.ref j),("memory",.ref me)];generalize aH A p (.ins c.D f [("name",.str a),("life",.int d),("houses",.ref hd),("journal",.ref j),("memory",.ref me)])=PK at B g ⊢;refine q #[p,f,hd,j,H,jl,me,n,bk,bx,bd,ks,rn,kf] PK rfl #[#[bs,ss,g.own.rev,db.keep B,ds.keep B],nodup_nil,List.Pairwise.nil,λa8 l=>nomatch l] (λb hb=>?_) g.fr;simp only [DA.fix,mem_cons,GH,or_false]at hb;rcases hb with rfl|rfl|rfl|rfl|rfl|rfl|rfl|rfl|rfl|rfl|rfl
  .exact .inl rfl
  .exact g.nw _<|kI (i:=9) rfl
  .exact g.nw _<|kI (i:=8) rfl
  .exact g.nw _<|kI (i:=7) rfl
  .exact g.nw _<|kI (i:=6) rfl
  .exact g.nw _<|kI (i:=5) rfl
  .exact g.nw _<|kI (i:=4) rfl
  .exact g.nw _<|kI (i:=3) rfl
  .exact g.nw _<|kI (i:=2) rfl
  .exact g.nw _<|kI (i:=1) rfl
  exact g.nw _<|kI (i:=0) rfl
inductive gJ(c:CK)(vs:A1)(H:Hp)(Q:VK)(E_:XK):Prop
 | mk(a:DA)(s:DS):vs=[.ref a.dr]->K1 c H a s->Q (.ref a.me) H->gJ c vs H Q E_
def Uv(b:Nr K c.D)(D:MethAt K c.D "known" "Door.known" iQ EX):bP^1 c.D "known" EX (gJ c):=by
 refine D.gg yJ λf e A d s H vs Q E g h=>?_
 .obtain⟨a,s,rfl,h,q⟩:=h;exists _,(!"`R.kn 0*~%=I&;/0*(&$");exact#[c.D,_,_,.ref a.me,h.dr,b.cl,b.nM,by kernel_rfl,c.D,_,_,.ref a.me,h.dr,b.cl,b.nM,by kernel_rfl,q]
def aAR{x y:Dd}:∀(j:Nat)(u v:V),x.vs[j]?=!u->y.vs[j]?=!v->eM u=true/\eM v=true:=λj u v b c=>
 have z:∀(d:Dd)(u:V),u∈d.vs->eM u=true:=λd u a=>by
  cases d<;>simp only [Dd.vs,mem_cons,GH,or_false]at a<;>rcases a with rfl|rfl|rfl|rfl|rfl<;>rfl
 #[z _ _<|kI b,z _ _<|kI c]
def Uw(same:Bool):KE->A1
 | .busy n _=>if same=true then [.str "busy",.int n] else [.str "other"]
 | .kept _ _ _ z=>if same=true then [.str "kept",.ref z] else [.str "other"]
def sA:KE->A1
 | .busy n d=>[.str "busy",.int n,.ref d]
 | .kept n _ d z=>[.str "kept",.int n,.ref d,.ref z]
def KE.dd:KE->Addr
 | .busy _ d=>d
 | .kept _ _ d _=>d
inductive Co(vs:A1)(H:Hp)(Q:VK)(E_:XK):Prop
 | mk(sn d:TD)(e:KE)(x0 x:Dd):vs=[.ref sn,.ref d]->H sn=!(.tup<|sA e)->H (KE.dd e)=!.tup x0.vs->H d=!.tup x.vs->(∀t H',I7 H H'->H' t=!(.tup<|Uw (cO x0.vs x.vs) e)->Q (.ref t) H')->Co vs H Q E_
def Ux(D:KY K mg "told_again" iR aj):Callee^1 "told_again" aj Co:=by
 refine D.gg yK λf r A p s H vs Q E l h=>?_
 .obtain⟨u,d,e,j,x,rfl,c,k,gd,q⟩:=h;have m:=l.units;exists _,(!"K{R.fw1 -`0 >1=)#!+(&;/L-`0 >)=)-`0 >#!!+(&;/)-`0 >#!!+(&$$")
  cases e with
  | busy n o=>
   exists _,JV c,_,rfl,_,_,k,gd,aAR;show if (not (cO j.vs x.vs))=true then _ else _
   cases i:cO j.vs x.vs with
   | false=>
    rw[i]at q;exact#[bK rfl,λt a b g=>q t a b g]
   | true=>
    rw[i]at q;exact#[_,JV c,_,rfl,_,JV c,_,rfl,bK rfl,λt a b g=>q t a b g]
  | kept n v o z=>
   exists _,JV c,_,rfl,_,_,k,gd,aAR;show if (not (cO j.vs x.vs))=true then _ else _
   cases i:cO j.vs x.vs with
   | false=>
    rw[i]at q;exact#[bK rfl,λt a b g=>q t a b g]
   | true=>
    rw[i]at q;exact#[_,JV c,_,rfl,_,JV c,_,rfl,bK rfl,λt a b g=>q t a b g]
def rF(a turn:Int):HA->Bool
 | none=>true
 | some (.busy _ _)=>false
 | some (.kept _ w _ _)=>(not (decide (w+a>turn)))
def Nt{a turn:Int}(h:rF a turn o=true):Rz a turn o=[.str "free"]:=by
 match o,h with
 | none,_=>rfl
 | some (.kept n w d z),h=>
  have b:¬ w+a>turn:=by simpa [rF]using h
  show(if w+a>turn then _ else _)=_;rw[LK b]
def Uy{a turn:Int}(h:rF a turn o=false):∃e,o=!e/\Rz a turn o=sA e:=by
 match o,h with
 | some (.busy n d),_=>exact#[_,rfl,rfl]
 | some (.kept n w d z),h=>
  have b:w+a>turn:=by simpa [rF]using h
  exists _,rfl;show(if w+a>turn then _ else _)=_;rw[LM b];rfl
def Own.app(a:Own H L)(b:Own H M)(d:∀x∈L.map (·.1),x∉M.map (·.1)):Own H (L++M):=
 #[by rw[dL];exact nodup_append.mpr #[a.1,b.1,λx c y f e=>d x c<|e▸f],λq g=>(MN.mp g).elim (a.2 q)<|b.2 q]
def TQ(a:DA)(s:DS):CB:=[("name",.str s.name),("life",.int s.life),("houses",.ref a.hd),("journal",.ref a.j),("memory",.non)]
def DA.low(c:CK)(a:DA)(s:DS)(fs:CB):DL:=[(a.dr,.ins c.D a.dx fs),(a.hd,.dK s.hs),(a.j,.ins c.J a.jx<|jf a.jl s.safe),(a.jl,.lst s.rows)]
def i7(c:CK)(H:Hp)(a:DA)(s:DS):Prop:=Own H<|a.low c s<|TQ a s
def K1.low{s:DS}(h:K1 c H a s){qs:DD}(g:∀q e,s.m q=!e->q∈qs):K1 c H a {s with L:=qs.length }:=by
 refine JB h.own (JR λbs i=>JE λj l m=>?_);have k:∀ {b:BW}{f:KE->Option (A1)},MT H b s.m f s.L->MT H b s.m f qs.length:=λ{b f} d=>by
  exists d.nd,d.all,d.has;have:=Ci (ys:=qs.map pk) d.nd λk n=>by
   obtain⟨o,p,rfl⟩:=LA.mp n;refine JB (d.all o p) (NF λq e v t=>JE λr u _=>?_);rw[r];exact mem_map_of_mem (g q e u)
  simpa using this
 exact#[#[bs,i,j,k l,k m],h.nd,h.up,h.dd]
inductive rG(c:CK)(vs:A1)(H:Hp)(Q:VK)(E_:XK):Prop
 | mk(a:DA)(s:DS)(qs:DD):vs=[.ref a.dr]->K1 c H a s->(∀q e,s.m q=!e->q∈qs)->qs.length<64->ri s.m->(∀l zs H',I7 H H'->H l=none->H' l=!(.lst<|kA zs)->RC H' zs->zs.Pairwise WG->(zs.map (·.1)).Nodup->Sz s.m s.life s.turn (Hj zs)->zs.length<64->Q (.ref l) H')->rG c vs H Q E_
def Uz(b:Fl K c.M)(e:bP^1 c.D "known" EX (gJ c))(g:bP^3 c.Ks "kept" CY (Ta c.Ks))(D:MethAt K c.D "kept" "Door.kept" jW EX):bP^4 c.D "kept" EX (rG c):=by
 refine D.gg qZ λf o A n s H vs Q E d h=>?_
 .obtain⟨a,s,j,rfl,h,k,l,m,q⟩:=h;exists _,(!"`1 `qZ.nd ~Ce0A:~pe1*1*#!D(&$");exists _,_,h.dr,by kernel_rfl,a,s,rfl,h;refine#[c.M,_,_,.ref a.ks,h.me,b.cl,b.nS,by kernel_rfl,_,_,h.ks,by kernel_rfl,c.M,_,_,.int s.turn,h.me,b.cl,b.nT,by kernel_rfl,a.ks,a.kf,s.life,s.turn,s.m,j.length,rfl,(h.low k).ky,l,m,q]
inductive vA(c:CK)(vs:A1)(H:Hp)(Q:VK)(E_:XK):Prop
 | mk(a:DA)(s:DS)(m:Int):vs=[.ref a.dr,.int m]->K1 c H a s->s.safe=s.rows.length->(∀jl' H',H jl'=none->i7 c H' {a with jl:=jl' } s->(∀b o,H b=!o->b≠a.dr->b≠a.j->H' b=!o)->Q .non H')->vA c vs H Q E_
def Va(g:Nr K c.D)(B:bP^1 c.D "known" EX (gJ c))(C:bP^2 c.J "fall" CZ (Cl c.J))(D:MethAt K c.D "fall" "Door.fall" jS CZ):bP^3 c.D "fall" CZ (vA c):=by
 refine D.gg Bw λf N A M s H vs Q E v h=>?_
 .obtain⟨a,s,m,rfl,h,x,q⟩:=h;exists _,(!"~N~Y0AE.~Y0*1#!DE0~%C&$$");refine JB h.own (JR λbs O=>JE λn _ _=>?_);have y:=h.j;rw[x]at y;exists _,_,h.dr,by kernel_rfl,a,s,rfl,h;refine#[c.D,_,_,.ref a.j,h.dr,g.cl,g.nJ,by kernel_rfl,_,_,h.j,by kernel_rfl,a.j,a.jl,a.jx,m,s.rows,rfl,y,h.jl,λd R k g1 F r=>?_];have l:a.dr≠a.j:=n.ne (i:=0) (j:=2) rfl rfl Zd;have t:a.dr≠a.hd:=n.ne (i:=0) (j:=1) rfl rfl Zd;have u:a.hd≠a.j:=n.ne (i:=1) (j:=2) rfl rfl Zd;have nd:a.dr≠d:=aE h.dr k;have G:a.hd≠d:=aE h.hd k;have I:a.j≠d:=aE h.j k;exists c.D,_,_,r _ _ h.dr l,g.cl,g.nM,(by show 5<1000;decide);dsimp only;rw[show bI "memory" .non (df a s)=TQ a s by kernel_rfl];refine q d _ k #[?_,λp z=>?_] λb o e J L=>by rw[aD J];exact r _ _ e L
  .simp[DA.low,l,t,u,nd,G,I]
  simp only [DA.low,mem_cons,GH,or_false]at z;rcases z with rfl|rfl|rfl|rfl
  .exact aA
  .show(aH _ _ _) a.hd=_;rw[aD t.symm];exact r _ _ h.hd u
  .show(aH _ _ _) a.j=_;rw[aD l.symm,x];exact g1
  show(aH _ _ _) d=_;rw[aD nd.symm];exact F
def uN(H:Hp)(r:Rn)(v:V):Prop:=∃t,v=.ref t/\H t=!(.tup<|aD9 r)
inductive oZ(c:CK)(vs:A1)(H:Hp)(Q:VK)(E_:XK):Prop
 | mk(a:DA)(s:DS):vs=[.ref a.dr]->K1 c H a s->s.runs.length<64->(∀l us H',H l=none->I7 H H'->H' l=!.lst us->Paired (uN H') s.runs us->Q (.ref l) H')->oZ c vs H Q E_
def Vb(T:Txt K mg)(y:Fl K c.M)(G:bP^1 c.D "known" EX (gJ c))(I:bP^1 c.R "as_tuple" EX (Uq c.R))(D:MethAt K c.D "under" "Door.under" gH EX):bP^2 c.D "under" EX (oZ c):=by
 refine D.gg pQ λa0 cdv a1 Z s H vs a2 a3 u h=>?_
 .obtain⟨a,s,rfl,h,J,q⟩:=h;have L:=dN u;exists _,(!"`1 `pQ.nd |$~&0A*:?(&$" (yg rfl (js:=[none,!1]) (N:=["number","runs"]) (JQ.by (aB gH) ["self","runs"] rfl rfl Zk) (aR rfl) (xo (K:=K)<|xm (R.dq rfl) rfl T.b_sorted fO<|lc (f8 1) li) λa4 s₂ H₂ fp=>#[(vi (i:=0) (show(["number","runs"]:A2).Nodup by decide +kernel)),AX,(vj I u<|xr L (f8 1)<|f8 0)]));refine#[_,_,h.dr,by kernel_rfl,a,s,rfl,h,c.M,_,_,.ref a.rn,h.me,y.cl,y.nR,by kernel_rfl,?_];refine#[s.runs.map λr=>(r.n:Int),_,.inl h.rn,by unfold aS;rw[map_map,map_map];rfl,by rw[aV];exact J,λl M O Q S=>#[l,rfl,#[_,JX aA],?_]];have U:M=s.runs.map λr=>(r.n:Int):=oF S (pairwise_map.mpr (h.up.imp λa5=>by omega)) Q
  subst U;have m:=aF (o:=.lst ((s.runs.map λr=>(r.n:Int)).map V.int)) O;have z:(aH H l<|.lst<|(s.runs.map λr=>(r.n:Int)).map V.int) l=!(.lst<|(s.runs.map λr=>(r.n:Int)).map V.int):=aA;generalize aH H l (.lst<|(s.runs.map λr=>(r.n:Int)).map V.int)=W at m z ⊢;have X:=h.same m;have A:((s.runs.map λr=>(r.n:Int)).map V.int).length=s.runs.length:=by rw[aV,aV]
  refine bB (aX K l<|(s.runs.map λr=>(r.n:Int)).map V.int) (by rw[A];omega) (λi b f=>I7 W f/\b.length<=i/\Paired (uN f) (s.runs.take i) b) (λi b f #[d,n,_]=>#[JX<|d _ _ z,n]) #[I7.refl _,bD _,.nil] (?_)<|?_
  .refine λi a6 b f B=>JE λd n p=>?_;rw[map_map,eJ]at B;obtain⟨r,C,rfl⟩:=Option.map_eq_some_iff.mp B;have v:=kI C;have x:=X.same d;dsimp only [aI];have E:=LP.k (k:=Sum.inl (r.n:Int)) x.rn;rw[rE h.up v]at E;refine#[a.rn,.ref r.p,rfl,E,r.dx,_,x.run v,by kernel_rfl,r,rfl,x.run v,λt H3 j gt=>#[d.trans j,by rw[mU];simpa using n,?_]];rw[aM C];exact Paired.snoc (Paired.map' (λ_ _ #[t,e,g]=>#[t,e,j _ _ g]) p) #[t,rfl,gt]
  refine λb f=>JE λd n p=>?_;rw[A,take_length]at p;intro Y F;have j:=aF (o:=.lst b) F;exact q Y b _ (m.free<|d.free F) ((m.trans d).trans j) aA<|Paired.map' (λ_ _ #[t,e,g]=>#[t,e,j _ _ g]) p
structure HoT(K:W.Frag)(C:TD):Prop where
 cl:PM K C
 nA:KA K C "amounts"
 nC:KA K C "closed_names"
 nE:KA K C "entries"
inductive tJ(C:TD)(vs:A1)(H:Hp)(Q:VK)(E_:XK):Prop
 | mk(p dx:TD):vs=[.ref p,.non,.non]->H p=!.ins C dx []->(∀H',(∀b o,H b=!o->b≠p->H' b=!o)->(∃o,H' p=!o)->Q .non H')->tJ C vs H Q E_
def Ic(B:HoT K C)(D:ClsAt K mg "House" C "House.__init__" cC cL [[.non,.non]]):∀d∈([[.non,.non]]:HF),QJ^1 "House" C cL d (tJ C):=by
 refine D.gg rA λf L A J s H vs Q E M h=>?_
 .obtain⟨p,c,rfl,x,q⟩:=h;exists _,(!"0~hC0~hC0~hC~i1~%=I&;/~i2~%=I&;/&$$$$");have step:∀(H:Hp)(fs:CB)(d:TD)(o:HO)(m:CB),H p=!.ins C c fs->H d=none->(aH H d o) p=!.ins C c fs/\(∀b u,H b=!u->b≠p->(aH (aH H d o) p<|.ins C c m) b=!u):=λH fs d o m g hd=>
   #[by rw[aD (aE g hd)];exact g,λb u e j=>by rw[aD j,aD (aE e hd)];exact e]
  intro a y;obtain⟨g1,n⟩:=step H [] a (.dK []) ([("amounts",.ref a)]:CB) x y;exists C,c,_,g1,B.cl,B.nA,(by show 0<1000;decide);dsimp only;rw[show bI "amounts" (.ref a) []=([("amounts",.ref a)]:CB) by kernel_rfl];have r:(aH (aH H a<|.dK []) p<|.ins C c [("amounts",.ref a)]) p=!.ins C c [("amounts",.ref a)]:=aA;generalize aH (aH H a<|.dK []) p (.ins C c [("amounts",.ref a)])=l at n r ⊢;intro i z;obtain⟨g2,t⟩:=step l _ i (.dK []) ([("amounts",.ref a),("closed_names",.ref i)]:CB) r z;exists C,c,_,g2,B.cl,B.nC,(by show 1<1000;decide);dsimp only;rw[show bI "closed_names" (.ref i) ([("amounts",.ref a)]:CB)=([("amounts",.ref a),("closed_names",.ref i)]:CB) by kernel_rfl];have v:(aH (aH l i<|.dK []) p<|.ins C c [("amounts",.ref a),("closed_names",.ref i)]) p=!.ins C c [("amounts",.ref a),("closed_names",.ref i)]:=aA;generalize aH (aH l i<|.dK []) p (.ins C c [("amounts",.ref a),("closed_names",.ref i)])=F at t v ⊢;intro k G;obtain⟨g3,I⟩:=step F _ k (.dK []) ([("amounts",.ref a),("closed_names",.ref i),("entries",.ref k)]:CB) v G;exists C,c,_,g3,B.cl,B.nE,(by show 2<1000;decide);dsimp only;rw[show bI "entries" (.ref k) ([("amounts",.ref a),("closed_names",.ref i)]:CB)=([("amounts",.ref a),("closed_names",.ref i),("entries",.ref k)]:CB) by kernel_rfl];exact q _ (λb o e j=>I _ _ (t _ _ (n _ _ e j) j) j) #[_,aA]
inductive tK(c:CK)(vs:A1)(H:Hp)(Q:VK)(E_:XK):Prop
 | mk(a:DA)(s:DS)(z:Str)(v:V):vs=[.ref a.dr,.str z]->K1 c H a s->bA s.hs (Sum.inr z)=!v->Q v H->tK c vs H Q E_
def Id(b:Nr K c.D)(D:MethAt K c.D "house_of" "Door.house_of" fA ER):bP^1 c.D "house_of" ER (tK c):=by
 refine D.gg sQ λf l A j s H vs Q E g h=>?_
 .obtain⟨a,s,z,v,rfl,h,i,q⟩:=h;have e:=dN g;exists _,(!"~C{R.fe1 10*=I&;/~C0*1T(&$");have d:=LP.k (k:=Sum.inr z) h.hd;rw[i]at d;exact#[c.D,_,_,.ref a.hd,h.dr,b.cl,b.nH,by kernel_rfl,_,d,c.D,_,_,.ref a.hd,h.dr,b.cl,b.nH,by kernel_rfl,a.hd,v,rfl,d,q]
inductive Vc(c:CK)(vs:A1)(H:Hp)(Q:VK)(E_:XK):Prop
 | mk(a:DA)(s:DS):vs=[.ref a.dr]->K1 c H a s->Q (.int s.turn) H->Vc c vs H Q E_
def aCE(b:Fl K c.M)(d:bP^1 c.D "known" EX (gJ c))(D:MethAt K c.D "now" "Door.now" lS EX):bP^2 c.D "now" EX (Vc c):=by
 refine D.gg Eh λf i A g s H vs Q E e h=>?_
 .obtain⟨a,s,rfl,h,q⟩:=h;exists _,(!"e~C0A*(&");exact#[_,_,h.dr,by kernel_rfl,a,s,rfl,h,c.M,_,_,.int s.turn,h.me,b.cl,b.nT,by kernel_rfl,q]
def xO(s:DS)(turn:Int)(q:Str×Str)(d:TD)(x:Dd)(p a b:TD):DS:={s with turn:=turn,m:=s.m.set q<|!.busy s.next d,L:=s.L+1,runs:=s.runs++[kH p a s.next q d x "new"],next:=s.next+1,rows:=s.rows++[.ref b] }
inductive rH(c:CK)(vs:A1)(H:Hp)(Q:VK)(E:XK):Prop
 | mk(a:DA)(s:DS)(turn:Int)(q:Str×Str)(d:TD)(x x0:Dd):vs=[.ref a.dr,.int turn,.str q.1,.str q.2,.ref d]->K1 c H a s->isNm q.1->RA q.2->x.Ok->(∀p∈uB x,∃v,bA s.hs (Sum.inr p.1)=!v)->H d=!.tup x.vs->s.L<=500->(∀r∈s.runs,r.n<s.next)->s.runs.length<=500->s.rows.length<=1000->s.turn<=turn->((∀e,s.m q=!e->H (KE.dd e)=!.tup x0.vs))->((∀e,s.m q=!e->rF s.life turn (s.m q)=false->∀t H',K1 c H' a {s with turn:=turn }->Mv a s {s with turn:=turn } H H'->H' t=!(.tup<|Uw (cO x0.vs x.vs) e)->Q (.ref t) H'))->((rF s.life turn (s.m q)=true->∀t p dx ra H',K1 c H' a (xO s turn q d x p dx ra)->Mv a s (xO s turn q d x p dx ra) H H'->H' ra=!.tup [.str "came",.int s.next,.int turn,.str q.1,.str q.2,.ref d]->H' t=!.tup [.str "begun",.int s.next]->Q (.ref t) H'))->rH c vs H Q E
def Vd(T:Txt K mg)(M:Nr K c.D)(g:Fl K c.M)(b7:bP^1 c.D "known" EX (gJ c))(O0:Callee^2 "is_name" EU (rV LET 8))(HK:Callee^2 "is_key" EU (rV (LET++YP) 12))(FX:Callee^4 "is_deed" EU Dt)(qf:Callee^1 "asks_of" EV Gs)(uw:bP^1 c.D "house_of" ER (tK c))(CC:bP^3 c.Ks "look" ey (Sa c.Ks))(yz:Callee^1 "told_again" aj Co)(wj:bP^4 c.M "begin" fi (xL c))(c6:bP^1 c.J "write" ES (lB c.J))(D:MethAt K c.D "come" "Door.come" jR aW):bP^5 c.D "come" aW (rH c):=by
 refine D.gg eC λa3 cdv a4 outer s a5 vs a6 a7 f h=>?_
 .obtain⟨a,s,turn,q,d,x,x0,rfl,h,N,O,Q,hho,hd,hL,PJ,HJ,KW,hle,hkd,QT,QB⟩:=h;exists _,(!"`5 |V|m@0A:`O0 @%2#!<jq`HK @%3#!<jq~>~=xI&;/`FX @%4#!<jqI&;/V%`qf @%4#!<|'?`uw @06#!DE&W~g15*=I&;/51C`8 |V`CC @5*231#!!!D:~w-`8 >)=`yz @%84#!!<(&;/`9 |V`wj @5234#!!!D:`c6 @0*)91234#!!!!!!+#!DE)9#!!+(&$$$$$$$$$$" (BO (K:=K) (n:=2) rfl (xp (vi (i:=6) eC.nd) (xp (vi (i:=7) eC.nd) BP))));exists _,_,h.dr,by kernel_rfl,a,s,rfl,h;refine#[.str q.1,.str,rfl,trivial,λz e=>by cases e;exact N.len,λH1 s1=>?_];rw[show gL (.str q.1) LET 8=true from jD N];refine#[.str q.2,.str,rfl,trivial,λz e=>by cases e;exact O.len,λH2 s2=>?_];rw[aEc O];have u:=s1.trans s2;refine#[.ref d,rfl,aEd Q<|u _ _ hd,λb xs e a0=>?_,λH3 s3=>?_]
  .cases e;rw[u _ _ hd]at a0;cases a0;cases x<;>exact bK rfl
  have S:=u.trans s3;rw[show vY H2 (.ref d)=true by unfold vY;simp only [u _ _ hd];exact aAb Q];refine#[d,x.wd,x.vs,bQ x,uB x,rfl,S _ _ hd,Tl x,λU us H4 s4 J pus=>?_];have W:=S.trans s4;have m:=h.same W;refine#[U,rfl,#[_,JV J],bT (lH K U us) (λi B H'=>H'=H4/\∃C E,B=[!.ref a.dr,!.int turn,!.str q.1,!.str q.2,!.ref d,!.ref a.me,C,E,none,none]) (λi B H' e=>by rw[e.1];exact JV J) #[rfl,_,_,rfl] ?_ λB H' e=>?_]
  .refine λi v B H' hv=>JW λζ=>JR λC E η=>?_;subst ζ η;obtain⟨hi,ei⟩:=NJ.mp hv;refine JB (Paired.get' (j:=i) pus hi) (LB λoe b dd=>JE λe gb gd=>?_);rw[ei]at e;subst e;obtain⟨ZP,bl'⟩:=hho _<|getElem_mem oe;exists b,_,rfl,JV gb,rfl,_,_,rfl,_,_,rfl,rfl;exact#[_,_,m.dr,by kernel_rfl,a,s,_,ZP,rfl,m,bl',rfl,_,_,rfl]
  revert e;refine JW λζ=>JR λC E η=>?_;subst ζ η;refine#[c.M,_,_,.int s.turn,m.me,g.cl,g.nT,by kernel_rfl,?_];show if decide (turn<s.turn)=true then _ else _
  refine Dp (T0 Zo) ?_;exists c.M,a.mx,_,m.me,g.cl,g.nT,(by show 5<1000;decide);dsimp only;rw[show bI "turn" (.int turn) (mf a s.turn s.next)=mf a turn s.next by kernel_rfl];obtain⟨o,X⟩:=m.put (H':=aH H' a.me (.ins c.M a.mx<|mf a turn s.next)) 4 {s with turn:=turn } (λ_ _=>rfl) (λ_ _=>rfl) aA (λb a2 e F=>by rw[aD F];exact e) rfl rfl h.nd rfl;have Y:=(Mv.same (a:=a) (s:=s) W).trans X;generalize aH H' a.me (.ins c.M a.mx<|mf a turn s.next)=H5 at o X Y ⊢;refine#[c.M,_,_,.ref a.ks,o.me,g.cl,g.nS,by kernel_rfl,a.kf.dx,_,o.ks,zQ _ _ Zk Zk Zk,a.ks,a.kf,s.life,s.m,s.L,q,turn,rfl,o.ky,λsn H6 Z p=>?_];dsimp only [aI];have G:=o.same Z;have y:=Y.trans<|.same Z;have L:=y.tk h _ _ hd
  cases k:rF s.life turn (s.m q) with
  | false=>
   obtain⟨e,he,hlk⟩:=Uy k;rw[hlk]at p;have h0:=y.tk h _ _<|hkd e he;have z:∃l vr,sA e=.str l::vr/\l≠"free":=by
    cases e with
    | busy n d0=>exact#[_,_,rfl,Zk]
    | kept n w0 d0 z0=>exact#[_,_,rfl,Zk]
   revert z;refine JR λl vr'=>JW λhv0 d8=>?_;refine#[_,JV p,.str l,by rw[hv0];exact eW (show(V.str l::vr')[0]?=some _ from rfl),?_];show if (not (decide (l="free")))=true then _ else _
   refine Xs (by rw[T0 d8];rfl) ?_;exact#[sn,d,e,x0,x,rfl,p,h0,L,λt H7 s7 gt=>QT e he k t H7 (G.same s7) (y.trans<|.same s7) gt]
  | true=>
   rw[Nt k]at p;exists _,JV p,_,rfl;dsimp only [kJ];have hnb:∀n' d',s.m q≠some (.busy n' d'):=λn' d' e=>by rw[e]at k;cases k
   refine#[_,_,G.me,by kernel_rfl,a,_,q,d,x,rfl,G,hL,hnb,L,PJ,HJ,λa1 dx H7 H v7=>?_];dsimp only [aI];have w7:=y.trans v7;refine#[c.D,_,_,.ref a.j,H.dr,M.cl,M.nJ,by kernel_rfl,_,_,H.j,by kernel_rfl,bK rfl,λr H8 s8 FY=>?_];have A:=H.same s8;exists a.j,a.jl,a.jx,s.safe,s.rows,.ref r,rfl,A.j,A.jl,KW;obtain⟨h9,v9⟩:=A.put (H':=aH H8 a.jl (.lst<|s.rows++[.ref r])) 3 (xO s turn q d x a1 dx r) (λ_ _=>rfl) (λ_ _=>rfl) aA (λb a2 e F=>by rw[aD F];exact e) rfl rfl h.nd rfl;have g9:=v9.tk A _ _ FY;have w9:=(w7.trans<|.same s8).trans v9;generalize aH H8 a.jl (.lst<|s.rows++[.ref r])=H9 at h9 g9 w9 ⊢;exact#[bK rfl,λt PK I gt=>QB k t a1 dx r PK (h9.same I) (w9.trans<|.same I) (I _ _ g9) gt]
def fR(s:DS)(b a:DM)(r:Rn)(st:Str):DS:={s with runs:=b++{r with st:=st }::a }
inductive Cp(c:CK)(vs:A1)(H:Hp)(Q:VK)(E_:XK):Prop
 | mk(a:DA)(s:DS)(pre post:DM)(r:Rn)(z:TD):vs=[.ref a.dr,.ref r.p,.ref z]->K1 c H a s->s.runs=pre++r::post->s.rows.length<=1000->(∀t ra H',K1 c H' a {fR s pre post r "written" with rows:=s.rows++[.ref ra] }->Mv a s {fR s pre post r "written" with rows:=s.rows++[.ref ra] } H H'->H' ra=!.tup [.str "done",.int r.n,.int s.turn,.ref z]->H' t=!.tup [.str "writes",.str "done"]->Q (.ref t) H')->Cp c vs H Q E_
def Ve(g:Nr K c.D)(n:Fl K c.M)(i:Vw K c.R)(B:bP^1 c.J "write" ES (lB c.J))(D:MethAt K c.D "write_done" "Door.write_done" dI X6):bP^2 c.D "write_done" X6 (Cp c):=by
 refine D.gg pZ λf O A M s H vs Q E C h=>?_
 .obtain⟨a,s,R,N,r,z,rfl,h,o,F,q⟩:=h;have p:r∈s.runs:=by rw[o];simp
  exists _,(!"~N.0*)1*0**2#!!!!+#!DE1)C))#!!+(&$$");refine#[c.D,_,_,.ref a.j,h.dr,g.cl,g.nJ,by kernel_rfl,_,_,h.j,by kernel_rfl,c.R,_,_,.int r.n,h.run p,i.cl,i.nN,by kernel_rfl,c.D,_,_,.ref a.me,h.dr,g.cl,g.nM,by kernel_rfl,c.M,_,_,.int s.turn,h.me,n.cl,n.nT,by kernel_rfl,bK rfl,λd v x G=>?_];have j:=h.same x;exists a.j,a.jl,a.jx,s.safe,s.rows,.ref d,rfl,j.j,j.jl,F;obtain⟨k,l⟩:=j.put (H':=aH v a.jl (.lst<|s.rows++[.ref d])) 3 {s with rows:=s.rows++[.ref d] } (λ_ _=>rfl) (λ_ _=>rfl) aA (λb u e I=>by rw[aD I];exact e) rfl rfl h.nd rfl;have g2:=l.tk j _ _ G;generalize aH v a.jl (.lst<|s.rows++[.ref d])=S at k l g2 ⊢;dsimp only;exists c.R,r.dx,_,k.run p,i.cl,i.nS,(by show 7<1000;decide);dsimp only;rw[show bI "stage" (.str "written") r.fs={r with st:="written" }.fs by kernel_rfl];obtain⟨J,y⟩:=k.rput (r':={r with st:="written" }) o rfl rfl rfl rfl;have g3:=y.tk k _ _ g2;exact#[bK rfl,λt L m gt=>q t d L (J.same m) ((((Mv.same x).trans l).trans y).trans<|.same m) (m _ _ g3) gt]
def aCF{y:An}{v:V}(h:OL H 1 (RX.tvs y.vs) v):∃z,v=.ref z/\H z=!.tup y.vs:=by
 revert h;refine JR λz a=>JE λζ g p=>?_;subst ζ;exists z,rfl;have:∀ {b:A1}{a:A1},Paired (OL H 0) (b.map TV.sc) a->a=b:=by
  intro b;induction b with
  | nil=>intro a h;cases h;rfl
  | cons t b c=>
   intro a h;cases h with
   | cons d e=>rw[c e,d.1]
 rw[g,this p]
inductive xP(c:CK)(vs:A1)(H:Hp)(Q:VK)(E_:XK):Prop
 | mk(a:DA)(s:DS)(pre post:DM)(r:Rn)(f:Str->Nat):vs=[.ref a.dr,.ref r.p]->K1 c H a s->s.runs=pre++r::post->r.x.Ok->(∀z,bZ s.prs z=(f z:Int))->s.rows.length<=1000->((∀y,aQ f r.x=!y->∀t ra z H',K1 c H' a {fR s pre post r "written" with rows:=s.rows++[.ref ra] }->Mv a s {fR s pre post r "written" with rows:=s.rows++[.ref ra] } H H'->H' ra=!.tup [.str "done",.int r.n,.int s.turn,.ref z]->H' z=!.tup y.vs->H' t=!.tup [.str "writes",.str "done"]->Q (.ref t) H'))->((aQ f r.x=none->∀t ra H',K1 c H' a {fR s pre post r "asked" with rows:=s.rows++[.ref ra] }->Mv a s {fR s pre post r "asked" with rows:=s.rows++[.ref ra] } H H'->H' ra=!.tup [.str "asked",.int r.n]->H' t=!.tup [.str "writes",.str "asked"]->Q (.ref t) H'))->xP c vs H Q E_
def Nu(l:Nr K c.D)(E:Fl K c.M)(g:Vw K c.R)(M:Callee^3 "early" EN (Jr c.B))(N:bP^2 c.D "write_done" X6 (Cp c))(O:bP^1 c.J "write" ES (lB c.J))(D:MethAt K c.D "write_first" "Door.write_first" cU T8):bP^4 c.D "write_first" T8 (xP c):=by
 refine D.gg iD λf cdv a0 outer s a1 vs a2 a3 q h=>?_
 .obtain⟨a,s,L,J,r,f,rfl,h,u,Q,S,F,T,U⟩:=h;have m:r∈s.runs:=by rw[u];simp
  exists _,(!"`2 `iD.nd ~X~.%0**1*#!!<:~i2~%=G~.012#!!D(&;/|F~.0*)1*#!!+#!DE1)C))#!!+(&$$$$");refine#[c.D,_,_,.ref a.me,h.dr,l.cl,l.nM,by kernel_rfl,c.M,_,_,.ref a.bk,h.me,E.cl,E.nB,by kernel_rfl,c.R,_,_,.ref r.d,h.run m,g.cl,g.nD,by kernel_rfl,a.bk,r.d,r.x.wd,r.x.vs,bQ r.x,uB r.x,s.prs,rfl,h.book,h.dd r m,Tl r.x,λv H1 x k=>?_];rw[Hn S Q]at k;have b:=h.same x;dsimp only [aI];cases n:aQ f r.x with
  | some y=>
   rw[n]at k;obtain⟨z,rfl,V⟩:=aCF k;exact#[_,_,b.dr,by kernel_rfl,a,s,L,J,r,z,rfl,b,u,F,λt d o j G A gt=>T y n t d z o j ((Mv.same x).trans G) A (G.tk b _ _ V) gt]
  | none=>
   rw[n]at k;obtain rfl:v=.non:=k.1;refine#[c.D,_,_,.ref a.j,b.dr,l.cl,l.nJ,by kernel_rfl,_,_,b.j,by kernel_rfl,c.R,_,_,.int r.n,b.run m,g.cl,g.nN,by kernel_rfl,bK rfl,λd o H A=>?_];have j:=b.same H;exists a.j,a.jl,a.jx,s.safe,s.rows,.ref d,rfl,j.j,j.jl,F;obtain⟨p,B⟩:=j.put (H':=aH o a.jl (.lst<|s.rows++[.ref d])) 3 {s with rows:=s.rows++[.ref d] } (λ_ _=>rfl) (λ_ _=>rfl) aA (λa4 a5 e W=>by rw[aD W];exact e) rfl rfl h.nd rfl;have g3:=B.tk j _ _ A;generalize aH o a.jl (.lst<|s.rows++[.ref d])=H3 at p B g3 ⊢;dsimp only;exists c.R,r.dx,_,p.run m,g.cl,g.nS,(by show 7<1000;decide);dsimp only;rw[show bI "stage" (.str "asked") r.fs={r with st:="asked" }.fs by kernel_rfl];obtain⟨X,I⟩:=p.rput (r':={r with st:="asked" }) u rfl rfl rfl rfl;have Y:=I.tk p _ _ g3;exact#[bK rfl,λt Z C gt=>U n t d Z (X.same C) ((((Mv.same<|x.trans H).trans B).trans I).trans<|.same C) (C _ _ Y) gt]
structure NA(H:Hp)(s:DS)(n:Nat):Prop where
 ex:∃(k:Nat)(zs:HP),s.safe=(k:Int)/\s.rows.take k=zs.map (λz=>V.ref z.1)/\(∀z∈zs,H z.1=!.tup z.2/\cZ z.2 [.str "asked",.int n])/\wN [.str "asked",.int n] zs=false
inductive Ie(c:CK)(vs:A1)(H:Hp)(Q:VK)(E_:XK):Prop
 | mk(a:DA)(s:DS)(r:Rn)(way:Str):vs=[.ref a.dr,.ref r.p,.str way]->K1 c H a s->r∈s.runs->NA H s r.n->(∀t H',I7 H H'->H' t=!.tup [.str "unsafe"]->Q (.ref t) H')->Ie c vs H Q E_
def aAe(d:Nr K c.D)(e:Vw K c.R)(l:bP^1 c.J "is_safe" ES (xK c.J))(D:MethAt K c.D "ask_next" "Door.ask_next" eZ fy):bP^2 c.D "ask_next" fy (Ie c):=by
 refine D.gg sP λf J A I s H vs Q E n h=>?_
 .obtain⟨a,s,r,L,rfl,h,o,p,q⟩:=h;refine JB p.ex (JR λk u=>KJ λv x g y=>?_);exists _,(!"~/`n 0*)1*#!!+#!Djq)#!+(&;/IIIIII&$$$$$$");refine#[c.D,_,_,.ref a.j,h.dr,d.cl,d.nJ,by kernel_rfl,_,_,h.j,by kernel_rfl,c.R,_,_,.int r.n,h.run o,e.cl,e.nN,by kernel_rfl,bK rfl,λB M b g1=>?_];have i:=h.same b;have j:=i.j;rw[v]at j;refine#[a.j,a.jl,a.jx,B,k,s.rows,u,_,rfl,j,i.jl,g1,x,λz m=>#[b _ _ (g z m).1,(g z m).2],λN C=>?_];rw[y];exact#[bK rfl,λt F G gt=>q t F ((b.trans C).trans G) gt]
inductive Ig(c:CK)(vs:A1)(H:Hp)(Q:VK)(E_:XK):Prop
 | mk(a:DA)(s:DS)(pre post:DM)(r:Rn):vs=[.ref a.dr,.int r.n,.str "through"]->K1 c H a s->s.runs=pre++r::post->s.runs.length<64->(((r.st="new"/\(∀r' rest,fQ s r=r'::rest->∀t H',I7 H H'->H' t=!.tup [.str "waits",.int r'.n]->Q (.ref t) H')/\(fQ s r=[]->∀t H',K1 c H' a (fR s pre post r "held")->Mv a s (fR s pre post r "held") H H'->H' t=!.tup [.str "holds"]->Q (.ref t) H'))∨(r.st="held"/\r.x.Ok/\s.rows.length<=1000/\∃f:Str->Nat,(∀z,bZ s.prs z=(f z:Int))/\(∀y,aQ f r.x=!y->∀t ra z H',K1 c H' a {fR s pre post r "written" with rows:=s.rows++[.ref ra] }->Mv a s {fR s pre post r "written" with rows:=s.rows++[.ref ra] } H H'->H' ra=!.tup [.str "done",.int r.n,.int s.turn,.ref z]->H' z=!.tup y.vs->H' t=!.tup [.str "writes",.str "done"]->Q (.ref t) H')/\(aQ f r.x=none->∀t ra H',K1 c H' a {fR s pre post r "asked" with rows:=s.rows++[.ref ra] }->Mv a s {fR s pre post r "asked" with rows:=s.rows++[.ref ra] } H H'->H' ra=!.tup [.str "asked",.int r.n]->H' t=!.tup [.str "writes",.str "asked"]->Q (.ref t) H'))∨((r.st="written"∨r.st="asked"/\NA H s r.n)/\∀t H',I7 H H'->H' t=!.tup [.str "unsafe"]->Q (.ref t) H')))->Ig c vs H Q E_
def aAf(U:Top w.params K mg)(m:Fl K c.M)(b:Vw K c.R)(x:bP^1 c.D "known" EX (gJ c))(y:bP^3 c.M "hold" T8 (Hy c))(z:bP^4 c.D "write_first" T8 (xP c))(A:bP^2 c.D "ask_next" fy (Ie c))(D:MethAtD K c.D "work" "Door.work" fP ai [[],[.str ("through":Str)]]) :
  ∀d∈([[],[.str ("through":Str)]]:HF),Ss^5 c.D "work" ai d (Ig c):=by
 refine MethAtD.go D lY (λvs H Q E h=>?_) λf Z a0 Y s H vs Q E l h=>?_
 .obtain⟨a,s,o,n,r,rfl,_⟩:=h;rfl
 obtain⟨a,s,o,n,r,rfl,h,p,B,C⟩:=h;have v:=dN l;obtain⟨F,G,I⟩:=U.g_WAYS;have j:r∈s.runs:=by rw[p];simp
 exists _,(!"`3 `lY.nd X~/0A:~Y{R.fe1 13*=I&;/{^R.jc0 2%|$|%=I&;/`4 `lY.nd ~Y3*1T:L4*)=|#~/34#!D(&;/L4*)=~W~/04#!D(&;/L4*)=|D~/042#!!D(&;/L4*)=I&;/L4*)=I&;/)#!+(&$$$$$$$$$");exists _,_,h.dr,by kernel_rfl,a,s,rfl,h;dsimp only [aI];have u:=LP.k (k:=Sum.inl (r.n:Int)) h.rn;rw[rE h.up j]at u;exists c.M,_,_,.ref a.rn,h.me,m.cl,m.nR,by kernel_rfl,_,u;refine#[F,_,rfl,.inr<|I _,by kernel_rfl,by kernel_rfl,?_];exists c.M,_,_,.ref a.rn,h.me,m.cl,m.nR,by kernel_rfl,a.rn,.ref r.p,rfl,u;dsimp only [aI];rcases C with⟨e,J,q⟩|⟨e,L,M,f,N,O,S⟩|⟨e|⟨e,T⟩,q⟩
 .refine#[c.R,_,_,.str r.st,h.run j,b.cl,b.nS,by kernel_rfl,?_];rw[e];exact#[_,_,h.me,by kernel_rfl,a,s,o,n,r,rfl,h,p,B,J,q]
 .refine#[c.R,_,_,.str r.st,h.run j,b.cl,b.nS,by kernel_rfl,?_];rw[e];refine#[c.R,_,_,.str r.st,h.run j,b.cl,b.nS,by kernel_rfl,?_];rw[e];exact#[_,_,h.dr,by kernel_rfl,a,s,o,n,r,f,rfl,h,p,L,N,M,O,S]
 .refine#[c.R,_,_,.str r.st,h.run j,b.cl,b.nS,by kernel_rfl,?_];rw[e];refine#[c.R,_,_,.str r.st,h.run j,b.cl,b.nS,by kernel_rfl,?_];rw[e];refine#[c.R,_,_,.str r.st,h.run j,b.cl,b.nS,by kernel_rfl,?_];rw[e];refine#[c.R,_,_,.str r.st,h.run j,b.cl,b.nS,by kernel_rfl,?_];rw[e];refine#[c.R,_,_,.str r.st,h.run j,b.cl,b.nS,by kernel_rfl,?_];rw[e];exact#[bK rfl,λt W X g=>q t W X g]
 refine#[c.R,_,_,.str r.st,h.run j,b.cl,b.nS,by kernel_rfl,?_];rw[e];refine#[c.R,_,_,.str r.st,h.run j,b.cl,b.nS,by kernel_rfl,?_];rw[e];refine#[c.R,_,_,.str r.st,h.run j,b.cl,b.nS,by kernel_rfl,?_];rw[e];exact#[_,_,h.dr,by kernel_rfl,a,s,r,_,rfl,h,j,T,q]
def K1.outside(h:K1 c H a s)(f:b∉a.fix++s.runs.map (·.p))(g:H b=!o)(i:∀xs,o≠.tup xs)(o':HO):K1 c (aH H b o') a s:=
 h.keep (λd u e hd=>by rw[aD (λ(z:d=b)=>f<|z▸hd)];exact e) (iB g i)
def Mv.out(m:Mv a s f H H')(c:H b=none)(o':HO):Mv a s f H (aH H' b o'):=
 #[λd u e hd=>by rw[aD (aE e c)];exact m.fr d u e hd,m.nw,λd e=>by
  by_cases z:d=b
  .rw[z];exact c
  .rw[aD z]at e;exact m.gr d e]
def Mv.stay(m:Mv a s d H H')(c:b∉a.fix++s.runs.map (·.p))(g:H b=!o):b∉a.fix++d.runs.map (·.p):=λz=>by
 rcases MN.mp z with z|z
 .exact c<|IN _ z
 obtain⟨r,f,e⟩:=LA.mp z;rcases m.nw r f with w|w
 .exact c<|GJ _<|e▸w
 rw[e,g]at w;cases w
inductive iE(H:Hp):DS->A1->DS->List (Rn×TD)->Prop
 | nil {s:DS}:iE H s [] s []
 | skip {s s':DS}{t:TD}{wd:Str}{xs:A1}{vs:A1}{ts:List (Rn×TD)}:H t=!.tup (.str wd::xs)->wd≠"done"->iE H s vs s' ts->iE H s (.ref t::vs) s' ts
 | done {s s':DS}{t z:TD}{pre post:DM}{r:Rn}{w:Int}{y:An}{vs:A1}{ts:List (Rn×TD)}:H t=!.tup [.str "done",.int r.n,.int w,.ref z]->s.runs=pre++r::post->H z=!.tup y.vs->An.Of r.x y->(∀q∈Bz r.x y,Jz s.prs q)->s.prs.length<=90->s.L<=500->s.m r.q=some (.busy r.n r.d) →
   iE H {s with runs:=pre++post,prs:=mE s.prs<|Bz r.x y,m:=s.m.set r.q<|!.kept r.n w r.d z,L:=s.L+1 } vs s' ts->iE H s (.ref t::vs) s' ((r,z)::ts)
def Vf(H:Hp)(q:Rn×TD)(v:V):Prop:=∃t,v=.ref t/\H t=!.tup [.int q.1.n,.str q.1.q.1,.str q.1.q.2,.ref q.2]
inductive vB(c:CK)(vs:A1)(H:Hp)(Q:VK)(E_:XK):Prop
 | mk(a:DA)(s s':DS)(old news:A1)(ts:List (Rn×TD)):vs=[.ref a.dr]->K1 c H a s->s.rows=old++news->s.safe=(old.length:Int)->s.rows.length<=1000->iE H {s with safe:=s.rows.length } news s' ts->ts.length<=500->(∀l us H',K1 c H' a s'->Mv a s s' H H'->H l=none->H' l=!.lst us->Paired (Vf H') ts us->l∉a.fix++s'.runs.map (·.p)->Q (.ref l) H')->vB c vs H Q E_
def Vg(j:Nr K c.D)(b7:bP^1 c.D "known" EX (gJ c))(F1:bP^1 c.J "safe" EX (uY c.J))(f9:bP^1 c.J "force" EX (oE c.J))(c7:bP^1 c.J "rows" EX (oY c.J))(za:bP^3 c.M "end" fv (Hz c))(D:MethAt K c.D "force" "Door.force" iP EX):bP^4 c.D "force" EX (vB c):=by
 refine D.gg eT λa4 cdv a5 outer s H vs a6 a7 q h=>?_
 .obtain⟨a,s,s',old,f,Y,rfl,h,UA,CD,KW,hE,MF,a1⟩:=h;exists _,(!"`1 |,|m~.0A:`2 |,`F1 ~.0*A:`f9 ~.0*AE`3 |,#Z:V%~B|n~.0*A2Pl]u`4 |,tL-`4 >)=~'~E~F~I3`za ~.1-`4 >-`4 >-`4 >#!!!D#!yE&;/&W3(&$$$$$");exists _,_,h.dr,by kernel_rfl,a,s,rfl,h;exists c.D,_,_,.ref a.j,h.dr,j.cl,j.nJ,by kernel_rfl,_,_,h.j,by kernel_rfl,a.j,a.jl,a.jx,s.safe,rfl,h.j;exists c.D,_,_,.ref a.j,h.dr,j.cl,j.nJ,by kernel_rfl,_,_,h.j,by kernel_rfl,a.j,a.jl,a.jx,s.safe,s.rows,rfl,h.j,h.jl;obtain⟨r,B⟩:=h.put (H':=aH H a.j (.ins c.J a.jx<|jf a.jl s.rows.length)) 2 {s with safe:=s.rows.length } (λ_ _=>rfl) (λ_ _=>rfl) aA (λa8 a9 e hb=>by rw[aD hb];exact e) rfl rfl h.nd rfl;generalize aH H a.j (.ins c.J a.jx<|jf a.jl s.rows.length)=R at r B ⊢;refine#[uR rfl,λlt S=>?_];dsimp only [aI];have C:=aF (o:=.lst []) S;have L:(aH R lt<|.lst []) lt=!.lst []:=aA;generalize aH R lt (.lst [])=Z at C L ⊢;have E:=r.same C;refine#[c.D,_,_,.ref a.j,E.dr,j.cl,j.nJ,by kernel_rfl,_,_,E.j,by kernel_rfl,a.j,a.jl,a.jx,_,s.rows,rfl,E.j,E.jl,λT UB=>?_];have u:=aF (o:=.lst s.rows) UB;have YH:(aH Z T<|.lst s.rows) T=!.lst s.rows:=aA;generalize aH Z T (.lst s.rows)=H3 at u YH ⊢;refine#[_,JX YH,λls M=>?_];have NT:jK s.rows (!s.safe) none=f:=by
   rw[CD,vX,UA,List.drop_left]
  rw[NT];have U:=aF (o:=.lst f) M;have N:(aH H3 ls<|.lst f) ls=!.lst f:=aA;have W:=(C.trans u).trans U;have UC:R ls=none:=C.free<|u.free M;have nlt:lt≠ls:=aE (u _ _ L) M;generalize aH H3 ls (.lst f)=H4 at U N W ⊢;have h4:=r.same W;have w4:=B.trans<|.same W;have bq':=U _ _<|u _ _ L;have olt:lt∉a.fix++s.runs.map (·.p):=r.fresh S;have ols:ls∉a.fix++s.runs.map (·.p):=r.fresh UC;have UD:H lt=none:=B.gr _ S;have hS':H ls=none:=B.gr _ UC;refine#[ls,rfl,#[_,JX N],bT (aX K ls f) (λi J H'=>∃(o:EY)(d:DS)(k v:List (Rn × Addr))(b:A1),J=[!.ref a.dr,!.ref a.me,!.int s.safe,!.ref lt,o]/\H' ls=!.lst f/\H' lt=!.lst b/\k++v=Y/\Paired (Vf H') k b/\iE H d (f.drop i) s' v/\K1 c H' a d/\Mv a s d H H'/\lt∉a.fix++d.runs.map (·.p)/\ls∉a.fix++d.runs.map (·.p))
   (λi J H'=>QL λ_ _ _ _ _=>JE λ_ e _=>JX e) #[_,_,[],Y,[],rfl,N,bq',rfl,.nil,hE,h4,w4,olt,ols] ?_ ?_]
  .refine λi b0 J H' hx=>QL λo d k v b=>TY λζ F gt l x y m g=>JW λA G=>?_;subst ζ;obtain⟨hil,ex⟩:=NJ.mp hx;rw[List.drop_eq_getElem_cons hil,ex]at y;dsimp only [aI];cases y with
   | @skip _ _ t wd xs _ _ X d8 O=>
    have n:=g.tk h _ _ X;exists _,JV n,.str wd,eW (show(V.str wd::xs)[0]?=some _ from rfl);show if decide (wd="done")=true then _ else _
    refine Dp (T0 d8) ?_;exact#[_,d,k,v,b,rfl,F,gt,l,x,O,m,g,A,G]
   | @done _ _ t z pre post a0 w' a2 _ ts' X hs hz KN hg TN hL hm O=>
    have n:=g.tk h _ _ X;have ul:b.length<=500:=by
     rw[<- x.length];have:=congrArg length l;rw[mU]at this;omega
    exists _,JV n,_,rfl;refine#[.inl #[rfl,_,JX gt],_,_,m.me,by kernel_rfl,_,JV n,_,rfl,_,JV n,_,rfl,_,JV n,_,rfl,a,d,pre,post,a0,w',z,a2,rfl,m,hs,g.tk h _ _ hz,KN,hg,TN,hL,hm,λI H5 h5 p gtt=>?_];have Q:=p.fr _ _ gt A;have gl5:=p.fr _ _ F G;have UH:=p.stay A gt;have bu':=p.stay G F;exists lt,b,.ref I,rfl,rfl,Q,yR ul Zd;have kt:TK H5 (aH H5 lt<|.lst<|b++[.ref I]):=iB Q λ_ z=>nomatch z
    refine#[_,_,k++[(a0,z)],ts',b++[.ref I],rfl,by rw[aD nlt.symm];exact gl5,aA,by rw[<- l,append_assoc];rfl,Paired.snoc (Paired.map' (λ_ _ #[t,e,a3]=>#[t,e,kt _ _<|p.tk m _ _ a3]) x) #[I,rfl,kt _ _ gtt],O,h5.outside UH Q (λ_ z=>nomatch z) _,(g.trans p).out UD _,UH,bu']
  refine λJ H'=>QL λo d k v b=>TY λζ F gt l x y m g=>JW λA G=>?_;subst ζ;rw[drop_length]at y;cases y;rw[append_nil]at l;subst l;exact a1 lt b H' m g UD gt x A
def aEe(c:CK)(H:Hp)(a:DA)(s:DS):Prop:=(∃mv,H a.dr=!.ins c.D a.dx [("name",.str s.name),("life",.int s.life),("houses",.ref a.hd),("journal",.ref a.j),("memory",mv)])/\H a.j=!(.ins c.J a.jx<|jf a.jl s.safe)/\H a.jl=!.lst s.rows
def K1.drAt{s:DS}(h:K1 c H a s):aEe c H a s:=#[#[_,h.dr],h.j,h.jl]
inductive rJ(c:CK)(vs:A1)(H:Hp)(Q:VK)(E_:XK):Prop
 | mk(a:DA)(s:DS):vs=[.ref a.dr]->aEe c H a s->(∀l H',H l=none->I7 H H'->H' l=!.lst s.rows->Q (.ref l) H')->rJ c vs H Q E_
def Vh(b:Nr K c.D)(g:bP^1 c.J "rows" EX (oY c.J))(D:MethAt K c.D "rows" "Door.rows" jV EX):bP^2 c.D "rows" EX (rJ c):=by
 refine D.gg Bx λf m A k s H vs Q E i h=>?_
 .obtain⟨a,s,rfl,⟨⟨mv,hd⟩,d,j⟩,q⟩:=h;exists _,(!"~p~K0*A(&");exact#[c.D,_,_,.ref a.j,hd,b.cl,b.nJ,by kernel_rfl,_,_,d,by kernel_rfl,a.j,a.jl,a.jx,s.safe,s.rows,rfl,d,j,λl e=>q l _ e (aF e) aA]
inductive rK(c:CK)(vs:A1)(H:Hp)(Q:VK)(E_:XK):Prop
 | mk(a:DA)(s:DS):vs=[.ref a.dr]->K1 c H a s->s.prs.length<64->(∀l (zs:FO) H',H l=none->I7 H H'->H' l=!(.lst<|bM zs)->OS H' zs->zs.map (·.2)=dF s.prs->Q (.ref l) H')->rK c vs H Q E_
def Vi(b:Fl K c.M)(v:Yg K c.B)(i:bP^1 c.D "known" EX (gJ c))(j:bP^1 c.B "rows" EX (wF c.B))(D:MethAt K c.D "book_rows" "Door.book_rows" dZ EX):bP^2 c.D "book_rows" EX (rK c):=by
 refine D.gg qY λf u A t s H vs Q E d h=>?_
 .obtain⟨a,s,rfl,h,k,q⟩:=h;exists _,(!"~De~Ke0A*A(&");refine#[_,_,h.dr,by kernel_rfl,a,s,rfl,h,c.M,_,_,.ref a.bk,h.me,b.cl,b.nB,by kernel_rfl,_,_,h.bk,by kernel_rfl,a.bk,s.prs,rfl,h.book,k,λl m n o p g r e=>q l m n p o g r e]
def Kk(f:Str->Nat)(hs:A2)(nd:((hs.map λz=>(z,(f z:Int))).map (·.1)).Nodup)(h:∀z,z∈hs↔0<f z)(z:Str):bZ (hs.map λz=>(z,(f z:Int))) z=(f z:Int):=by
 by_cases c:z∈hs
 .exact Yf nd<|LA.mpr #[z,c,rfl]
 have:=mt (h z).mpr c;rw[xC λm=>c (by obtain⟨q,a,e⟩:=LA.mp m;obtain⟨y,b,rfl⟩:=LA.mp a;rw[<- e];exact b)];omega
def ew(s:DS)(turn:Int)(n:Nat)(prs:BD)(m:KM)(L:Nat)(rs:DM):DS:={s with turn:=turn,next:=n,prs:=prs,m:=m,L:=L,runs:=rs }
structure QW(H:Hp)(rows:A1)(C:BR)(as:BZ)(F:Nat->Str->Nat)(f:Str->Nat)(nm:A2)(qs:DD)(n:Nat)(tu:Int):Prop where
 rw:rows=as.map V.ref
 each:Paired (λr a=>RX.At H a r) C as
 len:C.length<=400
 nm:Ts C nm
 w:RX.Whole C
 sn:∀r∈C,Tq r
 rep:QK C F f
 op:((cS C).map lD).Nodup
 ol:(cS C).length<=60
 kp:Zm (bH C) qs
 k2:(bH C).length<=220
 nx:ML (cJ C) (n:Int)
 tn:∀t∈turnL C,t<=tu
inductive vC(c:CK)(vs:A1)(H:Hp)(Q:VK)(E_:XK):Prop
 | mk(a:DA)(s:DS)(turn:Int)(C:BR)(as:BZ)(F:Nat->Str->Nat)(f:Str->Nat)(nm:A2)(qs:DD)(n:Nat):vs=[.ref a.dr,.int turn]->i7 c H a s->QW H s.rows C as F f nm qs n turn->(∀l a' prs m L rs H',a'.dr=a.dr->K1 c H' a' (!"|C`turn `n |eNK|c~ON|W")->(∀x∈prs.map (·.1),0<f x)->(∀z,bZ prs z=(f z:Int))->OX H' (bH C) m->Paired (QS H') (cS C) rs->L<=500->H l=none->H' l=!(.lst<|(rs.map λr=>(r.n:Int)).map V.int)->(∀b∈a'.fix++rs.map (·.p),b∈[a.dr,a.hd,a.j,a.jl]∨H b=none)->(∀b o,H b=!o->b≠a.dr->H' b=!o)->Q (.ref l) H')->vC c vs H Q E_
def Vj(T:Txt K mg)(k:Nr K c.D)(BM:Fl K c.M)(c7:bP^1 c.J "rows" EX (oY c.J))(oh:Callee^5 "risen" ET rD)(vz:QJ^4 "Memory" c.M TZ [] (Kj c))(D:MethAt K c.D "rise" "Door.rise" jT CY):bP^6 c.D "rise" CY (vC c):=by
 refine D.gg qX λa0 cdv a7 outer s H vs a8 a9 M h=>?_
 .obtain⟨a,s,turn,C,as,F,a0,nm,qs,n,rfl,h,d,a4⟩:=h;have BU:=M;exists _,(!"~i0*~%=I&;/`2 `qX.nd |l~X%|n~X0*A#!<:~g1-`2 >=I&;/0`vz ~X%0*12#!!!~QC%{R.dq1 %~^~m0**#!J(&$$$$");have gd:=h.get 0 rfl;have gh:=h.get 1 rfl;have gj:=h.get 2 rfl;have NQ:=h.get 3 rfl;refine#[c.D,_,_,.non,gd,k.cl,k.nM,by kernel_rfl,?_];refine#[c.D,_,_,.ref a.j,gd,k.cl,k.nJ,by kernel_rfl,_,_,gj,by kernel_rfl,a.j,a.jl,a.jx,s.safe,s.rows,rfl,gj,NQ,λN UB=>?_];have Z:=aF (o:=.lst s.rows) UB;have g1:(aH H N<|.lst s.rows) N=!(.lst<|as.map V.ref):=by rw[aA,d.rw]
  generalize aH H N (.lst s.rows)=H1 at Z g1 ⊢;refine#[N,C,as,F,a0,nm,rfl,#[g1,Paired.map' (λ_ _ w=>w.tk<|I7.tk Z) d.each],d.len,d.nm,d.w,d.sn,d.rep,λt kl ol y R s2'=>?_];refine JB R.ex (S5 λb m1 m2 ka oa v hs=>TY λgt JK pk PB po NI RS gb=>KJ λhz pr O lh=>?_);have G:=Z.trans s2';obtain rfl:=ML.uniq NI d.nx;have hm:=d.tn _ RS.1;have YA:(cS C).Pairwise λa b=>a.1<b.1:=xJ C d.w
  have uo:((v.map (·.2)).map (·.1)).Nodup:=by
   rw[O,map_map];exact pairwise_map.mpr (pr.asc.imp λh e=>by have e':_=_:=e;simp only [Function.comp]at e';rw[e']at h;exact IZ h<|List.lt_irrefl _)
  have TR:v.length<=43:=by
   have:=congrArg length O;simp only [aV]at this;omega
  exists _,JV gt,_,rfl;show if decide (turn<m2)=true then _ else _
  refine Dp (T0 Zo) ?_;dsimp only [kJ];have KH:=G _ _ gd;refine#[c.D,_,_,.int s.life,KH,k.cl,k.nL,by kernel_rfl,λme j NR OT SF=>?_];have m:∀ {b u},y b=!u->(aH (aH y j<|.own me) me<|.ins c.M j []) b=!u:=λe=>by rw[aD (aE e NR),aD (aE e OT)];exact e
  refine#[me,j,s.life,turn,n,m2,t,b,kl,ol,v,ka,oa,bH C,cS C,rfl,aA,m gt,m gb,(λz BS=>m<|hz z BS),uo,TR,m JK,Paired.map' (λ_ _ w=>w.tk λb xs e=>m e) pk,d.k2,m PB,Paired.map' (λ_ _ w=>w.tk λb xs e=>m e) po,d.ol,YA,d.op,λbk E bd ks rn q bs I a2 a3 f A a1 db ds km Q hL=>#[rfl,?_]];have s3:I7 y A:=λb u e=>a1.fr _ _ (m e) (aE e NR)
  have fr2:∀b,(aH (aH y j<|.own me) me<|.ins c.M j []) b=none->y b=none:=λb e=>by
   cases z:y b with
   | none=>rfl
   | some u=>rw[m z]at e;cases e
  have S:∀p∈(Ia c me j bk E bd ks rn q bs I s.life turn n (v.map (·.2)) f),y p.1=none:=λp x=>(a1.nw p x).elim (λe=>by rw[e];exact NR) (fr2 _)
  have s03:=G.trans s3;have h3:Own A (a.low c s<|TQ a s):=Own.same s03 h;exists c.D,_,_,h3.get 0 rfl,k.cl,k.nM,(by show 5<1000;decide);dsimp only;have pG:(([(rn,.dK<|aS f),(q.ds,.dT I),(q.db,.dT bs),(ks,.ins c.Ks q.dx<|zP q s.life),(bd,.dK<|mK<|v.map (·.2)),(bk,.ins c.B E [("amounts",.ref bd)]),(me,.ins c.M j<|Oe turn bk ks rn n)]:List (Addr × HO)).reverse++f.map (pH c)).Perm (Ia c me j bk E bd ks rn q bs I s.life turn n (v.map (·.2)) f):=List.Perm.append_right _<|List.reverse_perm _;have oG:=a1.own.perm pG;have oM:Own (aH A a.dr<|.ins c.D a.dx<|bI "memory" (.ref me)<|TQ a s) _:=#[oG.1,λp x=>by
   have U:=S p<|pG.mem_iff.mp x;rw[aD (λe=>by rw[e,KH]at U;cases U)];exact oG.2 p x]
  have oL:=Own.set h3 0 rfl<|.ins c.D a.dx<|bI "memory" (.ref me)<|TQ a s;have oA:=Own.app oL oM λa5 W FE=>by
   obtain⟨p,x,rfl⟩:=LA.mp FE;have U:=S p<|pG.mem_iff.mp x;have TF:p.1∈(a.low c s<|TQ a s).map (·.1):=W;obtain⟨p',vw,e⟩:=LA.mp TF;have:=G _ _<|h.2 p' vw;rw[e,U]at this;cases this
  have B:TK A (aH A a.dr<|.ins c.D a.dx<|bI "memory" (.ref me)<|TQ a s):=iB (h3.get 0 rfl) λ_ z=>nomatch z
  have X:∀b o,H b=!o->b≠a.dr->(aH A a.dr<|.ins c.D a.dx<|bI "memory" (.ref me)<|TQ a s) b=!o:=λb o e g=>by rw[aD g];exact s03 _ _ e
  rw[show bI "memory" (.ref me) (TQ a s)=df {a with me:=me } s by kernel_rfl]at oM oL oA B X ⊢;generalize aH A a.dr (.ins c.D a.dx<|df {a with me:=me } s)=H4 at oM oL oA B X ⊢;have emap:(cS C).map (λo=>o.1)=f.map (·.n):=uZ (λo r h=>by revert h;refine LB λ_ _ _=>JW λer _=>?_;rw[er];rfl) Q;have UI:f.Pairwise λr r'=>r.n<r'.n:=pairwise_map.mp (emap▸pairwise_map.mpr YA)
  have HJ:f.length<64:=by have:=d.ol;have:=Q.length;omega
  have J:K1 c H4 #[a.dr,a.dx,a.hd,a.j,a.jx,a.jl,me,j,bk,E,bd,ks,rn,q] (ew s turn n (v.map (·.2)) (eU f a2) a3 f):=#[#[bs,I,oA,db.keep B,ds.keep B],uo,UI,λr A4=>by obtain⟨o,_,_,_,_,er,a6⟩:=Mz Q A4;rw[er];exact B _ _ a6];refine#[c.D,_,_,.ref me,J.dr,k.cl,k.nM,by kernel_rfl,c.M,_,_,.ref rn,J.me,BM.cl,BM.nR,by kernel_rfl,?_];refine#[f.map λr=>(r.n:Int),_,.inl J.rn,(by unfold ew aS;rw[map_map,map_map];rfl),(by rw[aV];exact HJ),λl ns L x KO=>?_];have TM:ns=f.map λr=>(r.n:Int):=oF KO (pairwise_map.mpr (UI.imp λz=>by omega)) x
  subst TM;have Y:=aF (o:=.lst ((f.map λr=>(r.n:Int)).map V.int)) L;have fl:H l=none:=by
   cases z:H l with
   | none=>rfl
   | some u=>
    exfalso;by_cases e:l=a.dr
    .rw[e,J.dr]at L;cases L
    rw[X l u z e]at L;cases L
  have hk2:=d.k2;refine a4 l #[a.dr,a.dx,a.hd,a.j,a.jx,a.jl,me,j,bk,E,bd,ks,rn,q] _ a2 a3 f _ rfl (J.same Y) (λa5 W=>by rw[O]at W;obtain⟨b0,hy,e⟩:=LA.mp W;obtain⟨w,hw,rfl⟩:=LA.mp hy;rw[<- e];exact(pr.iff w).mp hw) (by have UJ:=uo;rw[O]at UJ ⊢;exact Kk a0 hs UJ pr.iff) ((km.tk B).tk<|I7.tk Y) (Paired.map' (λ_ _ w=>(w.tk B).tk<|I7.tk Y) Q) (by have:=d.ol;omega) fl aA (λb g=>?_) λb o e g=>Y _ _<|X b o e g;have fr:∀(i:Nat)(p:TD×HO),(Ia c me j bk E bd ks rn q bs I s.life turn n (v.map (·.2)) f)[i]?=!p->H p.1=none:=λi p e=>G.free (S p<|kI e)
  have hbr:b∈f.map (·.p)->H b=none:=λg=>by
   obtain⟨r,A4,rfl⟩:=LA.mp g;exact G.free (S (pH c r)<|GJ _<|mem_map_of_mem A4)
  refine(MN.mp g).elim (λg=>?_) λg=>.inr<|hbr g;simp only [DA.fix,mem_cons,GH,or_false]at g;rcases g with rfl|rfl|rfl|rfl|rfl|rfl|rfl|rfl|rfl|rfl|rfl
  .exact .inl Zs
  .exact .inl Zs
  .exact .inl Zs
  .exact .inl Zs
  .exact .inr<|fr 6 _ rfl
  .exact .inr<|fr 5 _ rfl
  .exact .inr<|fr 4 _ rfl
  .exact .inr<|fr 3 _ rfl
  .exact .inr<|fr 2 _ rfl
  .exact .inr<|fr 1 _ rfl
  exact .inr<|fr 0 _ rfl
def xQ(a:DA)(j jx jl:TD):DA:={a with j:=j,jx:=jx,jl:=jl }
def K1.newj{s:DS}(h:K1 c H a s){j d jl:TD}(l:H j=none)(p:H jl=none)(n:j≠jl)(k:∀b o,H b=!o->b≠a.dr->H' b=!o)(gd:H' a.dr=!(.ins c.D a.dx<|df (xQ a j d jl) s))(u:H' j=!(.ins c.J d<|jf jl 0))(v:H' jl=!.lst []) :
  K1 c H' (xQ a j d jl) {s with rows:=[],safe:=0 }:=by
 refine JB h.own (JR λbs f=>JE λg x y=>?_);have t:TK H H':=λb I e=>k _ _ e (aL e h.dr λz=>nomatch z)
 have A:Own H' ((a.all c s bs f).set 0 (a.dr,.ins c.D a.dx<|df (xQ a j d jl) s)):=g.at 0 rfl gd k;have B:∀ {i:Nat}{L:DL}{q:TD×HO},(L.set i q).map (·.1)=(L.map (·.1)).set i q.1:=λ{i L q}=>map_set
 have C:j∉(a.all c s bs f).map (·.1):=g.keys l;have D:jl∉(a.all c s bs f).map (·.1):=g.keys p;have E:=A.swap 2 (b:=j) (λm=>C m) u;have F:=E.swap 3 (b:=jl) (λm=>by
  rw[B]at m;rcases mem_or_eq_of_mem_set m with m|m
  .exact D m
  .exact n m.symm) v
 exact#[#[bs,f,F,x.keep t,y.keep t],h.nd,h.up,λr G=>t _ _<|h.dd r G]
inductive vD(c:CK)(vs:A1)(H:Hp)(Q:VK)(E_:XK):Prop
 | mk(a:DA)(s:DS)(C:BR)(as:BZ)(F:Nat->Str->Nat)(f:Str->Nat)(nm:A2)(qs:DD)(n lf tu:Nat):vs=[.ref a.dr]->K1 c H a s->s.runs.length<64->(∀r∈s.runs,r.n∈bW C)->s.safe=s.rows.length->s.life=(lf:Int)->s.turn=(tu:Int)->QW H s.rows C as F f nm qs n tu->(∀a' out os H',a'.dr=a.dr->K1 c H' a' {s with rows:=os.map V.ref,safe:=(os.length:Int) }->Paired (λr a=>RX.At H' a r) out os->Ug C f lf tu (s.runs.map (·.n)) out->(∀b∈a'.fix,b∈a.fix∨H b=none)->(∀b o,H b=!o->b∉a.fix->H' b=!o)->Q .non H')->vD c vs H Q E_
def Vk(T:Txt K mg)(l:Nr K c.D)(E:Fl K c.M)(b7:bP^1 c.D "known" EX (gJ c))(c7:bP^1 c.J "rows" EX (oY c.J))(F1:bP^1 c.J "safe" EX (uY c.J))(Z3:QJ^2 "Journal" c.J VW [.str ("":Str)] (Kh c.J))(c6:bP^1 c.J "write" ES (lB c.J))(f9:bP^1 c.J "force" EX (oE c.J))(HL:Callee^6 "folded" fD xG)(D:MethAt K c.D "fold" "Door.fold" jU EX):bP^7 c.D "fold" EX (vD c):=by
 refine D.gg iW λa0 cdv a4 outer s H vs a5 a6 u h=>?_
 .obtain⟨a,s,a1,as,F,a0,nm,qs,n,lf,Y,rfl,h,PJ,hrc,NU,KR,htu,q,a3⟩:=h;have BU:=u;exists _,(!"`1 |X|m~&0A:`2 |X|n~&0*A:~g`F1 ~&0*A~$%ps2#!J=I&;/0`Z3 ~&%{R.ie3 CV%`HL ~&%20*1*%{R.dq1 %~^~m1*#!J#!!!!<u`3 |Xt`c6 ~&0*3#!DE&W`f9 ~&0*AE&$$$$$");exists _,_,h.dr,by kernel_rfl,a,s,rfl,h;refine#[c.D,_,_,.ref a.j,h.dr,l.cl,l.nJ,by kernel_rfl,_,_,h.j,by kernel_rfl,a.j,a.jl,a.jx,s.safe,s.rows,rfl,h.j,h.jl,λx UB=>?_];dsimp only [aI];have y:=aF (o:=.lst s.rows) UB;have g1:(aH H x<|.lst s.rows) x=!.lst s.rows:=aA;generalize aH H x (.lst s.rows)=A at y g1 ⊢;have m:=h.same y;exists c.D,_,_,.ref a.j,m.dr,l.cl,l.nJ,by kernel_rfl,_,_,m.j,by kernel_rfl,a.j,a.jl,a.jx,s.safe,rfl,m.j;exists _,.inl<|JX g1;show if decide (s.safe<(s.rows.length:Int))=true then _ else _
  refine Dp (T0 Zo) ?_;dsimp only [kJ];intro j g v Z hjn;refine#[j,g,rfl,aA,λG jl DR gj NQ k2=>#[rfl,?_]];have S:I7 A G:=λc o e=>k2 _ _ (by rw[aD (aE e v),aD (aE e Z)];exact e) (aE e v)
  have I:A jl=none:=by
   cases e:A jl with
   | none=>rfl
   | some a2=>rw[aD (aE e v),aD (aE e Z),e]at DR;cases DR
  have njl:j≠jl:=aL gj NQ λz=>nomatch z
  exists c.D,a.dx,_,S _ _ m.dr,l.cl,l.nJ,(by show 5<1000;decide);dsimp only;rw[show bI "journal" (.ref j) (df a s)=df (xQ a j g jl) s by kernel_rfl];have YJ:j≠a.dr:=λe=>by rw[e,m.dr]at v;cases v
  have FT:jl≠a.dr:=λe=>by rw[e,m.dr]at I;cases I
  have t:=m.newj (H':=aH G a.dr (.ins c.D a.dx<|df (xQ a j g jl) s)) v I njl (λb o e d=>by rw[aD d];exact S _ _ e) aA (by rw[aD YJ];exact gj) (by rw[aD FT];exact NQ);have J:∀b o,A b=!o->b≠a.dr->(aH G a.dr<|.ins c.D a.dx<|df (xQ a j g jl) s) b=!o:=λb o e d=>by rw[aD d];exact S _ _ e
  generalize aH G a.dr (.ins c.D a.dx<|df (xQ a j g jl) s)=L at t J ⊢;have nlr:x≠a.dr:=aL g1 m.dr λz=>nomatch z
  have t13:TK A L:=λb xs e=>J _ _ e (aL e m.dr λz=>nomatch z)
  have YK:L a.rn=!(.dK<|aS s.runs):=t.rn;refine#[c.D,_,_,.int s.life,t.dr,l.cl,l.nL,by kernel_rfl,c.M,_,_,.int s.turn,t.me,E.cl,E.nT,by kernel_rfl,c.M,_,_,.ref a.rn,t.me,E.cl,E.nR,by kernel_rfl,s.runs.map λr=>(r.n:Int),_,.inl YK,(by unfold aS;rw[map_map,map_map];rfl),(by rw[aV];exact PJ),λM ns XR hp KO=>?_];obtain rfl:ns=s.runs.map λr=>(r.n:Int):=oF KO (pairwise_map.mpr (h.up.imp λz=>by omega)) hp
  have B:=aF (o:=.lst ((s.runs.map λr=>(r.n:Int)).map V.int)) XR;have X:(aH L M<|.lst<|(s.runs.map λr=>(r.n:Int)).map V.int) M=!(.lst<|nI<|s.runs.map (·.n)):=by
   rw[aA];unfold nI;rw[map_map,map_map];rfl
  generalize aH L M (.lst<|(s.runs.map λr=>(r.n:Int)).map V.int)=H4 at B X ⊢;have t14:TK A H4:=t13.trans<|TK.of B;have t04:TK H H4:=(TK.of y).trans t14;refine#[x,M,a1,as,F,a0,lf,Y,s.runs.map (·.n),nm,qs,by rw[KR,htu],#[by rw[<- q.rw];exact B _ _<|J _ _ g1 nlr,Paired.map' (λ_ _ w=>w.tk t04) q.each],q.len,q.nm,q.kp,q.w,q.sn,q.rep,X,(λn hn=>by obtain⟨r,A4,rfl⟩:=LA.mp hn;exact hrc r A4),(by rw[aV];omega),λp os out H5 fp N FI s5=>?_];have U:=(t.same B).same s5;have XY:p≠jl:=λe=>by
   have:=(t.same B).jl;rw[show(xQ a j g jl).jl=jl from rfl,<- e,fp]at this;cases this
  have GZ:os.length<=1000:=by
   have m:=N.len;refine JB FI.ex (LB λa7 hs es=>QZ λ_ _ _ _ lh le5 e=>?_);have h2:=q.kp.1;rw[e]at m;have t:=oV a1 Y<|s.runs.map (·.n);rw[aV]at t;simp at m;omega
  refine#[p,rfl,#[_,JX N.lst],bT (aX K p<|os.map V.ref) (λi Q H'=>∃W:EY,Q=[!.ref a.dr,!.ref a.me,!.ref x,W]/\K1 c H' (xQ a j g jl) {s with rows:=(os.take i).map V.ref,safe:=0 }/\∀b o,H5 b=!o->b≠jl->H' b=!o) (λi Q H' #[_,_,_,k]=>JX<|k _ _ N.lst XY) #[_,rfl,U,λ_ _ e _=>e] ?_ ?_]
  .refine λi a8 Q C hx=>JU λW=>JE λζ f O=>?_;subst ζ;rw[eJ]at hx;obtain⟨b,d,rfl⟩:=Option.map_eq_some_iff.mp hx;exists c.D,_,_,.ref j,f.dr,l.cl,l.nJ,by kernel_rfl,_,_,f.j,by kernel_rfl,j,jl,g,0,_,.ref b,rfl,f.j,f.jl,?_,_,rfl
   .rw[aV,mV];omega
   have er:(os.take<|i+1).map V.ref=(os.take i).map V.ref++[.ref b]:=by rw[aM d,dL];rfl
   rw[er];exact#[(f.put (H':=aH C jl (.lst<|(os.take i).map V.ref++[.ref b])) 3 {s with rows:=(os.take i).map V.ref++[.ref b],safe:=0 } (λ_ _=>rfl) (λ_ _=>rfl) aA (λb a2 e d=>(aD d).trans e) rfl rfl f.nd rfl).1,λb o e d=>by rw[aD d];exact O _ _ e d]
  refine λQ C=>JU λW=>JE λζ f O=>?_;subst ζ;rw[aV,mW (bD _)]at f;exists c.D,_,_,.ref j,f.dr,l.cl,l.nJ,by kernel_rfl,_,_,f.j,by kernel_rfl,j,jl,g,0,_,rfl,f.j,f.jl;have h7:=(f.put (H':=aH C j (.ins c.J g<|jf jl (os.map V.ref).length)) 2 {s with rows:=os.map V.ref,safe:=((os.map V.ref).length:Int) } (λ_ _=>rfl) (λ_ _=>rfl) aA (λb a2 e d=>(aD d).trans e) rfl rfl f.nd rfl).1;rw[show((os.map V.ref).length:Int)=(os.length:Int) by rw[aV]]at h7 ⊢;have fj:H j=none:=y.free v;have fl:H jl=none:=y.free I;have kk:∀b o,H b=!o->b≠a.dr->(aH C j<|.ins c.J g<|jf jl os.length) b=!o:=λb o e d=>by
   rw[aD (aE e fj)];exact O _ _ (s5 _ _<|B _ _<|J _ _ (y _ _ e) d) (aE e fl)
  have t56:TK H5 (aH C j<|.ins c.J g<|jf jl os.length):=λb xs e=>by
   rw[aD (show b≠j from aL e U.j λz=>nomatch z)];exact O _ _ e (aL e U.jl λz=>nomatch z)
  refine a3 (xQ a j g jl) out os _ rfl h7 (Paired.map' (λ_ _ w=>w.tk t56) N.each) FI (λb d=>?_) λb o e d=>kk b o e λz=>d (by rw[z];simp[DA.fix]);simp only [DA.fix,xQ,mem_cons,GH,or_false]at d ⊢;rcases d with rfl|rfl|rfl|rfl|rfl|rfl|rfl|rfl|rfl|rfl|rfl<;>first|exact .inr fj|exact .inr fl|exact .inl Zs
def Ih(h:∀q∈bQ x,f q.1=g q.1):aQ f x=aQ g x:=by
 cases x with
 | add a n=>have:=h (a,(n:Int)) (by simp[bQ]);simp only [aQ];simp only at this;rw[this]
 | take a n=>have:=h (a,-(n:Int)) (by simp[bQ]);simp only [aQ];simp only at this;rw[this]
 | move a b n=>
  have c:=h (a,-(n:Int)) (by simp[bQ]);have d:=h (b,(n:Int)) (by simp[bQ]);simp only at c d;simp only [aQ];rw[c,d]
 | send e a n=>have:=h (a,-(n:Int)) (by simp[bQ]);simp only [aQ];simp only at this;rw[this]
 | fetch e a n=>have:=h (a,(n:Int)) (by simp[bQ]);simp only [aQ];simp only at this;rw[this]
 | pass e g1 a n=>rfl
def Af(h:∀q∈bQ x,q.1≠z):after f x y z=f z:=by
 have o:∀ {a:Str}{g:Str->Nat}{v:Nat},a≠z->eE g a v z=g z:=λc=>by unfold eE;rw[LK λe=>c e.symm]
 cases x with
 | add a n=>cases y<;>first|rfl|exact o (h (a,(n:Int)) (by simp[bQ]))
 | take a n=>cases y<;>first|rfl|exact o (h (a,-(n:Int)) (by simp[bQ]))
 | move a b n=>
  cases y with
  | is2 l m=>
   show eE (eE f a _) b _ z=f z;rw[o (h (b,(n:Int)) (by simp[bQ])),o (h (a,-(n:Int)) (by simp[bQ]))]
  | _=>rfl
 | send g a n=>cases y<;>first|rfl|exact o (h (a,-(n:Int)) (by simp[bQ]))
 | fetch g a n=>cases y<;>first|rfl|exact o (h (a,(n:Int)) (by simp[bQ]))
 | pass g d a n=>cases y<;>rfl
def Vl(h:q∈Bz x y):q∈bQ x:=by
 cases x<;>cases y<;>first|exact h|exact nomatch h
def Vm:("came":Str)≠"done":=by decide +kernel
def aEf:("came":Str)≠"kept":=by decide +kernel
def aEg:("came":Str)≠"has":=by decide +kernel
def Vn:("asked":Str)≠"done":=by decide +kernel
def aEh:("asked":Str)≠"kept":=by decide +kernel
def aEi:("asked":Str)≠"has":=by decide +kernel
def Vo(a:q∈C):(RX.turn q:Int)∈turnL C:=by
 unfold turnL cQ;cases q with
 | next n t=>exact cR _ (LA.mpr #[t,mem_filterMap.mpr #[_,a,rfl],rfl])
 | came n t p k x=>exact cR _ (LA.mpr #[t,mem_filterMap.mpr #[_,a,rfl],rfl])
 | done n t y=>exact cR _ (LA.mpr #[t,mem_filterMap.mpr #[_,a,rfl],rfl])
 | _=>exact eG
def aAg(f:RX.Whole C){m t:Nat}{p k:Str}(a:.kept m t p k x y∈C):∃b c,.next b c∈C/\m<b:=by
 induction f with
 | nil=>cases a
 | @snoc i r f g h=>
  rcases MN.mp a with a|a
  .refine JB (h a) (JR λb c=>JW λd e=>?_);exact#[b,c,IN _ d,e]
  cases LV.mp a;revert g;refine JE λ_ ζ _=>?_;obtain⟨b,c,d,e,_⟩:=ζ;exact#[b,c,IN _ d,e]
def Ag(a:RX.Whole C)(c:r∈C)(d:RX.Whole (C++D)):jZ (C++D) r=jZ C r:=by
 cases r with
 | done n t y=>
  refine JB (gO a c) (NF λe p k x=>JW λb _=>?_);rw[kZ a b,kZ d (IN _ b)]
 | _=>rfl
theorem qC{a c:Type}{f g:a->List c}:∀ {xs:List a},(∀x∈xs,f x=g x)->xs.flatMap f=xs.flatMap g
 | [],_=>rfl
 | x::xs,h=>by rw[FM,FM,h x eG,qC λy b=>h y (cR _ b)]
def rL{a:Type}{xs:List a}{x y:a}{i:Nat}(h:(xs++[x])[i]?=!y):(i<xs.length/\xs[i]?=!y)∨(i=xs.length/\y=x):=by
 rcases Nat.lt_or_ge i xs.length with z|z
 .rw[List.getElem?_append_left z]at h;exact .inl #[z,h]
 rw[List.getElem?_append_right z]at h;rcases Nat.eq_or_lt_of_le z with e|e
 .refine .inr #[e.symm,?_];rw[e,sub_self]at h;simpa using h.symm
 have:([x]:List a)[i-xs.length]?=none:=List.getElem?_eq_none (by simp;omega);rw[this]at h;cases h
def xR(a:RX.Whole C)(b:RX.Whole (C++[r]))(hd:dW r≠"done")(c:dW r≠"kept"):bH (C++[r])=bH C:=by
 unfold bH;rw[flatMap_append,flatMap_append,qC (f:=jZ (C++[r])) (g:=jZ C) λe d=>Ag a d b];simp[Ew c,wZ hd]
def Nv{m t b:Nat}{p k:Str}(c:RX.Whole C)(a:RX.Whole (C++[.done m t y]))(d:.came m b p k x∈C):bH (C++[.done m t y])=bH C++[(m,t,p,k,x,y)]:=by
 have e:=kZ a (t:=t) (y:=y)<|IN _ d;unfold bH;rw[flatMap_append,flatMap_append,qC (f:=jZ (C++[.done m t y])) (g:=jZ C) λi h=>Ag c h a];simp[e,hW]
def Vp(C:BR):(bH C).length<=C.length:=by
 have:∀a:BR,(a.flatMap hW).length+(a.flatMap<|jZ C).length<=a.length:=λa=>by
  induction a with
  | nil=>exact bD _
  | cons r a b=>
   have:(hW r).length+(jZ C r).length<=1:=by
    cases r with
    | kept n t p k x y=>exact bD _
    | done n t y=>
     show 0+(match fH C n with|some (p,k,x)=>[(n,t,p,k,x,y)]|none=>[]).length<=1;split<;>simp
    | _=>exact zero_le _
   rw[FM,FM];simp only [mU,mY];omega
 have:=this C;unfold bH;rw[mU];exact this
def Ah(h:QK C F f)(hd:dW r≠"done")(c:dW r≠"has"):QK (C++[r]) (λi=>if i<=C.length then F i else f) f:=by
 exists ?_,λi n t y a=>?_,λi d a g=>?_
 .have:kE (C++[r])=kE C:=by
   unfold kE;rw[foldl_append];cases r<;>first|rfl|exact IZ rfl c
  rw[this,<- h.z];simp
 .rcases rL a with⟨b,a⟩|⟨_,e⟩
  .refine JB (h.done i n t y a) (QL λj p k x q=>JE λl m o=>?_);exists j,p,k,x,q,IN _ l,?_
   .rw[LM Zo];exact m
   rw[LM Zo,LM Zo];exact o
  rw[<- e]at hd;exact IZ rfl hd
 .rcases rL a with⟨b,a⟩|⟨b,e⟩
  .rw[LM Zo,LM Zo];exact h.rest i d a g
  rw[LK Zo,LM Zo,b,h.last]
 rw[LK Zs]
def Vq{m t c:Nat}{p k:Str}(h:QK C F f)(d:.came m c p k x∈C)(g:gM f x q y):QK (C++[.done m t y]) (λi=>if i<=C.length then F i else after f x y) (after f x y):=by
 exists ?_,λi l n o a=>?_,λi r a j=>?_
 .have:kE (C++[.done m t y])=kE C:=by
   unfold kE;rw[foldl_append];rfl
  rw[this,<- h.z];simp
 .rcases rL a with⟨b,a⟩|⟨b,e⟩
  .refine JB (h.done i l n o a) (QL λc p k x q=>JE λd g s=>?_);exists c,p,k,x,q,IN _ d,?_
   .rw[LM Zo];exact g
   rw[LM Zo,LM Zo];exact s
  cases e;exists c,p,k,x,q,IN _ d,?_
  .rw[LM Zo,b,h.last];exact g
  rw[LK Zo,LM Zo,b,h.last]
 .rcases rL a with⟨b,a⟩|⟨b,e⟩
  .rw[LM Zo,LM Zo];exact h.rest i r a j
  rw[e]at j;exact IZ rfl j
 rw[LK Zs]
def pA{K W:DE}(h:∀e∈W,aJ e≠q):cK (K++W) q=cK K q:=by
 have:∀(W:DE)(o:Option E6),(∀e∈W,aJ e≠q)->W.foldl (λo e=>if aJ e=q then some e else o) o=o:=λW=>by
  induction W with
  | nil=>exact λ_ _=>rfl
  | cons e W a=>
   intro o h;rw[foldl_cons,LK (h e eG)];exact a o λb c=>h b (cR _ c)
 unfold cK;rw[foldl_append];exact this W _ h
def oH{K W:DE}(nd:(W.map aJ).Nodup)(d:e∈W):cK (K++W) (aJ e)=!e:=by
 obtain⟨b,a,rfl⟩:=List.append_of_mem d;rw[dL,map_cons]at nd;have f:=nodup_cons.mp (nodup_append.mp nd).2.1;rw[show K++(b++e::a)=(K++b++[e])++a by simp,pA λg h c=>f.1<|LA.mpr #[g,h,c],jI,LM rfl]
structure PR(C:BR)(f:Str->Nat)(nm:A2)(qs:DD)(n tu:Nat):Prop where
 w:RX.Whole C
 sn:∀r∈C,Tq r
 kd:∀n t p k x y,.kept n t p k x y∈C->x.Ok
 nm:Ts C nm
 rep:∃F,QK C F f
 nx:ML (cJ C) (n:Int)
 tt:∀t∈turnL C,t<=(tu:Int)
 ks:∀e∈bH C,aJ e∈qs
section
variable {C:BR}{f:Str->Nat}{nm:A2}{qs:DD}{n tu:Nat}
def PR.nil(b:nm.length<=43):PR [] (λ_=>0) nm qs 1 tu where
 w:=.nil
 sn:=λ_ h=>nomatch h
 kd:=λ_ _ _ _ _ _ h=>nomatch h
 nm:=#[b,(λ_ _ h=>nomatch h),λ_ _ _ _ _ _ _ h=>nomatch h]
 rep:=#[λ_ _=>0,funext λx=>rfl,(λ_ _ _ _ h=>nomatch h),(λ_ _ h=>nomatch h),rfl]
 nx:=#[by simp[cJ],λa h=>by simp[cJ,bX,bW]at h;omega]
 tt:=λt h=>by simp[turnL,cQ]at h;omega
 ks:=λ_ h=>nomatch h
def PR.later(h:PR C f nm qs n tu)(le:tu<=a):PR C f nm qs n a:={h with tt:=λt b=>by have:=h.tt t b;omega }
def PR.turn(h:PR C f nm qs n tu)(a:q∈C):RX.turn q<=tu:=by
 have:=h.tt _<|Vo a;omega
def PR.num(h:PR C f nm qs n tu){m t:Nat}{p k:Str}(a:.came m t p k x∈C):m<n:=by
 have:=h.nx.2 ((m:Int)+1)<|GJ _<|LA.mpr #[m,mem_filterMap.mpr #[_,a,rfl],rfl];omega
def PR.knum(h:PR C f nm qs n tu){m t:Nat}{p k:Str}(b:.kept m t p k x y∈C):m<n:=by
 obtain⟨a,d,c,e⟩:=aAg h.w b;have:=h.nx.2 (a:Int)<|IN _<|cR _<|LA.mpr #[a,mem_filterMap.mpr #[_,c,rfl],rfl];omega
def PR.f12(h:PR C f nm qs n tu)(z:Str):f z<=1000000000000:=by
 obtain⟨F,a⟩:=h.rep;have:=a.leS h.sn C.length (bD _) z
 rwa [a.last]at this
def PR.came(h:PR C f nm qs n tu){p k:Str}(A:x.Ok)(B:∀q∈bQ x,q.1∈nm):PR (C++[.came n tu p k x]) f nm qs (n+1) tu/\bH (C++[.came n tu p k x])=bH C:=by
 have o:RX.Whole (C++[.came n tu p k x]):=.snoc h.w #[λs d g i D hm=>h.num hm,λd g i D u hm=>Nat.lt_irrefl _<|h.knum hm,λq E=>h.turn E];have v:=xR h.w o Vm aEf;obtain⟨F,G⟩:=h.rep;refine#[#[o,λr j=>?_,λs d g i H u hm=>?_,#[h.nm.1,λz m hm=>?_,λs d g i H u c hm y=>?_],#[_,Ah G Vm aEg],?_,?_,λe I=>h.ks e<|v▸I],v]
 .rcases aY j with j|rfl
  .exact h.sn r j
  exact A
 .rcases aY hm with hm|hm
  .exact h.kd _ _ _ _ _ _ hm
  cases hm
 .rcases aY hm with hm|hm
  .exact h.nm.2.1 _ _ hm
  cases hm
 .rcases aY hm with hm|hm
  .exact h.nm.2.2 _ _ _ _ _ _ _ hm y
  cases hm;exact B _<|Vl y
 .have l:cJ (C++[.came n tu p k x])=cJ C++[(n:Int)+1]:=by unfold cJ bX bW;simp[GG]
  rw[l];refine#[Zs,λa ha=>?_];rcases aY ha with ha|ha
  .have:=h.nx.2 a ha;omega
  rw[ha];omega
 have l:turnL (C++[.came n tu p k x])=turnL C++[(tu:Int)]:=by unfold turnL cQ;simp[GG]
 rw[l];intro t b;rcases aY b with b|b
 .exact h.tt t b
 rw[b];exact Int.le_refl _
def PR.asked(h:PR C f nm qs n tu){m t:Nat}{p k:Str}(a:.came m t p k x∈C)(j:x.far=true)(l:.asked m∉C)(hd:∀t y,.done m t y∉C):PR (C++[.asked m]) f nm qs n tu/\bH (C++[.asked m])=bH C:=by
 have g:RX.Whole (C++[.asked m]):=.snoc h.w #[#[t,p,k,x,a,j],l,hd];have i:=xR h.w g Vn aEh;obtain⟨F,o⟩:=h.rep;refine#[#[g,λr b=>?_,λq s u v A B hm=>?_,#[h.nm.1,λz m hm=>?_,λq s u v A B c hm a=>?_],#[_,Ah o Vn aEi],?_,?_,λe D=>h.ks e<|i▸D],i]
 .rcases aY b with b|rfl
  .exact h.sn r b
  trivial
 .rcases aY hm with hm|hm
  .exact h.kd _ _ _ _ _ _ hm
  cases hm
 .rcases aY hm with hm|hm
  .exact h.nm.2.1 _ _ hm
  cases hm
 .rcases aY hm with hm|hm
  .exact h.nm.2.2 _ _ _ _ _ _ _ hm a
  cases hm
 .have d:cJ (C++[.asked m])=cJ C:=by unfold cJ bX bW;simp[GG]
  rw[d];exact h.nx
 have d:turnL (C++[.asked m])=turnL C:=by unfold turnL cQ;simp[GG]
 rw[d];exact h.tt
def PR.done(h:PR C f nm qs n tu){m t:Nat}{p k:Str}(a:.came m t p k x∈C)(l:gM f x q y)(g:q=true->x.far=true)(v:x.far=true->(.asked m∈C↔q=true))(hd:∀t y,.done m t y∉C)(hs:(p,k)∈qs):PR (C++[.done m tu y]) (after f x y) nm qs n tu/\bH (C++[.done m tu y])=bH C++[(m,tu,p,k,x,y)]:=by
 have A:x.Ok:=h.sn _ a;obtain⟨B,D⟩:=Ek h.f12 A l g;have o:RX.Whole (C++[.done m tu y]):=.snoc h.w #[λq g=>h.turn g,hd,t,p,k,x,a,B,λs=>(v s).trans<|D s];have u:=Nv h.w o a;obtain⟨F,E⟩:=h.rep;refine#[#[o,λr i=>?_,λG H I J L M hm=>?_,#[h.nm.1,λz m hm=>?_,λG H I J L M c hm a=>?_],#[_,Vq E a l],?_,?_,λe d=>?_],u]
 .rcases aY i with i|rfl
  .exact h.sn r i
  trivial
 .rcases aY hm with hm|hm
  .exact h.kd _ _ _ _ _ _ hm
  cases hm
 .rcases aY hm with hm|hm
  .exact h.nm.2.1 _ _ hm
  cases hm
 .rcases aY hm with hm|hm
  .exact h.nm.2.2 _ _ _ _ _ _ _ hm a
  cases hm
 .have j:cJ (C++[.done m tu y])=cJ C:=by unfold cJ bX bW;simp[GG]
  rw[j];exact h.nx
 .have j:turnL (C++[.done m tu y])=turnL C++[(tu:Int)]:=by unfold turnL cQ;simp[GG]
  rw[j];intro t b;rcases aY b with b|b
  .exact h.tt t b
  rw[b];exact Int.le_refl _
 rw[u]at d;rcases aY d with d|rfl
 .exact h.ks e d
 exact hs
def PR.foldC(h:PR C f nm qs n tu)(sub:a.Sublist (xH C)):LS C f tu a:=#[h.w,h.sn,h.kd,h.f12,sub,λt b=>h.tt t b.1]
def NS.nd(x:NS C f d tu g m hs es):(es.map aJ).Nodup:=
 pairwise_map.mpr (x.asc.imp_of_mem λ{a b} h i j e=>by
  have k:=((x.iff a).mp h).1.1;have c:=((x.iff b).mp i).1.1;rw[<- e,k]at c;cases c;exact Nat.lt_irrefl _ j)
def PR.fold(h:PR C f nm qs n tu)(sub:b.Sublist (xH C))(x:NS C f r tu b m hs es)(s:∀z,0<f z->z∈nm):m=n/\PR (!".@h^Kibg") f nm qs n tu:=by
 have c:=h.foldC sub;have a:m=n:=by have:=ML.uniq x.mx h.nx;omega
 subst a;have u:=Ez (m:=m) (hs:=hs) (es:=es) c;refine#[rfl,Ng c x,Zt c,λd g i j k l a=>aCA c x d g i j k l a,#[h.nm.1,λv y a=>?_,λd g i j k l J a A=>?_],#[_,Zr c x],Ui c x,λt B=>(Uj (m:=m) (hs:=hs) (es:=es) c).2 t B,λe o=>?_]
 .rcases(mJ c).mp a with e|⟨D,p,e⟩|⟨E,_,e⟩|⟨_,_,⟨_,_,_,_,e⟩|⟨e,_⟩⟩
  .cases e
  .cases e;exact s _<|(x.pos.iff v).mp p
  .cases e
  .cases e
  cases e
 .rcases(mJ c).mp a with e|⟨D,p,e⟩|⟨E,_,e⟩|⟨y,F,⟨L,M,N,G,e⟩|⟨e,_⟩⟩
  .cases e
  .cases e
  .cases e
  .cases e;refine JB (c.came F) (LB λO Q R=>KJ λq _ _=>JU λS H=>?_);rw[G]at q;cases q;exact h.nm.2.2 _ _ _ _ _ _ _ H A
  cases e
 rw[u]at o;have I:=((x.iff e).mp o).1.1;exact h.ks e (dE I).1
end
def ZK:Dd->A2
 | .add a _=>[a]
 | .take a _=>[a]
 | .move a b _=>[a,b]
 | .send _ a _=>[a]
 | .fetch _ a _=>[a]
 | .pass _ _ _ _=>[]
def Cq(x:Dd)(z:Str):z∈ZK x↔z∈iC x:=by
 cases x with
 | move a b n=>exact(cN [a,b]).mem_iff.symm
 | _=>exact Iff.rfl
def pB(x y:Dd):mP x y=true↔∃z,z∈ZK x/\z∈ZK y:=by
 unfold mP;rw[any_eq_true];constructor
 .rintro⟨z,a,b⟩;exact#[z,(Cq x z).mpr a,(Cq y z).mpr<|WF b]
 rintro⟨z,a,b⟩;exact#[z,(Cq x z).mp a,UF<|(Cq y z).mp b]
def tL{rs:DM}(c:rs.Pairwise λr r'=>r.n<r'.n)(h:r∈rs)(h':r'∈rs)(e:r.n=r'.n):r=r':=by
 obtain⟨i,a,rfl⟩:=List.mem_iff_getElem.mp h;obtain⟨j,b,rfl⟩:=List.mem_iff_getElem.mp h';have p:=pairwise_iff_getElem.mp c;rcases lt_trichotomy i j with z|z|z
 .have:=p i j a b z;omega
 .subst z;rfl
 have:=p j i b a z;omega
def vE(h:q∈bQ x):q.1∈ZK x:=by
 cases x<;>simp only [bQ,mem_cons,GH,or_false]at h
 case move a b n=>rcases h with rfl|rfl<;>simp[ZK]
 all_goals (subst h;simp[ZK])
def xS(h:∀q∈bQ x,f q.1=g q.1)(b:gM f x q y):gM g x q y:=by
 have c:=Ih h;have d:dU f x=dU g x:=by
  cases x with
  | send e a n=>have:=h (a,-(n:Int)) (by simp[bQ]);simp only [dU];simp only at this;rw[this]
  | fetch e a n=>have:=h (a,(n:Int)) (by simp[bQ]);simp only [dU];simp only at this;rw[this]
  | _=>rfl
 unfold gM at b ⊢;rw[<- c,<- d];exact b
def i9(r:Rn)(w:Nat)(y:An):E6:=(r.n,w,r.q.1,r.q.2,r.x,y)
inductive MG(H:Hp)(f:Str->Nat):A1->DM->DE->Prop
 | nil:MG H f [] [] []
 | skip {t:TD}{wd:Str}{xs vs:A1}{ws:DM}{es:DE}:H t=!.tup (.str wd::xs)->wd≠"done"->MG H f vs ws es->MG H f (.ref t::vs) ws es
 | done {t z:TD}{r:Rn}{w:Nat}{y:An}{q:Bool}{vs:A1}{ws:DM}{es:DE}:H t=!.tup [.str "done",.int r.n,.int (w:Int),.ref z]->H z=!.tup y.vs->gM f r.x q y->(q=true->r.x.far=true)->MG H f vs ws es->MG H f (.ref t::vs) (r::ws) (i9 r w y::es)
def MG.tk{vs:A1}(h:MG H f vs b es)(k:TK H H'):MG H' f vs b es:=by
 induction h with
 | nil=>exact .nil
 | skip g c _ a=>exact .skip (k _ _ g) c a
 | done g d e i _ a=>exact .done (k _ _ g) (k _ _ d) e i a
def MG.app{vs c:A1}(h:MG H f vs d es)(h':MG H f c b e):MG H f (vs++c) (d++b) (es++e):=by
 induction h with
 | nil=>exact h'
 | skip g i _ a=>exact .skip g i a
 | done g j k l _ a=>exact .done g j k l a
def MG.pair{vs:A1}(h:MG H f vs b es):Paired (λr e=>∃w y,e=i9 r w y) b es:=by
 induction h with
 | nil=>exact .nil
 | skip g c _ a=>exact a
 | done g d i j _ a=>exact .cons #[_,_,rfl] a
def tM(a:Str->Nat)(es:DE):Str->Nat:=es.foldl (λg e=>after g e.2.2.2.2.1 e.2.2.2.2.2) a
def Nw(a:Str->Nat)(es:DE)(e:E6):tM a (es++[e])=after (tM a es) e.2.2.2.2.1 e.2.2.2.2.2:=by unfold tM;rw[foldl_append];rfl
theorem Fe{x:Dd}:∀ {es:DE}{a:Str->Nat},(∀e∈es,mP e.2.2.2.2.1 x=false)->∀q∈bQ x,tM a es q.1=a q.1
 | [],_,_,_,_=>rfl
 | e::es,a,h,q,b=>by
  show tM (after a e.2.2.2.2.1 e.2.2.2.2.2) es q.1=a q.1;rw[Fe (λc d=>h c<|cR _ d) q b];refine Af λi f g=>?_;have:=h e eG;rw[(pB e.2.2.2.2.1 x).mpr #[q.1,by rw[<- g];exact vE f,vE b]]at this;cases this
structure aCG(H:Hp)(fc:Str->Nat)(zs:A2)(s s':DS)(ws:DM)(es:DE):Prop where
 runs:s'.runs=s.runs.filter λr=>decide (r.n∉ws.map (·.n))
 life:s'.life=s.life
 turn:s'.turn=s.turn
 next:s'.next=s.next
 hs:s'.hs=s.hs
 rows:s'.rows=s.rows
 safe:s'.safe=s.safe
 m:∀q,(∀r∈ws,r.q≠q)->s'.m q=s.m q
 pl:∀z∈s'.prs.map (·.1),z∈zs
 bk:∀z,bZ s'.prs z=(tM fc es z:Int)
 kp:∀e∈es,∃r∈ws,∃z,e.1=r.n/\aJ e=r.q/\e.2.2.2.2.1=r.x/\s'.m r.q=!.kept (e.1:Int) (e.2.1:Int) r.d z/\H z=!.tup e.2.2.2.2.2.vs
def aAi(hz:zs.length<=20)(h:MG H f R c es):∀(s:DS)(i:Str->Nat),(c.map (·.n)).Nodup->(∀r∈c,r∈s.runs)->(s.runs.Pairwise λr r'=>r.n<r'.n)->(s.prs.map (·.1)).Nodup->(∀z∈s.prs.map (·.1),z∈zs)->s.L+c.length<=500->(∀r∈c,s.m r.q=!.busy r.n r.d/\r.x.Ok/\∀q∈bQ r.x,q.1∈zs) →
  (∀r∈c,∀r'∈c,r.n≠r'.n->mP r.x r'.x=false)->(∀z,bZ s.prs z=(i z:Int))->(∀z,i z<=1000000000000)->(∀r∈c,∀q∈bQ r.x,i q.1=f q.1)->∃l n,iE H s R l n/\n.length=c.length/\aCG H i zs s l c es:=by
 induction h with
 | nil=>
  intro s i _ _ _ _ x _ _ _ A B _;exact#[s,[],.nil,rfl,#[(filter_eq_self.mpr λa _=>UF (λm=>nomatch m)).symm,rfl,rfl,rfl,rfl,rfl,rfl,λ_ _=>rfl,x,A,λr hr=>nomatch hr]]
 | skip g d8 _ F=>
  intro s i v G h3 h4 h5 h6 h7 h8 h9 WB h11;refine JB (F s i v G h3 h4 h5 h6 h7 h8 h9 WB h11) (JR λl n=>JE λI J d=>?_);exact#[l,n,.skip g d8 I,J,d]
 | @done t z r w y U vs c es g W hy KP _ F=>
  intro s i X Y Z WI x hL E YL A B S;rw[map_cons]at X;obtain⟨hn1,JF⟩:=nodup_cons.mp X;have y6:=Y r Zs;refine JB (E r Zs) (JE λhm M hxz=>?_);refine JB (List.append_of_mem y6) (JR λu p C=>?_);have D:gM i r.x U y:=xS (λq o=>(S r Zs q o).symm) hy;have KN:=(Ek B M D KP).1;have T:=uA M D;have bx':s.prs.length<=90:=by
   have:=Kc WI x;rw[aV]at this;omega
  have N:∀r'∈c,r'.n≠r.n:=λr' b e=>hn1 (by rw[<- e];exact mem_map_of_mem b)
  have o:∀r'∈c,r'.q≠r.q:=λr' b e=>by
   have j:=(E r'<|cR _ b).1;rw[e,hm]at j;have O:r.n=r'.n:=by injection j with j;injection j with j;omega
   exact N r' b O.symm
  have UK:=Z;rw[C]at UK;have sub:(u++p).Sublist s.runs:=by rw[C];exact List.Sublist.append_left (sublist_cons_self _ _) _
  have UL:u++p=s.runs.filter λr'=>decide (r'.n≠r.n):=by
   have p1:=pairwise_append.mp UK;have p2:=pairwise_cons.mp p1.2.1;rw[C,filter_append,filter_cons,LK Zs]
   congr 1
   .exact(filter_eq_self.mpr λa Q=>UF (by have:=p1.2.2 a Q r Zs;omega)).symm
   exact(filter_eq_self.mpr λa Q=>UF (by have:=p2.1 a Q;omega)).symm
  obtain⟨l,n,I,J,d⟩:=F {s with runs:=u++p,prs:=mE s.prs<|Bz r.x y,m:=s.m.set r.q<|!.kept r.n w r.d z,L:=s.L+1 } (after i r.x y) JF (λr' b=>by
    show r'∈u++p;rw[UL];exact mem_filter.mpr #[Y r'<|cR _ b,UF<|N r' b]) (Z.sublist sub) (rC _ _ WI) (Cd _ _ x λq o=>hxz q<|Vl o) (by show s.L+1+c.length<=500;rw[mY]at hL;omega) (λr' b=>by
    refine JB (E r'<|cR _ b) (JE λj O z3=>?_);exact#[by show(s.m.set r.q _) r'.q=_;rw[KM.set_ne (o r' b)];exact j,O,z3]) (λr1 v r2 G=>YL r1 (cR _ v) r2<|cR _ G) (λa0=>by
    show bZ (mE s.prs<|Bz r.x y) a0=_;rw[wU _ _ i T.2 A,T.1]) (El B D) (λr' b q k=>by
    rw[Af λU h0 e0=>?_]
    .exact S r' (cR _ b) q k
    .have ht:=YL r Zs r' (cR _ b) (N r' b).symm;rw[(pB r.x r'.x).mpr #[q.1,by rw[<- e0];exact vE h0,vE k]]at ht;cases ht)
  refine#[l,(r,z)::n,.done g C W KN (λq k=>?_) bx' (by rw[mY]at hL;omega) hm I,by rw[mY,mY,J],?_]
  .have:=Eo B M D q k;show 0<=bZ s.prs q.1+q.2/\bZ s.prs q.1+q.2<=1000000000000;rw[A];exact this
  refine#[?_,d.life,d.turn,d.next,d.hs,d.rows,d.safe,λq k=>?_,d.pl,d.bk,λe he=>?_]
  .rw[d.runs];show(u++p).filter _=_;rw[UL,List.filter_filter];congr 1
   funext a
   rw[<- Bool.decide_and,map_cons];congr 1;rw[mem_cons,not_or];exact propext #[λh=>#[h.2,h.1],λh=>#[h.2,h.1]]
  .rw[d.m q λr' b=>k r' (cR _ b)];show(s.m.set r.q _) q=_;rw[KM.set_ne λe=>k r Zs e.symm]
  rcases mem_cons.mp he with rfl|he
  .refine#[r,eG,z,rfl,rfl,rfl,?_,W];rw[d.m r.q λr' b=>o r' b];exact KM.set_same
  obtain⟨r',b,z',v⟩:=d.kp e he;exact#[r',cR _ b,z',v]
structure KI(c:CK)(H:Hp)(a:DA)(s:DS)(nm:A2)(qs:DD)(lf tu:Nat)(C:BR)(as:BZ)(K0 we T:DE)(fb:Str->Nat)(wr:DM):Prop where
 dat:K1 c H a s
 life:s.life=(lf:Int)
 turn:s.turn=(tu:Int)
 hL:s.L<=qs.length
 pa:∀z,bZ s.prs z=(fb z:Int)
 pn:∀z∈s.prs.map (·.1),z∈nm
 b12:∀z,fb z<=1000000000000
 rw:s.rows=as.map V.ref
 at6:Paired (λr a=>RX.At H a r) C as
 pr:PR C (tM fb we) nm qs s.next tu
 kc:bH C=K0++we
 nw:∃old news,s.rows=old++news/\s.safe=(old.length:Int)/\MG H fb news wr we
 rc:∀r∈s.runs,(∃t,.came r.n t r.q.1 r.q.2 r.x∈C)/\(∀q∈bQ r.x,q.1∈nm)/\r.q∈qs/\(r.st="new"∨r.st="held"∨r.st="asked"∨r.st="written")
 rd:∀r∈s.runs,(.asked r.n∈C↔r.st="asked")
 ro:∀n,.asked n∈C->(∃r∈s.runs,r.n=n)∨n∈dA C
 wm:∀r,r∈wr↔r∈s.runs/\r.st="written"
 wd:(wr.map (·.n)).Nodup
 rn:∀r∈s.runs,(r.n∈dA C↔r.st="written")
 ex:∀r∈s.runs,∀r'∈s.runs,r.n≠r'.n->r.st≠"new"->r'.st≠"new"->mP r.x r'.x=false
 bz:∀r∈s.runs,s.m r.q=!.busy r.n r.d
 mo:∀q n d,s.m q=!.busy n d->∃r∈s.runs,r.q=q/\r.d=d
 mkp:∀q n t d y,s.m q=!.kept n t d y->∃e∈T,aJ e=q/\n=(e.1:Int)/\t=(e.2.1:Int)/\H d=!.tup e.2.2.2.2.1.vs/\H y=!.tup e.2.2.2.2.2.vs/\(tu<e.2.1+lf->cK K0 q=!e)
 ml:∀q e,cK K0 q=!e->tu<e.2.1+lf->∃d y,s.m q=!.kept (e.1:Int) (e.2.1:Int) d y
 lt:∀q e,cK K0 q=!e->e∈T
 tn:(T.map (·.1)).Nodup
 tx:∀e∈T,e.1<s.next/\aJ e∈qs/\∀r∈s.runs,r.n≠e.1
 ln:C.length+(s.runs.filter λ(r:Rn)=>decide (r.st="new"∨r.st="held")).length<=2*s.next+80
 l1:nm.length<=20
 l2:qs.length<=43
section
variable {c:CK}{a:DA}{s:DS}{nm:A2}{qs:DD}{lf tu tu':Nat}{C:BR}{as:BZ}{K0 we T:DE}{fb:Str->Nat}{wr:DM}
def KI.mq(h:KI c H a s nm qs lf tu C as K0 we T fb wr)(q:Str×Str)(e:KE)(b:s.m q=!e):q∈qs:=by
 cases e with
 | busy n d=>obtain⟨r,f,e,_⟩:=h.mo q n d b;rw[<- e];exact(h.rc r f).2.2.1
 | kept n t d y=>refine JB (h.mkp q n t d y b) (JU λe=>JE λg i _=>?_);rw[<- i];exact(h.tx e g).2.1
def KI.rlt(h:KI c H a s nm qs lf tu C as K0 we T fb wr)(r:Rn)(b:r∈s.runs):r.n<s.next:=by
 obtain⟨⟨t,d⟩,_⟩:=h.rc r b;exact h.pr.num d
def KI.xok(h:KI c H a s nm qs lf tu C as K0 we T fb wr)(r:Rn)(b:r∈s.runs):r.x.Ok:=by
 obtain⟨⟨t,d⟩,_⟩:=h.rc r b;exact h.pr.sn _ d
def KI.rle(h:KI c H a s nm qs lf tu C as K0 we T fb wr):s.runs.length<=s.next:=by
 have nd:(s.runs.map (·.n)).Nodup:=pairwise_map.mpr (h.dat.up.imp λz=>by omega);have:=Cc (ys:=List.range s.next) nd λn b=>by
  obtain⟨r,d,rfl⟩:=LA.mp b;exact mem_range.mpr (h.rlt r d)
 simpa using this
def KI.len(h:KI c H a s nm qs lf tu C as K0 we T fb wr):C.length<=2*s.next+80:=by have:=h.ln;omega
def KI.rl(h:KI c H a s nm qs lf tu C as K0 we T fb wr):s.rows.length=C.length:=by rw[h.rw,aV];exact h.at6.length.symm
def KI.keep(h:KI c H a s nm qs lf tu C as K0 we T fb wr)(k:∀b o,H b=!o->b∈a.fix++s.runs.map (·.p)->H' b=!o)(t:TK H H'):KI c H' a s nm qs lf tu C as K0 we T fb wr:=
 {h with dat:=h.dat.keep k t,at6:=Paired.map' (λ_ _ w=>w.tk t) h.at6,nw:=let #[o,n,f,g,i]:=h.nw;#[o,n,f,g,i.tk t],mkp:=λq n j d y l=>let #[e,m,f,g,i,p,r,u]:=h.mkp q n j d y l;#[e,m,f,g,i,t _ _ p,t _ _ r,u] }
def KI.same(h:KI c H a s nm qs lf tu C as K0 we T fb wr)(k:I7 H H'):KI c H' a s nm qs lf tu C as K0 we T fb wr:=h.keep (λb o e _=>k b o e)<|TK.of k
def KI.told(h:KI c H a s nm qs lf tu C as K0 we T fb wr)(j:tu<=tu')(d:K1 c H' a {s with turn:=(tu':Int) })(t:TK H H'):KI c H' a {s with turn:=(tu':Int) } nm qs lf tu' C as K0 we T fb wr:=
 {h with dat:=d,turn:=rfl,pr:=h.pr.later j,at6:=Paired.map' (λ_ _ w=>w.tk t) h.at6,nw:=let #[o,n,b,f,g]:=h.nw;#[o,n,b,f,g.tk t],mkp:=λq n k d y l=>let #[e,i,b,f,g,m,p,r]:=h.mkp q n k d y l;#[e,i,b,f,g,t _ _ m,t _ _ p,λu=>r Zo],ml:=λq e i u=>h.ml q e i Zo }
def Ii(b:RX.Whole C){n:Nat}(h:.asked n∈C):∃t p k x,.came n t p k x∈C:=let #[t,p,k,x,h,_]:=Ac b h;#[t,p,k,x,h]
def xT{n:Nat}:n∈dA C↔∃t y,.done n t y∈C:=#[iZ,λ#[t,y,h]=>mem_filterMap.mpr #[_,h,rfl]]
def Kl:("new":Str)≠"held":=by decide +kernel
def xU:("new":Str)≠"asked":=by decide +kernel
def xV:("new":Str)≠"written":=by decide +kernel
def Ai:("held":Str)≠"asked":=by decide +kernel
def Aj:("held":Str)≠"written":=by decide +kernel
def xW:("asked":Str)≠"written":=by decide +kernel
def KI.begun(h:KI c H a s nm qs lf tu C as K0 we T fb wr)(X:tu<=tu'){dd p o u:TD}(N:q∈qs)(hx:x.Ok)(F:∀q∈bQ x,q.1∈nm)(G:rF s.life (tu':Int) (s.m q)=true)(t:TK H H')(a0:K1 c H' a (xO s (tu':Int) q dd x p o u))(gr:H' u=!.tup [.str "came",.int s.next,.int (tu':Int),.str q.1,.str q.2,.ref dd])(gd:H' dd=!.tup x.vs) :
  KI c H' a {xO s (tu':Int) q dd x p o u with L:=qs.length } nm qs lf tu' (C++[.came s.next tu' q.1 q.2 x]) (as++[u]) K0 we T fb wr:=by
 obtain⟨p1,p2⟩:=(h.pr.later X).came (p:=q.1) (k:=q.2) hx F;have d8:∀r∈s.runs,r.q≠q:=λr b e=>by
  have:=h.bz r b;rw[e]at this;rw[this]at G;cases G
 have mS:∀d,d≠q->(s.m.set q<|!.busy s.next dd) d=s.m d:=λd e=>KM.set_ne e
 have I:(s.m.set q<|!.busy s.next dd) q=!.busy s.next dd:=KM.set_same;have O:∀n,n∈dA (C++[.came s.next tu' q.1 q.2 x])↔n∈dA C:=λn=>by rw[show dA (C++[.came s.next tu' q.1 q.2 x])=dA C by unfold dA;simp[GG]]
 have Q:∀n,.asked n∈C++[.came s.next tu' q.1 q.2 x]↔.asked n∈C:=λn=>by simp
 have l:∀r,r∈s.runs++[kH p o s.next q dd x "new"]->r∈s.runs∨r=kH p o s.next q dd x "new":=λr b=>aY b
 have Y:s.next∉dA C:=λhm=>by
  obtain⟨t,y,hm⟩:=iZ hm;refine JB (gO h.pr.w hm) (NF λJ p0 k0 x0=>JW λD _=>?_);exact Nat.lt_irrefl _ (h.pr.num D)
 have Z:.asked s.next∉C:=λhm=>by
  refine JB (Ii h.pr.w hm) (NF λJ p0 k0 x0 D=>?_);exact Nat.lt_irrefl _ (h.pr.num D)
 refine {dat:=a0.low (qs:=qs) λd e v=>?_,life:=h.life,turn:=rfl,hL:=bD _,pa:=h.pa,pn:=h.pn,b12:=h.b12,rw:=?_,at6:=Paired.snoc (Paired.map' (λ_ _ w=>w.tk t) h.at6) #[dd,gr,gd],pr:=p1,kc:=p2.trans h.kc,nw:=?_,rc:=λr b=>?_,rd:=λr b=>?_,ro:=λn hm=>?_,wm:=λr=>?_,wd:=h.wd,rn:=λr b=>?_,ex:=λr b R M F m j=>?_,bz:=λr b=>?_,mo:=λd n A hm=>?_,mkp:=λd n S A y hm=>?_,ml:=λd e v hl=>?_,lt:=h.lt,tn:=h.tn,tx:=λe v=>?_,ln:=?_,l1:=h.l1,l2:=h.l2 }
 .have U:(s.m.set q<|!.busy s.next dd) d=!e:=v;by_cases z:d=q
  .rw[z];exact N
  rw[mS d z]at U;exact h.mq d e U
 .show s.rows++[V.ref u]=_;rw[h.rw,dL];rfl
 .refine JB h.nw (JR λold W=>JE λg B E=>?_);exists old,W++[.ref u],?_,B
  .show s.rows++[V.ref u]=_;rw[g,append_assoc]
  have:=(E.tk t).app (MG.skip (f:=fb) gr Vm .nil)
  rwa [append_nil,append_nil]at this
 .rcases l r b with b|rfl
  .obtain⟨⟨J,D⟩,j⟩:=h.rc r b;exact#[#[J,IN _ D],j]
  exact#[#[tu',by simp[kH]],F,N,.inl rfl]
 .rw[Q];rcases l r b with b|rfl
  .exact h.rd r b
  exact#[λhm=>IZ hm Z,λe=>IZ e xU]
 .rcases h.ro n ((Q n).mp hm) with⟨r,b,e⟩|hm
  .exact .inl #[r,IN _ b,e]
  exact .inr<|(O n).mpr hm
 .rw[h.wm r];exists λ#[m,j]=>#[IN _ m,j];rintro ⟨m,j⟩;rcases l r m with m|rfl
  .exact#[m,j]
  exact IZ j xV
 .rw[O];rcases l r b with b|rfl
  .exact h.rn r b
  exact#[λhm=>IZ hm Y,λe=>IZ e xV]
 .rcases l r b with b|rfl
  .rcases l R M with M|rfl
   .exact h.ex r b R M F m j
   exact IZ rfl j
  exact IZ rfl m
 .rcases l r b with b|rfl
  .exact(mS _<|d8 r b).trans<|h.bz r b
  exact I
 .have i:(s.m.set q<|!.busy s.next dd) d=!.busy n A:=hm;by_cases z:d=q
  .rw[z,I]at i;injection i with i
   injection i with g B
   exact#[kH p o s.next q dd x "new",by show _∈s.runs++_;simp,z.symm,B]
  rw[mS d z]at i;obtain⟨r,b,e⟩:=h.mo d n A i;exact#[r,IN _ b,e]
 .have i:(s.m.set q<|!.busy s.next dd) d=!.kept n S A y:=hm;by_cases z:d=q
  .rw[z,I]at i;cases i
  rw[mS d z]at i;refine JB (h.mkp d n S A y i) (JU λe=>QZ λv g B E e4 e5 e6=>?_);exact#[e,v,g,B,E,t _ _ e4,t _ _ e5,λhl=>e6 Zo]
 .refine JB (h.ml d e v Zo) (JR λA y g=>?_);exists A,y;show(s.m.set q<|!.busy s.next dd) d=_;by_cases z:d=q
  .rw[z]at g;rw[g,h.life]at G;have:¬ ((e.2.1:Int)+(lf:Int)>(tu':Int)):=by simpa [rF]using G
   omega
  rw[mS d z];exact g
 .refine JB (h.tx e v) (JE λg B E=>?_);refine#[lt_succ_of_lt g,B,λr b=>?_];rcases l r b with b|rfl
  .exact E r b
  show s.next≠e.1;omega
 have:=h.ln;show(C++[_]).length+((s.runs++[kH p o s.next q dd x "new"]).filter _).length<=2*(s.next+1)+80;rw[filter_append];have g:([kH p o s.next q dd x "new"].filter λ(r:Rn)=>decide (r.st="new"∨r.st="held")).length<=1:=length_filter_le _ _;simp only [mU,mY,length_nil]at *;omega
def aAj{r e:Rn}(f:rs.Pairwise λr r'=>r.n<r'.n)(hs:rs=d++r::b){r':Rn}(h:r'∈d++e::b):r'=e∨(r'∈rs/\r'.n≠r.n):=by
 rw[hs]at f;have g:=pairwise_append.mp f;have i:=pairwise_cons.mp g.2.1;rcases MN.mp h with z|z
 .exact .inr #[by rw[hs];exact IN _ z,by have:=g.2.2 r' z r Zs;omega]
 rcases mem_cons.mp z with z|z
 .exact .inl z
 exact .inr #[by rw[hs];simp[z],by have:=i.1 r' z;omega]
def rM{r e:Rn}(hs:rs=d++r::b){r':Rn}(h:r'∈rs)(f:r'.n≠r.n):r'∈d++e::b:=by
 rw[hs]at h;rcases MN.mp h with z|z
 .exact IN _ z
 rcases mem_cons.mp z with z|z
 .exact IZ (by rw[z]) f
 simp[z]
def Ny(h:mP x y=false):mP y x=false:=by
 cases e:mP y x with
 | false=>rfl
 | true=>
  obtain⟨z,b,d⟩:=(pB _ _).mp e;rw[(pB x y).mpr #[z,d,b]]at h;cases h
def KI.set(h:KI c H a s nm qs lf tu C as K0 we T fb wr)(hs:s.runs=m++r::l)(dat:K1 c H' a {fR s m l r d with rows:=rows' })(t:TK H H')(q:rows'=as'.map V.ref)(at':Paired (λr a=>RX.At H' a r) C' as')(pr':PR C' (tM fb u) nm qs s.next tu)(kc':bH C'=K0++u)(nw':∃R Q,rows'=R++Q/\s.safe=(R.length:Int)/\MG H' fb Q wr' u)(sub:∀x∈C,x∈C')(ask:∀n,.asked n∈C'↔.asked n∈C∨(d="asked"/\n=r.n))(S:∀n,n∈dA C'↔n∈dA C∨(d="written"/\n=r.n))(D:r.st="new"∨r.st="held")(W:d="held"∨d="asked"∨d="written")(free:∀r'∈s.runs,r'.n≠r.n->r'.st≠"new"->mP r.x r'.x=false)(X:wr'=if d="written" then wr++[{r with st:=d }] else wr)(U:C'.length+(if d="held" then 1 else 0)<=C.length+1):KI c H' a {fR s m l r d with rows:=rows' } nm qs lf tu C' as' K0 u T fb wr':=by
 have j:r∈s.runs:=by rw[hs];simp
 have v:{r with st:=d }∈m++{r with st:=d }::l:=by simp
 have g:∀ {r'},r'∈m++{r with st:=d }::l->r'={r with st:=d }∨(r'∈s.runs/\r'.n≠r.n):=λ{r'} E=>aAj h.dat.up hs E
 have nA:r.st≠"asked":=by rcases D with e|e<;>rw[e];exact xU;exact Ai
 have Y:r.st≠"written":=by rcases D with e|e<;>rw[e];exact xV;exact Aj
 have n':d≠"new":=by rcases W with e|e|e<;>rw[e];exact Kl.symm;exact xU.symm;exact xV.symm
 have F:∀r'∈wr,r'.n≠r.n:=λr' E e=>by
  obtain⟨z1,Z⟩:=(h.wm r').mp E;rw[tL h.dat.up z1 j e]at Z;exact Y Z
 refine {dat:=dat,life:=h.life,turn:=h.turn,hL:=h.hL,pa:=h.pa,pn:=h.pn,b12:=h.b12,rw:=q,at6:=at',pr:=pr',kc:=kc',nw:=nw',rc:=λr' b=>?_,rd:=λr' b=>?_,ro:=λn hm=>?_,wm:=λr'=>?_,wd:=?_,rn:=λr' b=>?_,ex:=λr1 A r2 o hn k p=>?_,bz:=λr' b=>?_,mo:=λG n I hm=>?_,mkp:=λG n t' I y hm=>?_,ml:=h.ml,lt:=h.lt,tn:=h.tn,tx:=λe J=>?_,ln:=?_,l1:=h.l1,l2:=h.l2 }
 .rcases g b with rfl|⟨b,_⟩
  .refine JB (h.rc r j) (KJ λζ p h3 _=>?_);obtain⟨L,M⟩:=ζ;exists #[L,sub _ M],p,h3;rcases W with e|e|e
   .exact .inr<|.inl e
   .exact .inr<|.inr<|.inl e
   exact .inr<|.inr<|.inr e
  obtain⟨⟨L,M⟩,p⟩:=h.rc r' b;exact#[#[L,sub _ M],p]
 .rw[ask];rcases g b with rfl|⟨b,N⟩
  .exact#[λz=>z.elim (λz=>IZ ((h.rd r j).mp z) nA) λz=>z.1,λz=>.inr #[z,rfl]]
  rw[<- h.rd r' b];exact#[λz=>z.elim id λz=>IZ z.2 N,.inl]
 .rcases(ask n).mp hm with hm|⟨_,e⟩
  .rcases h.ro n hm with⟨r',b,e⟩|hm
   .by_cases z:r'.n=r.n
    .exact .inl #[_,v,z.symm.trans e]
    exact .inl #[r',rM hs b z,e]
   exact .inr<|(S n).mpr<|.inl hm
  exact .inl #[_,v,e.symm]
 .rw[X];by_cases z:d="written"
  .rw[LM z,MN,LV,h.wm r'];refine#[λw=>w.elim (λ#[i,f]=>#[rM hs i<|F r'<|(h.wm r').mpr #[i,f],f]) λw=>by rw[w];exact#[v,z],?_];rintro ⟨i,f⟩;rcases g i with w|⟨w,_⟩
   .exact .inr w
   exact .inl #[w,f]
  rw[LK z,h.wm r'];exists λ#[i,f]=>#[rM hs i<|F r'<|(h.wm r').mpr #[i,f],f];rintro ⟨i,f⟩;rcases g i with w|⟨w,_⟩
  .rw[w]at f;exact IZ f z
  exact#[w,f]
 .rw[X];by_cases z:d="written"
  .rw[LM z,dL];refine nodup_append.mpr #[h.wd,Zs,λx hx y hy e=>?_];obtain⟨r',A4,rfl⟩:=LA.mp hx;have hy':y=r.n:=by simpa using hy
   exact F r' A4<|e.trans hy'
  rw[LK z];exact h.wd
 .rw[S];rcases g b with rfl|⟨b,N⟩
  .exact#[λz=>z.elim (λz=>IZ ((h.rn r j).mp z) Y) λz=>z.1,λz=>.inr #[z,rfl]]
  rw[<- h.rn r' b];exact#[λz=>z.elim id λz=>IZ z.2 N,.inl]
 .rcases g A with rfl|⟨A,hn1⟩
  .rcases g o with rfl|⟨o,JF⟩
   .exact IZ rfl hn
   exact free r2 o JF p
  rcases g o with rfl|⟨o,JF⟩
  .exact Ny<|free r1 A hn1 k
  exact h.ex r1 A r2 o hn k p
 .rcases g b with rfl|⟨b,_⟩
  .exact h.bz r j
  exact h.bz r' b
 .refine JB (h.mo G n I hm) (JU λr'=>JE λb e e'=>?_);by_cases z:r'.n=r.n
  .have:=tL h.dat.up b j z;subst this;exact#[_,v,e,e']
  exact#[r',rM hs b z,e,e']
 .refine JB (h.mkp G n t' I y hm) (JU λe=>QZ λJ q O B e4 e5 e6=>?_);exact#[e,J,q,O,B,t _ _ e4,t _ _ e5,e6]
 .refine JB (h.tx e J) (JE λq O B=>?_);refine#[q,O,λr' b=>?_];rcases g b with rfl|⟨b,_⟩
  .exact B r j
  exact B r' b
 have k:=h.ln;rw[hs]at k;show C'.length+((m++{r with st:=d }::l).filter λ(r:Rn)=>decide (r.st="new"∨r.st="held")).length<=2*s.next+80;rw[filter_append,filter_cons,LM (UF D)]at k;rw[filter_append,filter_cons];by_cases z:d="held"
 .rw[LM z]at U;rw[LM (UF<|.inr z)];simp only [mU,mY]at k ⊢;omega
 rw[LK z]at U;rw[LK (by rw[decide_eq_true_iff];exact λw=>w.elim n' z)];simp only [mU,mY]at k ⊢;omega
def KI.held(h:KI c H a s nm qs lf tu C as K0 we T fb wr){r:Rn}(hs:s.runs=d++r::b)(f:r.st="new")(g:fQ s r=[])(e:K1 c H' a (fR s d b r "held"))(t:TK H H'):KI c H' a (fR s d b r "held") nm qs lf tu C as K0 we T fb wr:=by
 refine h.set hs (rows':=s.rows) (C':=C) (as':=as) (wr':=wr) e t h.rw (Paired.map' (λ_ _ w=>w.tk t) h.at6) h.pr h.kc (let #[o,n,i,j,k]:=h.nw;#[o,n,i,j,k.tk t]) (λ_ z=>z) (λn=>#[.inl,λz=>z.elim id λz=>IZ z.1 Ai]) (λn=>#[.inl,λz=>z.elim id λz=>IZ z.1 Aj]) (.inl f) (.inl rfl) (λl m q p=>?_) (by rw[LK Aj]) (by rw[LM rfl];exact bD _);have:=List.filter_eq_nil_iff.mp g l m;unfold qB at this;rw[T0 p]at this;simpa using this
def Nz(h:aQ f x=none):x.far=true:=by
 cases x with
 | add a n=>simp only [aQ]at h;split at h<;>cases h
 | take a n=>simp only [aQ]at h;split at h<;>cases h
 | move a b n=>simp only [aQ]at h;split at h;cases h;split at h<;>cases h
 | _=>rfl
def KI.nodone(h:KI c H a s nm qs lf tu C as K0 we T fb wr)(b:r∈s.runs)(d:r.st="held")(t:Nat)(y:An):.done r.n t y∉C:=λe=>Aj<|d.symm.trans<|(h.rn r b).mp<|xT.mpr #[t,y,e]
def KI.noask(h:KI c H a s nm qs lf tu C as K0 we T fb wr){r:Rn}(b:r∈s.runs)(d:r.st="held"):.asked r.n∉C:=λe=>Ai<|d.symm.trans<|(h.rd r b).mp e
def KI.asked(h:KI c H a s nm qs lf tu C as K0 we T fb wr){i g:DM}(hs:s.runs=i++r::g)(d:r.st="held")(k:aQ fb r.x=none)(j:K1 c H' a {fR s i g r "asked" with rows:=s.rows++[.ref b] })(t:TK H H')(gr:H' b=!.tup [.str "asked",.int r.n]) :
  KI c H' a {fR s i g r "asked" with rows:=s.rows++[.ref b] } nm qs lf tu (C++[.asked r.n]) (as++[b]) K0 we T fb wr:=by
 have e:r∈s.runs:=by rw[hs];simp
 obtain⟨⟨F,l⟩,_⟩:=h.rc r e;obtain⟨m,p⟩:=h.pr.asked l (Nz k) (h.noask e d)<|h.nodone e d;refine h.set hs j t (by rw[h.rw,dL];rfl) (Paired.snoc (Paired.map' (λ_ _ w=>w.tk t) h.at6) gr) m (p.trans h.kc) (let #[o,n,q,u,v]:=h.nw;#[o,n++[.ref b],by rw[q,append_assoc],u,?_]) (λx y=>IN _ y) (λn=>by simp) (λn=>?_) (.inr d) (.inr<|.inl rfl) (λA B D E=>h.ex r e A B (Ne.symm D) (by rw[d];exact Kl.symm) E) (by rw[LK xW]) (by rw[LK Ai.symm];simp)
 .have:=(v.tk t).app (MG.skip (f:=fb) gr Vn .nil)
  rwa [append_nil,append_nil]at this
 rw[show dA (C++[.asked r.n])=dA C by unfold dA;simp[GG]];exact#[.inl,λz=>z.elim id λz=>IZ z.1 xW]
def KI.wrote(h:KI c H a s nm qs lf tu C as K0 we T fb wr){j i:DM}(hs:s.runs=j++r::i)(b:r.st="held")(m:aQ fb r.x=!y)(v:K1 c H' a {fR s j i r "written" with rows:=s.rows++[.ref f] })(t:TK H H')(gr:H' f=!.tup [.str "done",.int r.n,.int s.turn,.ref z])(p:H' z=!.tup y.vs) :
  KI c H' a {fR s j i r "written" with rows:=s.rows++[.ref f] } nm qs lf tu (C++[.done r.n tu y]) (as++[f]) K0 (we++[i9 r tu y]) T fb (wr++[{r with st:="written" }]):=by
 have d:r∈s.runs:=by rw[hs];simp
 refine JB (h.rc r d) (KJ λζ V B _=>?_);obtain⟨U,A⟩:=ζ;have D:∀e∈we,mP e.2.2.2.2.1 r.x=false:=λe E=>by
  refine JB h.nw (JR λo n=>JE λ_ _ k=>?_);obtain⟨g,F,w,W,e⟩:=Mz k.pair E;rw[e];obtain⟨u,l⟩:=(h.wm g).mp F;refine h.ex g u r d (λe=>?_) (by rw[l];exact xV.symm) (by rw[b];exact Kl.symm);rw[tL h.dat.up u d e,b]at l;exact Aj l
 have G:gM (tM fb we) r.x false y:=xS (λq I=>(Fe D q I).symm)<|.inl #[rfl,m];obtain⟨J,L⟩:=h.pr.done A G (λe=>nomatch e) (λ_=>#[λz=>IZ z<|h.noask d b,λz=>nomatch z]) (h.nodone d b) B;rw[h.turn]at gr;refine h.set hs v t (by rw[h.rw,dL];rfl) (Paired.snoc (Paired.map' (λ_ _ w=>w.tk t) h.at6) #[z,gr,p]) (by rw[Nw];exact J) (by rw[L,h.kc,append_assoc];rfl) (let #[o,n,M,N,k]:=h.nw;#[o,n++[.ref f],by rw[M,append_assoc],N,?_]) (λx O=>IN _ O) (λn=>?_) (λn=>?_) (.inr b) (.inr<|.inr rfl) (λg Q R S=>h.ex r d g Q (Ne.symm R) (by rw[b];exact Kl.symm) S) (by rw[LM rfl]) (by rw[LK Aj.symm];simp)
 .exact(k.tk t).app<|MG.done (r:={r with st:="written" }) gr p (.inl #[rfl,m]) (λe=>nomatch e) .nil
 .simp only [MN,LV];exact#[λz=>z.elim .inl nofun,λz=>z.elim .inl λz=>IZ z.1 xW.symm]
 rw[show dA (C++[.done r.n tu y])=dA C++[r.n] by unfold dA;simp[GG],MN,LV];exact#[λz=>z.imp id λz=>#[rfl,z],λz=>z.imp id λz=>z.2]
end
def Cr:∀ {xs ys:DO},xs.Pairwise (·<·)->ys.Pairwise (·<·)->(∀x∈xs,x∈ys)->xs.Sublist ys
 | [],ys,_,_,_=>List.nil_sublist _
 | x::xs,[],_,_,h=>nomatch h x eG
 | x::xs,y::ys,d,f,h=>by
  have b:=pairwise_cons.mp d;have c:=pairwise_cons.mp f;rcases mem_cons.mp (h x eG) with e|e
  .subst e;refine(Cr b.2 c.2 λz a=>?_).cons_cons _;rcases mem_cons.mp (h z<|cR _ a) with w|w
   .have:=b.1 z a;omega
   exact w
  refine(Cr d c.2 λz a=>?_).cons _;rcases mem_cons.mp (h z a) with w|w
  .have:=c.1 x e;rcases mem_cons.mp a with v|v
   .omega
   have:=b.1 z v;omega
  exact w
section
variable {c:CK}{a a':DA}{s:DS}{nm:A2}{qs:DD}{lf tu tu':Nat}{C:BR}{as:BZ}{K0 we T:DE}{fb:Str->Nat}{wr:DM}
def KI.went(h:KI c H a s nm qs lf tu C as K0 we T fb wr):Paired (λr e=>∃w y,e=i9 r w y) wr we:=let #[_,_,_,_,b]:=h.nw;b.pair
def KI.rq(h:KI c H a s nm qs lf tu C as K0 we T fb wr)(d:r∈s.runs)(f:r'∈s.runs)(e:r.q=r'.q):r=r':=by
 have b:=h.bz r d;rw[e,h.bz r' f]at b;injection b with b
 injection b with b _
 exact tL h.dat.up d f Zo
def KI.wnd(h:KI c H a s nm qs lf tu C as K0 we T fb wr):(we.map aJ).Nodup/\(we.map (·.1)).Nodup:=by
 have b:wr.map (·.q)=we.map aJ:=UO h.went λr e #[w,y,z]=>by rw[z];rfl
 have d:wr.map (·.n)=we.map (·.1):=UO h.went λr e #[w,y,z]=>by rw[z];rfl
 rw[<- b,<- d];refine#[pairwise_map.mpr<|(pairwise_map.mp h.wd).imp_of_mem λ{x y} f g i e=>i ?_,h.wd];rw[h.rq ((h.wm x).mp f).1 ((h.wm y).mp g).1 e]
def KI.forced(h:KI c H a s nm qs lf tu C as K0 we T fb wr)(W:s.next<=100):∃d N M J,s.rows=M++J/\s.safe=(M.length:Int)/\iE H {s with safe:=s.rows.length } J d N/\N.length<=500/\d.rows=s.rows/\d.safe=s.rows.length/\d.next=s.next/\d.hs=s.hs ∧
  ∀H',K1 c H' a d->TK H H'->KI c H' a {d with L:=qs.length } nm qs lf tu C as (K0++we) [] (T++we) (tM fb we) []:=by
 refine JB h.nw (JR λM J=>JE λn1 n2 n3=>?_);have VX:wr.length<=s.next:=by
  have:=Cc (ys:=List.range s.next) h.wd λn W=>by
   obtain⟨r,b,rfl⟩:=LA.mp W;exact mem_range.mpr (h.rlt r ((h.wm r).mp b).1)
  simpa using this
 have l2:=h.l2;have hL:=h.hL;obtain⟨d,N,hE,MF,E⟩:=aAi (zs:=nm) h.l1 n3 {s with safe:=s.rows.length } fb h.wd (λr b=>((h.wm r).mp b).1) h.dat.up h.dat.nd h.pn (by show s.L+wr.length<=500;omega) (λr b=>#[h.bz r ((h.wm r).mp b).1,h.xok r ((h.wm r).mp b).1,(h.rc r ((h.wm r).mp b).1).2.1])
  (λr b i j d8=>h.ex r ((h.wm r).mp b).1 i ((h.wm i).mp j).1 d8 (by rw[((h.wm r).mp b).2];exact xV.symm) (by rw[((h.wm i).mp j).2];exact xV.symm)) h.pa h.b12 (λ_ _ _ _=>rfl)
 refine#[d,N,M,J,n1,n2,hE,Zo,E.rows,E.safe,E.next,E.hs,λH' a0 t=>?_];have g:∀ {r},r∈d.runs↔r∈s.runs/\r.st≠"written":=λ{r}=>by
  rw[E.runs];show r∈s.runs.filter _↔_;rw[mem_filter,decide_eq_true_iff];refine#[λ#[B,Q]=>#[B,λe=>Q<|mem_map_of_mem<|(h.wm r).mpr #[B,e]],λ#[B,Q]=>#[B,λhm=>?_]];obtain⟨i,j,e⟩:=LA.mp hm;obtain⟨k,f⟩:=(h.wm i).mp j;rw[tL h.dat.up k B e]at f;exact Q f
 obtain⟨wnd,wnn⟩:=h.wnd;have R:∀ {e:E6},e∈we->∃r∈wr,r.n=e.1/\r.q=aJ e:=λ{e} he=>by
  obtain⟨r,b,w,y,z⟩:=Mz h.went he;exact#[r,b,by rw[z];rfl,by rw[z];rfl]
 have X:∀ {r:Rn},r∈wr->∃e∈we,e.1=r.n/\aJ e=r.q:=λ{r} b=>by
  obtain⟨e,he,w,y,z⟩:=eO h.went b;exact#[e,he,by rw[z];rfl,by rw[z];rfl]
 have Y:∀q,(∀e∈we,aJ e≠q)->d.m q=s.m q:=λq u=>E.m q λr b e=>by
  obtain⟨l,v,_,z⟩:=X b;exact u l v (z.trans e)
 have S:∀q D,d.m q=!D->(∃e∈we,aJ e=q)∨((∀e∈we,aJ e≠q)/\s.m q=!D):=λq D m=>by
  by_cases z:∃e∈we,aJ e=q
  .exact .inl z
  have F:∀e∈we,aJ e≠q:=λe he u=>z #[e,he,u]
  exact .inr #[F,(Y q F).symm.trans m]
 refine {dat:=a0.low (qs:=qs) λq D m=>?_,life:=E.life.trans h.life,turn:=E.turn.trans h.turn,hL:=bD _,pa:=E.bk,pn:=E.pl,b12:=h.pr.f12,rw:=E.rows.trans h.rw,at6:=Paired.map' (λ_ _ w=>w.tk t) h.at6,pr:=?_,kc:=by rw[append_nil];exact h.kc,nw:=#[s.rows,[],by rw[append_nil];exact E.rows,E.safe,.nil],rc:=λr b=>h.rc r (g.mp b).1,rd:=λr b=>h.rd r (g.mp b).1,ro:=λn hm=>?_,wm:=λr=>#[nofun,λ#[k,f]=>IZ f (g.mp k).2],wd:=.nil,rn:=λr b=>h.rn r (g.mp b).1,ex:=λr b i j=>h.ex r (g.mp b).1 i (g.mp j).1,bz:=λr b=>?_,mo:=λq n x hm=>?_,mkp:=λq n Z x y hm=>?_,ml:=λq e he U=>?_,lt:=λq e he=>?_,tn:=?_,tx:=λe he=>?_,ln:=?_,l1:=h.l1,l2:=h.l2 }
 .rcases S q D m with⟨e,he,z⟩|⟨_,m⟩
  .obtain⟨r,b,_,f⟩:=R he;rw[<- z,<- f];exact(h.rc r ((h.wm r).mp b).1).2.2.1
  exact h.mq q D m
 .show PR C (tM (tM fb we) []) nm qs d.next tu;rw[E.next];exact h.pr
 .rcases h.ro n hm with⟨r,b,e⟩|hm
  .by_cases z:r.st="written"
   .exact .inr<|e▸(h.rn r b).mpr z
   exact .inl #[r,g.mpr #[b,z],e]
  exact .inr hm
 .obtain⟨BU,FV⟩:=g.mp b;show d.m r.q=_;rw[E.m r.q λi j e=>FV ?_]
  .exact h.bz r BU
  obtain⟨k,f⟩:=(h.wm i).mp j;rw[h.rq k BU e]at f;exact f
 .rcases S q _ hm with⟨e,he,z⟩|⟨o,m⟩
  .refine JB (E.kp e he) (JU λr=>JW λb=>JU λF=>MJ λk1 G _ I _=>?_);have A:d.m q=!.busy n x:=hm;rw[<- z,G,I]at A;cases A
  refine JB (h.mo q n x m) (JU λr=>JE λb p O=>?_);refine#[r,g.mpr #[b,λz=>?_],p,O];obtain⟨e,he,_,f⟩:=X<|(h.wm r).mpr #[b,z];exact o e he<|f.trans p
 .rcases S q _ hm with⟨e,he,z⟩|⟨o,m⟩
  .refine JB (E.kp e he) (JU λr=>JW λb=>JU λF=>MJ λk1 G k3 I k5=>?_);have A:d.m q=!.kept n Z x y:=hm;rw[<- z,G,I]at A;injection A with A
   injection A with m1 m2 m3 m4
   subst m3 m4;refine#[e,GJ _ he,z,m1.symm,m2.symm,?_,t _ _ k5,λ_=>?_]
   .rw[k3];exact t _ _<|h.dat.dd r ((h.wm r).mp b).1
   rw[<- z];exact oH wnd he
  refine JB (h.mkp q n Z x y m) (JU λe=>QZ λhe p O e3 e4 e5 e6=>?_);refine#[e,IN _ he,p,O,e3,t _ _ e4,t _ _ e5,λU=>?_];rw[pA o];exact e6 U
 .by_cases z:∃l∈we,aJ l=q
  .obtain⟨l,v,z⟩:=z;rw[<- z,oH wnd v]at he;cases he;refine JB (E.kp e v) (JU λr=>JW λb=>JU λF=>MJ λk1 G k3 I k5=>?_);exact#[r.d,F,by show d.m q=_;rw[<- z,G];exact I]
  have o:∀e∈we,aJ e≠q:=λe he u=>z #[e,he,u]
  rw[pA o]at he;refine JB (h.ml q e he U) (JR λx y p=>?_);exact#[x,y,(Y q o).trans p]
 .by_cases z:∃l∈we,aJ l=q
  .obtain⟨l,v,z⟩:=z;rw[<- z,oH wnd v]at he;cases he;exact GJ _ v
  have o:∀e∈we,aJ e≠q:=λe he u=>z #[e,he,u]
  rw[pA o]at he;exact IN _<|h.lt q e he
 .rw[dL];refine nodup_append.mpr #[h.tn,wnn,λa1 hx y hy e=>?_];obtain⟨p,he1,rfl⟩:=LA.mp hx;obtain⟨O,he2,rfl⟩:=LA.mp hy;obtain⟨r,b,z,_⟩:=R he2;exact(h.tx p he1).2.2 r ((h.wm r).mp b).1<|z.trans e.symm
 .show e.1<d.next/\_;rw[E.next];rcases MN.mp he with he|he
  .refine JB (h.tx e he) (JE λk f z3=>?_);exact#[k,f,λr b=>z3 r (g.mp b).1]
  refine JB (R he) (JU λr=>JE λb k f=>?_);obtain⟨V,w2⟩:=(h.wm r).mp b;refine#[by rw[<- k];exact h.rlt r V,by rw[<- f];exact(h.rc r V).2.2.1,λi j l=>?_];obtain⟨v1,v2⟩:=g.mp j;rw[tL h.dat.up v1 V (l.trans k.symm)]at v2;exact v2 w2
 have B:=h.ln;show C.length+(d.runs.filter _).length<=2*d.next+80;rw[E.next,E.runs];show C.length+((s.runs.filter _).filter _).length<=2*s.next+80;have:((s.runs.filter λr=>decide (r.n∉wr.map (·.n))).filter λ(r:Rn)=>decide (r.st="new"∨r.st="held")).length<=(s.runs.filter λ(r:Rn)=>decide (r.st="new"∨r.st="held")).length:=(List.filter_sublist.filter _).length_le;omega
def KI.open(h:KI c H a s nm qs lf tu C as K0 we T fb wr)(ho:o∈cS C):∃r∈s.runs,r.n=o.1/\r.q=lD o/\r.x=o.2.2.2/\r.st="asked":=by
 obtain⟨⟨t,hc⟩,hi⟩:=Fa.mp ho;unfold fI at hi;rw[Bool.and_eq_true]at hi;have ha:=fJ.mp hi.1;rcases h.ro o.1 ha with⟨r,hr,e⟩|hm
 .obtain⟨⟨t',GO⟩,_⟩:=h.rc r hr;rw[e]at GO;have:=kX h.pr.w hc GO;injection this with _ _ e1 e2 e3
  exact#[r,hr,e,by unfold lD;rw[e1,e2],e3.symm,(h.rd r hr).mp<|e▸ha]
 refine JB (iZ hm) (JR λt' y hm=>?_);rw[Ab hm]at hi;exact IZ hi.2 Zs
def KI.opens(h:KI c H a s nm qs lf tu C as K0 we T fb wr)(b:r∈s.runs)(d:r.st="asked"):(r.n,r.q.1,r.q.2,r.x)∈cS C:=by
 obtain⟨⟨t,g⟩,_⟩:=h.rc r b;refine Fa.mpr #[#[t,g],?_];unfold fI;rw[fJ.mpr ((h.rd r b).mpr d),Bool.true_and,Bool.not_eq_true'];cases e:mG "done" C (Sum.inl (r.n:Int)) with
 | false=>rfl
 | true=>
  obtain⟨x,i,z⟩:=any_eq_true.mp e;rw[Bool.and_eq_true]at z;obtain⟨n,k,y,rfl⟩:=oU<|WF z.1;have f:(Sum.inl (n:Int):bC)=Sum.inl (r.n:Int):=WF z.2;injection f with f
  have j:n=r.n:=by omega
  subst j;exact IZ (d.symm.trans<|(h.rn r b).mp<|xT.mpr #[_,_,i]) xW
def KI.ospots(h:KI c H a s nm qs lf tu C as K0 we T fb wr):((cS C).map lD).Nodup/\(cS C).length<=s.runs.length:=by
 have asc:=xJ C h.pr.w;exists pairwise_map.mpr<|asc.imp_of_mem λ{x y} hx hy A3 e=>?_
 .refine JB (h.open hx) (JU λr=>KJ λhr n1 q1 _=>?_);refine JB (h.open hy) (JU λr'=>KJ λA4 n2 q2 _=>?_);rw[h.rq hr A4 (q1.trans<|e.trans q2.symm)]at n1;omega
 have:=Cc (xs:=(cS C).map (·.1)) (ys:=s.runs.map (·.n)) (pairwise_map.mpr (asc.imp λz=>by omega)) λn hn=>by
  obtain⟨o,ho,rfl⟩:=LA.mp hn;obtain⟨r,hr,n1,_⟩:=h.open ho;rw[<- n1];exact mem_map_of_mem hr
 simpa using this
def KI.rowsC(h:KI c H a s nm qs lf tu C as K0 [] T fb [])(b:tu<=tu')(f:s.next<=60):∃F,QW H s.rows C as F fb nm qs s.next (tu':Int):=by
 obtain⟨F,d⟩:=h.pr.rep;obtain⟨e,g⟩:=h.ospots;have:=h.rle;have:=h.len;have:=Vp C;have:=h.l2;exact#[F,#[h.rw,h.at6,Zo,h.pr.nm,h.pr.w,h.pr.sn,d,e,Zo,#[Zo,Zo,h.pr.ks],Zo,h.pr.nx,(h.pr.later b).tt]]
def xX(nd:(rs.map (·.q)).Nodup)(h:eU rs m q=!e):(∃r∈rs,r.q=q/\e=.busy r.n r.d)∨((∀r∈rs,r.q≠q)/\m q=!e):=by
 by_cases z:∃r∈rs,r.q=q
 .obtain⟨r,b,rfl⟩:=z;rw[xN nd b]at h;cases h;exact .inl #[r,b,rfl,rfl]
 have d:∀r∈rs,r.q≠q:=λr b e=>z #[r,b,e]
 exact .inr #[d,(lC d).symm.trans h]
def KI.risen(h:KI c H a s nm qs lf tu C as K0 [] T fb [])(CD:s.safe=s.rows.length)(hle:tu<=tu')(d:K1 c H' a' (!"|C?`s.next |eNK|c~ON|W" (tu':Int)))(t:TK H H')(hp:∀x∈prs.map (·.1),0<fb x)(hpa:∀z,bZ prs z=(fb z:Int))(km:OX H' (bH C) m)(pr:Paired (QS H') (cS C) rs) :
  KI c H' a' {ew s (tu':Int) s.next prs (eU rs m) L rs with L:=qs.length } nm qs lf tu' C as K0 [] T fb []:=by
 have ek:bH C=K0:=by have:=h.kc;rwa [append_nil]at this
 rw[ek]at km;have eq:(cS C).map lD=rs.map (·.q):=uZ (λo r h=>by revert h;refine LB λ_ _ _=>JW λer _=>?_;rw[er];rfl) pr;have nd:(rs.map (·.q)).Nodup:=eq▸h.ospots.1;have ro:∀ {r},r∈rs->∃r0∈s.runs,r.n=r0.n/\r.q=r0.q/\r.x=r0.x/\r.st="asked"/\r0.st="asked":=λ{r} hr=>by
  refine JB (Mz pr hr) (JU λo=>JW λho=>LB λ_ _ _=>JW λer _=>?_);refine JB (h.open ho) (JU λr0=>MJ λDT z1 z2 z3 z4=>?_);exact#[r0,DT,by rw[er];exact z1.symm,by rw[er];exact z2.symm,by rw[er];exact z3.symm,by rw[er];rfl,z4]
 have kme:∀q n t d y,m q=!.kept n t d y->∃e,cK K0 q=!e/\n=(e.1:Int)/\t=(e.2.1:Int)/\H' d=!.tup e.2.2.2.2.1.vs/\H' y=!.tup e.2.2.2.2.2.vs:=λq n t d y hm=>by
  cases z:cK K0 q with
  | none=>rw[(km q).1 z]at hm;cases hm
  | some e=>
   refine JB ((km q).2 e z) (JR λd' y'=>JE λh1 h2 h3=>?_);rw[h1]at hm;cases hm;exact#[e,rfl,rfl,rfl,h2,h3]
 refine {dat:=d.low (qs:=qs) λq ke hk=>?_,life:=h.life,turn:=rfl,hL:=bD _,pa:=hpa,pn:=λz hz=>?_,b12:=h.b12,rw:=h.rw,at6:=Paired.map' (λ_ _ w=>w.tk t) h.at6,pr:=h.pr.later hle,kc:=h.kc,nw:=#[s.rows,[],by rw[append_nil];rfl,CD,.nil],rc:=λr hr=>?_,rd:=λr hr=>?_,ro:=λn hm=>?_,wm:=λr=>#[nofun,?_],wd:=.nil,rn:=λr hr=>?_,ex:=λr hr r' A4 d8 _ _=>?_,bz:=λr hr=>xN nd hr,mo:=λq n d' hm=>?_,mkp:=λq n t' d' y hm=>?_,ml:=λq e he hl=>?_,lt:=h.lt,tn:=h.tn,tx:=λe he=>?_,ln:=?_,l1:=h.l1,l2:=h.l2 }
 .rcases xX nd hk with⟨r,hr,e,_⟩|⟨_,hm⟩
  .refine JB (ro hr) (JU λr0=>KJ λDT _ z2 _=>?_);rw[<- e,z2];exact(h.rc r0 DT).2.2.1
  cases ke with
  | busy n d=>exact IZ hm (km.nb q n d)
  | kept n t d y=>
   obtain⟨e,he,_⟩:=kme q n t d y hm;rw[<- (dE he).2];exact(h.tx e<|h.lt q e he).2.1
 .have:=hp z hz;have h2:=h.pa z;by_cases w:z∈s.prs.map (·.1)
  .exact h.pn z w
  rw[xC w]at h2;omega
 .refine JB (ro hr) (JU λr0=>MI λDT z1 z2 z3 z4 _=>?_);refine JB (h.rc r0 DT) (KJ λζ h2 h3 _=>?_);obtain⟨t0,hc⟩:=ζ;exact#[#[t0,by rw[z1,z2,z3];exact hc],by rw[z3];exact h2,by rw[z2];exact h3,.inr<|.inr<|.inl z4]
 .refine JB (ro hr) (JU λr0=>MI λDT z1 z2 z3 z4 z5=>?_);exact#[λ_=>z4,λ_=>by rw[z1];exact(h.rd r0 DT).mpr z5]
 .rcases h.ro n hm with⟨r,hr,e⟩|O8
  .have N8:=(h.rd r hr).mp<|e▸hm;refine JB (eO pr<|h.opens hr N8) (JU λr1=>JW λBU=>LB λ_ _ _=>JW λer _=>?_);exact .inl #[r1,BU,by rw[er];exact e]
  exact .inr O8
 .rintro ⟨z1,z2⟩;refine JB (ro z1) (JU λ_=>MI λ_ _ _ _ z4 _=>?_);exact IZ (z4.symm.trans z2) xW
 .refine JB (ro hr) (JU λr0=>MI λDT z1 z2 z3 z4 z5=>?_);refine#[λz=>?_,λz=>IZ (z4.symm.trans z) xW];rw[z1]at z;exact IZ (z5.symm.trans<|(h.rn r0 DT).mp z) xW
 .refine JB (ro hr) (JU λr0=>MI λDT z1 z2 z3 z4 z5=>?_);refine JB (ro A4) (JU λr1=>MI λBU y1 y2 y3 y4 y5=>?_);rw[z3,y3];exact h.ex r0 DT r1 BU (by rw[<- z1,<- y1];exact d8) (by rw[z5];exact xU.symm) (by rw[y5];exact xU.symm)
 .rcases xX nd hm with⟨r,hr,e,e2⟩|⟨_,hm⟩
  .injection e2 with _ e2
   exact#[r,hr,e,e2.symm]
  exact IZ hm<|km.nb q n d'
 .rcases xX nd hm with⟨r,hr,e,e2⟩|⟨_,hm⟩
  .cases e2
  refine JB (kme q n t' d' y hm) (JU λe=>MJ λhe e1 e2 e3 e4=>?_);exact#[e,h.lt q e he,(dE he).2,e1,e2,e3,e4,λ_=>he]
 .refine JB (h.ml q e he Zo) (JR λd1 y1 h1=>?_);have uj:∀r∈rs,r.q≠q:=λr hr z=>by
   refine JB (ro hr) (JU λr0=>KJ λDT _ z2 _=>?_);have:=h.bz r0 DT;rw[<- z2,z,h1]at this;cases this
  refine JB ((km q).2 e he) (JR λd2 y2=>JW λh2 _=>?_);exact#[d2,y2,(lC uj).trans h2]
 .refine JB (h.tx e he) (JE λz1 z2 z3=>?_);refine#[z1,z2,λr hr=>?_];obtain⟨r0,DT,y1,_⟩:=ro hr;rw[y1];exact z3 r0 DT
 have h1:=h.len;show C.length+(rs.filter _).length<=2*s.next+80;have:(rs.filter λ(r:Rn)=>decide (r.st="new"∨r.st="held"))=[]:=List.filter_eq_nil_iff.mpr λr hr=>by
  refine JB (ro hr) (JU λ_=>MI λ_ _ _ _ z4 _=>?_);rw[z4];simp only [decide_eq_true_eq];exact λz=>z.elim xU.symm Ai.symm
 rw[this];simpa using h1
def Ak(h:KI c H a s nm qs lf tu C as K0 we T fb wr):q∈mH C (s.runs.map (·.n))↔∃r∈s.runs,r.q=q:=by
 have d:∀r∈s.runs,Ke C r.n=[r.q]:=λr b=>by
  obtain⟨⟨t,f⟩,_⟩:=h.rc r b;unfold Ke;rw[jA h.pr.w f]
 unfold mH;rw[mem_flatMap];constructor
 .rintro⟨n,g,e⟩;obtain⟨r,b,rfl⟩:=LA.mp g;rw[d r b]at e;exact#[r,b,(LV.mp e).symm]
 rintro⟨r,b,rfl⟩;exact#[r.n,mem_map_of_mem b,by rw[d r b];simp]
def KI.again(h:KI c H a s nm qs lf tu C as K0 we T fb wr)(b:r∈s.runs):gP C tu r.n=.came r.n tu r.q.1 r.q.2 r.x::(if r.st="asked" then [.asked r.n] else []):=by
 obtain⟨⟨t,d⟩,_⟩:=h.rc r b;unfold gP;rw[jA h.pr.w d];by_cases z:r.st="asked"
 .rw[LM z,LM (fJ.mpr<|(h.rd r b).mpr z)]
 rw[LK z,LK λw=>z ((h.rd r b).mp<|fJ.mp w)]
def KI.sub(h:KI c H a s nm qs lf tu C as K0 [] T fb []):(s.runs.map (·.n)).Sublist (xH C):=by
 refine Cr (pairwise_map.mpr h.dat.up) ((sZ h.pr.w).sublist<|Aa C) λn f=>?_;obtain⟨r,b,rfl⟩:=LA.mp f;obtain⟨⟨t,g⟩,_⟩:=h.rc r b;refine oW.mpr #[#[t,_,_,_,g],?_]
 cases e:mG "done" C (Sum.inl (r.n:Int)) with
 | false=>rfl
 | true=>
  obtain⟨x,i,z⟩:=any_eq_true.mp e;rw[Bool.and_eq_true]at z;obtain⟨n,k,y,rfl⟩:=oU<|WF z.1;have d:(Sum.inl (n:Int):bC)=Sum.inl (r.n:Int):=WF z.2;injection d with d
  have j:n=r.n:=by omega
  subst j;exact nomatch (h.wm r).mpr #[b,(h.rn r b).mp<|xT.mpr #[_,_,i]]
def KI.folded(h:KI c H a s nm qs lf tu C as K0 [] T fb []){os:BZ}(x:NS C fb lf tu (s.runs.map (·.n)) m hs es)(a0:K1 c H' a' {s with rows:=os.map V.ref,safe:=(os.length:Int) })(t:TK H H')(O:Paired (λr a=>RX.At H' a r) (!".|oh?|GKibg" (·.n)) os) :
  KI c H' a' {s with rows:=os.map V.ref,safe:=(os.length:Int) } nm qs lf tu (!".|oh?|GKibg" (·.n)) os es [] T fb []:=by
 have Q:bH C=K0:=by have:=h.kc;rwa [append_nil]at this
 have D:∀z,0<fb z->z∈nm:=λz E=>by
  have d:=h.pa z;by_cases w:z∈s.prs.map (·.1)
  .exact h.pn z w
  rw[xC w]at d;omega
 obtain⟨em,R⟩:=h.pr.fold (f:=fb) h.sub x D;have k:LS C fb tu (s.runs.map (·.n)):=h.pr.foldC h.sub;have M:=Ez (m:=m) (hs:=hs) (es:=es) k;have F:∀n,.asked n∈eF C fb tu (s.runs.map (·.n)) m hs es↔n∈s.runs.map (·.n)/\.asked n∈C:=λn=>by
  rw[mJ k];constructor
  .rintro(e|⟨_,_,e⟩|⟨_,_,e⟩|⟨n',S,⟨_,_,_,_,e⟩|⟨e,d⟩⟩)
   .cases e
   .cases e
   .cases e
   .cases e
   cases e;exact#[S,d]
  exact λ#[j,d]=>.inr (.inr<|.inr #[n,j,.inr #[rfl,d]])
 have N:∀n,n∉dA (!".|oh?|GKibg" (·.n)):=λn G=>by rw[Ni k]at G;cases G
 have l:∀e,e∈es↔cK K0 (aJ e)=!e/\tu<e.2.1+lf/\∀r∈s.runs,r.q≠aJ e:=λe=>by
  rw[x.iff e,Q,Ak h,and_assoc];exact#[λ#[v,A,B]=>#[v,A,λr b e=>B #[r,b,e]],λ#[v,A,B]=>#[v,A,λ#[r,b,e]=>B r b e]]
 refine {dat:=a0,life:=h.life,turn:=h.turn,hL:=h.hL,pa:=h.pa,pn:=h.pn,b12:=h.b12,rw:=rfl,at6:=O,pr:=R,kc:=by rw[append_nil];exact M,nw:=#[os.map V.ref,[],by rw[append_nil],by rw[aV],.nil],rc:=λr b=>?_,rd:=λr b=>?_,ro:=λn o=>?_,wm:=h.wm,wd:=h.wd,rn:=λr b=>#[λz=>IZ z<|N _,λz=>nomatch (h.wm r).mpr #[b,z]],ex:=h.ex,bz:=h.bz,mo:=h.mo,mkp:=λq n I J y o=>?_,ml:=λq e g p=>?_,lt:=λq e g=>?_,tn:=h.tn,tx:=h.tx,ln:=?_,l1:=h.l1,l2:=h.l2 }
 .obtain⟨⟨t0,U⟩,d⟩:=h.rc r b;exact#[#[tu,(mJ k).mpr<|.inr<|.inr<|.inr #[r.n,mem_map_of_mem b,.inl #[_,_,_,jA h.pr.w U,rfl]]],d]
 .rw[F,<- h.rd r b];exact#[λz=>z.2,λz=>#[mem_map_of_mem b,z]]
 .obtain⟨r,b,e⟩:=LA.mp ((F n).mp o).1;exact .inl #[r,b,e]
 .refine JB (h.mkp q n I J y o) (JU λe=>QZ λg u W X Y Z e6=>?_);refine#[e,g,u,W,X,t _ _ Y,t _ _ Z,λp=>?_];have E7:=e6 p;have:e∈es:=(l e).mpr #[by rw[u];exact E7,p,λr b z=>by
   have:=h.bz r b;have O8:s.m q=!.kept n I J y:=o;rw[z,u,O8]at this;cases this]
  have:=oH (K:=[]) x.nd this
  rwa [nil_append,u]at this
 .obtain⟨j,d⟩:=dE g;have:=((l e).mp j).1;rw[d]at this;exact h.ml q e this p
 .obtain⟨j,d⟩:=dE g;exact h.lt _ e ((l e).mp j).1
 have j:hs.length<=nm.length:=Ci (x.pos.asc.imp λh e=>by rw[e]at h;exact IZ h<|List.lt_irrefl _) λz E=>D z ((x.pos.iff z).mp E)
 have d:(es.map aJ).length<=qs.length:=Ci x.nd λq hq=>by
  obtain⟨e,g,rfl⟩:=LA.mp hq;exact(h.tx e<|h.lt _ e ((l e).mp g).1).2.1
 rw[aV]at d;have h3:∀i:DM,(∀r∈i,r∈s.runs)->(bF C tu<|i.map (·.n)).length+(i.filter λ(r:Rn)=>decide (r.st="new"∨r.st="held")).length<=2*i.length:=λi=>by
  induction i with
  | nil=>exact λ_=>bD _
  | cons r i ih=>
   intro L;have i1:=ih λr' h'=>L r' (cR _ h')
   unfold bF at i1 ⊢;rw[map_cons,FM,mU,h.again (L r eG),filter_cons];by_cases z:r.st="asked"
   .rw[LM z,LK (by rw[z,decide_eq_true_iff];exact λw=>w.elim xU.symm Ai.symm)];simp only [mY,length_nil];omega
   rw[LK z];split<;>simp only [mY,length_nil]<;>omega
 have h4:=h3 s.runs λ_ z=>z
 have h5:=h.rle;have:=h.l1;have:=h.l2;show(eF C fb tu (s.runs.map (·.n)) m hs es).length+_<=_;unfold eF;simp only [mY,mU,aV];show _<=2*s.next+80;have h6:(s.runs.filter λ(r:Rn)=>decide (r.st="new"∨r.st="held")).length=(({s with rows:=os.map V.ref,safe:=(os.length:Int) }:DS).runs.filter λ(r:Rn)=>decide (r.st="new"∨r.st="held")).length:=rfl;omega
end
def sg{r:Int}(h:0<=r):∃z:Nat,r=z:=#[r.toNat,Zo]
def aCI:("abcdefghijklmnopqrstuvwxyz":Str)=tx LET:=by rw[Dq ("abcdefghijklmnopqrstuvwxyz":Str),Gn]
def aE9:LET.Nodup:=by decide
def QP.nm(h:QP LET 8 a):∀z∈a,isNm z:=λz b=>h.of z b
inductive xY(vs:A1)(H:Hp)(Q:VK)(E_:XK):Prop
 | mk(d b:_):vs=[.ref d]->Dk H d b->(∀(n:Nat) H',1<=n->n<=1000000000000->Dk H' d b->Kp d b H H'->Q (.int (n:Int)) H')->xY vs H Q E_
def Oa(T:Txt K mg)(a:Callee^1 "_law_draw" CV jY)(D:KY K mg "_law_amount" iU cc):Callee^2 "_law_amount" cc xY:=by
 refine D.gg yL λa2 H a3 G s a4 vs Q a5 c h=>?_
 .obtain⟨d,b,rfl,dk,q⟩:=h;exists _,(!"dH'FU%0'#!!<,H'FU%0'#!!<,|/~x'',FU%0'#!!<,H'FU%0~x'',#!!<,#!!!!ZFU%0'#!!<B(&");refine#[d,b,9,rfl,dk,Zd,Zd,λJ L M N o r=>#[d,b,99,rfl,o,Zd,Zd,λO S U V t u=>#[#[Zd,Zd,Zd],d,b,3,rfl,t,Zd,Zd,λg W X Y v x=>#[#[Zd,Zd,Zd],d,b,_,rfl,v,Zd,Zd,λy Z d0 z j A=>#[uR rfl,λp i=>#[d,b,4,rfl,j.new i,Zd,Zd,λr5 k B C E l=>?_]]]]]];have n:=j.ne i;have f:=l p _ aA n.1 n.2;have F:=((((r.trans u).trans x).trans A).trans<|.new i).trans l;have I:y<1000000000000:=z;have e:∀m:Int,1<=m->m<=1000000000000->Q (.int m) k:=λm h1 h2=>by
   have:=q m.toNat k Zo Zo E F
   rwa [Int.toNat_of_nonneg Zo]at this
  rcases aE7 B C with rfl|rfl|rfl|rfl
  .exact#[_,JX f,_,rfl,e _ Zo Zo]
  .exact#[_,JX f,_,rfl,e _ Zo Zo]
  .exact#[_,JX f,_,rfl,e (10^(12:Int).toNat-g) (by show(1:Int)<=1000000000000-g;omega) (by show(1000000000000:Int)-g<=_;omega)]
  exact#[_,JX f,_,rfl,e _ Zo Zo]
def Vr(zs:A2):Prop:=zs.Nodup/\(∀z∈zs,isNm z)/\2<=zs.length/\zs.length<=20
def aAk(s:I7 H H'):Kp d b H H':=λc o e _ _=>s c o e
def aEj(D:Dk H d b)(k:Kp d b H H'):TK H H':=by
 refine JB D.ex (LB λc f g=>JE λgd a _=>?_);exact λt h e=>k _ _ e (aL e gd λz=>nomatch z) (aL e a λz=>nomatch z)
structure Far(zs hs:A2)(x:Dd):Prop where
 ok:x.Ok
 nm:∀q∈bQ x,q.1∈zs
 ho:∀p∈uB x,p.1∈hs
inductive xZ(vs:A1)(H:Hp)(Q:VK)(E_:XK):Prop
 | mk(d b l lh:TD)(zs hs:A2):vs=[.ref d,.ref l,.ref lh]->Dk H d b->H l=!(.lst<|zs.map V.str)->l≠d->l≠b->Vr zs->H lh=!(.lst<|hs.map V.str)->lh≠d->lh≠b->hs.length=2->hs.Nodup->(∀z∈hs,isNm z)->(∀(t:TD)(x:Dd) H',Far zs hs x->H' t=!.tup x.vs->Dk H' d b->Kp d b H H'->Q (.ref t) H')->xZ vs H Q E_
def Ob(T:Txt K mg)(N:Callee^1 "_law_draw" CV jY)(HM:Callee^2 "_law_amount" cc xY)(D:KY K mg "_law_deed" lV gA):Callee^3 "_law_deed" gA xZ:=by
 refine D.gg dR λa6 cdv a7 outer s a3 vs a8 a9 L a4=>?_
 .obtain⟨d,b,b2,lh,a,hs,rfl,dk,gl,nd,nb,hz,gh,DB,O9,hh2,hhn,YN,q⟩:=a4;revert hz;refine KJ λuo u h2 h20=>?_;have m:(a.map V.str).length=a.length:=aV ..;obtain⟨h,g1,rfl⟩:∃h g1,hs=[h,g1]:=by
   match hs,hh2 with
   | [h,g1],_=>exact#[h,g1,rfl]
  have ng:h≠g1:=by simpa using hhn
  have YO:=YN h Zs;have NV:=YN g1 Zs;exists _,(!"`3 ~dG~O%0~$%ps1#!J#!!<:`4 ~dd1~JHH3',G~O%0|/~$%ps1#!J',#!!<,~$%ps1#!J,B:`5 ~dG~O%0'#!!<:`6 ~d`HM ~O%0#!<:`7 ~d)d13B6#!!!+)d13B6#!!!+)d13B46#!!!!+#!!!Z:`7 ~d}7)d25Bd13B6#!!!!+)d25Bd13B6#!!!!+#!!Z,:d}7)d25Bd2|/'5,Bd13B6#!!!!!+#!Z,G~O%0'#!!<B(&$$$$$$");refine#[_,.inl<|JX gl,d,b,_,rfl,dk,by rw[m];omega,by rw[m];omega,λr1 H1 a0 a1 D1 k1=>?_];rw[m]at a1;dsimp only [aI];have PL:=k1 _ _ gl nd nb;refine#[_,.inl<|JX PL,d,b,_,rfl,D1,by rw[m];omega,by rw[m];omega,λv H2 b0 b1 D2 k2=>?_];rw[m]at b1;have DF:=k2 _ _ PL nd nb;refine#[_,.inl<|JX DF,by rw[m];omega,?_];rw[m];obtain⟨i,rfl⟩:=c8 a0;have hi:i<a.length:=by omega
  have ho0:0<=(((i:Int)+1+v)%(a.length:Int)):=Int.emod_nonneg _ Zo;have HH:(((i:Int)+1+v)%(a.length:Int))<a.length:=Int.emod_lt_of_pos _ Zo;have hon:(((i:Int)+1+v)%(a.length:Int))≠(i:Int):=by
   by_cases A3:(i:Int)+1+v<a.length
   .rw[Int.emod_eq_of_lt Zo A3];omega
   have:((i:Int)+1+v)%(a.length:Int)=(i:Int)+1+v-a.length:=by
    rw[<- Int.sub_emod_right,Int.emod_eq_of_lt Zo Zo]
   rw[this];omega
  obtain⟨o,ho⟩:=c8 ho0;have hoe:((i:Int)+1+v)%(a.length:Int)=((o:Nat):Int):=ho;dsimp only;rw[hoe];have T4:o<a.length:=by omega
  have hio:i≠o:=by omega
  have z:pI (a.map V.str) (i:Int)=!.str a[i]:=eW (by rw[eJ,hX hi];rfl);have ao:pI (a.map V.str) (o:Int)=!.str a[o]:=eW (by rw[eJ,hX T4];rfl);have r:=getElem_mem hi;have mo:=getElem_mem T4;have nio:a[i]≠a[o]:=λa5=>hio (Tm uo (by rw[hX hi]) (by rw[hX T4,a5]))
  exists _,JX DF,_,ao;refine#[d,b,2,rfl,D2,Zd,Zd,λO H3 c0 c1 D3 k3=>?_];refine#[d,b,rfl,D3,λn H4 A B D4 k4=>?_];dsimp only [aI];have W:=((k1.trans k2).trans k3).trans k4;have C:=W _ _ gl nd nb;have Q:=W _ _ gh DB O9;obtain⟨t,E,X,hgb,nab,ma,mb,Y,hnb⟩:∃t E:Str,pI ([h,g1].map V.str) O=!.str t/\pI ([h,g1].map V.str) (1-O)=!.str E/\t≠E/\t∈[h,g1]/\E∈[h,g1]/\isNm t/\isNm E:=by
   have:O=0∨O=1:=by omega
   rcases this with rfl|rfl
   .exact#[h,g1,rfl,rfl,ng,Zs,Zs,YO,NV]
   exact#[g1,h,rfl,rfl,ng.symm,Zs,Zs,NV,YO]
  refine#[_,JX C,_,z,bK rfl,λe H5 s5 e1=>#[_,JX<|s5 _ _ C,_,z,bK rfl,λf H6 s6 e2=>#[_,JX<|s6 _ _<|s5 _ _ C,_,z,bK rfl,λg H7 s7 e3=>#[uR rfl,λp c=>?_]]]];have NO:=(s5.trans s6).trans s7;dsimp only [aI];have F:=NO.trans<|aF (o:=.lst [.ref e,.ref f,.ref g]) c;have e1':=(s6.trans s7).trans (aF (o:=.lst [.ref e,.ref f,.ref g]) c) _ _ e1;have e2':=s7.trans (aF (o:=.lst [.ref e,.ref f,.ref g]) c) _ _ e2;have e3':=aF (o:=.lst [.ref e,.ref f,.ref g]) c _ _ e3;have gp:(aH H7 p<|.lst [.ref e,.ref f,.ref g]) p=!.lst [.ref e,.ref f,.ref g]:=aA;generalize aH H7 p (.lst [.ref e,.ref f,.ref g])=H8 at F e1' e2' e3' gp ⊢;refine#[_,JX<|F _ _ Q,_,X,_,JX<|F _ _ C,_,z,bK rfl,λj H9 S e4=>#[_,JX<|S _ _<|F _ _ Q,_,X,_,JX<|S _ _<|F _ _ C,_,z,bK rfl,λk PK FZ e5=>#[uR rfl,λp2 uk=>#[_,_,aF uk _ _<|FZ _ _<|S _ _ gp,aA,uR rfl,λp3 HE=>?_]]]];dsimp only [aI];have U:=(aF (o:=.lst [.ref j,.ref k]) uk).trans<|aF (o:=.lst ([.ref e,.ref f,.ref g]++[.ref j,.ref k])) HE;have YR:(aH (aH PK p2<|.lst [.ref j,.ref k]) p3<|.lst<|[.ref e,.ref f,.ref g]++[.ref j,.ref k]) p3=!(.lst<|[.ref e,.ref f,.ref g]++[.ref j,.ref k]):=aA;generalize aH (aH PK p2<|.lst [.ref j,.ref k]) p3 (.lst<|[.ref e,.ref f,.ref g]++[.ref j,.ref k])=H11 at U YR ⊢;have UQ:=(S.trans FZ).trans U;have M:=F.trans UQ;refine#[_,JX<|M _ _ Q,_,X,_,JX<|M _ _ Q,_,hgb,_,JX<|M _ _ C,_,z,bK rfl,λl H12 QQ e6=>#[uR rfl,λp4 JM=>#[_,_,aF JM _ _<|QQ _ _ YR,aA,uR rfl,λp5 XH=>?_]]];have x:=(aF (o:=.lst [.ref l]) JM).trans<|aF (o:=.lst ([.ref e,.ref f,.ref g]++[.ref j,.ref k]++[.ref l])) XH;have YS:(aH (aH H12 p4<|.lst [.ref l]) p5<|.lst<|[.ref e,.ref f,.ref g]++[.ref j,.ref k]++[.ref l]) p5=!(.lst<|[.ref e,.ref f,.ref g]++[.ref j,.ref k]++[.ref l]):=aA;have D12:=D4.same<|M.trans QQ;have np5:=(D12.new (o:=.lst [.ref l]) JM).ne XH;generalize aH (aH H12 p4<|.lst [.ref l]) p5 (.lst<|[.ref e,.ref f,.ref g]++[.ref j,.ref k]++[.ref l])=H13 at x YS ⊢;have D13:=D12.same x;refine#[d,b,6,rfl,D13,Zd,Zd,λr5 y f0 f1 G Z=>?_];have H:=Z _ _ YS np5.1 np5.2;have I:Kp d b a3 y:=((W.trans<|aAk<|(M.trans QQ).trans x)).trans Z;have tk:=aEj D13 Z;have one:∀(a2:Int)(q:Str×Int),q∈[(a[i],a2)]->q.1∈a:=λa2 q J=>by rw[LV.mp J];exact r
  have HN:=(UQ.trans QQ).trans x;rcases six f0 f1 with rfl|rfl|rfl|rfl|rfl|rfl
  .exact#[_,JX H,_,rfl,q e (.add a[i] n) y #[#[u _ r,A,B],one _,λp c=>nomatch c] (tk _ _<|HN _ _ e1') G I]
  .exact#[_,JX H,_,rfl,q f (.take a[i] n) y #[#[u _ r,A,B],one _,λp c=>nomatch c] (tk _ _<|HN _ _ e2') G I]
  .refine#[_,JX H,_,rfl,q g (.move a[i] a[o] n) y #[#[u _ r,u _ mo,nio,A,B],λq J=>?_,λp c=>nomatch c] (tk _ _<|HN _ _ e3') G I];simp only [bQ,mem_cons,GH,or_false]at J;rcases J with rfl|rfl
   .exact r
   exact mo
  .exact#[_,JX H,_,rfl,q j (.send t a[i] n) y #[#[Y,u _ r,A,B],one _,λp c=>by rw[LV.mp c];exact ma] (tk _ _<|((FZ.trans U).trans QQ).trans x _ _ e4) G I]
  .exact#[_,JX H,_,rfl,q k (.fetch t a[i] n) y #[#[Y,u _ r,A,B],one _,λp c=>by rw[LV.mp c];exact ma] (tk _ _<|(U.trans QQ).trans x _ _ e5) G I]
  refine#[_,JX H,_,rfl,q l (.pass t E a[i] n) y #[#[Y,hnb,u _ r,nab,A,B],(λq J=>nomatch J),λp c=>?_] (tk _ _<|x _ _ e6) G I];simp only [uB,mem_cons,GH,or_false]at c;rcases c with rfl|rfl
  .exact ma
  exact mb
def Km(h:Dk H d b)(a:∀o,H d=!o->H' d=!o)(c:∀o,H b=!o->H' b=!o):Dk H' d b:=by
 refine JB h.ex (LB λe f k=>JE λg i j=>?_);exact#[e,f,k,a _ g,c _ i,j]
def vF(h:Dk H d b)(e:x=d∨x=b):H x≠none:=by
 refine JB h.ex (LB λf g k=>JE λa c i=>?_);rcases e with rfl|rfl
 .rw[a];exact λz=>nomatch z
 rw[c];exact λz=>nomatch z
structure LW(c:CK)(H:Hp)(d b:TD)(X:DL)(a:DA)(s:DS)(nm:A2)(qs:DD)(lf tu:Nat)(C:BR)(as:BZ)(K0 we T:DE)(fb:Str->Nat)(wr:DM):Prop where
 dk:Dk H d b
 ow:Own H X
 nt:∀q∈X,∀xs,q.2≠.tup xs
 od:d∉X.map (·.1)/\b∉X.map (·.1)
 out:∀q∈d::b::X.map (·.1),q∉a.fix++s.runs.map (·.p)
 ki:KI c H a s nm qs lf tu C as K0 we T fb wr
section
variable {c:CK}{d b:TD}{X:DL}{a a':DA}{s s':DS}{nm:A2}{qs:DD}{lf tu tu':Nat}{C C':BR}{as as':BZ}{K0 we T YT we' T':DE}{fb YU:Str->Nat}{wr wr':DM}
def LW.same(h:LW c H d b X a s nm qs lf tu C as K0 we T fb wr)(k:I7 H H'):LW c H' d b X a s nm qs lf tu C as K0 we T fb wr:=#[h.dk.same k,h.ow.same k,h.nt,h.od,h.out,h.ki.same k]
def LW.draw(h:LW c H d b X a s nm qs lf tu C as K0 we T fb wr)(D:Dk H' d b)(k:Kp d b H H'):LW c H' d b X a s nm qs lf tu C as K0 we T fb wr:=
 #[D,#[h.ow.1,λq g=>k _ _ (h.ow.2 q g) (λz=>h.od.1 (by rw[<- z];exact mem_map_of_mem (f:=(·.1)) g)) λz=>h.od.2 (by rw[<- z];exact mem_map_of_mem (f:=(·.1)) g)],h.nt,h.od,h.out,h.ki.keep (λq o e i=>k _ _ e (λz=>h.out d Zs<|z▸i) λz=>h.out b Zs<|z▸i)<|Kp.tk h.dk k]
def LW.step(h:LW c H d b X a s nm qs lf tu C as K0 we T fb wr)(i:∀x∈a'.fix++s'.runs.map (·.p),x∈a.fix++s.runs.map (·.p)∨H x=none)(fr:∀x o,H x=!o->x∉a.fix++s.runs.map (·.p)->H' x=!o)(k:KI c H' a' s' nm qs lf tu' C' as' YT we' T' YU wr'):LW c H' d b X a' s' nm qs lf tu' C' as' YT we' T' YU wr':=by
 have o:∀q∈X,q.1∈d::b::X.map (·.1):=λq g=>cR _ (cR _<|mem_map_of_mem (f:=(·.1)) g)
 refine#[Km h.dk (λo e=>fr d o e<|h.out d Zs) λo e=>fr b o e<|h.out b Zs,#[h.ow.1,λq g=>fr _ _ (h.ow.2 q g)<|h.out _<|o q g],h.nt,h.od,λq g m=>?_,k];rcases i q m with m|m
 .exact h.out q g m
 rcases mem_cons.mp g with e|g
 .exact vF h.dk (.inl e) m
 rcases mem_cons.mp g with e|g
 .exact vF h.dk (.inr e) m
 obtain⟨p,j,rfl⟩:=LA.mp g;rw[h.ow.2 p j]at m;cases m
def LW.mv(h:LW c H d b X a s nm qs lf tu C as K0 we T fb wr)(m:Mv a s f H H')(k:KI c H' a s' nm qs lf tu' C' as' YT we' T' YU wr')(e:s'.runs=f.runs:=by rfl):LW c H' d b X a s' nm qs lf tu' C' as' YT we' T' YU wr':=
 h.step (λx g=>(MN.mp g).elim (λz=>.inl<|IN _ z) λz=>by rw[e]at z;obtain⟨r,i,rfl⟩:=LA.mp z;exact(m.nw r i).imp (GJ _) id) m.fr k
def LW.tk(h:LW c H d b X a s nm qs lf tu C as K0 we T fb wr)(m:Mv a s s' H H'):TK H H':=m.tk h.ki.dat
def LW.add(h:LW c H d b X a s nm qs lf tu C as K0 we T fb wr)(g:H p=none)(i:∀xs,o≠.tup xs):LW c (aH H p o) d b ((p,o)::X) a s nm qs lf tu C as K0 we T fb wr:=by
 have k:=aF (o:=o) g;refine#[h.dk.same k,h.ow.new g,λq f=>?_,#[λm=>?_,λm=>?_],λq f=>?_,h.ki.same k]
 .rcases mem_cons.mp f with rfl|f
  .exact i
  exact h.nt q f
 .rcases mem_cons.mp m with e|m
  .exact vF h.dk (.inl e.symm) g
  exact h.od.1 m
 .rcases mem_cons.mp m with e|m
  .exact vF h.dk (.inr e.symm) g
  exact h.od.2 m
 rcases mem_cons.mp f with e|f
 .exact h.out q (by rw[e];simp)
 rcases mem_cons.mp f with e|f
 .exact h.out q (by rw[e];simp)
 rcases mem_cons.mp f with e|f
 .rw[e];exact h.ki.dat.fresh g
 exact h.out q (by simp[f])
def LW.take(h:LW c H d b X a s nm qs lf tu C as K0 we T fb wr)(f:H p=none)(k:I7 H H')(g:H' p=!o)(i:∀xs,o≠.tup xs):LW c H' d b ((p,o)::X) a s nm qs lf tu C as K0 we T fb wr:=by
 have j:=h.add f i;refine(show LW c (aH H p o) d b ((p,o)::X) a s nm qs lf tu C as K0 we T fb wr from j).same λq u e=>?_;by_cases z:q=p
 .rw[z]at e ⊢;rw[aA]at e;cases e;exact g
 rw[aD z]at e;exact k _ _ e
def LW.put(h:LW c H d b X a s nm qs lf tu C as K0 we T fb wr)(i:Nat)(e:X[i]?=!(p,o))(o':HO)(r:∀xs,o'≠.tup xs):LW c (aH H p o') d b (X.set i (p,o')) a s nm qs lf tu C as K0 we T fb wr:=by
 have l:=kI e;have g:p∈X.map (·.1):=mem_map_of_mem (f:=(·.1)) l;have n:(X.set i (p,o')).map (·.1)=X.map (·.1):=by
  rw[map_set];obtain⟨v,t⟩:=NJ.mp e;apply ext_getElem Zs;intro j x y;rw[getElem_set];split
  .rename_i z;subst z;simp[t]
  rfl
 have nd:p≠d:=λz=>h.od.1 (z▸g)
 have nb:p≠b:=λz=>h.od.2 (z▸g)
 refine#[Km h.dk (λo e=>by rw[aD nd.symm];exact e) (λo e=>by rw[aD nb.symm];exact e),h.ow.set i e o',λq k=>?_,by rw[n];exact h.od,by rw[n];exact h.out,h.ki.keep (λq u e k=>by rw[aD (λz:q=p=>h.out p (cR _<|cR _ g)<|z▸k)];exact e)<|iB (h.ow.get i e)<|h.nt _ l];rcases mem_or_eq_of_mem_set k with m|m
 .exact h.nt q m
 rw[m];exact r
def LW.less(h:LW c H d b X a s nm qs lf tu C as K0 we T fb wr){i:DL}(g:i.Sublist X):LW c H d b i a s nm qs lf tu C as K0 we T fb wr:=
 #[h.dk,h.ow.sub g,λq f=>h.nt q<|g.subset f,#[λm=>h.od.1<|(g.map _).subset m,λm=>h.od.2<|(g.map _).subset m],λq f=>h.out q (by
  rcases mem_cons.mp f with e|f
  .rw[e];simp
  .rcases mem_cons.mp f with e|f
   .rw[e];simp
   .exact cR _<|cR _<|(g.map _).subset f),h.ki]
end
def lE(h:xs.length≠ys.length):cO xs ys=false:=by
 unfold cO;rw[show(xs.length==ys.length)=false by simpa using h,Bool.and_false]
def Vs{m n:Nat}(h:m≠n):cO [.str "asked",.int (m:Int)] [.str "asked",.int (n:Int)]=false:=by
 cases e:cO [.str "asked",.int (m:Int)] [.str "asked",.int (n:Int)]with
 | false=>rfl
 | true=>
  have a:(([0,1]:DO).all λj=>Dc (([.str "asked",.int (m:Int)]:A1).getD j .non)<|([.str "asked",.int (n:Int)]:A1).getD j .non)&&true=true:=e;simp[Dc]at a;omega
def Oc{n:Nat}(h:RX.At H a r)(l:r≠.asked n):∃xs,H a=!.tup xs/\cZ xs [.str "asked",.int (n:Int)]/\cO xs [.str "asked",.int (n:Int)]=false:=by
 have g:∀ {u v:V}{xs:A1},eM u=true->eM v=true->cZ (u::v::xs) [.str "asked",.int (n:Int)]:=λ{u v xs} d o j x y i f=>by
  match j,i,f with
  | 0,i,f=>cases i;cases f;exact#[d,rfl]
  | 1,i,f=>cases i;cases f;exact#[o,rfl]
  | j+2,i,f=>cases f
 cases r with
 | next m t=>exact#[_,h,g rfl rfl,lE Zs]
 | has z m=>exact#[_,h,g rfl rfl,lE Zs]
 | kept m t p k x y=>revert h;refine JR λb c=>JW λd _=>?_;exact#[_,d,g rfl rfl,lE Zs]
 | came m t p k x=>obtain⟨b,d,_⟩:=h;exact#[_,d,g rfl rfl,lE Zs]
 | asked m=>exact#[_,h,g rfl rfl,Vs λe=>l (by rw[e])]
 | done m t y=>obtain⟨b,d,_⟩:=h;exact#[_,d,g rfl rfl,lE Zs]
def KI.notSafe{c:CK}{H H':Hp}{a:DA}{s:DS}{nm:A2}{qs:DD}{p q:Nat}{C:BR}{as:BZ}{u v T:DE}{y:Str->Nat}{A:DM}(h:KI c H a s nm qs p q C as u v T y A){n:Nat}(B:.asked n∉C)(t:TK H H'){f:DS}{ls:A1}(D:f.rows=s.rows++ls)(E:f.safe=s.safe):NA H' f n:=by
 refine JB h.nw (JR λb O=>JE λg F _=>?_);have o:b=(as.take b.length).map V.ref:=by
  have G:s.rows.take b.length=(as.take b.length).map V.ref:=by rw[h.rw,map_take]
  rw[<- G,g,List.take_left]
 have Q:b.length<=as.length:=by
  have:=congrArg length g;rw[h.rw]at this;simp at this;omega
 obtain⟨j,i⟩:=jB (R:=λ(x:TD) (z:TD×A1)=>z.1=x/\H x=!.tup z.2/\cZ z.2 [.str "asked",.int (n:Int)]/\cO z.2 [.str "asked",.int (n:Int)]=false) (xs:=as.take b.length) λx I=>by
  obtain⟨r,J,L⟩:=Mz h.at6<|mem_of_mem_take I;refine JB (Oc (n:=n) L λe=>B (e▸J)) (JU λxs=>JE λg1 g2 g3=>?_)
  exact#[(x,xs),rfl,g1,g2,g3]
 have M:(as.take b.length).map V.ref=j.map λz=>V.ref z.1:=UO i λx z d=>by rw[d.1]
 exists b.length,j,E.trans F,by rw[D,g,append_assoc,List.take_left,<- M];exact o,λz d=>?_
 .refine JB (Mz i d) (JU λx=>MJ λ_ k l m _=>?_);rw[k];exact#[t _ _ l,m]
 unfold wN;rw[any_eq_false];intro z d;refine JB (Mz i d) (JU λx=>MJ λ_ k l m N=>?_);rw[N];exact WP
def NA.tk{s:DS}{n:Nat}(h:NA H s n)(t:TK H H'):NA H' s n:=let #[k,c,d,e,a,f]:=h.ex;#[k,c,d,e,λz b=>#[t _ _ (a z b).1,(a z b).2],f]
section
variable {c:CK}{G:Hp}{d b:TD}{X:DL}{a:DA}{s:DS}{nm:A2}{qs:DD}{lf tu:Nat}{C:BR}{as:BZ}{K0 we T:DE}{fb:Str->Nat}{wr:DM}{Q:VK}{E:XK}
def LW.come(L:LW c G d b X a s nm qs lf tu C as K0 we T fb wr)(hn:s.next<=60){i:Nat}(z:tu<=i){dd:TD}(M:isNm q.1)(N:RA q.2)(O:q∈qs)(A:x.Ok)(H:∀p∈bQ x,p.1∈nm)(I:∀p∈uB x,∃v,bA s.hs (Sum.inr p.1)=!v)(B:G dd=!.tup x.vs)(k:∀t g C' as' j,LW c j d b X a g nm qs lf i C' as' K0 we T fb wr->g.hs=s.hs->g.safe=s.safe->((∃wd xs,j t=!.tup (.str wd::xs)/\wd≠"begun"/\g.next=s.next)∨(j t=!.tup [.str "begun",.int (s.next:Int)]/\g.next=s.next+1))->Q (.ref t) j):rH c [.ref a.dr,.int (i:Int),.str q.1,.str q.2,.ref dd] G Q E:=by
 have HJ:=L.ki.rle;have hln:=L.ki.len;have hrw:=L.ki.rl;have E7:=L.ki.l2;have hL:=L.ki.hL;have m:∃l:Dd,∀e,s.m q=!e->G (KE.dd e)=!.tup l.vs:=by
  cases D:s.m q with
  | none=>exact#[x,λe h=>nomatch h]
  | some e=>
   cases e with
   | busy n R=>
    obtain⟨r,S,_,U⟩:=L.ki.mo _ _ _ D;exact#[r.x,λe h=>by cases h;rw[<- U];exact L.ki.dat.dd r S]
   | kept n t' R a1=>
    refine JB (L.ki.mkp _ _ _ _ _ D) (JU λe=>MI λ_ _ _ _ a0 _=>?_);exact#[e.2.2.2.2.1,λe' h=>by cases h;exact a0]
 obtain⟨l,m⟩:=m;refine#[a,s,(i:Int),q,dd,x,l,rfl,L.ki.dat,M,N,A,I,B,Zo,L.ki.rlt,Zo,Zo,by rw[L.ki.turn];omega,m,λe he F t o u f y=>?_,λF t p dx ra o u f W y=>?_]
 .have J:∀b:Bool,∃wd xs,Uw b e=V.str wd::xs/\wd≠"begun":=λb=>by
   cases e<;>cases b
   .exact#["other",_,rfl,Zk]
   .exact#["busy",_,rfl,Zk]
   .exact#["other",_,rfl,Zk]
   exact#["kept",_,rfl,Zk]
  obtain⟨wd,xs,Y,Z⟩:=J<|cO l.vs x.vs;exact k t _ C as o (L.mv f<|L.ki.told z u<|L.tk f) rfl rfl<|.inl #[wd,xs,by rw[y,Y],Z,rfl]
 exact k t _ _ _ o (L.mv f<|L.ki.begun z O A H F (L.tk f) u W<|L.tk f _ _ B) rfl rfl<|.inr #[y,rfl]
end
def si{z w:Str}(c:eM x=true)(d:eM y=true):cZ [.str z,x] [.str w,y]:=λj u v a b=>by
 match j,a,b with
 | 0,a,b=>cases a;cases b;exact#[rfl,rfl]
 | 1,a,b=>cases a;cases b;exact#[c,d]
def j1{t:TS}(h:∀D:L2.iE,(∀ b H',a.nx b H'->D.nx b H')->t D c H):t a c H:=h a λ_ _ z=>z
def tO(t n:Nat):DI:=[(Sum.inr "turn",.int (t:Int)),(Sum.inr "next",.int (n:Int))]
def yA{n m:Nat}(g:G a=!(.dK<|tO n m)):LP G a (.str "turn") (!.int (n:Int)):=LP.k (k:=Sum.inr ("turn":Str)) g
def Vt{n m:Nat}(g:G a=!(.dK<|tO n m)):LP G a (.str "next") (!.int (m:Int)):=LP.k (k:=Sum.inr ("next":Str)) g
def kS(i:Nat):Str:=("k":Str)++Lq i
def aEk{i:Nat}(h:i<4):RA (kS i):=by
 have:i=0∨i=1∨i=2∨i=3:=by omega
 rcases this with rfl|rfl|rfl|rfl<;>exact#[Zk,Zk,Zk]
inductive Cs(c:CK)(vs:A1)(H:Hp)(Q:VK)(E_:XK):Prop
 | mk(d b sd ln lh:TD)(Y:DL)(zs hs nm:A2)(a:DA)(s:DS)(qs:DD)(lf tu tt:Nat)(C:BR)(as:BZ)(K0 we T:DE)(fb:Str->Nat)(wr:DM):vs=[.ref d,.ref a.dr,.ref sd,.ref ln,.ref lh]->LW c H d b ((sd,.dK<|tO tt s.next)::(ln,.lst<|zs.map V.str)::(lh,.lst<|hs.map V.str)::Y) a s nm qs lf tu C as K0 we T fb wr->tu<=tt->Vr zs->(∀z∈zs,z∈nm)->hs.length=2->hs.Nodup->(∀z∈hs,isNm z)->((∀z∈zs,∀i,i<4->(z,kS i)∈qs))->(∀g∈hs,∃v,bA s.hs (Sum.inr g)=!v)->s.next+8<=60->(∀s' tu' C' as' we' wr' H',LW c H' d b ((sd,.dK<|tO tt s'.next)::(ln,.lst<|zs.map V.str)::(lh,.lst<|hs.map V.str)::Y) a s' nm qs lf tu' C' as' K0 we' T fb wr'->tu'<=tt->s'.next<=s.next+8->s'.hs=s.hs->Q (.bl true) H')->Cs c vs H Q E_
def Ij(T:Txt K mg)(c5:Callee^1 "_law_draw" CV jY)(NX:Callee^3 "_law_deed" gA xZ)(U3:bP^5 c.D "come" aW (rH c))(f7:bP^2 c.D "under" EX (oZ c))(z9:Ss^5 c.D "work" ai [.str ("through":Str)] (Ig c))(D:KY K mg "_law_steps" jX gG):Callee^6 "_law_steps" gG (Cs c):=by
 refine D.gg cW λa9 cdv b2 outer s0 b3 vs b4 b5 C a7=>?_
 .obtain⟨d,b,n,p,r,a2,l,Y,nm,a,s,Z,lf,tu,u,a8,as,K0,we,TT,fb,wr,rfl,a6,hle,KS,hzn,hh2,hhn,YN,PD,hhv,h60,q⟩:=a7;have j7:=dN C;have T1:=C.units;have zb:LO 5 _:=C;exists _,(!"V%%|IH'm.%0'#!!<,#!|R`5 ~et`6 ~ed3m.%0~$%ps3#!J#!!<B:`7 ~e|])`R.ko %|K|hm.%0'#!!<#!~A,:`8 ~e`U3 .1c2)T67`NX .%034#!!!<#!!!!D:L-`8 >)=|p{R.fw1 8)c2)T#!!+=k(&;/Hc2)T',2)c~@~+~*&$;/V%~}.1Au`9 ~etV%%|I~Um.%0'#!!<`R.jh %|L|i|a-`9 >))#!!+~)#!~A,#!|R`10 ~et`z9 `zb 1-`9 >#!{R.iz4 E&W&W&$$$$Wk(&$");refine#[d,b,8,rfl,a6.dk,Zd,Zd,λr1 H1 a0 a1 D1 k1=>#[_,rfl,Zo,Zo,?_]];have L1:=a6.draw D1 k1;refine bT (iX 0 (1+r1).toNat) (λi B G=>(∃o5 o6 o7 o8 M v,B=[!.ref d,!.ref a.dr,!.ref n,!.ref p,!.ref r,o5,o6,o7,o8,M,v])/\∃s' tu' C' as' we' wr',LW c G d b ((n,.dK<|tO u s'.next)::(p,.lst<|l.map V.str)::(r,.lst<|Y.map V.str)::a2) a s' nm Z lf tu' C' as' K0 we' TT fb wr'/\tu'<=u/\s'.next<=s.next+i/\s'.hs=s.hs) (λ_ _ _ _=>trivial)
   #[#[_,_,_,_,_,_,rfl],s,tu,a8,as,we,wr,L1,hle,bD _,rfl] ?_ (λB G=>JW λ_=>RG λs' tu' C' as' we' wr'=>KJ λL' e1 e2 e3=>q s' tu' C' as' we' wr' G L' e1 (by rw[lZ]at e2;omega) e3)
  refine λi a4 B G hx=>JW λζ=>RG λE tu1 C1 YV we1 wr1=>KJ λL2 e1 e2 e3=>?_;obtain⟨o5,o6,o7,o8,M,v,rfl⟩:=ζ;obtain⟨rfl,hi⟩:=wR hx;dsimp only [aI];refine j1 λD hD=>?_
  revert KS;refine KJ λuo Z0 h2 h20=>?_;have el:(l.map V.str).length=l.length:=aV ..;refine#[_,.inl<|JX<|L2.ow.get 1 rfl,d,b,_,rfl,L2.dk,by rw[el];omega,by rw[el];omega,λr2 H2 b0 b1 D2 k2=>?_];have L3:=L2.draw D2 k2;obtain⟨j,rfl⟩:=c8 b0;have hj:j<l.length:=by rw[el]at b1;omega
  exists _,JX<|L3.ow.get 1 rfl,.str l[j],eW (by rw[eJ,hX hj];rfl);refine#[d,b,4,rfl,L3.dk,Zd,Zd,λr3 H3 c0 c1 D3 k3=>?_];obtain⟨F,rfl⟩:=c8 c0;have H:=L3.draw D3 k3;dsimp only [aI];exists #[Zo,Zo];exists gK (Nat.add_le_add_left (Xw (m:=F) (k:=1) Zo) _) Zk;have MD:=getElem_mem hj;have hq:(l[j],kS F)∈Z:=PD _ MD F Zo;have bH':E.next<=60:=by omega
  refine cY (λσ' y=>∃(t:TD)(f:DS)(C2:BR)(FN:BZ),σ'=([!.ref d,!.ref a.dr,!.ref n,!.ref p,!.ref r,!.int (i:Int),!.str l[j],!(.str<|kS F),!.ref t,M,v]:St)/\LW c y d b ((n,.dK<|tO u E.next)::(p,.lst<|l.map V.str)::(r,.lst<|Y.map V.str)::a2) a f nm Z lf u C2 FN K0 we1 TT fb wr1/\f.hs=E.hs/\((∃wd xs,y t=!.tup (.str wd::xs)/\wd≠"begun"/\f.next=E.next)∨(y t=!.tup [.str "begun",.int (E.next:Int)]/\f.next=E.next+1))) (λnx z8=>?_) ?_
  .have nel:p≠d/\p≠b:=#[λe=>H.od.1 (by simp[e]),λe=>H.od.2 (by simp[e])];have neh:r≠d/\r≠b:=#[λe=>H.od.1 (by simp[e]),λe=>H.od.2 (by simp[e])];refine#[_,_,H.ki.dat.dr,by kernel_rfl,n,_,rfl,yA<|H.ow.get 0 rfl,d,b,p,r,l,Y,rfl,H.dk,H.ow.get 1 rfl,nel.1,nel.2,#[uo,Z0,h2,h20],H.ow.get 2 rfl,neh.1,neh.2,hh2,hhn,YN,λdd a4 G5 hx5 PX D5 k5=>?_];dsimp only [iF];exact(H.draw D5 k5).come (q:=(l[j],kS F)) bH' Zo (Z0 _ MD) (aEk Zo) hq hx5.ok (λa5 hp=>hzn _<|hx5.nm a5 hp) (λa5 hp=>by rw[e3];exact hhv _<|hx5.ho a5 hp) PX λt f C2 FN G6 L6 h6 _ hc=>z8 _ _ #[t,f,C2,FN,rfl,L6,h6,hc]
  refine λ_ G6=>NF λt f C2 FN=>KJ λζ L6 e4 hc=>?_;subst ζ;refine cY (λσ' y=>σ'=([!.ref d,!.ref a.dr,!.ref n,!.ref p,!.ref r,!.int (i:Int),!.str l[j],!(.str<|kS F),!.ref t,M,v]:St)/\LW c y d b ((n,.dK<|tO u f.next)::(p,.lst<|l.map V.str)::(r,.lst<|Y.map V.str)::a2) a f nm Z lf u C2 FN K0 we1 TT fb wr1) (λnx z8=>?_) ?_
  .rcases hc with⟨wd,xs,gt,d8,I⟩|⟨gt,I⟩
   .exists _,JV gt,.str wd,eW (show(V.str wd::xs)[0]?=some _ from rfl);show if decide (wd="begun")=true then _ else _
    refine Dp (T0 d8)<|z8 _ _ #[rfl,?_];rw[I];exact L6
   exists _,JV gt,_,rfl;refine#[n,_,rfl,Vt<|L6.ow.get 0 rfl,bK rfl,λt2 G7 s7 g7=>?_];have N:=L6.same s7;have fl:cZ [.str "begun",.int (E.next:Int)] [.str "begun",.int (E.next:Int)]:=si rfl rfl;exists _,_,s7 _ _ gt,g7,fl;rw[wM fl];refine#[n,_,rfl,Vt<|N.ow.get 0 rfl,n,_,rfl,NZ.k (k:=Sum.inr "next") (N.ow.get 0 rfl) (by show 2<_;decide),z8 _ _ #[rfl,?_]];rw[show cB (tO u E.next) (Sum.inr "next") (.int<|(E.next:Int)+1)=tO u f.next by rw[I];kernel_rfl];exact N.put 0 rfl (.dK<|tO u f.next) (λ_ z=>nomatch z)
  rintro _ G7 ⟨rfl,N⟩;have HJ:=N.ki.rle;have JF:f.next<=61:=by rcases hc with⟨_,_,_,_,I⟩|⟨_,I⟩<;>omega
  refine#[_,_,N.ki.dat.dr,by kernel_rfl,a,f,rfl,N.ki.dat,Zo,λa3 us G8 fl s8 gl pu=>?_];have L8:=N.take fl s8 gl (λ_ z=>nomatch z);refine#[a3,rfl,#[_,JX gl],bT (aX K a3 us) (λk B G=>∃(M v:EY)(O:DS)(C3:BR)(NY:BZ)(US:DE)(UT L:DM),B=[!.ref d,!.ref a.dr,!.ref n,!.ref p,!.ref r,!.int (i:Int),!.str l[j],!(.str<|kS F),!.ref t,M,v]/\LW c G d b ((a3,.lst us)::(n,.dK<|tO u f.next)::(p,.lst<|l.map V.str)::(r,.lst<|Y.map V.str)::a2) a O nm Z lf u C3 NY K0 US TT fb UT/\O.runs=L++f.runs.drop k/\L.length=k/\O.next=f.next/\O.hs=f.hs/\TK G8 G)
   (λk B G=>RJ λ_ _ _ _ _ _ _ _=>JE λ_ L9 _=>JX<|L9.ow.get 0 rfl) #[_,_,f,C2,FN,we1,wr1,[],rfl,L8,rfl,rfl,rfl,rfl,λ_ _ e=>e] ?_ (λB G=>RJ λM v O C3 NY US UT L=>QZ λe L9 _ _ n9 h9 _=>hD _ _ #[#[_,_,_,_,_,_,e],O,u,C3,NY,US,UT,by rw[n9];exact L9.less<|sublist_cons_self _ _,bD _,by rcases hc with⟨_,_,_,_,I⟩ | ⟨_,I⟩ <;> omega,by rw[h9,e4,e3]])]
  refine λk a4 B G hx=>RJ λM v O C3 NY US UT L=>QZ λζ L9 er ep I eh tk=>?_;subst ζ;obtain⟨hk,ek⟩:=NJ.mp hx;obtain⟨FG,hu⟩:=Paired.get' (j:=k) pu hk;rw[ek]at hu;obtain⟨tr,rfl,MK⟩:=hu;dsimp only [aI];refine j1 λD2 hD2=>?_
  refine#[d,b,3,rfl,L9.dk,Zd,Zd,λr4 G9 f0 f1 D9 k9=>?_];have BV:=L9.draw D9 k9;have UU:=tk.trans<|Kp.tk L9.dk k9;refine#[_,JV<|UU _ _ MK,.str f.runs[k].st,rfl,bK rfl,λtw PY FZ gw=>?_];refine#[tw,_,rfl,.inr<|JV gw,rfl,by simp[eM],?_];have CF:=BV.same FZ;have bJ':=UU.trans<|TK.of FZ;have bnd:-2^62<=r4*(if vL (.str f.runs[k].st) [V.str "new",V.str "held"]=true then 1 else 0)/\r4*(if vL (.str f.runs[k].st) [V.str "new",V.str "held"]=true then 1 else 0)<2^62:=by
   split<;>omega
  exists .inl #[Zo,Zo],_,rfl,bnd.1,bnd.2;have UX:=List.drop_eq_getElem_cons FG;refine bT (iX 0 (r4*(if vL (.str f.runs[k].st) [V.str "new",V.str "held"]=true then 1 else 0)).toNat) (λ_ B y=>∃(v:EY)(o:DS)(Q:BR)(S:BZ)(U:DE)(W:DM)(g:Rn),B=[!.ref d,!.ref a.dr,!.ref n,!.ref p,!.ref r,!.int (i:Int),!.str l[j],!(.str<|kS F),!.ref t,!.ref tr,v]/\LW c y d b ((a3,.lst us)::(n,.dK<|tO u f.next)::(p,.lst<|l.map V.str)::(r,.lst<|Y.map V.str)::a2) a o nm Z lf u Q S K0 U TT fb W/\o.runs=L++g::f.runs.drop (k+1)/\g.n=f.runs[k].n/\(vL (.str f.runs[k].st) [V.str "new",V.str "held"]=true->g.st="new"∨g.st="held"∨g.st="written"∨(g.st="asked"/\NA y o g.n))/\o.next=f.next/\o.hs=f.hs/\TK G8 y) (λ_ _ _ _=>trivial)
   #[_,O,C3,NY,US,UT,f.runs[k],rfl,CF,by rw[er,UX],rfl,λhb=>?_,I,eh,bJ'] ?_ (λB y=>S5 λv o Q S U W g=>UR λe h X _ _ PZ QA DU=>hD2 _ _ #[_,_,o,Q,S,U,W,L++[g],e,h,by rw[X,append_assoc];rfl,by rw[mU,ep];rfl,PZ,QA,DU])
  .have O9:vL (.str f.runs[k].st) ([("new":Str),"held"].map V.str)=true:=hb;rw[Fd,decide_eq_true_iff]at O9;simp only [mem_cons,GH,or_false]at O9;rcases O9 with e|e
   .exact .inl e
   exact .inr (.inl e)
  refine λm a4 B y hx=>S5 λv o Q S U W g=>UR λζ h X DG N8 PZ QA DU=>?_;subst ζ;obtain⟨rfl,hm⟩:=wR hx;have hb:vL (.str f.runs[k].st) [V.str "new",V.str "held"]=true:=by
   cases hb:vL (.str f.runs[k].st) [V.str "new",V.str "held"]with
   | true=>rfl
   | false=>rw[hb]at hm;simp at hm
  have N8:=N8 hb;have y6:g∈o.runs:=by rw[X];simp
  have hr4:=h.ki.rle;have hl4:=h.ki.len;have hw4:=h.ki.rl;dsimp only [aI];refine j1 λD3 QC=>?_
  exists _,_,h.ki.dat.dr,by kernel_rfl,_,JV<|DU _ _ MK,_,rfl,a,o,L,f.runs.drop<|k+1,g,by rw[DG];rfl,h.ki.dat,X,Zo;have fin:∀x,I7 y x->∃(v:EY)(o:DS)(Q:BR)(S:BZ)(U:DE)(W:DM)(g:Rn),[!.ref d,!.ref a.dr,!.ref n,!.ref p,!.ref r,!.int (i:Int),!.str l[j],!(.str<|kS F),!.ref t,!.ref tr,!.int (m:Int)]=[!.ref d,!.ref a.dr,!.ref n,!.ref p,!.ref r,!.int (i:Int),!.str l[j],!(.str<|kS F),!.ref t,!.ref tr,v]/\LW c x d b ((a3,.lst us)::(n,.dK<|tO u f.next)::(p,.lst<|l.map V.str)::(r,.lst<|Y.map V.str)::a2) a o nm Z lf u Q S K0 U TT fb W/\o.runs=L++g::f.runs.drop (k+1)/\g.n=f.runs[k].n/\(vL (.str f.runs[k].st) [V.str "new",V.str "held"]=true->g.st="new"∨g.st="held"∨g.st="written"∨(g.st="asked"/\NA x o g.n))/\o.next=f.next/\o.hs=f.hs/\TK G8 x:=λx J=>
   #[_,o,Q,S,U,W,g,rfl,h.same J,X,DG,λ_=>N8.imp id λz=>z.imp id λz=>z.imp id λz=>#[z.1,z.2.tk<|TK.of J],PZ,QA,DU.trans<|TK.of J]
  rcases N8 with e|e|e|⟨e,ns⟩
  .exact .inl #[e,λ_ _ _ t' x J _=>QC _ _<|fin x J,λhh t' x d' A _=>QC _ _ #[_,_,Q,S,U,W,{g with st:="held" },rfl,h.mv A<|h.ki.held X e hh d'<|h.tk A,rfl,DG,λ_=>.inr<|.inl rfl,PZ,QA,DU.trans<|h.tk A]]
  .refine .inr<|.inl #[e,h.ki.xok g y6,Zo,fb,h.ki.pa,λb6 hy t' ra z x d' A FY gz _=>?_,λhy t' ra x d' A FY _=>?_]
   .exact QC _ _ #[_,_,_,_,_,_,{g with st:="written" },rfl,h.mv A<|h.ki.wrote X e hy d' (h.tk A) FY gz,rfl,DG,λ_=>.inr<|.inr<|.inl rfl,PZ,QA,DU.trans<|h.tk A]
   exact QC _ _ #[_,_,_,_,_,_,{g with st:="asked" },rfl,h.mv A<|h.ki.asked X e hy d' (h.tk A) FY,rfl,DG,λ_=>.inr<|.inr<|.inr #[rfl,h.ki.notSafe (h.ki.noask y6 e) (h.tk A) (ls:=[.ref ra]) rfl rfl],PZ,QA,DU.trans<|h.tk A]
  .exact .inr<|.inr #[.inl e,λt' x J _=>QC _ _<|fin x J]
  exact .inr<|.inr #[.inr #[e,ns],λt' x J _=>QC _ _<|fin x J]
def dJ(a:Nat)(r:Rn):BR:=.came r.n a r.q.1 r.q.2 r.x::(if r.st="asked" then [.asked r.n] else [])
def jJ(n a:Nat)(bk:List (Str×Nat))(es:DE)(rs:DM):BR:=(.next n a::bk.map λp=>.has p.1 p.2)++es.map cT++rs.flatMap (dJ a)
inductive qD(vs:A1)(H:Hp)(Q:VK)(E_:XK):Prop
 | mk(sd lb lk lu:TD)(tt n:Nat)(zs:FO)(bk:List (Str×Nat))(es:DE)(ks:BZ)(rs:DM)(us:A1):vs=[.ref sd,.ref lb,.ref lk,.ref lu,.int (tt:Int)]->H sd=!(.dK<|tO tt n)->H lb=!(.lst<|bM zs)->OS H zs->zs.map (·.2)=bk.map (λp=>(p.1,(p.2:Int)))->H lk=!(.lst<|ks.map V.ref)->Paired (PV H) es ks->H lu=!.lst us->Paired (uN H) rs us->(∀r∈rs,H r.d=!.tup r.x.vs)->zs.length<=64->es.length<=64->rs.length<=64->(∀l as H',I7 H H'->JY H' l (jJ n tt bk es rs) as->Q (.ref l) H')->qD vs H Q E_
def Ff(T:Txt K mg)(D:KY K mg "_law_folded" eB gi):Callee^1 "_law_folded" gi qD:=by
 refine D.gg cA λa5 cdv a6 outer s0 a0 vs a7 a8 hr a2=>?_
 .obtain⟨W,Q,lk,H,c,n,E,bk,R,ks,A,us,rfl,gs,gb,hz,X,gk,QD,gu,pu,hd,z64,e64,r64,a3⟩:=a2;have j7:=dN hr;have T1:=hr.units;exists _,(!"`5 `cA.nd })c0)T4#!!!+#!Z?,:`5 `cA.nd }5?,:V%3u?~'~E~F~I5)64789#!!!!!!+#!yEL`10 |d)=~'~E~F~I5)6#!!+#!yE&;/&$W5(&$$$" (yg rfl (js:=[none,none]) (N:=QZi) (JQ.by (aB eB) la rfl rfl Zk) (Dm<|lG rfl<|lG rfl zF) (xo (K:=K)<|f8 1) λa4 s₂ H₂ I=>#[(BO (K:=K) (n:=2) rfl<|xp (vi (i:=0) (show(QZi:A2).Nodup by decide +kernel))<|xp (vi (i:=1) (show(QZi:A2).Nodup by decide +kernel)) BP),AX,(px<|lc pc<|lc (f8 0)<|lc (f8 1) li)]) (yg rfl (js:=[none]) (N:=["_law_one"]) (JQ.by (aB eB) la rfl rfl Zk) (aR rfl) (xo (K:=K)<|f8 2) λa4 s₂ H₂ I=>#[(vi (i:=0) (show(["_law_one"]:A2).Nodup by decide +kernel)),AX,(pv BJ (px<|lc pc li)<|f8 0)]) (BO (K:=K) (n:=5) rfl (xp (vi (i:=6) cA.nd) (xp (vi (i:=7) cA.nd) (xp (vi (i:=8) cA.nd) (xp (vi (i:=9) cA.nd) (xp (vi (i:=10) cA.nd) BP)))))));refine cY (λσ' G=>∃(p:TD)(a:BZ),σ'=([!.ref W,!.ref Q,!.ref lk,!.ref H,!.int (c:Int),!.ref p,none,none,none,none,none]:St)/\I7 a0 G/\JY G p (.next n c::bk.map λp=>.has p.1 p.2) a) (λnx z8=>?_) ?_
  .have dg:=LP.k (k:=Sum.inr ("next":Str)) gs;refine#[W,.int (n:Int),rfl,dg,bK rfl,λf H1 J g1=>#[uR rfl,λY FR=>?_]];have u:=J.trans<|aF (o:=.lst [.ref f]) FR;have gp1:(aH H1 Y<|.lst [.ref f]) Y=!.lst [.ref f]:=aA;have gt1:=aF (o:=.lst [.ref f]) FR _ _ g1;generalize aH H1 Y (.lst [.ref f])=H2 at u gp1 gt1 ⊢;have zl:(bM E).length=E.length:=aV ..;refine#[Q,rfl,#[_,JX<|u _ _ gb],bB (aX K Q<|bM E) Zo (λj g G=>I7 H2 G/\∃a:BZ,g=a.map V.ref/\Paired (λr a1=>RX.At G a1 r) ((bk.map λp=>RX.has p.1 p.2).take j) a) (λj g G #[d,a,q,h]=>#[JX<|d _ _<|u _ _ gb,by rw[q,aV,<- h.length,mV];omega]) #[I7.refl _,[],rfl,.nil] (?_)<|?_]
   .rintro j x g G B ⟨d,a,q,h⟩;unfold bM at B;rw[eJ]at B;obtain⟨z,JJ,rfl⟩:=Option.map_eq_some_iff.mp B;have e4:(E.map (·.2))[j]?=some z.2:=by rw[eJ,JJ];rfl
    rw[X,eJ]at e4;obtain⟨pp,JH,e5⟩:=Option.map_eq_some_iff.mp e4;have gz:=d _ _<|u _ _<|hz z<|kI JJ;rw[<- e5]at gz;exists z.1,_,rfl,JV gz,rfl,_,_,rfl,_,_,rfl,rfl;refine#[bK rfl,λS Z t g3=>#[d.trans t,a++[S],by rw[q,dL];rfl,?_]];rw[aM (x:=RX.has pp.1 pp.2) (by rw[eJ,JH];rfl)];exact Paired.snoc (Paired.map' (λ_ _ w=>w.tk<|TK.of t) h) g3
   rintro g G ⟨d,a,q,h⟩;intro l2 E7;have hlen:bk.length=E.length:=by have:=congrArg length X;simpa using this.symm
   rw[zl,mW (by rw[aV];omega)]at h;have v:=aF (o:=.lst g) E7;refine#[_,g,v _ _<|d _ _ gp1,aA,?_,λp hp=>?_]
   .have:=h.length;rw[q];simp only [aV,mY,length_nil]at this ⊢;exact gK (show 0+1+a.length<=1000 by omega) Zk
   have s:=v.trans<|aF (o:=.lst ([.ref f]++g)) hp;refine z8 _ _ #[p,f::a,rfl,(u.trans d).trans s,?_,.cons (s _ _<|d _ _ gt1)<|Paired.map' (λ_ _ w=>w.tk<|TK.of s) h];rw[aA,q];rfl
  refine λ_ G1=>JR λY YV=>JE λζ J R1=>?_;subst ζ;refine cY (λσ' G=>∃(p:TD)(a:BZ),σ'=([!.ref W,!.ref Q,!.ref lk,!.ref H,!.int (c:Int),!.ref p,none,none,none,none,none]:St)/\I7 a0 G/\a0 p=none/\JY G p ((.next n c::bk.map λp=>.has p.1 p.2)++R.map cT) a) (λnx z8=>?_) ?_
  .have gk1:=J _ _ gk;have kl:(ks.map V.ref).length=ks.length:=aV ..;have pl:=QD.length;refine#[lk,rfl,#[_,JX gk1],bB (aX K lk<|ks.map V.ref) Zo (λj g G=>I7 G1 G/\∃a:BZ,g=a.map V.ref/\Paired (λr a1=>RX.At G a1 r) ((R.map cT).take j) a) (λj g G #[d,a,q,h]=>#[JX<|d _ _ gk1,by rw[q,aV,<- h.length,mV];omega]) #[I7.refl _,[],rfl,.nil] (?_)<|?_]
   .rintro j x g G B ⟨d,a,q,h⟩;rw[eJ]at B;obtain⟨a9,hy,rfl⟩:=Option.map_eq_some_iff.mp B;obtain⟨hj,ej⟩:=NJ.mp hy;refine JB (Paired.get' (j:=j) QD hj) (LB λMH b1 c1=>JE λga gb1 gc1=>?_);rw[ej]at ga;have t:=J.trans d;refine#[bK rfl,λS Z v g2=>#[_,_,g2,v _ _<|t _ _ ga,IY rfl,λU L s g3=>?_]];have F:=v.trans s;refine#[d.trans F,a++[U],by rw[q,dL];rfl,?_];rw[aM (x:=cT R[j]) (by rw[eJ,hX MH];rfl)];exact Paired.snoc (Paired.map' (λ_ _ w=>w.tk<|TK.of F) h) #[b1,c1,g3,F _ _<|t _ _ gb1,F _ _<|t _ _ gc1]
   rintro g G ⟨d,a,q,h⟩;intro l2 E7;rw[kl,mW (by rw[aV];omega)]at h;have v:=aF (o:=.lst g) E7;refine#[_,g,v _ _<|d _ _ R1.lst,aA,?_,λp hp=>?_]
   .have h1:=h.length;have h2:=R1.len;have hlen:bk.length=E.length:=by have:=congrArg length X;simpa using this.symm
    rw[q];simp only [aV,mY]at h1 h2 ⊢;exact gK (show YV.length+a.length<=1000 by omega) Zk
   have s:=v.trans<|aF (o:=.lst (YV.map V.ref++g)) hp;have F:=d.trans s;refine z8 _ _ #[p,YV++a,rfl,J.trans F,(J.trans<|d.trans v).free hp,?_,Paired.append' (Paired.map' (λ_ _ w=>w.tk<|TK.of F) R1.each)<|Paired.map' (λ_ _ w=>w.tk<|TK.of s) h];rw[aA,q,dL]
  refine λ_ Z=>JR λp FN=>KJ λζ u I R2=>?_;subst ζ;have gu2:=u _ _ gu;have npu:p≠H:=λe=>by rw[e,gu]at I;cases I
  refine#[H,rfl,#[_,JX gu2],bT (aX K H us) (λk σ G=>∃(o6 o7 o8 o9 T2:EY)(a:BZ),σ=[!.ref W,!.ref Q,!.ref lk,!.ref H,!.int (c:Int),!.ref p,o6,o7,o8,o9,T2]/\JY G p ((.next n c::bk.map λp=>.has p.1 p.2)++R.map cT++(A.take k).flatMap (dJ c)) a/\∀b o,Z b=!o->b≠p->G b=!o)
   (λk σ G=>RG λ_ _ _ _ _ _=>JE λ_ _ M=>JX<|M _ _ gu2 npu.symm) #[_,_,_,_,_,FN,rfl,by rw[List.take_zero,List.flatMap_nil,append_nil];exact R2,λ_ _ e _=>e] ?_ ?_]
  .refine λk x σ G B=>RG λo6 o7 o8 o9 T2 a=>JE λζ C M=>?_;subst ζ;obtain⟨hk,ek⟩:=NJ.mp B;refine JB (Paired.get' (j:=k) pu hk) (JR λFG tr=>JW λer MK=>?_);rw[ek]at er;subst er;have tG:TK a0 G:=λb xs e=>M _ _ (u _ _ e) λz=>by rw[z,I]at e;cases e
   have YW:=tG _ _<|hd _<|getElem_mem FG;have YK:A[k]?=some A[k]:=hX FG;have GB:=tG _ _ MK;generalize A[k]=r at YW GB YK;have YX:=C.len;have XQ:∀l:DM,(l.flatMap<|dJ c).length<=2*l.length:=λl=>by
    induction l with
    | nil=>exact bD _
    | cons r l ih=>
     rw[FM,mU,mY];have:(dJ c r).length<=2:=by unfold dJ;split<;>simp
     omega
   have hfk:=XQ<|A.take k;have hlen:bk.length=E.length:=by have:=congrArg length X;simpa using this.symm
   have hal:a.length<=600:=by
    simp only [mU,mY,aV,mV]at YX hfk;omega
   exists tr,_,rfl,JV GB,rfl,_,_,rfl,_,_,rfl,_,_,rfl,_,_,rfl,_,_,rfl,rfl;refine#[.inl #[rfl,_,JX C.lst],bK rfl,λf L t g1=>#[p,_,_,rfl,rfl,t _ _ C.lst,by rw[aV];exact yR hal Zd,?_]];have YR:=t _ _ C.lst;have U:TK L (aH L p<|.lst<|a.map V.ref++[.ref f]):=iB YR λ_ z=>nomatch z
   have O:JY (aH L p<|.lst<|a.map V.ref++[.ref f]) p (((.next n c::bk.map λp=>.has p.1 p.2)++R.map cT++(A.take k).flatMap (dJ c))++[.came r.n c r.q.1 r.q.2 r.x]) (a++[f]):=C.snoc ((TK.of t).trans U) #[r.d,U _ _ g1,U _ _<|t _ _ YW] aA;have k4:∀b o,Z b=!o->b≠p->(aH L p<|.lst<|a.map V.ref++[.ref f]) b=!o:=λb o e y=>by rw[aD y];exact t _ _ (M _ _ e y)
   generalize aH L p (.lst<|a.map V.ref++[.ref f])=G4 at O k4 ⊢;have qg:(A.take<|k+1).flatMap (dJ c)=(A.take k).flatMap (dJ c)++dJ c r:=by rw[aM YK,flatMap_append];simp
   show if decide (r.st="asked")=true then _ else _
   refine eN (λy=>?_) λy=>?_
   .refine#[.inl #[rfl,_,JX O.lst],bK rfl,λS G5 s g2=>#[p,_,_,rfl,rfl,s _ _ O.lst,by rw[aV,mU];exact yR (m:=601) (by simp;omega) Zd,?_]];have YS:=s _ _ O.lst;have t5:TK G5 (aH G5 p<|.lst<|(a++[f]).map V.ref++[.ref S]):=iB YS λ_ z=>nomatch z
    refine#[_,_,_,_,_,a++[f]++[S],rfl,?_,λb o e y=>by rw[aD y];exact s _ _<|k4 _ _ e y];have R6:=O.snoc (r:=.asked r.n) ((TK.of s).trans t5) (t5 _ _ g2) aA;rw[qg,show dJ c r=[.came r.n c r.q.1 r.q.2 r.x]++[.asked r.n] by unfold dJ;rw[LM (WF y)];rfl,<- append_assoc,<- append_assoc];exact R6
   refine#[_,_,_,_,_,a++[f],rfl,?_,k4];rw[qg,show dJ c r=[.came r.n c r.q.1 r.q.2 r.x] by unfold dJ;rw[LK (UV y)],<- append_assoc];exact O
  refine λσ G=>RG λo6 o7 o8 o9 T2 a=>JE λζ C M=>?_;subst ζ;rw[<- pu.length,mW (bD _)]at C;exact a3 p a G (λb o e=>M _ _ (u _ _ e)<|aE e I) C
theorem Fg{n:Str}:∀ {prs:BD},n∉prs.map (·.1)->bZ prs n=0
 | [],_=>rfl
 | q::r,h=>by
  have b:n≠q.1:=λe=>h (by rw[e];simp)
  have a:=Fg (n:=n) (prs:=r) λm=>h (cR _ m)
  unfold bZ at a ⊢;rw[lookup_cons,show(n==q.1)=false by simpa using b];exact a
def Fh(g:(prs.map (·.1)).Nodup)(i:(a.map (·.1)).Nodup)(h:∀z,bZ prs z=bZ a z):dF prs=dF a:=by
 have d:∀ {prs:BD} (n:Str),0<bZ prs n->n∈prs.map (·.1):=λ{prs} n f=>Decidable.byContradiction λj=>by
  rw[Fg j]at f;exact IZ f Zd
 have e:((qE<|prs.map (·.1)).filter λn=>decide (0<bZ prs n))=(qE<|a.map (·.1)).filter λn=>decide (0<bZ a n):=by
  have k:((qE<|prs.map (·.1)).filter λn=>decide (0<bZ prs n)).Nodup:=((cN _).nodup_iff.mpr g).filter _;have l:((qE<|a.map (·.1)).filter λn=>decide (0<bZ a n)).Nodup:=((cN _).nodup_iff.mpr i).filter _;refine jO _ _ ((List.perm_ext_iff_of_nodup k l).mpr λn=>?_) ((jE _).filter _)<|(jE _).filter _;rw[mem_filter,mem_filter,(cN _).mem_iff,(cN _).mem_iff];constructor
  .rintro⟨_,c⟩;have b:=WF c;rw[h]at b;exact#[d n b,UF b]
  rintro⟨_,c⟩;have b:=WF c;rw[<- h]at b;exact#[d n b,UF b]
 unfold dF;rw[e];exact map_congr_left λn _=>by rw[h]
def sk(e:E6):TV:=.tp [.sc (.int (e.1:Int)),.sc (.int (e.2.1:Int)),.sc (.str e.2.2.1),.sc (.str e.2.2.2.1),RX.tvs e.2.2.2.2.1.vs,RX.tvs e.2.2.2.2.2.vs]
def aFc{t b c:TD}(h:H t=!.tup [.int (e.1:Int),.int (e.2.1:Int),.str e.2.2.1,.str e.2.2.2.1,.ref b,.ref c])(a:H b=!.tup e.2.2.2.2.1.vs)(d:H c=!.tup e.2.2.2.2.2.vs):Rep H 2 (sk e) (.ref t):=
 #[t,_,rfl,h,.cons #[rfl,rfl]<|.cons #[rfl,rfl]<|.cons #[rfl,rfl]<|.cons #[rfl,rfl]<|.cons (RX.rep_flat a<|RX.sc_dd _)<|.cons (RX.rep_flat d<|RX.sc_an _) .nil]
def rN{ks:BZ}{out:DE}(g:H l=!(.lst<|ks.map V.ref))(p:Paired (PV H) out ks):Rep H 3 (.ls<|out.map sk) (.ref l):=by
 exists l,_,rfl,g;clear g;induction p with
 | nil=>exact .nil
 | cons h t a=>revert h;refine JR λb c=>JE λd e f=>?_;exact .cons (aFc d e f) a
def kR{n:Nat}(g:H l=!(.lst<|bM zs))(hz:OS H zs):Rep H (n+2) (.ls<|(zs.map (·.2)).map λq=>.tp [.sc (.str q.1),.sc (.int q.2)]) (.ref l):=by
 exists l,_,rfl,g;clear g;induction zs with
 | nil=>exact .nil
 | cons z r a=>exact .cons #[z.1,_,rfl,hz z eG,.cons (Rep.scal rfl)<|.cons (Rep.scal rfl) .nil]<|a λz b=>hz z<|cR _ b
structure R5(K0:DE)(lf tu:Nat)(es:DE):Prop where
 asc:es.Pairwise λa b=>a.1<b.1
 iff:∀e,e∈es↔cK K0 (aJ e)=!e/\tu<e.2.1+lf
def R5.uniq(h:R5 c f g es)(h':R5 c f g d):es=d:=xB (λa=>Nat.lt_irrefl a.1) (λa b h=>Nat.lt_asymm h) h.asc h'.asc λe=>(h.iff e).trans (h'.iff e).symm
section
variable {c:CK}{a:DA}{s:DS}{nm:A2}{qs:DD}{lf tu:Nat}{C:BR}{as:BZ}{K0 we T:DE}{fb:Str->Nat}{wr:DM}
def KI.numU(h:KI c H a s nm qs lf tu C as K0 we T fb wr):ri s.m:=λq b n t d p r u v g i=>by
 refine JB (h.mkp q _ _ _ _ g) (JU λx=>KJ λj k y _=>?_);refine JB (h.mkp b _ _ _ _ i) (JU λl=>KJ λm o z _=>?_);have:x=l:=Hr (f:=λe:E6=>e.1) h.tn j m Zo;rw[<- k,<- o,this]
def KI.kept(h:KI c H a s nm qs lf tu C as K0 we T fb wr)(t:TK H H')(hz:RC H' zs)(hs:zs.Pairwise WG)(D:(zs.map (·.1)).Nodup)(B:Sz s.m s.life s.turn (Hj zs)):∃es ks,kA zs=ks.map V.ref/\Paired (PV H') es ks/\R5 K0 lf tu es/\es.length=zs.length:=by
 obtain⟨es,k⟩:=jB (R:=λ(z:Tn) (e:E6)=>z.1=(e.1:Int)/\(cK K0 (aJ e)=!e/\tu<e.2.1+lf)/\∃d y,z.2.2=oC (e.2.1:Int) (aJ e) d y/\H' d=!.tup e.2.2.2.2.1.vs/\H' y=!.tup e.2.2.2.2.2.vs) (xs:=zs) λz v=>by
  refine JB ((B z.1 z.2.2).mp<|LA.mpr #[z,v,rfl]) (NF λq Z d y=>JE λl m j=>?_);refine JB (h.mkp q _ _ _ _ l) (JU λe=>QZ λn E F G I J L=>?_);subst E G;rw[h.life,h.turn]at m;have o:tu<e.2.1+lf:=by omega
  exact#[e,F,#[L o,o],d,y,j,t _ _ I,t _ _ J]
 have M:=UO k (f:=λz:Tn=>z.1) (g:=λe:E6=>(e.1:Int)) λz e h=>h.1
 have asc:es.Pairwise λa b=>a.1<b.1:=by
  have m:(zs.map λz:Tn=>z.1).Pairwise (·<=·):=pairwise_map.mpr hs;have j:=(m.and D).imp λ{a b}(h:a<=b/\a≠b)=>(by omega:a<b)
  rw[M,pairwise_map]at j;exact j.imp λh=>by omega
 refine#[es,zs.map λz=>z.2.1,by unfold kA;rw[map_map];rfl,?_,#[asc,λe=>#[λn=>?_,?_]],k.length.symm]
 .have all:∀ {zs:GY}{es:DE},(∀z∈zs,H' z.2.1=!.tup (.int z.1::z.2.2))->Paired (λ(z:Tn) (e:E6)=>z.1=(e.1:Int)/\(cK K0 (aJ e)=!e/\tu<e.2.1+lf)/\∃d y,z.2.2=oC (e.2.1:Int) (aJ e) d y/\H' d=!.tup e.2.2.2.2.1.vs/\H' y=!.tup e.2.2.2.2.2.vs) zs es->Paired (PV H') es (zs.map λz=>z.2.1):=λhz p=>by
   induction p with
   | nil=>exact .nil
   | @cons z e zs es r p N=>
    revert r;refine JE λl _=>JR λd y=>JE λj u i=>?_;refine .cons #[d,y,?_,u,i]<|N λz O=>hz z<|cR _ O;have:=hz z eG;rw[l,j]at this;exact this
  exact all hz k
 .refine JB (Mz k n) (JU λz=>KJ λ_ _ m _=>?_);exact m
 rintro ⟨n,o⟩;refine JB (h.ml _ e n o) (JR λd y l=>?_);have Q:=(B (e.1:Int)<|oC (e.2.1:Int) (aJ e) d y).mpr #[aJ e,(e.2.1:Int),d,y,l,by rw[h.life,h.turn];omega,rfl];obtain⟨z,v,S⟩:=LA.mp Q;refine JB (eO k v) (JU λU=>KJ λW j ζ=>JR λd' y'=>JW λi _=>?_);obtain⟨u,_⟩:=ζ;have X:z.2.2=oC (e.2.1:Int) (aJ e) d y:=congrArg Prod.snd S;rw[X]at i;unfold oC at i;injection i with _ i
 injection i with x i
 injection i with A _
 injection x with x
 injection A with A
 have Y:aJ U=aJ e:=Prod.ext x.symm A.symm;rw[Y,n]at u;cases u;exact W
def Vu(r:Rn):TV:=.tp [.sc (.int (r.n:Int)),.sc (.str r.q.1),.sc (.str r.q.2),RX.tvs r.x.vs,.sc (.str r.st)]
def aEl{v:V}(h:uN H r v)(g:H r.d=!.tup r.x.vs):Rep H 2 (Vu r) v:=by
 obtain⟨t,rfl,gt⟩:=h;exact#[t,_,rfl,gt,.cons #[rfl,rfl]<|.cons #[rfl,rfl]<|.cons #[rfl,rfl]<|.cons (RX.rep_flat g<|RX.sc_dd _)<|.cons #[rfl,rfl] .nil]
def kr:∀ {rs:DM}{us:A1},Paired (uN H) rs us->(∀r∈rs,H r.d=!.tup r.x.vs)->Paired (Rep H 2) (rs.map Vu) us:=λ{rs us} p=>by
 induction p with
 | nil=>exact λ_=>.nil
 | cons h t b=>exact λg=>.cons (aEl h<|g _ eG)<|b λr d=>g r<|cR _ d
def KI.waits(h:KI c H a s nm qs lf tu C as K0 we T fb wr):(s.runs.filter λ(r:Rn)=>decide (r.st="asked")).map (λr=>((r.n,r.q.1,r.q.2,r.x):O4))=cS C:=by
 refine xB (λa=>Nat.lt_irrefl a.1) (λa b h=>Nat.lt_asymm h) (pairwise_map.mpr<|h.dat.up.filter _) (xJ C h.pr.w) λo=>#[λho=>?_,λho=>?_]
 .obtain⟨r,hr,rfl⟩:=LA.mp ho;obtain⟨BU,FV⟩:=mem_filter.mp hr;exact h.opens BU<|WF FV
 refine JB (h.open ho) (JU λr=>MJ λhr e1 e2 e3 e4=>?_);refine LA.mpr #[r,mem_filter.mpr #[hr,UF e4],?_];rw[e1,e2,e3];rfl
def KI.risT(h:KI c H a s nm qs lf tu C as K0 we T fb wr)(d:Paired (QS H') (cS C) rs):rs.map Vu=(s.runs.filter λ(r:Rn)=>decide (r.st="asked")).map Vu/\rs.map (·.n)=(s.runs.filter λ(r:Rn)=>decide (r.st="asked")).map (·.n):=by
 have e:=uZ (f:=λo:O4=>TV.tp [.sc (.int (o.1:Int)),.sc (.str o.2.1),.sc (.str o.2.2.1),RX.tvs o.2.2.2.vs,.sc (.str "asked")]) (g:=Vu) (λo r h=>by revert h;refine LB λ_ _ _=>JW λb _=>?_;rw[b];rfl) d;have i:=uZ (f:=λo:O4=>o.1) (g:=λr:Rn=>r.n) (λo r h=>by revert h;refine LB λ_ _ _=>JW λb _=>?_;rw[b];rfl) d;rw[<- e,<- i,<- h.waits,map_map,map_map];refine#[map_congr_left λr j=>?_,rfl];have:=WF (mem_filter.mp j).2;show TV.tp _=Vu r;unfold Vu;rw[this]
def KI.bookL(h:KI c H a s nm qs lf tu C as K0 we T fb wr)(p:Tx fb hs):dF s.prs=hs.map λz=>(z,(fb z:Int)):=by
 have nd:((hs.map λz=>(z,(fb z:Int))).map (·.1)).Nodup:=by
  rw[map_map];exact pairwise_map.mpr (p.asc.imp λh e=>by have d:_=_:=e;simp only [Function.comp]at d;rw[d]at h;exact IZ h<|List.lt_irrefl _)
 have b:=Kk fb hs nd p.iff;rw[Fh h.dat.nd nd λz=>(h.pa z).trans (b z).symm];have f:(hs.map λz=>(z,(fb z:Int))).map (·.1)=hs:=by rw[map_map];exact List.map_id' hs
 unfold dF;rw[f];have g:qE hs=hs:=jO _ _ (cN hs) (jE hs)<|p.asc.imp λh=>List.le_of_lt h;rw[g,filter_eq_self.mpr λz i=>UF (by rw[b];have:=(p.iff z).mp i;omega)];exact map_congr_left λz _=>by rw[b]
end
def LW.rise{H H1 H2:Hp}{X:DL}{a k:DA}{s:DS}{nm:A2}{q r i:Nat}{t T:DE}{j:Str->Nat}(L:LW c H d b X a s nm qs q r C as t [] T j [])(B:s.safe=s.rows.length)(A:r<=i)(D:H p=none)(l:∀b o,H b=!o->b≠a.dr->b≠a.j->H1 b=!o)(E:K1 c H2 k (!"|C?`s.next |eNK|c~&N|W" (i:Int)))(F:∀x∈prs.map (·.1),0<j x)(G:∀z,bZ prs z=(j z:Int))(I:OX H2 (bH C) m)(J:Paired (QS H2) (cS C) rs)(M:∀b∈k.fix++rs.map (·.p),b∈[a.dr,a.hd,a.j,p]∨H1 b=none)(fr:∀b o,H1 b=!o->b≠a.dr->H2 b=!o) :
  LW c H2 d b X k {ew s (i:Int) s.next prs (eU rs m) u rs with L:=qs.length } nm qs q i C as t [] T j []/\TK H H2:=by
 have v:=L.ki.dat.dr;have N:=L.ki.dat.j;have y:TK H H2:=λx O e=>fr x _ (l x _ e (aL e v λz=>nomatch z) (aL e N λz=>nomatch z)) (aL e v λz=>nomatch z)
 have g:∀ {x},x=a.dr∨x=a.hd∨x=a.j->x∈a.fix++s.runs.map (·.p):=λ{x} f=>IN _ (by simp only [DA.fix,mem_cons];rcases f with h|h|h<;>simp[h])
 refine#[L.step (λx f=>?_) (λx o e f=>fr x o (l x o e (λz=>f<|g<|.inl z) λz=>f<|g<|.inr<|.inr z) λz=>f<|g<|.inl z)<|L.ki.risen B A E y F G I J,y];rcases M x f with f|f
 .simp only [mem_cons,GH,or_false]at f;rcases f with e|e|e|e
  .exact .inl<|g<|.inl e
  .exact .inl<|g<|.inr<|.inl e
  .exact .inl<|g<|.inr<|.inr e
  exact .inr (by rw[e];exact D)
 by_cases n:x∈a.fix++s.runs.map (·.p)
 .exact .inl n
 right
 cases e:H x with
 | none=>rfl
 | some o=>rw[l x o e (λz=>n<|g<|.inl z) λz=>n (g<|.inr<|.inr z)]at f;cases f
def QW.tk{nm:A2}{n:Nat}(h:QW H a C as F f nm qs n b)(t:TK H H'):QW H' a C as F f nm qs n b:={h with each:=Paired.map' (λ_ _ w=>w.tk t) h.each }
def KI.prs64{s:DS}{nm:A2}{i:DM}(h:KI c H a s nm qs b d C as e f T g i):s.prs.length<64:=by
 have j:=Kc h.dat.nd h.pn;have:=h.l1;rw[aV]at j;omega
def aEm{a:EZ}(g:H l=!(.lst<|a.map V.int)):Rep H 1 (.ls<|a.map λn=>.sc<|.int n) (.ref l):=by
 exists l,_,rfl,g;clear g;induction a with
 | nil=>exact .nil
 | cons n a b=>exact .cons #[rfl,rfl] b
inductive sm(c:CK)(vs:A1)(H:Hp)(Q:VK)(E_:XK):Prop
 | mk(d b:TD)(X:DL)(a:DA)(s:DS)(nm:A2)(qs:DD)(lf tu:Nat)(C:BR)(as:BZ)(K0 T:DE)(fb:Str->Nat)(lb lk lu:TD)(zs:FO)(ks:BZ)(es:DE)(us:A1):vs=[.ref d,.ref a.dr,.ref lb,.ref lk,.ref lu,.int (tu:Int)]->LW c H d b ((lb,.lst<|bM zs)::(lk,.lst<|ks.map V.ref)::(lu,.lst us)::X) a s nm qs lf tu C as K0 [] T fb []->s.safe=s.rows.length->OS H zs->zs.map (·.2)=dF s.prs->Paired (PV H) es ks->R5 K0 lf tu es->Paired (uN H) s.runs us->s.next<=60->(∀a' s' H',LW c H' d b X a' s' nm qs lf tu C as K0 [] T fb []->a'.dr=a.dr->s'.safe=s'.rows.length->s'.next=s.next->s'.hs=s.hs->Q (.bl true) H')->sm c vs H Q E_
def Fi(T:Txt K mg)(c5:Callee^1 "_law_draw" CV jY)(q9:bP^2 c.D "rows" EX (rJ c))(U4:bP^3 c.D "fall" CZ (vA c))(U5:bP^6 c.D "rise" CY (vC c))(d5:bP^2 c.D "book_rows" EX (rK c))(A0:bP^4 c.D "kept" EX (rG c))(f7:bP^2 c.D "under" EX (oZ c))(D:KY K mg "_law_risen_right" bV gm):Callee^7 "_law_risen_right" gm (sm c):=by
 refine D.gg fF λf cdv a5 outer s0 a4 vs a6 a7 x a2=>?_
 .obtain⟨d,b,X,a,s,nm,qs,lf,O,C,as,K0,TT,fb,Q,lk,B,zs,ks,es,us,rfl,a1,NU,hz,ez,QD,kp,pu,h60,q⟩:=a2;have S:=x.units;exists _,(!"`6 `fF.nd |!X1A:?`U4 X1d''~x'',#!!!ZmX%0'#!!<B#!DE~M|(|!X1A6=~M|(`U5 X15#!D?=~>~=xk(&;/~M|)|<X1A2~)~M|)|=X1A3~)~M|)~}X1A7~)~M|)|!X1A6~)|N|&|&|&(&$$$$" (R.dj (i:=7) fF.nd rfl (Or.inl rfl) rfl (js:=[none]) (N:=["_law_row"]) (JQ.by (aB bV) mQ rfl rfl Zk) (aR rfl) (xo (K:=K) (f8 4)) (λC s₂ H₂ fp=>#[(vi (i:=0) (show(["_law_row"]:A2).Nodup by decide +kernel)),(BF<|re ww (sw K 0) pc),(f8 0)]) rfl) (yg rfl (js:=[none]) (N:=["_law_row"]) (JQ.by (aB bV) mQ rfl rfl Zk) (aR rfl) (xo (K:=K)<|f8 7) λC s₂ H₂ fp=>#[(vi (i:=0) (show(["_law_row"]:A2).Nodup by decide +kernel)),AX,(sw K 0)]));refine#[_,_,a1.ki.dat.dr,by kernel_rfl,a,s,rfl,a1.ki.dat.drAt,λU H1 flr s1 YH=>?_];have L1:=a1.take flr s1 YH (λ_ z=>nomatch z);dsimp only [aI];refine cY (λσ' G=>∃(u:TD)(E:A1),σ'=([!.ref d,!.ref a.dr,!.ref Q,!.ref lk,!.ref B,!.int (O:Int),!.ref U,!.ref u]:St)/\I7 H1 G/\LW c G d b ((u,.lst E)::(U,.lst s.rows)::(Q,.lst<|bM zs)::(lk,.lst<|ks.map V.ref)::(B,.lst us)::X) a s nm qs lf O C as K0 [] TT fb []/\Paired (uN G) (s.runs.filter λ(r:Rn)=>decide (r.st="asked")) E) (λnx z8=>?_) ?_
  .have gu:=L1.ow.get 3 rfl;have pl:=pu.length;have HJ:=L1.ki.rle;refine#[B,rfl,#[_,JX gu],bB (aX K B us) Zo (λj l G=>I7 H1 G/\l.length<=j/\Paired (uN G) ((s.runs.take j).filter λ(r:Rn)=>decide (r.st="asked")) l) (λj l G #[m,W,_]=>#[JX<|m _ _ gu,W]) #[I7.refl _,bD _,.nil] (?_)<|?_]
   .refine λj a3 l G hx=>JE λm W L=>?_;obtain⟨hj,ej⟩:=NJ.mp hx;refine JB (Paired.get' (j:=j) pu hj) (JR λMH tr=>JW λer MK=>?_);rw[ej]at er;subst er;have SJ:s.runs[j]?=some s.runs[j]:=hX MH;have GB:=m _ _<|s1 _ _ MK;generalize s.runs[j]=r at SJ GB;exists _,JV GB,.str r.st,rfl;rw[aM SJ,filter_append,filter_cons];show if decide (r.st="asked")=true then _ else _
    refine eN (λhb=>?_) λhb=>?_
    .refine#[m,by rw[mU];simpa using W,?_];rw[LM hb];exact Paired.snoc L #[tr,rfl,GB]
    exists m,Zo;rw[LK (by rw[hb];exact WP),List.filter_nil,append_nil];exact L
   refine λl G=>JE λm W L=>?_;rw[<- pl,take_length]at L;intro u hlw;have s2:=m.trans<|aF (o:=.lst l) hlw;refine z8 _ _ #[u,l,rfl,s2,(L1.same m).add hlw (λ_ z=>nomatch z),Paired.map' (λ_ _ #[t,e,a0]=>#[t,e,aF hlw _ _ a0]) L]
  refine λ_ G=>JR λu E=>KJ λζ s2 L2 pw=>?_;subst ζ;refine cY (λσ' p=>σ'=([!.ref d,!.ref a.dr,!.ref Q,!.ref lk,!.ref B,!.int (O:Int),!.ref U,!.ref u]:St)/\∃(Y:Hp)(A:TD),LW c Y d b ((u,.lst E)::(U,.lst s.rows)::(Q,.lst<|bM zs)::(lk,.lst<|ks.map V.ref)::(B,.lst us)::X) a s nm qs lf O C as K0 [] TT fb []/\TK G Y/\Y A=none/\i7 c p {a with jl:=A } s/\(∀b o,Y b=!o->b≠a.dr->b≠a.j->p b=!o)) (λnx z8=>?_) ?_
  .refine#[_,_,L2.ki.dat.dr,by kernel_rfl,#[Zd,Zd,Zd],uR rfl,λa8 hp=>#[d,b,3,rfl,L2.dk.new hp,Zd,Zd,λr H3 b0 b1 D3 k3=>?_]];have g:=(L2.add (o:=.lst [.int 0,.int 1,.int (10^(6:Int).toNat)]) hp (λ_ z=>nomatch z)).draw D3 k3;obtain⟨v,hv⟩:∃v:Int,pI [V.int 0,V.int 1,V.int (10^(6:Int).toNat)] r=!.int v:=by
    have:r=0∨r=1∨r=2:=by omega
    rcases this with rfl|rfl|rfl<;>exact#[_,rfl]
   have YY:TK G H3:=(TK.of<|aF hp).trans<|Kp.tk (L2.dk.new hp) k3;refine#[_,JX<|g.ow.get 0 rfl,_,hv,a,s,v,rfl,g.ki.dat,NU,λA H4 DR M k4=>z8 _ _ #[rfl,H3,A,g.less<|sublist_cons_self _ _,YY,DR,M,k4]]
  refine λ_ G3=>JW λζ=>JR λY A=>MJ λg YY DR M k4=>?_;subst ζ;obtain⟨F,rc⟩:=g.ki.rowsC (bD _) h60;have QE:=g.ki.dat.dr;have gj:=g.ki.dat.j;have hpw:=g.ki.waits;have YZ:TK Y G3:=λa3 xs e=>k4 a3 _ e (aL e QE λz=>nomatch z) (aL e gj λz=>nomatch z)
  have bL':∀q∈((u,.lst E)::(U,.lst s.rows)::(Q,.lst<|bM zs)::(lk,.lst<|ks.map V.ref)::(B,.lst us)::X:DL),G3 q.1=some q.2:=λq hq=>by
   have:=g.out q.1<|cR _<|cR _<|mem_map_of_mem (f:=(·.1)) hq;exact k4 _ _ (g.ow.2 q hq) (λz=>this<|IN _ (by rw[z];simp[DA.fix])) λz=>this (IN _ (by rw[z];simp[DA.fix]))
  refine wJ (λv p=>v=false/\∃(y:DA)(h:DS),LW c p d b ((u,.lst E)::(U,.lst s.rows)::(Q,.lst<|bM zs)::(lk,.lst<|ks.map V.ref)::(B,.lst us)::X) y h nm qs lf O C as K0 [] TT fb []/\y.dr=a.dr/\h.safe=h.rows.length/\h.rows=s.rows/\h.next=s.next/\h.hs=s.hs/\h.runs.map Vu=(s.runs.filter λ(r:Rn)=>decide (r.st="asked")).map Vu/\dF h.prs=dF s.prs/\TK G p) (λk hk=>?_) (λp a2=>nomatch a2.1) ?_
  .refine#[_,_,Own.get M 0 rfl,by kernel_rfl,{a with jl:=A },s,rfl,#[#[_,Own.get M 0 rfl],Own.get M 2 rfl,Own.get M 3 rfl],λl1 G4 fl1 s4 PL=>?_];have at4:=Paired.map' (λ_ _ w=>RX.At.tk (YZ.trans<|TK.of s4) w) g.ki.at6;exists 3,_,Zd,JY.rep (rs:=C) (as:=as) #[by rw[PL,g.ki.rw],at4],JY.rep (rs:=C) (as:=as) #[by rw[s4 _ _ (bL' _<|.tail _<|.head _),g.ki.rw],at4];have DN4:i7 c G4 {a with jl:=A } s:=Own.same s4 M;refine#[_,_,Own.get DN4 0 rfl,by kernel_rfl,{a with jl:=A },s,(O:Int),C,as,F,fb,nm,qs,s.next,rfl,DN4,rc.tk<|YZ.trans<|TK.of s4,λl2 y prs a9 Lx rs G5 m D5 pp pa km KZ hL si DF fx fr=>?_];obtain⟨L5,tk5⟩:=g.rise NU (bD _) DR (H1:=G4) (λb o e H I=>s4 _ _<|k4 b o e H I) D5 pp pa km KZ fx fr;obtain⟨w1,w2⟩:=g.ki.risT KZ;have gw5:=L5.ow.get 0 rfl;have pw5:Paired (uN G5) (s.runs.filter λ(r:Rn)=>decide (r.st="asked")) E:=Paired.map' (λ_ _ #[t,e,a0]=>#[t,e,tk5 _ _<|YY _ _ a0]) pw;have HJ:=L5.ki.rle;refine#[u,rfl,#[_,JX gw5],bB (aX K u E) (by have:=pw5.length;have:=length_filter_le (λ(r:Rn)=>decide (r.st="asked")) s.runs;have:=g.ki.rle;omega) (λj l p=>I7 G5 p/\l=((s.runs.filter λ(r:Rn)=>decide (r.st="asked")).take j).map λr=>V.int (r.n:Int)) (λj l p #[H,I]=>#[JX<|H _ _ gw5,by rw[I,aV,mV];omega]) #[I7.refl _,rfl] (?_)<|?_]
   .rintro j a3 l p hx ⟨H,I⟩;obtain⟨hj,ej⟩:=NJ.mp hx;refine JB (Paired.get' (j:=j) pw5 hj) (JR λMH tr=>JW λer MK=>?_);rw[ej]at er;subst er;exists _,JV<|H _ _ MK,_,rfl,H;rw[aM (hX MH),dL,I];rfl
   rintro l p ⟨H,I⟩;intro l3 YX;rw[<- pw5.length,take_length]at I;have s6:=H.trans<|aF (o:=.lst l) YX;have e9:l=(rs.map λr=>(r.n:Int)).map V.int:=by
    have:=congrArg (List.map λn:Nat=>V.int (n:Int)) w2;rw[map_map,map_map]at this;rw[I,map_map];exact this.symm
   refine#[1,_,Zd,aEm<|s6 _ _ DF,aEm (by rw[aA,e9]),hk _ _ #[rfl,y,_,L5.same s6,m,NU,rfl,rfl,rfl,w1,Fh D5.nd g.ki.dat.nd λz=>(pa z).trans (g.ki.pa z).symm,(YY.trans tk5).trans<|TK.of s6]]
  refine λp=>JW λ_=>JR λy h=>TY λL6 m W L e4 e5 e6 e7 tk6=>?_;have UY:TK a4 p:=(TK.of<|s1.trans s2).trans tk6;rw[<- m];refine#[_,_,L6.ki.dat.dr,by kernel_rfl,y,h,rfl,L6.ki.dat,L6.ki.prs64,λl7 zs7 G7 fl7 s7 gl7 hz7 ez7=>?_];have J:=L6.same s7;have JJ:OS G7 zs:=λz BS=>(UY.trans<|TK.of s7) _ _ (hz z BS)
  refine#[2,_,Zd,kR gl7 hz7,by rw[ez7,e7,<- ez];exact kR (J.ow.get 2 rfl) JJ,?_];have l2:=J.ki.l2;refine#[_,_,J.ki.dat.dr,by kernel_rfl,y,h,qs,rfl,J.ki.dat,J.ki.mq,Zo,J.ki.numU,λl8 zs8 G8 s8 fl8 gl8 hn8 GW hd8 hk8 Y8=>?_];refine JB (J.ki.kept (TK.of s8) hn8 GW hd8 hk8) (JR λHQ ks8=>KJ λZg XF kp8 _=>?_);obtain rfl:=kp8.uniq kp;have L8:=J.same s8;have UZ:TK a4 G8:=(UY.trans<|TK.of s7).trans<|TK.of s8;exists 3,_,Zd,rN (by rw[gl8,Zg]) XF,rN (L8.ow.get 3 rfl)<|Paired.map' (λ_ _ w=>w.tk UZ) QD;have HJ:=L8.ki.rle;refine#[_,_,L8.ki.dat.dr,by kernel_rfl,y,h,rfl,L8.ki.dat,Zo,λl9 us9 G9 fl9 s9 gl9 pu9=>?_];have L9:=L8.same s9;have bO':=UZ.trans<|TK.of s9;have tkw:TK G G9:=(tk6.trans<|TK.of s7).trans<|TK.of<|s8.trans s9;exists 3,.ls<|h.runs.map Vu,Zd,#[l9,_,rfl,gl9,kr pu9 L9.ki.dat.dd],#[u,_,rfl,L9.ow.get 0 rfl,?_]
  .rw[e6];exact kr (Paired.map' (λ_ _ #[t,e,a0]=>#[t,e,tkw _ _ a0]) pw) λr A4=>bO' _ _<|a1.ki.dat.dd r (mem_filter.mp A4).1
  refine#[_,_,L9.ki.dat.dr,by kernel_rfl,y,h,rfl,L9.ki.dat.drAt,λl10 PY iT' FZ bP'=>?_];have Z:=L9.same FZ;refine#[3,_,Zd,JY.rep (rs:=C) (as:=as) #[by rw[bP',Z.ki.rw],Z.ki.at6],JY.rep (rs:=C) (as:=as) #[by rw[Z.ow.get 1 rfl,<- L,Z.ki.rw],Z.ki.at6],q y h PY (Z.less ?_) m W e4 e5];exact((((sublist_cons_self _ _).trans<|sublist_cons_self _ _).trans<|sublist_cons_self _ _).trans<|sublist_cons_self _ _).trans<|sublist_cons_self _ _
def LW.perm{X g:DL}{s:DS}{nm:A2}{i j:Nat}{k l T:DE}{n:Str->Nat}(h:LW c H d b X a s nm qs i j C as k l T n o)(p:g.Perm X):LW c H d b g a s nm qs i j C as k l T n o:=
 #[h.dk,h.ow.perm p,λq f=>h.nt q<|p.mem_iff.mp f,#[λm=>h.od.1<|(p.map _).mem_iff.mp m,λm=>h.od.2<|(p.map _).mem_iff.mp m],λq f=>h.out q (by
  rcases mem_cons.mp f with e|f
  .rw[e];simp
  .rcases mem_cons.mp f with e|f
   .rw[e];simp
   .exact cR _<|cR _<|(p.map _).mem_iff.mp f),h.ki]
def fq(z:Str):Str×Str:=(("q":Str)++tx (z.cps.toList.take 7),"fold")
def dG(a:Str)(zs:A2):DD:=fq a::zs.flatMap λz=>[(z,kS 0),(z,kS 1),(z,kS 2),(z,kS 3)]
def QQ(a d b c:TD)(e:Nat)(dr f:TD)(g h i j:EY):St:=[!.ref a,!.ref d,!.str "abcdefghijklmnopqrstuvwxyz",!.ref b,!.ref c,!.int (e:Int),!.ref dr,!.ref f,g,h,i,j]
def X3(b c d:TD)(e n:Nat)(a g1:Str)(zs:A2):DL:=[(b,.dK<|tO e n),(c,.lst<|(a::g1::zs).map V.str),(d,.lst<|[a,g1].map V.str)]
def LL(c:CK)(dr d b i j k:TD)(e g1:Str)(zs:A2)(l:Str)(m f N:Nat)(G:Hp):Prop:=∃(a:DA)(s:DS)(h:Nat)(C:BR)(n:BZ)(o T:DE)(p:Str->Nat),LW c G d b (X3 i j k f s.next e g1 zs) a s zs (dG l zs) m h C n o [] T p []/\h<=f/\s.safe=s.rows.length/\s.next<=N/\a.dr=dr/\∀g∈[e,g1],∃v,bA s.hs (Sum.inr g)=!v
def LL.dk{dr d b a e f:TD}{g g1 i:Str}{j k N:Nat}(h:LL c dr d b a e f g g1 zs i j k N G):Dk G d b:=RJ (λ_ _ _ _ _ _ _ _=>JW λL _=>L.dk) h
def LL.draw{dr d b f g i:TD}{j g1 l:Str}{m n N:Nat}(h:LL c dr d b f g i j g1 zs l m n N G)(D:Dk e d b)(k:Kp d b G e):LL c dr d b f g i j g1 zs l m n N e:=RJ (λa s o C p q T r=>JW λL h=>#[a,s,o,C,p,q,T,r,L.draw D k,h]) h
def Od(a:Str)(zs:A2):(dG a zs).length=4*zs.length+1:=by
 unfold dG;rw[mY];congr 1
 induction zs with
 | nil=>rfl
 | cons z zs b=>rw[FM,mU,b,mY];simp;omega
def Vv(hz:z∈zs)(i:Nat)(b:i<4):(z,kS i)∈dG a zs:=by
 refine cR _<|mem_flatMap.mpr #[z,hz,?_];have:i=0∨i=1∨i=2∨i=3:=by omega
 rcases this with rfl|rfl|rfl|rfl<;>simp
def aAT(h:isNm z):isNm (fq z).1/\RA (fq z).2:=by
 have e:(fq z).1=tx (113::z.cps.toList.take 7):=by
  show("q":Str)++tx (z.cps.toList.take 7)=_;rw[show("q":Str)=tx [113] by decide +kernel,Bd];rfl
 refine#[?_,show RA "fold" from#[Zk,Zk,Zk]];rw[e];refine#[?_,?_,λx a=>?_]
 .rw[dO];simp
 .rw[dO,mY,mV];omega
 simp only [toList_toArray]at a;rcases mem_cons.mp a with rfl|a
 .decide
 exact h.2.2 x<|mem_of_mem_take a
def KI.start{c:CK}{H:Hp}{a:DA}{name:Str}{b:Nat}{hs:DI}{nm:A2}{qs:DD}(h:K1 c H a (ZJ name (b:Int) hs))(d:nm.length<=20)(e:qs.length<=43):KI c H a (ZJ name (b:Int) hs) nm qs b 0 [] [] [] [] [] (λ_=>0) [] where
 dat:=h
 life:=rfl
 turn:=rfl
 hL:=zero_le _
 pa:=λ_=>rfl
 pn:=λ_ h=>nomatch h
 b12:=λ_=>zero_le _
 rw:=rfl
 at6:=.nil
 pr:=PR.nil Zo
 kc:=rfl
 nw:=#[[],[],rfl,rfl,.nil]
 rc:=λ_ h=>nomatch h
 rd:=λ_ h=>nomatch h
 ro:=λ_ h=>nomatch h
 wm:=λ_=>#[(λh=>nomatch h),λh=>nomatch h.1]
 wd:=.nil
 rn:=λ_ h=>nomatch h
 ex:=λ_ h=>nomatch h
 bz:=λ_ h=>nomatch h
 mo:=λ_ _ _ h=>nomatch h
 mkp:=λ_ _ _ _ _ h=>nomatch h
 ml:=λ_ _ h=>nomatch h
 lt:=λ_ _ h=>nomatch h
 tn:=.nil
 tx:=λ_ h=>nomatch h
 ln:=by show 0+0<=2*1+80;decide
 l1:=d
 l2:=e
section
variable {c:CK}{G:Hp}{d b:TD}{X:DL}{a:DA}{s:DS}{nm:A2}{qs:DD}{lf tu:Nat}{C:BR}{as:BZ}{K0 we T:DE}{fb:Str->Nat}{wr:DM}{Q:VK}{E:XK}
def LW.force(L:LW c G d b X a s nm qs lf tu C as K0 we T fb wr)(y:s.next<=60)(q:∀l e f,LW c f d b X a e nm qs lf tu C as (K0++we) [] (T++we) (tM fb we) []->e.safe=e.rows.length->e.next=s.next->e.hs=s.hs->TK G f->Q (.ref l) f):vB c [.ref a.dr] G Q E:=by
 refine JB (L.ki.forced Zo) (NF λe j i h=>TY λk m n o p r t u v=>?_);have z:=L.ki.rl;have A:=L.ki.len;refine#[a,s,e,i,h,j,rfl,L.ki.dat,k,m,Zo,n,o,λl B f x g _ _ _ _=>?_];exact q l {e with L:=qs.length } f (L.mv g<|v f x<|L.tk g) (by show e.safe=e.rows.length;rw[p,r]) t u<|L.tk g
def LW.books(L:LW c G d b X a s nm qs lf tu C as K0 we T fb wr)(q:∀l zs e,LW c e d b ((l,.lst<|bM zs)::X) a s nm qs lf tu C as K0 we T fb wr->OS e zs->zs.map (·.2)=dF s.prs->I7 G e->Q (.ref l) e):rK c [.ref a.dr] G Q E:=
 #[a,s,rfl,L.ki.dat,L.ki.prs64,λl zs e g f h i j=>q l zs e (L.take g f h (λ_ z=>nomatch z)) i j f]
def LW.kepts(L:LW c G d b X a s nm qs lf tu C as K0 we T fb wr)(q:∀l ks es e,LW c e d b ((l,.lst<|ks.map V.ref)::X) a s nm qs lf tu C as K0 we T fb wr->Paired (PV e) es ks->R5 K0 lf tu es->es.length<64->I7 G e->Q (.ref l) e):rG c [.ref a.dr] G Q E:=by
 have p:=L.ki.l2;refine#[a,s,qs,rfl,L.ki.dat,L.ki.mq,Zo,L.ki.numU,λl r e f g h i j hd k t=>?_];refine JB (L.ki.kept (TK.of f) i j hd k) (JR λes ks=>KJ λm n o u=>?_);exact q l ks es e (L.take g f (by rw[h,m]) (λ_ z=>nomatch z)) n o Zo f
def LW.unders(L:LW c G d b X a s nm qs lf tu C as K0 we T fb wr)(j:s.next<=60)(q:∀l us e,LW c e d b ((l,.lst us)::X) a s nm qs lf tu C as K0 we T fb wr->Paired (uN e) s.runs us->I7 G e->Q (.ref l) e):oZ c [.ref a.dr] G Q E:=by
 have:=L.ki.rle;exact#[a,s,rfl,L.ki.dat,Zo,λl us e g f h i=>q l us e (L.take g f h (λ_ z=>nomatch z)) i f]
def LW.rowsL(L:LW c G d b X a s nm qs lf tu C as K0 we T fb wr)(q:∀l e,LW c e d b ((l,.lst s.rows)::X) a s nm qs lf tu C as K0 we T fb wr->I7 G e->Q (.ref l) e):rJ c [.ref a.dr] G Q E:=
 #[a,s,rfl,L.ki.dat.drAt,λl e g f h=>q l e (L.take g f h (λ_ z=>nomatch z)) f]
def LW.fold(L:LW c G d b X a s nm qs lf tu C as K0 [] T fb [])(v:s.safe=s.rows.length)(A:s.next<=60)(q:∀(l:DA)(hs:A2)(es:DE)(os:BZ)(i:Hp),LW c i d b X l {s with rows:=os.map V.ref,safe:=(os.length:Int) } nm qs lf tu (jJ s.next tu (hs.map λz=>(z,fb z)) es s.runs) os es [] T fb []->l.dr=a.dr->R5 K0 lf tu es->R5 es lf tu es->(dF s.prs=hs.map λz=>(z,(fb z:Int)))->TK G i->Q .non i):vD c [.ref a.dr] G Q E:=by
 obtain⟨F,B⟩:=L.ki.rowsC (bD _) A;have o:=L.ki.rle;refine#[a,s,C,as,F,fb,nm,qs,s.next,lf,tu,rfl,L.ki.dat,Zo,λr o=>?_,v,L.ki.life,L.ki.turn,B,λl out os i D H I J M fr=>?_]
 .obtain⟨⟨t,N⟩,_⟩:=L.ki.rc r o;exact sX N
 refine JB J.ex (LB λm hs es=>QZ λO n asc u _ _ ζ=>?_);subst ζ;have x:NS C fb lf tu (s.runs.map (·.n)) m hs es:=#[O,n,asc,u];have t:TK G i:=λy R e=>fr _ _ e λm=>L.ki.dat.out e #[R,rfl] (IN _ m)
 have S:bH C=K0:=by have:=L.ki.kc;rwa [append_nil]at this
 have k:=L.ki.folded x H t I;obtain⟨rfl,_⟩:=L.ki.pr.fold (f:=fb) L.ki.sub x λz hz=>by
  have U:=L.ki.pa z;by_cases w:z∈s.prs.map (·.1)
  .exact L.ki.pn z w
  rw[xC w]at U;omega
 have W:eF C fb tu (s.runs.map (·.n)) s.next hs es=jJ s.next tu (hs.map λz=>(z,fb z)) es s.runs:=by
  have Y:∀j:DM,(∀r∈j,r∈s.runs)->bF C tu (j.map (·.n))=j.flatMap (dJ tu):=λj=>by
   induction j with
   | nil=>exact λ_=>rfl
   | cons r j Z=>
    intro h;have p:=Z λr' h'=>h r' (cR _ h')
    unfold bF at p ⊢;rw[map_cons,FM,FM,p,L.ki.again (h r eG)];rfl
  unfold eF jJ;rw[Y _ λ_ z=>z,map_map,cons_append,cons_append,append_assoc];rfl
 rw[W]at k;refine q l hs es os i (L.step (λy g=>?_) (λy a0 e g=>fr y a0 e λm=>g<|IN _ m) k) D #[asc,λe=>?_] #[asc,λe=>?_] (L.ki.bookL n) t
 .rcases MN.mp g with g|g
  .exact(M y g).imp (IN _) id
  exact .inl<|GJ _ g
 .rw[x.iff e,S];refine#[λh=>h.1,λh=>#[h,λhq=>?_]];obtain⟨r,A4,e2⟩:=(Ak L.ki).mp hq;refine JB (L.ki.ml _ e h.1 h.2) (JR λd' y h1=>?_);have:=L.ki.bz r A4;rw[e2,h1]at this;cases this
 refine#[λh=>#[?_,((x.iff e).mp h).1.2],λh=>(dE h.1).1];have:=oH (K:=[]) x.nd h
 rwa [nil_append]at this
end
def aCK{k:bC}(h:k∈kvs.map (·.1)):∃v,bA kvs k=!v:=by
 cases e:bA kvs k with
 | some v=>exact#[v,rfl]
 | none=>exact IZ h<|kM e
inductive Fj(K:W.Frag)(vs:A1)(H:Hp)(Q:VK)(E_:XK):Prop
 | mk(a:TD)(ns:EZ):vs=[.ref a]->MO K H a (ns.map V.int)->ns.length<=63->(∀H',Q (.bl true) H')->Fj K vs H Q E_
def aCL(T:Txt K mg)(OA:Callee^1 "_law_deck" CW (Qr K))(c5:Callee^1 "_law_draw" CV jY)(HS:Callee^2 "_law_unlike" f6 sU)(OB:QJ^6 "Door" c.D XX [] (Cn c))(HU:QJ^1 "House" CH cL [.non,.non] (tJ CH))(LC:Callee^6 "_law_steps" gG (Cs c))(om:bP^4 c.D "force" EX (vB c))(U3:bP^5 c.D "come" aW (rH c))(d5:bP^2 c.D "book_rows" EX (rK c))(A0:bP^4 c.D "kept" EX (rG c))(f7:bP^2 c.D "under" EX (oZ c))(q9:bP^2 c.D "rows" EX (rJ c))(wk:bP^2 c.D "now" EX (Vc c))(CG:bP^7 c.D "fold" EX (vD c))(HV:Callee^1 "_law_folded" gi qD)(yc:Callee^7 "_law_risen_right" gm (sm c))(U4:bP^3 c.D "fall" CZ (vA c))(U5:bP^6 c.D "rise" CY (vC c))(F:RO K "law" "law" pM f fd):MY P w K mg base vP 8 f fd CW (Fj K):=by
 refine F.gg iA λcdv b6 outer s b7 vs b8 b9 C h=>?_
 .obtain⟨sa,ns,rfl,hS,hlen,Q0⟩:=h;have hu:=C.units0;have j7:=dN C;have T1:=C.units;exists _,(!"`1 ~#`OA .%0#!<:`2 ~#):`3 ~#`HS .%12'H'm.%1'#!!<,#!!!!<:`4 ~#~B3l'P]:`5 ~#dH'm.%1'#!!<,H'm.%1'#!!<,H'm.%1~U'~x'',,#!!<,#!!!Zm.%1'#!!<B:`6 ~#`OB .%|.-`3 ~,l'P]5?#!!!~Q:`7 ~#)')'`R.ku {R.ji3 {R.ji3 {R.kq1 :V%%|IH'm.%1'#!!<,#!|R`8 ~#t`LC .%167~B3'Pl]4#!!!!!<jqk(&;/`om .6AEHc7)Td''|/5',5m.%1H~U'5,',#!!<#!!!!!Zm.%1'#!!<B,7)c~@~+~*Lm.%1'#!!<'=`9 ~#`U3 .6c7)T|])|.-`3 ~,l'P],))-`3 ~,'#!!!+#!!!!D:Hc7)T`R.jh %|L|iL-`9 >)~)#!~A,7)c~@~+~*`om .6AEV%|<.6A|=.6A~}.6A|!.6A#!!!!Zu`10 ~#t~'~E~F~I`10 |d~%#!yE&W`11 ~#`wk .6A|<.6A|=.6A~}.6A#!!!!+:~i`CG .6A~%=k(&;/|p|(`wk .6A|<.6A|=.6A~}.6A#!!!!+`11 |d=~w-`11 >c7)T=~>~=xk(&;/|p|(|!.6A`HV .%7-`11 >-`11 >-`11 >c7)T#!!!!!<=k(&;/`yc .%16-`11 >-`11 >-`11 >c7)T#!!!!!!<jqk(&;/&$$$$$$$$Lm.%1'#!!<'=`U4 .6'#!DE`U5 .6c7)T#!DE&$;/&/&$$$Wk(&$$$$$$$$" (yg rfl (js:=[none]) (N:=["_law_house"]) (JQ.by (aB pM) um rfl rfl Zk) (aR rfl) (xo (K:=K)<|f8 4) λb4 s₂ H₂ fp=>#[(vi (i:=0) (show(["_law_house"]:A2).Nodup by decide +kernel)),AX,(px<|lc (f8 0)<|lc (R.ie HU C rfl) li)]));refine#[sa,ns,rfl,hS,λd b H1 hd0 hb0 D1 s1=>?_];refine#[d,b,5,rfl,D1,Zd,Zd,λr1 H2 a0 a1 D2 k2=>?_];obtain⟨r1,rfl⟩:=sg a0;refine#[d,b,LET,8,4+r1,by rw[<- aCI,show((4+r1:Nat):Int)=4+(r1:Int) by omega];rfl,D2,Zo,Zo,Zd,aE9,by show 4+r1<=26;omega,Zd,λJ ws H3 wz FK gn nn nn' D3 k3=>?_];dsimp only [aI];obtain⟨p,g1,a,rfl⟩:∃p g1 a,ws=p::g1::a:=by
   match ws,FK with
   | p::g1::a,_=>exact#[p,g1,a,rfl]
   | [],h=>simp at h;omega
   | [_],h=>simp at h;omega
  have YO:isNm p:=wz.nm p eG;have NV:isNm g1:=wz.nm g1<|cR _ eG;have YJ:=nodup_cons.mp wz.nd;have FT:=nodup_cons.mp YJ.2;have ng:p≠g1:=λe=>YJ.1 (by rw[e];exact eG)
  have KS:Vr a:=#[FT.2,λz O=>wz.nm z<|cR _<|cR _ O,by simp at FK;omega,by simp at FK;omega];have hz6:a.length<=6:=by simp at FK;omega
  obtain⟨H,zr,ez0⟩:∃H zr,a=H::zr:=by
   cases a with
   | nil=>exact IZ KS.2.2.1 Zs
   | cons H zr=>exact#[H,zr,rfl]
  refine#[_,JX gn,λE Zn=>?_];have NT:jK ((p::g1::a).map V.str) none (!(2:Int))=[p,g1].map V.str:=by
   rw[show(2:Int)=((2:Nat):Int) from rfl,nQ];rfl
  rw[NT];dsimp only [aI];have s4:=aF (o:=.lst ([p,g1].map V.str)) Zn;have gh:(aH H3 E<|.lst<|[p,g1].map V.str) E=!(.lst<|[p,g1].map V.str):=aA;have d8:=D3.ne Zn;generalize aH H3 E (.lst<|[p,g1].map V.str)=H4 at s4 gh ⊢;have gn4:=s4 _ _ gn;have D4:=D3.same s4;have nlh:E≠J:=λe=>by rw[e,gn]at Zn;cases Zn
  refine cY (λσ' G=>∃y:Nat,σ'=([!.ref sa,!.ref d,!.str "abcdefghijklmnopqrstuvwxyz",!.ref J,!.ref E,!.int (y:Int),none,none,none,none,none,none]:St)/\1<=y/\y<=50000000000/\Dk G d b/\G J=!(.lst<|(p::g1::a).map V.str)/\G E=!(.lst<|[p,g1].map V.str)) (λnx X=>?_) ?_
  .refine#[d,b,12,rfl,D4,Zd,Zd,λr2 G2 b0 b1 E2 j2=>#[d,b,12,rfl,E2,Zd,Zd,λr3 G3 c0 c1 E3 j3=>#[#[Zd,Zd,Zd],.inl #[Zd,Zd],d,b,_,rfl,E3,Zd,Zd,λr4 G4 e0 e1 E4 j4=>#[uR rfl,λa2 hp=>#[d,b,3,rfl,E4.new hp,Zd,Zd,λr5 G5 f0 f1 E5 j5=>?_]]]]];have UP:=E4.ne hp;have gp:=j5 a2 _ aA UP.1 UP.2;have kk:=(((j2.trans j3).trans j4).trans<|.new hp).trans j5;have e1':r4<50000000000:=e1;have fin:∀m:Int,1<=m->m<=50000000000->nx ([!.ref sa,!.ref d,!.str "abcdefghijklmnopqrstuvwxyz",!.ref J,!.ref E,!.int m,none,none,none,none,none,none]:St) G5:=λm h1 h2=>by
    obtain⟨y,rfl⟩:=sg (r:=m) Zo;exact X _ _ #[y,rfl,Zo,Zo,E5,kk _ _ gn4 nn nn',kk _ _ gh d8.1 d8.2]
   have:r5=0∨r5=1∨r5=2:=by omega
   rcases this with rfl|rfl|rfl
   .exact#[_,JX gp,_,rfl,fin _ Zo Zo]
   .exact#[_,JX gp,_,rfl,fin _ Zo Zo]
   exact#[_,JX gp,_,rfl,fin _ Zo Zo]
  refine λ_ H5=>JU λy=>MI λζ iW' iX' D5 gn5 ZA=>?_;subst ζ;exists _,JX gn5,.str g1,eW (show(V.str p::V.str g1::a.map V.str)[1]?=some _ from rfl);have VA:jK g1.cps.toList none (!(5:Int))=g1.cps.toList.take 5:=nQ g1.cps.toList 5;obtain⟨nm,enm,Z0,hn5⟩:∃nm:Str,nm=tx (jK g1.cps.toList none<|!(5:Int))/\isNm nm/\nm.length<=5:=by
   exists _,rfl,?_
   .rw[VA];refine#[?_,?_,λx hx=>?_]
    .rw[dO,mV];have h0:g1.cps.toList.length=g1.length:=by simp[Str.length]
     have:=NV.1;omega
    .rw[dO,mV];omega
    simp only [toList_toArray]at hx;exact NV.2.2 x<|mem_of_mem_take hx
   rw[VA,dO,mV];omega
  refine#[by have:=NV.2.1;exact gK this Zd,?_];rw[<- enm];exists E,rfl,#[_,JX ZA];refine bB (aX K E<|[p,g1].map V.str) (IY rfl) (λj ys G=>I7 H5 G/\∃M:List W,ys=M.map (λz=>V.ref z.1)/\M.length<=j/\eH G M/\M.map (λz=>z.2.1)=([p,g1].take j).map Sum.inr) (λj ys G #[e1,M,e2,e3,_]=>#[JX<|e1 _ _ ZA,by rw[e2,aV];exact e3]) #[I7.refl _,[],rfl,bD _,(λ_ h=>nomatch h),rfl] (?_)<|?_
  .refine λj x ys G hx=>JW λe1=>JU λM=>KJ λe2 e3 e4 e5=>?_;rw[eJ]at hx;obtain⟨VB,hhj,rfl⟩:=Option.map_eq_some_iff.mp hx;dsimp only [aI];intro x dx NH bS' d8;refine#[x,dx,rfl,aA,λG1 f1 f2=>#[rfl,?_]];have sG:I7 G G1:=λa2 o e=>f1 _ _ (by rw[aD (aE e NH),aD (aE e bS')];exact e) (aE e NH)
   refine#[bK rfl,λt G2 s2 gt=>#[(e1.trans sG).trans s2,M++[(t,Sum.inr VB,.ref x)],by rw[e2,dL];rfl,by rw[mU];simpa using e3,λz O=>?_,?_]]
   .rcases MN.mp O with m|m
    .exact s2 _ _<|sG _ _<|e4 z m
    rw[LV.mp m];exact gt
   rw[dL,e5,aM hhj,dL];rfl
  refine λys G=>JW λe1=>JU λM=>KJ λe2 e3 e4 e5=>?_;rw[aV,take_length]at e5;intro VC VD;have I:=e1.trans<|aF (o:=.lst ys) VD;have VE:(aH G VC<|.lst ys) VC=!(.lst<|M.map λz=>V.ref z.1):=by rw[aA,e2]
  have wat:eH (aH G VC<|.lst ys) M:=λz O=>aF VD _ _ (e4 z O)
  generalize aH G VC (.lst ys)=H6 at I VE wat ⊢;have hul:M.length=2:=by
   have:=congrArg length e5;simpa using this
  intro a2 dx hp KG iZ';have ZC:∀ {q a4},H6 q=!a4->(aH (aH H6 dx<|.own a2) a2<|.ins c.D dx []) q=!a4:=λe=>by rw[aD (aE e hp),aD (aE e KG)];exact e
  refine#[a2,dx,VC,nm,_,M,rfl,aA,Z0,hn5,ZC VE,(λz O=>ZC<|wat z O),Zo,λa7 H7 YW h7 hfx k7=>#[rfl,?_]];have u:I7 H6 H7:=λq a4 e=>k7 _ _ (ZC e) (aE e hp)
  have ekv:aK [] (M.map (·.2))=M.map (·.2):=by
   rw[oN _ _ ?_ λ_ _=>rfl]
   .rfl
   rw[map_map];show(M.map λz=>z.2.1).Nodup;rw[e5];exact sC (by simpa using ng)
  have hvs:∀z∈[p,g1],∃v,bA (M.map (·.2)) (Sum.inr z)=!v:=λz O=>aCK (by
   rw[map_map];show Sum.inr z∈M.map λz=>z.2.1
   rw[e5];exact mem_map_of_mem O)
  rw[ekv]at h7;have HW:∀q a4,H6 q=!a4->q∉a7.fix++(ZJ nm (y:Int)<|M.map (·.2)).runs.map (·.p):=λq a4 e m=>by
   have m':q∈a7.fix:=by
    rcases MN.mp m with z|z
    .exact z
    exact nomatch z
   rcases hfx q m' with z|z
   .rw[z]at e;rw[e]at hp;cases hp
   rw[ZC e]at z;cases z
  subst YW;dsimp only [aI];have gn7:=u _ _<|I _ _ gn5;have gh7:=u _ _<|I _ _ ZA;have D7:=(D5.same I).same u;refine JB (id D5.ex) (LB λns0 sm0 k0=>JE λgd gb _=>?_);have L7:LW c H7 d b [(J,.lst<|(p::g1::a).map V.str),(E,.lst<|[p,g1].map V.str)] a7 (ZJ nm (y:Int)<|M.map (·.2)) a (dG H a) y 0 [] [] [] [] [] (λ_=>0) []:=by
   refine#[D7,#[by simpa using nlh.symm,λq hq=>?_],λq hq=>?_,#[λm=>?_,λm=>?_],λq hq=>?_,KI.start h7 Zo (by rw[Od];omega)]
   .simp only [mem_cons,GH,or_false]at hq;rcases hq with rfl|rfl
    .exact gn7
    exact gh7
   .simp only [mem_cons,GH,or_false]at hq;rcases hq with rfl|rfl<;>exact λ_ z=>nomatch z
   .simp only [map_cons,map_nil,mem_cons,GH,or_false]at m;rcases m with m|m
    .exact nn m.symm
    exact d8.1 m.symm
   .simp only [map_cons,map_nil,mem_cons,GH,or_false]at m;rcases m with m|m
    .exact nn' m.symm
    exact d8.2 m.symm
   simp only [map_cons,map_nil,mem_cons,GH,or_false]at hq;rcases hq with rfl|rfl|rfl|rfl
   .exact HW _ _<|I _ _ gd
   .exact HW _ _<|I _ _ gb
   .exact HW _ _<|I _ _ gn5
   exact HW _ _ (I _ _ ZA)
  intro B hsd;refine#[aA,tO 0 1,rfl,by show 2<=15;decide,?_];rw[show aK [] (tO 0 1)=tO 0 1 by kernel_rfl,jN];dsimp only [aI];have L8:=L7.add (o:=.dK (tO 0 1)) hsd (λ_ z=>nomatch z);generalize aH H7 B (.dK<|tO 0 1)=H8 at L8 ⊢;have LL0:LL c a7.dr d b B J E p g1 a H y 0 1 H8:=#[a7,ZJ nm (y:Int) (M.map λz:W=>z.2),0,_,_,_,_,_,L8,bD _,rfl,bD _,rfl,hvs];generalize a7.dr=dr at LL0 ⊢;clear L8 L7 hsd hvs h7 hfx k7 HW;refine#[d,b,5,rfl,LL0.dk,Zd,Zd,λr6 H9 b0 b1 D9 k9=>#[_,rfl,Zo,Zo,?_]];have LL1:=LL0.draw D9 k9;refine bT (iX 0 (2+r6).toNat) (λi σ G=>(∃o8 o9 Y HR,σ=(QQ sa d J E y dr B o8 o9 Y HR))/\∃l,LL c dr d b B J E p g1 a H y l (1+9*i) G) (λ_ _ _ _=>trivial)
   #[#[_,_,_,_,rfl],0,LL1] ?_ (λσ G _=>Q0 G)
  refine λi x σ G hx=>JW λζ=>RH λl a1 s1 tu b4 as K0 TT fb=>MI λL hle NU hN η hv=>?_;subst η;obtain⟨o8,o9,Y,HR,rfl⟩:=ζ;obtain⟨rfl,hi⟩:=wR hx;have hi5:i<=5:=by omega
  dsimp only [aI];refine j1 λD hD=>?_
  refine wJ (λv A=>v=false/\∃s2 QF C2 FN ZD ZE,LW c A d b (X3 B J E l s2.next p g1 a) a1 s2 a (dG H a) y QF C2 FN K0 ZD TT fb ZE/\QF<=l/\s2.next<=1+9*i+8/\∀g∈[p,g1],∃v,bA s2.hs (Sum.inr g)=!v) (λk hk=>?_) (λA h=>nomatch h.1) ?_
  .refine#[_,JX<|L.ow.get 1 rfl,λln hln=>?_];have VF:jK ((p::g1::a).map V.str) (!(2:Int)) none=a.map V.str:=by
    rw[show(2:Int)=((2:Nat):Int) from rfl,vX];rfl
   rw[VF];have La:=(L.add (o:=.lst (a.map V.str)) hln (λ_ z=>nomatch z)).perm ((List.Perm.swap _ _ _).trans (((List.Perm.swap _ _ _).cons _).cons _):List.Perm [(B,HO.dK<|tO l s1.next),(ln,HO.lst<|a.map V.str),(E,HO.lst<|[p,g1].map V.str),(J,HO.lst<|(p::g1::a).map V.str)] _);refine#[d,b,B,ln,E,_,a,[p,g1],a,a1,s1,dG H a,y,tu,l,b4,as,K0,[],TT,fb,[],rfl,La,hle,KS,(λ_ z=>z),rfl,by simpa using ng,(λz O=>by simp only [mem_cons,GH,or_false]at O;rcases O with rfl|rfl;exact YO;exact NV),(λz O j hj=>Vv O j hj),hv,Zo,λs2 QF C2 FN ZD ZE A L' e1 e2 e3=>hk _ _ #[rfl,s2,QF,C2,FN,ZD,ZE,?_,e1,Zo,by rw[e3];exact hv]];exact(L'.less<|(sublist_cons_self _ _).cons_cons _).perm ((List.Perm.swap _ _ _).cons _)
  refine λG2=>JW λ_=>RG λs2 QF C2 FN ZD ZE=>KJ λL2 RY hN2 XZ=>?_;dsimp only [kJ];refine cY (λσ' A=>σ'=(QQ sa d J E y a1.dr B (!.int (i:Int)) o9 Y HR:St)/\LL c a1.dr d b B J E p g1 a H y l (1+9*i+8) A) (λnx X=>?_) ?_
  .refine#[_,_,L2.ki.dat.dr,by kernel_rfl,?_];dsimp only [iF];exact L2.force Zo λb5 s3 G3 L3 h3 n3 hs3 _=>X _ _ #[rfl,a1,s3,QF,C2,FN,_,_,_,by rw[n3];exact L3,RY,h3,Zo,rfl,by rw[hs3];exact XZ]
  rintro _ G3 ⟨rfl,LL3⟩;generalize a1.dr=dr at LL3 hD ⊢;clear L2 L hv XZ;refine cY (λσ' A=>σ'=(QQ sa d J E y dr B (!.int (i:Int)) o9 Y HR:St)/\∃tt',LL c dr d b B J E p g1 a H y tt' (1+9*i+8) A) (λnx X=>?_) ?_
  .revert LL3;refine RJ λa3 s3 tu3 C3 NY K3 T3 fb3=>MI λL3 ji' bU' hN3 ζ hv3=>?_;subst ζ;refine#[B,_,rfl,yA<|L3.ow.get 0 rfl,.inl #[Zd,Zd],d,b,_,rfl,L3.dk,Zo,Zo,λr7 G4 c0 c1 D4 k4=>#[uR rfl,λa2 hp=>#[d,b,5,rfl,D4.new hp,Zd,Zd,λr8 G5 d0 d1 D5 k5=>?_]]];have L4:=L3.draw D4 k4;have L5:=(L4.add (o:=.lst [.int 0,.int 1,.int ((y:Int)-1),.int (y:Int),.int r7]) hp (λ_ z=>nomatch z)).draw D5 k5;obtain⟨v,hv,ev⟩:∃v:Int,pI [V.int 0,V.int 1,V.int ((y:Int)-1),V.int (y:Int),V.int r7] r8=!.int v/\0<=v:=by
    have:r8=0∨r8=1∨r8=2∨r8=3∨r8=4:=by omega
    rcases this with rfl|rfl|rfl|rfl|rfl
    .exact#[_,rfl,Zd]
    .exact#[_,rfl,Zd]
    .exact#[_,rfl,Zo]
    .exact#[_,rfl,Zo]
    exact#[_,rfl,c0]
   obtain⟨v,rfl⟩:=sg ev;refine#[_,JX<|L5.ow.get 0 rfl,_,hv,B,_,rfl,NZ.k (k:=Sum.inr "turn") (L5.ow.get 1 rfl) (by show 2<_;decide),X _ _ #[rfl,l+v,a3,s3,tu3,C3,NY,K3,T3,fb3,?_,Zo,bU',hN3,rfl,hv3]];rw[show cB (tO l s3.next) (Sum.inr "turn") (.int<|(l:Int)+(v:Int))=tO (l+v) s3.next by kernel_rfl];exact(L5.put 1 rfl (.dK<|tO (l+v) s3.next) (λ_ z=>nomatch z)).less (sublist_cons_self _ _)
  rintro _ G4 ⟨rfl,l,LL4⟩;refine Sj (λv A=>LL c dr d b B J E p g1 a H y l (1+9*i+8) A) (λk hk=>#[d,b,2,rfl,LL4.dk,Zd,Zd,λr A _ _ D' k'=>hk _ _<|LL4.draw D' k']) ?_ ?_
  .refine λG5=>RJ λa5 s5 tu5 C5 as5 K5 T5 fb5=>MI λL5 bV' jm' hN5 ζ hv5=>?_;subst ζ;refine cY (λσ' A=>∃(t:TD)(I:DS)(C6:BR)(GX:BZ),σ'=(QQ sa d J E y a5.dr B (!.int (i:Int)) (!.ref t) Y HR:St)/\LW c A d b (X3 B J E l s5.next p g1 a) a5 I a (dG H a) y l C6 GX K5 [] T5 fb5 []/\I.hs=s5.hs/\((∃wd xs,A t=!.tup (.str wd::xs)/\wd≠"begun"/\I.next=s5.next)∨(A t=!.tup [.str "begun",.int (s5.next:Int)]/\I.next=s5.next+1))) (λnx X=>?_) ?_
   .have at2:pI ((p::g1::a).map V.str) 2=!.str H:=by rw[ez0];exact eW (show(V.str p::V.str g1::V.str H::zr.map V.str)[2]?=some _ from rfl)
    have ZF:isNm H:=KS.2.1 H (by rw[ez0];exact eG);exists _,_,L5.ki.dat.dr,by kernel_rfl,B,_,rfl,yA<|L5.ow.get 0 rfl,_,JX<|L5.ow.get 1 rfl,_,at2;have VG:jK H.cps.toList none (!(7:Int))=H.cps.toList.take 7:=nQ H.cps.toList 7;refine#[by have:=ZF.2.1;exact gK this Zd,?_];rw[VG];exists ?_
    .have h7:(tx<|H.cps.toList.take 7).length<=7:=by rw[dO,mV];omega
     exact gK (Nat.add_le_add (show("q":Str).length<=1 by decide +kernel) h7) Zk
    refine#[_,JX<|L5.ow.get 1 rfl,_,at2,bK rfl,λdd G6 I PX=>?_];have S:=L5.same I;dsimp only [iF];exact S.come (q:=fq H) (x:=.add H 1) Zo bV' (aAT ZF).1 (aAT ZF).2 eG #[ZF,Zd,Zd] (λa2 hp=>by rw[LV.mp hp,ez0];exact eG) (λa2 hp=>nomatch hp) PX λt u C7 as7 G7 L7 h7 _ hc=>X _ _ #[t,u,C7,as7,rfl,L7,h7,hc]
   refine λ_ G6=>NF λt I C6 GX=>KJ λζ S eh6 hc=>?_;subst ζ;refine cY (λσ' A=>σ'=(QQ sa d J E y a5.dr B (!.int (i:Int)) (!.ref t) Y HR:St)/\LW c A d b (X3 B J E l I.next p g1 a) a5 I a (dG H a) y l C6 GX K5 [] T5 fb5 []) (λnx X=>?_) ?_
   .exists B,_,rfl,Vt<|S.ow.get 0 rfl;have key:∀m:Int,m=(I.next:Int)->cB (tO l s5.next) (Sum.inr "next") (.int m)=tO l I.next:=λm e=>by rw[e];kernel_rfl
    have Lp:=S.put 0 rfl (.dK<|tO l I.next) (λ_ z=>nomatch z);rcases hc with⟨wd,xs,gt,d8,en⟩|⟨gt,en⟩
    .refine#[_,JV gt,.str wd,eW (show(V.str wd::xs)[0]?=some _ from rfl),B,_,rfl,NZ.k (k:=Sum.inr "next") (S.ow.get 0 rfl) (by show 2<_;decide),X _ _ #[rfl,?_]];rw[key _ (show(s5.next:Int)+(if decide (wd="begun")=true then 1 else 0)=(I.next:Int) by rw[T0 d8,en];simp)];exact Lp
    refine#[_,JV gt,_,rfl,B,_,rfl,NZ.k (k:=Sum.inr "next") (S.ow.get 0 rfl) (by show 2<_;decide),X _ _ #[rfl,?_]];rw[key _ (show(s5.next:Int)+(if decide (("begun":Str)="begun")=true then 1 else 0)=(I.next:Int) by rw[en,UF rfl];rfl)];exact Lp
   rintro _ G7 ⟨rfl,L7⟩;have hN6:I.next<=1+9*i+9:=by rcases hc with⟨_,_,_,_,en⟩|⟨_,en⟩<;>omega
   have QG:∀g∈[p,g1],∃v,bA I.hs (Sum.inr g)=!v:=by rw[eh6];exact hv5
   clear hc S L5;refine cY (λσ' A=>σ'=(QQ sa d J E y a5.dr B (!.int (i:Int)) (!.ref t) Y HR:St)/\∃(u:DS)(K7 T7:DE)(FP:Str->Nat),LW c A d b (X3 B J E l u.next p g1 a) a5 u a (dG H a) y l C6 GX K7 [] T7 FP []/\u.safe=u.rows.length/\u.next<=1+9*i+9/\∀g∈[p,g1],∃v,bA u.hs (Sum.inr g)=!v) (λnx X=>?_) ?_
   .refine#[_,_,L7.ki.dat.dr,by kernel_rfl,?_];dsimp only [iF];exact L7.force Zo λb5 s8 G8 L8 h8 n8 GW _=>X _ _ #[rfl,s8,_,_,_,by rw[n8];exact L8,h8,Zo,by rw[GW];exact QG]
   refine λ_ G8=>JW λζ=>NF λu K7 T7 FP=>KJ λL8 bX' hN8 hv8=>?_;subst ζ;clear L7 QG hN6;refine cY (λσ' A=>∃Y:EY,σ'=(QQ sa d J E y a5.dr B (!.int (i:Int)) (!.ref t) Y HR:St)/\LW c A d b (X3 B J E l u.next p g1 a) a5 u a (dG H a) y l C6 GX K7 [] T7 FP []) (λnx X=>?_) ?_
   .refine#[_,_,L8.ki.dat.dr,by kernel_rfl,?_];dsimp only [iF];refine L8.books λl1 z1 G9 L9 FH MP _=>?_
    refine#[_,_,L9.ki.dat.dr,by kernel_rfl,?_];dsimp only [iF];refine L9.kepts λl2 k2 e2 PY BV OC OW E7 _=>?_
    refine#[_,_,BV.ki.dat.dr,by kernel_rfl,?_];dsimp only [iF];refine BV.unders Zo λl3 u3 QH CF VH _=>?_
    refine#[_,_,CF.ki.dat.dr,by kernel_rfl,?_];dsimp only [iF];refine CF.rowsL λl4 VI N9 _=>?_
    have FR:=N9.ki.prs64;have BU:=N9.ki.rle;have FV:=N9.ki.rl;have hr3:=N9.ki.len;have b1:(bM z1).length<=400:=by
     have h1:=congrArg length MP;rw[aV]at h1;unfold dF at h1;rw[aV]at h1;have h2:=length_filter_le (λn=>decide (0<bZ u.prs n))<|qE<|u.prs.map (·.1);rw[(cN _).length_eq,aV]at h2;unfold bM;rw[aV];omega
    have b2:(k2.map V.ref).length<=400:=by rw[aV,<- OC.length];omega
    have b3:u3.length<=400:=by rw[<- VH.length];omega
    refine#[uR rfl,λlt A3=>?_];have U:=N9.add (o:=.lst [.ref l1,.ref l2,.ref l3,.ref l4]) A3 (λ_ z=>nomatch z);generalize aH VI lt (.lst [.ref l1,.ref l2,.ref l3,.ref l4])=ZG at U ⊢;exists lt,rfl,#[_,JX<|U.ow.get 0 rfl];refine bT (D:={nx:=nx,rt:=D.rt,bk:=D.bk,ct:=D.ct }) (aX K lt [.ref l1,.ref l2,.ref l3,.ref l4]) (λk σ G=>∃(Y:EY)(v1 v2 v3 v4:A1),σ=(QQ sa d J E y a5.dr B (!.int (i:Int)) (!.ref t) Y HR)/\LW c G d b ((lt,.lst [.ref l1,.ref l2,.ref l3,.ref l4])::(l4,.lst v4)::(l3,.lst v3)::(l2,.lst v2)::(l1,.lst v1)::X3 B J E l u.next p g1 a) a5 u a (dG H a) y l C6 GX K7 [] T7 FP []/\v1.length<=400+k/\v2.length<=400+k/\v3.length<=400+k/\v4.length<=400+k) (λk σ G=>QL λ_ _ _ _ _=>JE λ_ FQ _=>JX<|FQ.ow.get 0 rfl)
     #[_,_,_,_,_,rfl,U,b1,b2,b3,Zo] ?_ (λσ G=>QL λY v1 v2 v3 v4=>JE λe FQ _=>X _ _ #[Y,e,FQ.less<|((((sublist_cons_self _ _).trans<|sublist_cons_self _ _).trans<|sublist_cons_self _ _).trans<|sublist_cons_self _ _).trans<|sublist_cons_self _ _])
    refine λk x σ G hx=>QL λY v1 v2 v3 v4=>MI λζ FQ c1 c2 c3 c4=>?_;subst ζ;have hk:k<4:=(NJ.mp hx).1;have NM:∀ {v:A1},v.length<=400+k->v.length<1000:=λh=>by omega
    have:k=0∨k=1∨k=2∨k=3:=by omega
    dsimp only [aI];rcases this with rfl|rfl|rfl|rfl
    .cases hx;have gl:=FQ.ow.get 4 rfl;refine#[.inl #[rfl,_,JX gl],l1,_,_,rfl,rfl,gl,GI (NM c1) Zd,_,v1++[.non],v2,v3,v4,rfl,FQ.put 4 rfl (.lst<|v1++[.non]) (λ_ z=>nomatch z),by simp;omega,Zo,Zo,Zo]
    .cases hx;have gl:=FQ.ow.get 3 rfl;refine#[.inl #[rfl,_,JX gl],l2,_,_,rfl,rfl,gl,GI (NM c2) Zd,_,v1,v2++[.non],v3,v4,rfl,FQ.put 3 rfl (.lst<|v2++[.non]) (λ_ z=>nomatch z),Zo,by simp;omega,Zo,Zo]
    .cases hx;have gl:=FQ.ow.get 2 rfl;refine#[.inl #[rfl,_,JX gl],l3,_,_,rfl,rfl,gl,GI (NM c3) Zd,_,v1,v2,v3++[.non],v4,rfl,FQ.put 2 rfl (.lst<|v3++[.non]) (λ_ z=>nomatch z),Zo,Zo,by simp;omega,Zo]
    cases hx;have gl:=FQ.ow.get 1 rfl;refine#[.inl #[rfl,_,JX gl],l4,_,_,rfl,rfl,gl,GI (NM c4) Zd,_,v1,v2,v3,v4++[.non],rfl,FQ.put 1 rfl (.lst<|v4++[.non]) (λ_ z=>nomatch z),Zo,Zo,Zo,by simp;omega]
   rintro _ G9 ⟨Y,rfl,L9⟩;clear L8;refine cY (λσ' A=>∃(tp lb lk lu:TD)(bz:FO)(ks:BZ)(es:DE)(M:A1),σ'=(QQ sa d J E y a5.dr B (!.int (i:Int)) (!.ref t) Y (!.ref tp):St)/\LW c A d b ((lb,.lst<|bM bz)::(lk,.lst<|ks.map V.ref)::(lu,.lst M)::X3 B J E l u.next p g1 a) a5 u a (dG H a) y l C6 GX K7 [] T7 FP []/\A tp=!.tup [.int (l:Int),.ref lb,.ref lk,.ref lu]/\OS A bz/\bz.map (·.2)=dF u.prs/\Paired (PV A) es ks/\R5 K7 y l es/\es.length<64/\Paired (uN A) u.runs M) (λnx X=>?_) ?_
   .exists _,_,L9.ki.dat.dr,by kernel_rfl,a5,u,rfl,L9.ki.dat;refine#[_,_,L9.ki.dat.dr,by kernel_rfl,?_];dsimp only [iF];refine L9.books λlb bz PY BV FH MP FZ=>?_
    refine#[_,_,BV.ki.dat.dr,by kernel_rfl,?_];dsimp only [iF];refine BV.kepts λlk ks es QH CF OC OW E7 PU=>?_
    refine#[_,_,CF.ki.dat.dr,by kernel_rfl,?_];dsimp only [iF];refine CF.unders Zo λlu M VI N9 VH QQ=>?_
    refine#[bK rfl,λtp ZG yb HI=>?_];rw[L9.ki.turn]at HI;have s3:=(PU.trans QQ).trans yb;refine X _ _ #[tp,lb,lk,lu,bz,ks,es,M,rfl,((N9.same yb).perm ?_),HI,(λz O=>s3 _ _<|FH z O),MP,Paired.map' (λ_ _ w=>w.tk<|TK.of<|QQ.trans yb) OC,OW,E7,Paired.map' (λ_ _ #[t,e,g]=>#[t,e,yb _ _ g]) VH];exact(List.Perm.swap _ _ _).trans (((List.Perm.swap _ _ _).cons _).trans<|List.Perm.swap _ _ _)
   refine λ_ PY=>RJ λtp lb lk lu bz ks es M=>TY λζ BV HI FH MP SG WO WE pu1=>?_;subst ζ;clear L9;refine wJ (λv A=>v=false/\∃(a8:DA)(GW:A2)(HQ:DE)(os:BZ),LW c A d b ((lb,.lst<|bM bz)::(lk,.lst<|ks.map V.ref)::(lu,.lst M)::X3 B J E l u.next p g1 a) a8 {u with rows:=os.map V.ref,safe:=(os.length:Int) } a (dG H a) y l (jJ u.next l (GW.map λz=>(z,FP z)) HQ u.runs) os HQ [] T7 FP []/\a8.dr=a5.dr/\R5 K7 y l HQ/\R5 HQ y l HQ/\(dF u.prs=GW.map λz=>(z,(FP z:Int)))/\TK PY A) (λk hk=>?_) (λA h=>nomatch h.1) ?_
   .refine#[_,_,BV.ki.dat.dr,by kernel_rfl,?_];dsimp only [iF];exact BV.fold bX' Zo λa8 GW HQ os QH CF e1 k1 k2 e2 tk=>hk _ _ #[rfl,a8,GW,HQ,os,CF,e1,k1,k2,e2,tk]
   refine λQH=>JW λ_=>NF λa8 GW HQ os=>MI λCF e8 kp8 kp9 eb8 QI=>?_;obtain rfl:=WO.uniq kp8;dsimp only [kJ];rw[<- e8]at hD ⊢;have PQ:OS QH bz:=λz O=>QI _ _ (FH z O)
   have OC:=Paired.map' (λ_ _ w=>PV.tk QI w) SG;have pu2:Paired (uN QH) u.runs M:=Paired.map' (λ_ _ #[t,e,g]=>#[t,e,QI _ _ g]) pu1;have CI:=QI _ _ HI;generalize DV:({u with rows:=os.map V.ref,safe:=(os.length:Int) }:DS)=s8 at CF;have VJ:s8.runs=u.runs:=by rw[<- DV]
   have ep8:s8.prs=u.prs:=by rw[<- DV]
   have Zg:s8.next=u.next:=by rw[<- DV]
   have eh8:s8.hs=u.hs:=by rw[<- DV]
   have ew8:s8.rows=os.map V.ref:=by rw[<- DV]
   have HQ:s8.safe=s8.rows.length:=by rw[<- DV];simp
   clear DV BV QI FH SG pu1 HI;refine wJ (λv A=>v=false/\LW c A d b ((lb,.lst<|bM bz)::(lk,.lst<|ks.map V.ref)::(lu,.lst M)::X3 B J E l u.next p g1 a) a8 s8 a (dG H a) y l (jJ u.next l (GW.map λz=>(z,FP z)) es u.runs) os es [] T7 FP []/\I7 QH A) (λk hk=>?_) (λA h=>nomatch h.1) ?_
   .exists _,_,CF.ki.dat.dr,by kernel_rfl,a8,s8,rfl,CF.ki.dat;refine#[_,_,CF.ki.dat.dr,by kernel_rfl,?_];dsimp only [iF];refine CF.books λlb3 bz3 VI N9 hz3 ez3 QQ=>?_
    refine#[_,_,N9.ki.dat.dr,by kernel_rfl,?_];dsimp only [iF];refine N9.kepts λlk3 ks3 es3 ZG U pk3 RT YX yb=>?_
    obtain rfl:=kp9.uniq RT;refine#[_,_,U.ki.dat.dr,by kernel_rfl,?_];dsimp only [iF];refine U.unders Zo λlu3 us3 G14 FQ VH GV=>?_
    refine#[bK rfl,λtp3 G15 KQ VL=>?_];have LD:=FQ.same KQ;have Q:=((QQ.trans yb).trans GV).trans KQ;rw[CF.ki.turn]at VL;exists 4,.tp [.sc (.int (l:Int)),.ls ((bz.map (·.2)).map λq=>.tp [.sc (.str q.1),.sc (.int q.2)]),.ls (es.map sk),.ls (u.runs.map Vu)],Zd,#[tp3,_,rfl,VL,.cons (Rep.scal rfl)<|.cons ?_<|.cons ?_<|.cons ?_ .nil],#[tp,_,rfl,Q _ _ CI,.cons (Rep.scal rfl)<|.cons ?_<|.cons ?_<|.cons ?_ .nil]
    .rw[MP,<- ep8,<- ez3];exact kR (LD.ow.get 2 rfl) λz O=>((yb.trans GV).trans KQ) _ _<|hz3 z O
    .exact rN (LD.ow.get 1 rfl)<|Paired.map' (λ_ _ w=>w.tk<|TK.of<|GV.trans KQ) pk3
    .rw[<- VJ];exact#[lu3,_,rfl,LD.ow.get 0 rfl,kr (Paired.map' (λ_ _ #[t,e,g]=>#[t,e,KQ _ _ g]) VH) LD.ki.dat.dd]
    .exact kR (LD.ow.get 3 rfl) λz O=>Q _ _<|PQ z O
    .exact rN (LD.ow.get 4 rfl)<|Paired.map' (λ_ _ w=>w.tk<|TK.of Q) OC
    .exact#[lu,_,rfl,LD.ow.get 5 rfl,kr (Paired.map' (λ_ _ #[t,e,g]=>#[t,e,Q _ _ g]) pu2) (by rw[<- VJ];exact LD.ki.dat.dd)]
    exists _,JV<|Q _ _ CI,_,rfl,B,_,rfl,yA<|LD.ow.get 6 rfl;have hd:(not (decide ((l:Int)=(l:Int))))=false:=by rw[UF rfl];rfl
    show k (not (decide ((l:Int)=(l:Int)))) G15;rw[hd];exact hk _ _ #[rfl,CF.same Q,Q]
   refine λVI=>JE λ_ N9 QQ=>?_;dsimp only [kJ];have WL:bz.length<=64:=by
    have h1:=congrArg length MP;rw[aV]at h1;unfold dF at h1;rw[aV]at h1;have h2:=length_filter_le (λn=>decide (0<bZ u.prs n))<|qE<|u.prs.map (·.1);rw[(cN _).length_eq,aV]at h2;have h3:=N9.ki.prs64;rw[ep8]at h3;omega
   have HJ:u.runs.length<=64:=by
    have:=N9.ki.rle;rw[VJ,Zg]at this;omega
   refine wJ (λv A=>v=false/\I7 VI A) (λk hk=>?_) (λA h=>nomatch h.1) ?_
   .refine#[_,_,N9.ki.dat.dr,by kernel_rfl,?_];dsimp only [iF];refine N9.rowsL λlr ZG U yb=>?_
    have Q:=QQ.trans yb;refine#[_,JV<|Q _ _ CI,_,rfl,_,JV<|Q _ _ CI,_,rfl,_,JV<|Q _ _ CI,_,rfl,B,_,rfl,yA<|U.ow.get 4 rfl,B,lb,lk,lu,l,u.next,bz,GW.map λz=>(z,FP z),es,ks,u.runs,M,rfl,U.ow.get 4 rfl,U.ow.get 1 rfl,(λz O=>Q _ _<|PQ z O),(by rw[MP,eb8,map_map];rfl),U.ow.get 2 rfl,Paired.map' (λ_ _ w=>w.tk<|TK.of Q) OC,U.ow.get 3 rfl,Paired.map' (λ_ _ #[t,e,g]=>#[t,e,Q _ _ g]) pu2,(by rw[<- VJ];exact U.ki.dat.dd),WL,Zo,HJ,λb5 as G14 GV R14=>?_];refine#[3,_,Zd,JY.rep (rs:=jJ u.next l (GW.map λz=>(z,FP z)) es u.runs) (as:=os) #[by rw[GV _ _ (U.ow.get 0 rfl),ew8],(U.same GV).ki.at6],R14.rep,hk _ _ #[rfl,yb.trans GV]]
   rintro ZG ⟨_,yb⟩;dsimp only [kJ];have U:=N9.same yb;have Q:=QQ.trans yb;refine Sj (λv A=>v=false/\LL c a8.dr d b B J E p g1 a H y l (1+9*i+9) A) (λk hk=>?_) (λA h=>nomatch h.1) ?_
   .refine#[_,JV<|Q _ _ CI,_,rfl,_,JV<|Q _ _ CI,_,rfl,_,JV<|Q _ _ CI,_,rfl,B,_,rfl,yA<|U.ow.get 3 rfl,d,b,_,a8,s8,a,dG H a,y,l,_,os,es,T7,FP,lb,lk,lu,bz,ks,es,M,rfl,U,HQ,(λz O=>Q _ _<|PQ z O),(by rw[ep8];exact MP),Paired.map' (λ_ _ w=>w.tk<|TK.of Q) OC,kp9,(by rw[VJ];exact Paired.map' (λ_ _ #[t,e,g]=>#[t,e,Q _ _ g]) pu2),Zo,λa' s' A L' e1 e2 e3 e4=>hk _ _ #[rfl,a',s',l,_,os,es,T7,FP,by rw[e3,Zg];exact L',bD _,e2,Zo,e1,by rw[e4,eh8];exact hv8]]
   refine λG14=>JW λ_=>RJ λa9 s9 tu9 C9 as9 K9 T9 fb9=>MI λL9 h1 h2 h3 h4 h5=>?_;exact hD _ _ #[#[_,_,_,_,rfl],l,a9,s9,tu9,C9,as9,K9,T9,fb9,L9,h1,h2,Zo,h4,h5]
  intro G5 LL5;refine Sj (λv A=>LL c dr d b B J E p g1 a H y l (1+9*i+8) A) (λk hk=>#[d,b,2,rfl,LL5.dk,Zd,Zd,λr A _ _ D' k'=>hk _ _<|LL5.draw D' k']) ?_ ?_
  .refine λG6=>RJ λa6 I tu6 C6 GX K6 T6 ZH=>MI λS LF HX hN6 ζ QG=>?_;subst ζ;refine#[_,_,S.ki.dat.dr,by kernel_rfl,a6,I,0,rfl,S.ki.dat,HX,λjl' G7 DR DN k7=>?_];obtain⟨F,rc⟩:=S.ki.rowsC LF Zo;have QE:=S.ki.dat.dr;have gj:=S.ki.dat.j;have YZ:TK G6 G7:=λx xs e=>k7 x _ e (aL e QE λz=>nomatch z) (aL e gj λz=>nomatch z)
   have osd:=S.out B (by simp[X3]);have g7:=k7 _ _ (S.ow.get 0 rfl) (λz=>osd<|IN _ (by rw[z];simp[DA.fix])) λz=>osd<|IN _ (by rw[z];simp[DA.fix]);refine#[_,_,Own.get DN 0 rfl,by kernel_rfl,B,_,rfl,yA g7,{a6 with jl:=jl' },I,(l:Int),C6,GX,F,ZH,a,dG H a,I.next,rfl,DN,rc.tk YZ,λl2 a' prs m Lx rs G8 e1 D8 pp pa km KZ hL si DF fx fr=>?_];obtain⟨L8,QI⟩:=S.rise HX LF DR k7 D8 pp pa km KZ fx fr;exact hD _ _ #[#[_,_,_,_,rfl],l,a',{ew I (l:Int) I.next prs (eU rs m) Lx rs with L:=(dG H a).length },l,C6,GX,K6,T6,ZH,L8,bD _,HX,(by show I.next<=_;omega),e1,QG]
  refine λG6=>RJ λa6 I tu6 C6 GX K6 T6 ZH=>MI λS LF HX hN6 ζ QG=>?_;subst ζ;exact hD _ _ #[#[_,_,_,_,rfl],l,a6,I,tu6,C6,GX,K6,T6,ZH,S,LF,HX,Zo,rfl,QG]
end
structure FA(K:W.Frag)(x:Str)(st:Stmt):Prop where
 ex:∃(f:TD)(od an:D6)(sl:Array (D0))(oc kV dc pm cd ct:PP),W.nsIn K mainGlobals x=!(!.ref f)/\K.lookup f=some #[oc,od,.func<|W.fnOf x x (bJ st) (aZ st) (aB st) .none kV dc pm an cd ct,sl]/\W.codeIn K cd x=true/\f^1
def FA.of{sl:Array (D0)}{g kV h i b j:PP}(a:W.nsIn K mainGlobals x=!(!.ref f))(l:K.lookup f=some #[g,d,.func<|W.fnOf x x (bJ st) (aZ st) (aB st) .none kV h i e b j,sl])(c:W.codeIn K b x=true)(k:f^1):FA K x st:=#[f,d,e,sl,g,kV,h,i,b,j,a,l,c,k]
def tW:Nat->(C4->Prop)->Prop
 |0,P=>P []
 |n+1,P=>∀a,tW n λr=>P (a::r)
def qAL{P:C4->Prop}:∀us{n},us.length=n->tW n P->P us
 |[],_,rfl,h=>h
 |a::r,_,rfl,h=>qAL (P:=λr=>P (a::r)) r rfl<|h a
def RN{P:C4->Prop}{n}(h:tW n P):∀us,us.length=n->P us:=λus a=>qAL us a h
def FA.at{ps:A2}(F:FA K x st)(X:K.In h)(G:h.Ns mainGlobals mg)(j:∀(kV g b:PP)(d:D6)(i e:PP)(us:C4),us.length=ps.length->bindArgs (W.fnOf x x (bJ st) (aZ st) (aB st) .none kV g b d i e) #[us,[]]=pure (ps.zip us):=by intro _ _ _ _ _ _;refine RN ?_;(iterate 9 try intro _);rfl):KY K mg x st ps:=by
 refine JB F.ex (RH λf m d sl n kV o b p=>JU λe=>KJ λa l c k=>?_);exact aB3 X G a l c k j
structure MA(K:W.Frag)(C:TD)(m qual:Str)(st:Stmt):Prop where
 ex:∃(f:TD)(od an:D6)(sl:Array (D0))(oc kV dc pm cd ct:PP),W.findIn K (.ref C) m=!(!.ref f)/\f^2/\K.lookup f=some #[oc,od,.func<|W.fnOf m qual (bJ st) (aZ st) (aB st) .none kV dc pm an cd ct,sl]/\W.codeIn K cd qual=true/\f^1
def MA.of{sl:Array (D0)}{h kV j n d o:PP}(a:W.findIn K (.ref C) m=!(!.ref f))(i:f^2)(l:K.lookup f=some #[h,e,.func<|W.fnOf m b (bJ st) (aZ st) (aB st) .none kV j n g d o,sl])(c:W.codeIn K d b=true)(k:f^1):MA K C m b st:=#[f,e,g,sl,h,kV,j,n,d,o,a,i,l,c,k]
def MA.at{ps:A2}(F:MA K C m b st)(n:PM K C)(o:∀(kV h d:PP)(e:D6)(j g:PP)(us:C4),us.length=ps.length->bindArgs (W.fnOf m b (bJ st) (aZ st) (aB st) .none kV h d e j g) #[us,[]]=pure (ps.zip us):=by intro _ _ _ _ _ _;refine RN ?_;(iterate 9 try intro _);rfl):MethAt K C m b st ps:=by
 refine JB F.ex (RH λf p e sl q kV r d s=>JU λg=>MJ λa i l c k=>?_);exact#[n,_,_,vQ l c k,#[a,i,k],(vQ (st:=st) l c k).binds o]
def aCM{l:W.OpenLaw}(X:K.In a0)(G:a0.Ns mainGlobals mg)(XN:mg "law"=!.ref fa)(qh:FA K "is_name" oO)(wo:FA K "is_key" qV)(Z5:FA K "is_whole" lO)(P5:FA K "is_made_of" fT)(qi:FA K "is_deed" oP)(U6:FA K "fits_word" hJ)(Z6:FA K "names_of" lP)(qj:FA K "asks_of" oQ)(F2:FA K "done_changes" dP)(zc:FA K "early" uU)(L0:FA K "done_answer" eP)(P6:FA K "changes_of" iG)(Z7:FA K "is_alive" lR)(zd:FA K "risen" iI)(P7:FA K "by_numbers" iJ)(P8:FA K "first_book" fV)(P9:FA K "risen_book" iK)(Q1:FA K "risen_kept" dY)(wt:FA K "folded" jG)(Q2:FA K "still_kept" fW)(Q3:FA K "came_again" iM)(qk:FA K "rows_of" oR)(Q4:FA K "told_again" iR)(Z8:FA K "_law_deck" lT)(Z9:FA K "_law_draw" lU)(Q5:FA K "_law_unlike" cV)(Q6:FA K "_law_amount" iU)(kz:FA K "_law_deed" lV)(U7:FA K "_law_steps" jX)(Q7:FA K "_law_folded" eB)(r9:FA K "_law_risen_right" bV)(IE:0^"law"=!(!.ref HY))(IF:K.lookup HY=some #[OF,OD,.func<|W.fnOf "law" "law" (bJ pM) (aZ pM) (aB pM) .none IA IB IC HZ DX ID,OE])(IG:W.codeIn K DX "law"=true)(IH:HY^1)(ze:0^"Keys"=!(!.ref b))(zf:W.plainGet K b Str.empty=true)(zg:W.hasDictIn K b=true)(zh:W.plainOver K b=true)(zi:W.findIn K (.ref b) "__setattr__"=!(!.builtin "object.__setattr__"))(zj:W.makesIn K b=true)(zk:b^1)(U8:b^"life")(t9:b^"begun_ones")(j9:b^"settled_ones")(A5:W.findIn K (.ref b) "__init__"=!(!.ref z))(A6:z^2)(A7:K.lookup z=some #[qp,ql,.func<|W.fnOf "__init__" "Keys.__init__" (bJ cD) (aZ cD) (aB cD) .none qr qt qu qm O1 qv,qo])(A8:W.codeIn K O1 "Keys.__init__"=true)(S6:z^1)(U9:MA K b "look" "Keys.look" jP)(Q8:MA K b "begin" "Keys.begin" iH)(M0:MA K b "settle" "Keys.settle" gT)(V0:MA K b "kept" "Keys.kept" jQ)(lg:MA K b "end" "Keys.end" lQ)(F3:MA K b "is_kept" "Keys.is_kept" fU)(zm:0^"Book"=!(!.ref h))(zo:W.plainGet K h Str.empty=true)(zp:W.hasDictIn K h=true)(zq:W.plainOver K h=true)(zt:W.findIn K (.ref h) "__setattr__"=!(!.builtin "object.__setattr__"))(zu:W.makesIn K h=true)(zv:h^1)(F4:h^"amounts"){A:TD}(A9:W.findIn K (.ref h) "__init__"=!(!.ref A))(B0:A^2)(B1:K.lookup A=some #[rb,qx,.func<|W.fnOf "__init__" "Book.__init__" (bJ cE) (aZ cE) (aB cE) (.ref L) rg rh rm qy O2 sh,qz])(B2:W.codeIn K O2 "Book.__init__"=true)(S7:A^1)(M3:MA K h "amount" "Book.amount" gV)(V1:MA K h "rows" "Book.rows" hU)(M4:MA K h "change" "Book.change" gW)(vo:K.lookup L=some #[.type "tuple",LG,.seq (toArray yo) LH,II])(zx:yo=[.none])(lj:0^"Journal"=!(!.ref g))(ll:W.plainGet K g Str.empty=true)(lp:W.hasDictIn K g=true)(lq:W.plainOver K g=true)(lx:W.findIn K (.ref g) "__setattr__"=!(!.builtin "object.__setattr__"))(ly:W.makesIn K g=true)(md:g^1)(u0:g^"written")(i8:g^"safe_count")(m7:W.findIn K (.ref g) "__init__"=!(!.ref B))(m8:B^2)(m9:K.lookup B=some #[Y1,X8,.func<|W.fnOf "__init__" "Journal.__init__" (bJ bO) (aZ bO) (aB bO) (.ref M) Y2 Y3 Y4 X9 E8 Y5,Y0])(n5:W.codeIn K E8 "Journal.__init__"=true)(F5:B^1)(B3:MA K g "write" "Journal.write" eX)(B4:MA K g "force" "Journal.force" eY)(F6:MA K g "fall" "Journal.fall" fX)(F7:MA K g "rows" "Journal.rows" fY)(F8:MA K g "safe" "Journal.safe" fZ)(u4:MA K g "is_safe" "Journal.is_safe" dH)(Q9:K.lookup M=some #[.type "tuple",DY,.seq (toArray oq) DZ,CJ])(mh:oq=[.str ("") ur])(EA:0^"Run"=!(!.ref e))(EB:W.plainGet K e Str.empty=true)(EC:W.hasDictIn K e=true)(ED:W.plainOver K e=true)(EE:W.findIn K (.ref e) "__setattr__"=!(!.builtin "object.__setattr__"))(EF:W.makesIn K e=true)(EG:e^1)(R0:e^"number")(V2:e^"asker")(sj:e^"key")(mj:e^"deed")(V3:e^"stage")(V4:e^"place")(V5:e^"undos")(F9:W.findIn K (.ref e) "__init__"=!(!.ref D))(G0:D^2)(J0:K.lookup D=some #[vb,uy,.func<|W.fnOf "__init__" "Run.__init__" (bJ cP) (aZ cP) (aB cP) .none vc vd ve uz S8 vf,va])(J1:W.codeIn K S8 "Run.__init__"=true)(V6:D^1)(J2:MA K e "as_tuple" "Run.as_tuple" gD)(k8:MA K e "is_held_up_by" "Run.is_held_up_by" bY)(sq:0^"Memory"=!(!.ref f))(sr:W.plainGet K f Str.empty=true)(su:W.hasDictIn K f=true)(sv:W.plainOver K f=true)(sx:W.findIn K (.ref f) "__setattr__"=!(!.builtin "object.__setattr__"))(sy:W.makesIn K f=true)(tf:f^1)(M5:f^"turn")(M6:f^"book")(u5:f^"standing")(M7:f^"runs")(j0:f^"next_number"){E:TD}(u6:W.findIn K (.ref f) "__init__"=!(!.ref E))(u7:E^2)(u9:K.lookup E=some #[my,mm,.func<|W.fnOf "__init__" "Memory.__init__" (bJ bU) (aZ bU) (aB bU) .none mz ni nk mn J3 nq,mw])(v8:W.codeIn K J3 "Memory.__init__"=true)(J9:E^1)(R7:MA K f "put" "Memory.put" iN)(J4:MA K f "begin" "Memory.begin" gE)(M8:MA K f "hold" "Memory.hold" eQ)(R9:MA K f "end" "Memory.end" iO)(zy:0^"Door"=!(!.ref a))(zz:W.plainGet K a Str.empty=true)(AA:W.hasDictIn K a=true)(AB:W.plainOver K a=true)(AD:W.findIn K (.ref a) "__setattr__"=!(!.builtin "object.__setattr__"))(AE:W.makesIn K a=true)(AF:a^1)(V7:a^"name")(V8:a^"life")(M9:a^"houses")(J5:a^"journal")(N1:a^"memory")(B5:W.findIn K (.ref a) "__init__"=!(!.ref F))(B6:F^2)(B7:K.lookup F=some #[ub,tj,.func<|W.fnOf "__init__" "Door.__init__" (bJ cF) (aZ cF) (aB cF) .none uc ud ue tm O3 uf,ua])(B8:W.codeIn K O3 "Door.__init__"=true)(S9:F^1)(V9:MA K a "come" "Door.come" jR){H:TD}(W0:W.findIn K (.ref a) "work"=!(!.ref H))(W2:H^2)(W3:K.lookup H=some #[AJ,AG,.func<|W.fnOf "work" "Door.work" (bJ fP) (aZ fP) (aB fP) (.ref N) AK AL AM AH ot AN,AI])(z9:W.codeIn K ot "Door.work"=true)(W4:H^1)(E9:K.lookup N=some #[.type "tuple",AO,.seq (toArray W5) AQ,yd])(S0:W5=[.str ("through") Z1])(n6:MA K a "write_first" "Door.write_first" cU)(x8:MA K a "write_done" "Door.write_done" dI)(B9:MA K a "ask_next" "Door.ask_next" eZ)(S1:MA K a "force" "Door.force" iP)(W6:MA K a "fall" "Door.fall" jS)(W7:MA K a "rise" "Door.rise" jT)(W8:MA K a "fold" "Door.fold" jU)(W9:MA K a "rows" "Door.rows" jV)(nu:MA K a "now" "Door.now" lS)(y7:MA K a "book_rows" "Door.book_rows" dZ)(X0:MA K a "kept" "Door.kept" jW)(S2:MA K a "under" "Door.under" gH)(C0:MA K a "house_of" "Door.house_of" fA)(S3:MA K a "known" "Door.known" iQ){n:TD}(wu:0^"House"=!(!.ref n))(wx:W.plainGet K n Str.empty=true)(wy:W.hasDictIn K n=true)(xa:W.plainOver K n=true)(xb:W.findIn K (.ref n) "__setattr__"=!(!.builtin "object.__setattr__"))(xc:W.makesIn K n=true)(xf:n^1)(C8:n^"amounts")(j6:n^"closed_names")(E1:n^"entries")(y8:W.findIn K (.ref n) "__init__"=!(!.ref I))(y9:I^2)(z6:K.lookup I=some #[oz,ou,.func<|W.fnOf "__init__" "House.__init__" (bJ cC) (aZ cC) (aB cC) (.ref AR) pd pf ph ox K2 pj,oy])(z7:W.codeIn K K2 "House.__init__"=true)(O5:I^1)(xh:K.lookup AR=some #[.type "tuple",IJ,.seq (toArray xg) IK,GC])(xi:xg=[.none,.none])(IL:0^"any"=!none)(S4:0^"isinstance"=!none)(IM:0^"int"=!none)(EH:0^"bool"=!none)(IP:0^"str"=!none)(IQ:0^"len"=!none)(IS:0^"all"=!none)(AS:0^"tuple"=!none)(EI:0^"dict"=!none)(xj:0^"sorted"=!none)(IT:0^"max"=!none)(EJ:0^"list"=!none)(X1:0^"enumerate"=!none)(IU:0^"sum"=!none)(AU:0^"range"=!none)(IV:0^"min"=!none)(ug:0^"LETTERS"=!(!.str ("abcdefghijklmnopqrstuvwxyz") GD))(uh:0^"FIGURES"=!(!.str ("0123456789") GF))(J6:0^"LONGEST_NAME"=!(!.int (8) xk))(N2:0^"LONGEST_KEY"=!(!.int (12) ye))(EK:0^"MOST"=!(!.int (1000000000000) OG))(l5:0^"LONGEST_DOOR_NAME"=!(!.int (5) Y6))(N4:0^"NAME_COUNTS"=!(!.ref N3))(N5:K.lookup N3=some #[.type "dict",none,.dict (toArray X2) yf,(toArray [])])(N6:Tab w.params X2 (WS))(N7:(N3==sysModules)=false)(J7:0^"UNLIKE_WORDS"=!(!.ref X4))(J8:K.lookup X4=some #[.type "tuple",vg,.seq (toArray O6) xl,vh])(x9:Vals (UW) O6)(EL:0^"WAYS"=!(!.ref IW))(EM:K.lookup IW=some #[.type "tuple",LI,.seq (toArray CL) OH,LJ])(AV:Vals ([V.str "through",V.str "lost",V.str "unheard"]) CL)
  : ∃fd:FuncData,(∀(s:NE)(v:PP),BindsTo s fd #[[v],[]] [("_law_script",v)])/\∀base:Heap,K.In base->base.Ns mainGlobals mg->MY l.prog w K mg base vP 8 fa fd CW (Fj K):=by
 have a2:=XN.symm.trans<|W.mg_of X G IE;cases a2;have T:Txt K mg:=#[W.mg_none_of X G IL,W.mg_none_of X G S4,W.mg_none_of X G IM,W.mg_none_of X G EH,W.mg_none_of X G IP,W.mg_none_of X G IQ,W.mg_none_of X G IS,W.mg_none_of X G AS,W.mg_none_of X G EI,W.mg_none_of X G xj,W.mg_none_of X G IT,W.mg_none_of X G EJ,W.mg_none_of X G X1,W.mg_none_of X G IU,W.mg_none_of X G AU,W.mg_none_of X G IV,#[_,W.mg_of X G ug],#[_,W.mg_of X G uh],#[_,W.mg_of X G J6],#[_,W.mg_of X G N2],#[_,W.mg_of X G EK],#[_,W.mg_of X G l5]];have a1:Top w.params K mg:=#[#[_,W.mg_of X G N4,#[_,_,N5,N6,N7]],#[_,W.mg_of X G J7,λ_=>.inr #[_,_,_,J8,rfl,rfl,by rw[fK,<- x9.length];decide,x9]],#[_,W.mg_of X G EL,λ_=>.inr #[_,_,_,EM,rfl,rfl,by rw[fK,<- AV.length];decide,AV]]];have t:PM K b:=#[zf,zg,zh,zi];have OI:ClsAt K mg "Keys" b "Keys.__init__" cD WQ [[]]:=#[z,_,_,W.mg_of X G ze,#[_,_,_,_,_,_,_,_,_,rfl,A7,A8],#[zj,A5,A6,zk],by
  intro d hd;obtain rfl:=LV.mp hd;exact#[[],λs i KI j=>by replace j:i.length=2:=(by simpa using j);revert i;refine RN ?_;intro _ _;exact BindsTo.of_eq rfl,.nil]]
 have O:PM K h:=#[zo,zp,zq,zt];subst zx;have OJ:ClsAt K mg "Book" h "Book.__init__" cE VU [[],[.non]]:=#[A,_,_,W.mg_of X G zm,#[_,_,_,_,_,_,_,_,_,rfl,B1,B2],#[zu,A9,B0,zv],by
  intro d hd;rcases mem_cons.mp hd with rfl|hd
  .exact#[[],λs i KI j=>by replace j:i.length=2:=(by simpa using j);revert i;refine RN ?_;intro _ _;exact BindsTo.of_defaults (T:=L) rfl (KI _ _ vo) rfl rfl rfl,.nil]
  obtain rfl:=LV.mp hd
  .exact#[[.none],λs i KI j=>by replace j:i.length=1:=(by simpa using j);revert i;refine RN ?_;intro _;exact BindsTo.of_defaults (T:=L) rfl (KI _ _ vo) rfl rfl rfl,(.cons rfl .nil)]]
 have u:PM K g:=#[ll,lp,lq,lx];subst mh;have GK:ClsAt K mg "Journal" g "Journal.__init__" bO VW [[],[.str ("":Str)]]:=#[B,_,_,W.mg_of X G lj,#[_,_,_,_,_,_,_,_,_,rfl,m9,n5],#[ly,m7,m8,md],by
  intro d hd;rcases mem_cons.mp hd with rfl|hd
  .exact#[[],λs i KI j=>by replace j:i.length=2:=(by simpa using j);revert i;refine RN ?_;intro _ _;exact BindsTo.of_defaults (T:=M) rfl (KI _ _ Q9) rfl rfl rfl,.nil]
  obtain rfl:=LV.mp hd
  .exact#[[.str ("":Str) ur],λs i KI j=>by replace j:i.length=1:=(by simpa using j);revert i;refine RN ?_;intro _;exact BindsTo.of_defaults (T:=M) rfl (KI _ _ Q9) rfl rfl rfl,(.cons #[_,rfl] .nil)]]
 have EW:PM K e:=#[EB,EC,ED,EE];have VM:ClsAt K mg "Run" e "Run.__init__" cP EQ [[]]:=#[D,_,_,W.mg_of X G EA,#[_,_,_,_,_,_,_,_,_,rfl,J0,J1],#[EF,F9,G0,EG],by
  intro d hd;obtain rfl:=LV.mp hd;exact#[[],λs i KI j=>by replace j:i.length=6:=(by simpa using j);revert i;refine RN ?_;intro _ _ _ _ _ _;exact BindsTo.of_eq rfl,.nil]]
 have J:PM K f:=#[sr,su,sv,sx];have JA:ClsAt K mg "Memory" f "Memory.__init__" bU TZ [[]]:=#[E,_,_,W.mg_of X G sq,#[_,_,_,_,_,_,_,_,_,rfl,u9,v8],#[sy,u6,u7,tf],by
  intro d hd;obtain rfl:=LV.mp hd;exact#[[],λs i KI j=>by replace j:i.length=4:=(by simpa using j);revert i;refine RN ?_;intro _ _ _ _;exact BindsTo.of_eq rfl,.nil]]
 have k:PM K a:=#[zz,AA,AB,AD];subst S0;have CT:MethAtD K a "work" "Door.work" fP ai [[],[.str ("through":Str)]]:=#[k,H,_,_,#[_,_,_,_,_,_,_,_,_,rfl,W3,z9],#[W0,W2,W4],by
  intro d hd;rcases mem_cons.mp hd with rfl|hd
  .exact#[[],λs i KI j=>by replace j:i.length=3:=(by simpa using j);revert i;refine RN ?_;intro _ _ _;exact BindsTo.of_defaults (T:=N) rfl (KI _ _ E9) rfl rfl rfl,.nil]
  obtain rfl:=LV.mp hd
  .exact#[[.str ("through":Str) Z1],λs i KI j=>by replace j:i.length=2:=(by simpa using j);revert i;refine RN ?_;intro _ _;exact BindsTo.of_defaults (T:=N) rfl (KI _ _ E9) rfl rfl rfl,(.cons #[_,rfl] .nil)]]
 have OK:ClsAt K mg "Door" a "Door.__init__" cF XX [[]]:=#[F,_,_,W.mg_of X G zy,#[_,_,_,_,_,_,_,_,_,rfl,B7,B8],#[AE,B5,B6,AF],by
  intro d hd;obtain rfl:=LV.mp hd;exact#[[],λs i KI j=>by replace j:i.length=4:=(by simpa using j);revert i;refine RN ?_;intro _ _ _ _;exact BindsTo.of_eq rfl,.nil]]
 have JC:PM K n:=#[wx,wy,xa,xb];subst xi;have LN:ClsAt K mg "House" n "House.__init__" cC cL [[.non,.non]]:=#[I,_,_,W.mg_of X G wu,#[_,_,_,_,_,_,_,_,_,rfl,z6,z7],#[xc,y8,y9,xf],by
  intro d hd;obtain rfl:=LV.mp hd
  .exact#[[.none,.none],λs i KI j=>by replace j:i.length=1:=(by simpa using j);revert i;refine RN ?_;intro _;exact BindsTo.of_defaults (T:=AR) rfl (KI _ _ xh) rfl rfl rfl,(.cons rfl<|.cons rfl .nil)]]
 refine#[W.fnOf "law" "law" (bJ pM) (aZ pM) (aB pM) .none IA IB IC HZ DX ID,λs v=>.of_eq rfl,λbase _ _=>?_];have VN:=vQ (st:=pM) IF IG IH;have o:Nr K a:=#[k,V7,V8,M9,J5,N1];have m:Fl K f:=#[J,M5,M6,u5,M7,j0];have p:Vw K e:=#[EW,R0,V2,sj,mj,V3,V4,V5];have x:JT K g:=#[u,u0,i8];have r:Yg K h:=#[O,F4];have KT:UM K b:=#[t,U8,t9,j9];have HB:HoT K n:=#[JC,C8,j6,E1];have MQ:=Yt^0 T<|P5.at X G;have JD:=Hh T MQ<|qh.at X G;have ca':=Mm T MQ<|wo.at X G;have cwh:=Sv^0 T<|Z5.at X G;have cb':=Yu T a1 JD<|U6.at X G;have VO:=Hi T cb' cwh<|qi.at X G;have MR:=Yv^0 T<|qj.at X G;have cdc:=Hm^0 T<|F2.at X G;have cdd:=uM^0 T<|F2.at X G;have S:=By^0 r<|M3.at O;have cbr:=Hk^0 T r<|V1.at O;have cbc:=Hl T r S<|M4.at O;have cda:=wV T r cdc S<|L0.at X G;have cea:=Mr T r cdc MR S cda<|zc.at X G;have cco:=yM T cdd<|P6.at X G;have cbi:=Tj^0 T r OJ;have cal:=Sx (P:=l.prog) (w:=w) (mg:=mg) (base:=base)<|Z7.at X G;have cik:=Mn KT cal<|F3.at t;have clo:=Yw KT cik<|U9.at t;have cen:=aCp^0 KT<|lg.at t;have cse:=Mo KT cen<|M0.at t;have cbe:=Sy^0 KT<|Q8.at t;have cki:=Sw^0 KT OI;have cby:=yN (P:=l.prog) (w:=w) (mg:=mg) (base:=base)<|P7.at X G;have cfb:=yO (C:=h) T (cbi [] Zs)<|P8.at X G;have crb:=yP T cfb cco cbc<|P9.at X G;have crk:=yQ^0 T<|Q1.at X G;have U:=Tz T cby crb cbr crk<|zd.at X G;have csk:=Uc T cal<|Q2.at X G;have cca:=Nb T cby<|Q3.at X G;have cfd:=Nd T U cca csk<|wt.at X G;have ckp:=Yx T KT cik<|V0.at t;have cro:=Fb^0 T<|qk.at X G;have cji:=Nk T x cro GK;have Q:=Nl^0 x<|B3.at u;have Y:=Nm^0 T x<|B4.at u;have R:=Ul^0 T x<|F7.at u;have cjs:=Um^0 x<|F8.at u;have cis:=Nn^0 x<|u4.at u;have cf':=Zv^0 p VM;have cas:=aCB^0 p<|J2.at EW;have cno:=Es^0 T<|Z6.at X G;have che:=Zx T p cno<|k8.at EW;have cpu:=Zw^9 m cbe (cf' [] Zs)<|R7.at J;have cmb:=Np^9 m cpu<|J4.at J;have chd:=Zy^9 T m p che<|M8.at J;have cme:=Zz^9 m p r cco cbc cse<|R9.at J;have cmi:=aCC^9 m (cbi [] Zs) cbe cse (cki [] Zs) cpu JA;have cdi:=Uu^9 T o JD (cji [.str ("":Str)] Zs) (aAa U) (aCD<|cmi [] Zs) OK;have q:=Uv^0 (c:=#[a,f,e,g,h,b]) o<|S3.at k;have Z:=Vb^9 T m q cas<|S2.at k;have cho:=Ic^0 HB LN;have chf:=Id^0 (c:=#[a,f,e,g,h,b]) o<|C0.at k;have cag:=Ux (P:=l.prog) (w:=w) (mg:=mg) (base:=base)<|Q4.at X G;have ccm:=Vd^9 T o m q JD ca' VO MR chf clo cag cmb Q<|V9.at k;have cwd:=Ve^9 o m p Q<|x8.at k;have cwf:=Nu^9 o m p cea cwd Q<|n6.at k;have cau:=aAe^9 o p cis<|B9.at k;have cwk:=aAf^9 a1 m p q chd cwf cau CT;have cfo:=Vg^9 o q cjs Y R cme<|S1.at k;have cdk:=Yy^0 T<|Z8.at X G;have y:=Tc (P:=l.prog) (w:=w) (mg:=mg) (base:=base)<|Z9.at X G;have cul:=Mp T y<|Q5.at X G;have ch':=Oa T y<|Q6.at X G;have ci':=Ob T y ch'<|kz.at X G;have cdw:=Vh^9 o R<|W9.at k;have cbw:=Vi^9 m r q cbr<|y7.at k;have cnw:=aCE^9 m q<|nu.at k;have VP:=Uz^9 m q ckp<|X0.at k;have cj':=Uo^0 x Y<|F6.at u;have cfa:=Va^9 o q cj'<|W6.at k;have crs:=Vj^9 T o m R U (cmi [] Zs)<|W7.at k;have ck':=Vk^9 T o m q R cjs (cji [.str ("":Str)] Zs) Q Y cfd<|W8.at k;have cl':=Ij^9 T y ci' ccm Z (cwk [.str ("through":Str)] Zs)<|U7.at X G;have cm':=Ff^0 T<|Q7.at X G;have cn':=Fi^9 T y cdw cfa crs cbw VP Z<|r9.at X G;exact aCL^9 T cdk y cul (cdi [] Zs) (cho [.non,.non] Zs) cl' cfo ccm cbw VP Z cdw cnw ck' cm' cn' cfa crs VN
def aFd{l:W.OpenLaw}{i:(Str->D0)->Heap->Prop}{K:Params->W.Frag}(j:l.most=!63)(m:d.params.defaults=[])(o:∀(w:World)(h:Heap),b w h->(K w.params).In h)(F:∀(w:World)(mg:X5)(c:TD)(h:Heap),(K w.params).In h->h.Ns mainGlobals mg->mg d.name=some (.ref c) →
   ∃e:FuncData,(∀(s:NE)(u:PP),BindsTo s e #[[u],[]] [("_law_script",u)])/\∀base:Heap,(K w.params).In base->base.Ns mainGlobals mg->MY l.prog w (K w.params) mg base vP 8 c e CW (Fj<|K w.params)) :
  W.WalkO q g i b l.row.toRowW d [] (λf vs=>PySem.call f vs):=
 L2.Iy (n:=63) (k:=8) (x:="_law_script") (CX:=λ_=>vP) (sp:=λw=>Fj<|K w.params) j Zd m #[rfl,Zd,Zd] o F (λ_ _ a p r _ t=>#[a,p,rfl,t,r,λ_=>rfl]) λ_ _ _ _ _ z=>z
end KL
end
open PySem PySem.W PyProof.Rows
set_option maxRecDepth 100000 in
set_option maxHeartbeats 0 in
theorem PySem.Challenge.cw_oncedoor_k67_folds_holds : PySem.Challenge.rw_oncedoor_k67_folds.Holds := by
 refine zHX ?_
 k_fill
 refine KL.aFd (l:=PySem.Challenge.rw_oncedoor_k67_folds) rfl rfl (λw h Y=>W.kIn_of Y) ?F
 case F=>
  intro w mg fa h KX G LU;refine' KL.aCM KX G LU ?qh ?wo ?Z5 ?P5 ?qi ?U6 ?Z6 ?qj ?F2 ?zc ?L0 ?P6 ?Z7 ?zd ?P7 ?P8 ?P9 ?Q1 ?wt ?Q2 ?Q3 ?qk ?Q4 ?Z8 ?Z9 ?Q5 ?Q6 ?kz ?U7 ?Q7 ?r9 ?IE ?IF ?IG ?IH ?ze ?zf ?zg ?zh ?zi ?zj ?zk ?U8 ?t9 ?j9 ?A5 ?A6 ?A7 ?A8 ?S6 ?U9 ?Q8 ?M0 ?V0 ?lg ?F3 ?zm ?zo ?zp ?zq ?zt ?zu ?zv ?F4 ?A9 ?B0 ?B1 ?B2 ?S7 ?M3 ?V1 ?M4 ?vo ?zx ?lj ?ll ?lp ?lq ?lx ?ly ?md ?u0 ?i8 ?m7 ?m8 ?m9 ?n5 ?F5 ?B3 ?B4 ?F6 ?F7 ?F8 ?u4 ?Q9 ?mh ?EA ?EB ?EC ?ED ?EE ?EF ?EG ?R0 ?V2 ?sj ?mj ?V3 ?V4 ?V5 ?F9 ?G0 ?J0 ?J1 ?V6 ?J2 ?k8 ?sq ?sr ?su ?sv ?sx ?sy ?tf ?M5 ?M6 ?u5 ?M7 ?j0 ?u6 ?u7 ?u9 ?v8 ?J9 ?R7 ?J4 ?M8 ?R9 ?zy ?zz ?AA ?AB ?AD ?AE ?AF ?V7 ?V8 ?M9 ?J5 ?N1 ?B5 ?B6 ?B7 ?B8 ?S9 ?V9 ?W0 ?W2 ?W3 ?z9 ?W4 ?E9 ?S0 ?n6 ?x8 ?B9 ?S1 ?W6 ?W7 ?W8 ?W9 ?nu ?y7 ?X0 ?S2 ?C0 ?S3 ?wu ?wx ?wy ?xa ?xb ?xc ?xf ?C8 ?j6 ?E1 ?y8 ?y9 ?z6 ?z7 ?O5 ?xh ?xi ?IL ?S4 ?IM ?EH ?IP ?IQ ?IS ?AS ?EI ?xj ?IT ?EJ ?X1 ?IU ?AU ?IV ?ug ?uh ?J6 ?N2 ?EK ?l5 ?N4 ?N5 ?N6 ?N7 ?J7 ?J8 ?x9 ?EL ?EM ?AV
  case qh|wo|Z5|P5|qi|U6|Z6|qj|F2|zc|L0|P6|Z7|zd|P7|P8|P9|Q1|wt|Q2|Q3|qk|Q4|Z8|Z9|Q5|Q6|kz|U7|Q7|r9=>refine' KL.FA.of ?a ?l ?c ?k;(case a=>k_is);(case l=>k_is);(case c=>k_is);case k=>k_is
  case IE|IF|IG|IH|ze|zf|zg|zh|zi|zj|zk|U8|t9|j9|A5|A6|A7|A8|S6=>k_is
  case U9|Q8|M0|V0|lg|F3=>refine' KL.MA.of ?a ?i ?l ?c ?k;(case a=>k_is);(case i=>k_is);(case l=>k_is);(case c=>k_is);case k=>k_is
  case zm|zo|zp|zq|zt|zu|zv|F4|A9|B0|B1|B2|S7=>k_is
  case M3|V1|M4=>refine' KL.MA.of ?a ?i ?l ?c ?k;(case a=>k_is);(case i=>k_is);(case l=>k_is);(case c=>k_is);case k=>k_is
  case vo=>k_is
  case zx=>exact rfl
  case lj|ll|lp|lq|lx|ly|md|u0|i8|m7|m8|m9|n5|F5=>k_is
  case B3|B4|F6|F7|F8|u4=>refine' KL.MA.of ?a ?i ?l ?c ?k;(case a=>k_is);(case i=>k_is);(case l=>k_is);(case c=>k_is);case k=>k_is
  case Q9=>k_is
  case mh=>exact rfl
  case EA|EB|EC|ED|EE|EF|EG|R0|V2|sj|mj|V3|V4|V5|F9|G0|J0|J1|V6=>k_is
  case J2|k8=>refine' KL.MA.of ?a ?i ?l ?c ?k;(case a=>k_is);(case i=>k_is);(case l=>k_is);(case c=>k_is);case k=>k_is
  case sq|sr|su|sv|sx|sy|tf|M5|M6|u5|M7|j0|u6|u7|u9|v8|J9=>k_is
  case R7|J4|M8|R9=>refine' KL.MA.of ?a ?i ?l ?c ?k;(case a=>k_is);(case i=>k_is);(case l=>k_is);(case c=>k_is);case k=>k_is
  case zy|zz|AA|AB|AD|AE|AF|V7|V8|M9|J5|N1|B5|B6|B7|B8|S9=>k_is
  case V9=>refine' KL.MA.of ?a ?i ?l ?c ?k;(case a=>k_is);(case i=>k_is);(case l=>k_is);(case c=>k_is);case k=>k_is
  case W0|W2|W3|z9|W4|E9=>k_is
  case S0=>exact rfl
  case n6|x8|B9|S1|W6|W7|W8|W9|nu|y7|X0|S2|C0|S3=>refine' KL.MA.of ?a ?i ?l ?c ?k;(case a=>k_is);(case i=>k_is);(case l=>k_is);(case c=>k_is);case k=>k_is
  case wu|wx|wy|xa|xb|xc|xf|C8|j6|E1|y8|y9|z6|z7|O5|xh=>k_is
  case xi=>exact rfl
  case IL|S4|IM|EH|IP|IQ|IS|AS|EI|xj|IT|EJ|X1|IU|AU|IV|ug|uh|J6|N2|EK|l5|N4|N5=>k_is
  case N6=>repeat (first | exact True.intro | refine And.intro ⟨_,rfl⟩ (And.intro rfl (And.intro ⟨_,rfl⟩ ?_)))
  case N7=>decide
  case J7|J8=>k_is
  case x9=>repeat (first | exact .nil | refine .cons ⟨_,rfl⟩ ?_)
  case EL|EM=>k_is
  case AV=>repeat (first | exact .nil | refine .cons ⟨_,rfl⟩ ?_)
