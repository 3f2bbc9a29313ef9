import PyProof.Rows.All
import Wide.All
import OpenK.AllK
import Wide.FinOn
import Lean
import PyProof.EqAt
import PyProof.EqKinds
import PyProof.TupleCall
import KE.KSortTup
import KE.KDictSum
import KE.KDictOf
import PyProof.AttrMissHeap
import OpenK.KRaise
import KE.KIsAll
import KE.KTryMore
import KE.RegKIsAll
import KE.RegKTryMore
import PyProof.NsDelKeeps
import PyProof.ExcArgs
import PyProof.FitsReplace
import PyProof.Rows.StrJoin2
import PySem.Challenge.RW_oncedoor_k30_what_is_a_row
set_option Elab.async false
set_option linter.all false
set_option maxRecDepth 100000
set_option maxHeartbeats 4000000
def Zfm := @List.forall_mem_cons
def Zlm := @List.length_map
def Zpu := @PySem.Heap.get?_push_of_some
def Zgs := @List.getElem?_eq_some_iff
def Zge := @List.getElem?_eq_getElem
def Zmc := @List.mem_cons_of_mem
def Zmm := @List.mem_map
def Zap := @List.map_append
def Zla := @List.length_append
def Zgm := @List.getElem?_map
def Zio := @Int.eq_ofNat_of_zero_le
def Znt := @Nat.le_trans
def Zcs := @List.mem_cons_self
def Zst := @List.size_toArray
def Zlk := @List.length_take
def Ztl := @List.take_of_length_le
def Zma := @List.mem_append
def Zms := @List.mem_singleton
def Zlc := @List.length_cons
def Znl := @Nat.lt_of_le_of_lt
def Znr := @Nat.le_refl
def Zmg := @List.mem_of_getElem?
namespace L2
open PySem PySem.Spec PyProof.Rows
abbrev Key := Sum Int Str
def keyIs : Key -> Value -> Bool
  | .inl k, v => Value.isInt k v
  | .inr x, v => Value.isStrOf x v
def keyH (w : World) : Key -> Int
  | .inl k => hashInt k
  | .inr x => hashStr w x
theorem keyIs_shape : ∀ {k : Key} {v : Value}, keyIs k v = true -> (∃ i t, k = Sum.inl i /\ v = Value.int i t) ∨ (∃ x t, k = Sum.inr x /\ v = Value.str x t)
  | .inl i, v, h => by
    obtain ⟨t, e⟩ := Value.isInt_shape (k := i) (v := v) h
    exact .inl ⟨i, t, rfl, e⟩
  | .inr x, v, h => by
    obtain ⟨t, e⟩ := Value.isStrOf_shape (x := x) (v := v) h
    exact .inr ⟨x, t, rfl, e⟩
theorem keyIs_int (i : Int) (t : Tok) : keyIs (.inl i) (.int i t) = true := by simp [keyIs, Value.isInt]
theorem keyIs_str (x : Str) (t : Tok) : keyIs (.inr x) (.str x t) = true := by simp [keyIs, Value.isStrOf]
theorem key_ll (a b : Int) : decide ((Sum.inl a : Key) = Sum.inl b) = (a == b) := by
  by_cases e : a = b
  . subst e; simp
  . have h : ¬ (Sum.inl a : Key) = Sum.inl b := fun q => e (Sum.inl.inj q)
    rw [decide_eq_false h]; exact (beq_eq_false_iff_ne.mpr e).symm
theorem key_rr (a b : Str) : decide ((Sum.inr a : Key) = Sum.inr b) = decide (a = b) := by
  by_cases e : a = b
  . subst e; simp
  . have h : ¬ (Sum.inr a : Key) = Sum.inr b := fun q => e (Sum.inr.inj q)
    rw [decide_eq_false h, decide_eq_false e]
theorem key_lr (a : Int) (b : Str) : decide ((Sum.inl a : Key) = Sum.inr b) = false := decide_eq_false (fun q => nomatch q)
theorem key_rl (a : Str) (b : Int) : decide ((Sum.inr a : Key) = Sum.inl b) = false := decide_eq_false (fun q => nomatch q)
def mixKind (prog : Program) (w : World) : PySem.KeyKind prog w Key where
  is := keyIs
  hash := keyH w
  inj := fun v a b ha hb => by
    rcases keyIs_shape ha with ⟨i, t, rfl, rfl⟩ | ⟨x, t, rfl, rfl⟩
    . rcases keyIs_shape hb with ⟨j, u, rfl, e⟩ | ⟨y, u, rfl, e⟩
      . injection e with e1 _; rw [e1]
      . exact nomatch e
    . rcases keyIs_shape hb with ⟨j, u, rfl, e⟩ | ⟨y, u, rfl, e⟩
      . exact nomatch e
      . injection e with e1 _; rw [e1]
  byValue := fun k v h => by
    rcases keyIs_shape h with ⟨i, t, rfl, rfl⟩ | ⟨x, t, rfl, rfl⟩ <;> rfl
  pyHash := fun hv h => by
    rcases keyIs_shape hv with ⟨i, t, rfl, rfl⟩ | ⟨x, t, rfl, rfl⟩
    . exact wpAny_pyHash_int h
    . exact wpAny_pyHash_str h
  eqBool := fun hu hv h => by
    rcases keyIs_shape hu with ⟨i, t, rfl, rfl⟩ | ⟨x, t, rfl, rfl⟩
    . rcases keyIs_shape hv with ⟨j, u, rfl, rfl⟩ | ⟨y, u, rfl, rfl⟩
      . rw [key_ll] at h; exact wpAny_eqBool_int h
      . rw [key_lr] at h; exact SeqAt.EqAt.int_str i t y u _ _ _ _ h
    . rcases keyIs_shape hv with ⟨j, u, rfl, rfl⟩ | ⟨y, u, rfl, rfl⟩
      . rw [key_rl] at h; exact SeqAt.EqAt.str_int x t j u _ _ _ _ h
      . rw [key_rr] at h; exact wpAny_eqBool_str h
  «strs» := fun k x t v h => by
    rcases keyIs_shape h with ⟨i, u, rfl, e⟩ | ⟨y, u, rfl, e⟩
    . exact nomatch e
    . injection e with e1 _
      subst e1; cases v <;> rfl
theorem mixKind_int (prog : Program) (w : World) (i : Int) (t : Tok) : (mixKind prog w).is (.inl i) (.int i t) = true := keyIs_int i t
theorem mixKind_str (prog : Program) (w : World) (x : Str) (t : Tok) : (mixKind prog w).is (.inr x) (.str x t) = true := keyIs_str x t
end L2
namespace L2
open PySem PySem.Spec PyProof.Rows
inductive V where
  | non | bl (b : Bool) | int (i : Int) | str (x : Str) | byt (b : Array UInt8) | flt (b : UInt64) | ref (a : Addr) | ty (n : String)
  deriving DecidableEq
def RelV : V -> Value -> Prop
  | .non, u => u = Value.none
  | .bl b, u => u = Value.bool b
  | .int i, u => ∃ t, u = Value.int i t
  | .str x, u => ∃ t, u = Value.str x t
  | .byt b, u => ∃ t, u = Value.bytes b t
  | .flt b, u => ∃ t, u = Value.float b t
  | .ref a, u => u = Value.ref a
  | .ty n, u => u = Value.type n
abbrev Vals : List V -> List Value -> Prop := Paired RelV
theorem Vals.length {xs : List V} {us : List Value} (r : Vals xs us) : xs.length = us.length := Paired.length r
theorem Vals.get : ∀ {xs : List V} {us : List Value} {i : Nat} {x : V}, Vals xs us -> xs[i]? = some x -> ∃ u, us[i]? = some u /\ RelV x u
  | _, _, _, _, .nil, e => by simp at e
  | _, _, 0, _, .cons r _, e => by simp at e; subst e; exact ⟨_, rfl, r⟩
  | _, _, i + 1, x, .cons _ t, e => by
    obtain ⟨u, h1, h2⟩ := Vals.get (i := i) (x := x) t (by simpa using e)
    exact ⟨u, by simpa using h1, h2⟩
theorem Vals.set {x : V} {u : Value} (r : RelV x u) : ∀ {xs : List V} {us : List Value} (i : Nat), Vals xs us -> Vals (xs.set i x) (us.set i u)
  | _, _, _, .nil => .nil
  | _, _, 0, .cons _ t => .cons r t
  | _, _, i + 1, .cons q t => .cons q (Vals.set r i t)
theorem Vals.append : ∀ {xs ys : List V} {us ws : List Value}, Vals xs us -> Vals ys ws -> Vals (xs ++ ys) (us ++ ws)
  | _, _, _, _, .nil, s => s
  | _, _, _, _, .cons r t, s => .cons r (Vals.append t s)
theorem Vals.take : ∀ {xs : List V} {us : List Value} (n : Nat), Vals xs us -> Vals (xs.take n) (us.take n)
  | _, _, 0, _ => .nil
  | _, _, _ + 1, .nil => .nil
  | _, _, n + 1, .cons r t => .cons r (Vals.take n t)
theorem Vals.drop : ∀ {xs : List V} {us : List Value} (n : Nat), Vals xs us -> Vals (xs.drop n) (us.drop n)
  | _, _, 0, r => r
  | _, _, _ + 1, .nil => .nil
  | _, _, n + 1, .cons _ t => Vals.drop n t
def RelO : Option V -> Option Value -> Prop
  | some v, some u => RelV v u
  | none, none => True
  | _, _ => False
def KV {κ : Type} : List (κ × V) -> List (κ × Value) -> Prop := Paired fun (p : κ × V) (q : κ × Value) => p.1 = q.1 /\ RelV p.2 q.2
def kV : Key -> V
  | .inl i => .int i
  | .inr x => .str x
inductive HO where
  /-- a list -/
  | lst (xs : List V)
  /-- a tuple (never changes) -/
  | tup (xs : List V)
  /-- a dict whose keys are ints and texts; one whose keys are tuples of ints and texts (the empty one is both) -/
  | dK (kvs : List (Key × V)) | dT (kvs : List (List Key × V))
  /-- a set of ints: its members, its size -/
  | set (S : Int -> Bool) (n : Nat)
  /-- an instance of the class at C, its dict at dx, its attributes -/
  | ins (C dx : Addr) (fs : List (Str × V))
  /-- the dict of the instance at x -/
  | own (x : Addr)
  /-- the dict of an exception -/
  | xd (fs : List (Str × V))
  /-- a bound method, f of x -/
  | met (f x : Addr)
  /-- a range object lo, lo + 1, .. below hi -/
  | rng (lo hi : Int)
  /-- a thing that is known to the object (the script; a dict while a loop walks it): read, never written while it is so -/
  | frz (o : Obj) (u : HO)
  /-- a code object's table -/
  | tbl (ps : Array Value)
  /-- any other thing, by what is true of its one object (a def of one's own: SetO a S n := HO.ext fun h => ..) -/
  | ext (φ : Heap -> Prop)
abbrev Hp := Addr -> Option HO
def upd (H : Hp) (a : Addr) (o : HO) : Hp := fun b => if b = a then some o else H b
theorem upd_same {H : Hp} {a : Addr} {o : HO} : upd H a o a = some o := by unfold upd; rw [if_pos rfl]
theorem upd_ne {H : Hp} {a b : Addr} {o : HO} (h : b ≠ a) : upd H a o b = H b := by unfold upd; rw [if_neg h]
theorem ne_of {H : Hp} {a b : Addr} {o u : HO} (h : H a = some o) (h' : H b = some u) (d : o ≠ u) : a ≠ b := by
  intro e; subst e; rw [h] at h'; exact d (Option.some.inj h')
theorem ne_of_none {H : Hp} {a b : Addr} {o : HO} (h : H a = some o) (h' : H b = none) : a ≠ b := by
  intro e; subst e; rw [h] at h'; cases h'
section
variable (P : Program) (w : World)
def ObjOk (H : Hp) (h : Heap) (a : Addr) : HO -> Prop
  | .lst xs => xs.length <= sizeLine /\ ∃ (its : List Value) (n : Nat), Vals xs its /\ h.get? a = some { cls := .type "list", data := .seq its.toArray n }
  | .tup xs => xs.length <= sizeLine /\ ∃ its : List Value, Vals xs its /\ IsTup h a its.toArray
  | .dK kvs => kvs.length <= sizeLine /\ (a == sysModules) = false /\ ∃ vs, KV kvs vs /\ h.DictOf (mixKind P w) a vs
  | .dT kvs => kvs.length <= sizeLine /\ (a == sysModules) = false /\ ∃ xs : List (List Key × Addr × Value),
      Paired (fun (p : List Key × V) (q : List Key × Addr × Value) => p.1 = q.1 /\ H q.2.1 = some (.tup (p.1.map kV)) /\ RelV p.2 q.2.2) kvs xs ∧
      ∃ o es ep, h.get? a = some o /\ o.ExactDict /\ o.data = .dict es ep /\ es.toList = xs.map (entryOfKey (tupleKind (mixKind P w))) /\ (xs.map (·.1)).Nodup
  | .set S n => h.SetOf (intKind P w) a S n
  | .ins C dx fs => H dx = some (.own a) /\ fs.length <= 1000 /\ dx ≠ a /\ h.get? a = some (W.instObj C dx) ∧
      ∃ mA, h.Ns1 dx mA /\ (∀ f, RelO (fs.lookup f) (mA f)) /\ PySem.Within mA (fs.map (·.1))
  | .own _ => ∃ o, h.get? a = some o
  | .xd fs => ∃ mA, h.Ns1 a mA /\ ∀ f, RelO (fs.lookup f) (mA f)
  | .rng lo hi => ∃ t u v, h.get? a = some { cls := .type "range", data := .fields #[.int lo t, .int hi u, .int 1 v] }
  | .frz o u => h.get? a = some o /\ ObjOk H h a u
  | .tbl ps => h.get? a = some { cls := .none, data := .fields ps }
  | .met f x => h.get? a = some (W.methodObj (.ref f) (.ref x))
  | .ext φ => φ h /\ (∃ o, h.get? a = some o) /\ ∀ h1 h2 : Heap, φ h1 -> (∀ o, h1.get? a = some o -> h2.get? a = some o) -> φ h2
def HOk (H : Hp) (h : Heap) : Prop := ∀ a o, H a = some o -> ObjOk P w H h a o
end
section
variable {P : Program} {w : World} {H H' : Hp} {h h' : Heap} {a : Addr} {o : HO}
theorem ObjOk.lt (x : ObjOk P w H h a o) : a < h.objs.size := by
  cases o with
  | lst xs => obtain ⟨_, _, _, _, e⟩ := x; exact Heap.lt_size e
  | tup xs => obtain ⟨_, _, _, p⟩ := x; exact p.lt
  | dK kvs => obtain ⟨_, _, _, _, o, _, _, e, _⟩ := x; exact Heap.lt_size e
  | dT kvs => obtain ⟨_, _, _, _, o, _, _, e, _⟩ := x; exact Heap.lt_size e
  | set S n => obtain ⟨o, _, _, _, e, _⟩ := x; exact Heap.lt_size e
  | ins C dx fs => obtain ⟨_, _, _, e, _⟩ := x; exact Heap.lt_size e
  | own y => obtain ⟨_, e⟩ := x; exact Heap.lt_size e
  | xd fs => obtain ⟨_, ⟨_, _, _, e, _⟩, _⟩ := x; exact Heap.lt_size e
  | rng lo hi => obtain ⟨_, _, _, e⟩ := x; exact Heap.lt_size e
  | frz ob u => obtain ⟨e, _⟩ := x; exact Heap.lt_size e
  | tbl ps => exact Heap.lt_size (show h.get? a = some _ from x)
  | met f y => exact Heap.lt_size (show h.get? a = some _ from x)
  | ext φ => obtain ⟨_, ⟨_, e⟩, _⟩ := x; exact Heap.lt_size e
theorem Paired.mapP {α β : Type} {F G : α -> β -> Prop} : ∀ {l₁ : List α} {l₂ : List β}, Paired F l₁ l₂ -> (∀ a b, F a b -> G a b) -> Paired G l₁ l₂
  | _, _, .nil, _ => .nil
  | _, _, .cons r t, f => .cons (f _ _ r) (Paired.mapP t f)
theorem ObjOk.stay (x : ObjOk P w H h a o) (k : ∀ b u, (b = a ∨ H b = some (.own a)) -> h.get? b = some u -> h'.get? b = some u)
    (ho : ∀ b, H b = some (.own a) -> H' b = some (.own a)) (ht : ∀ b xs, H b = some (.tup xs) -> H' b = some (.tup xs)) : ObjOk P w H' h' a o := by
  induction o with
  | lst xs => obtain ⟨z, its, n, r, e⟩ := x; exact ⟨z, its, n, r, k _ _ (.inl rfl) e⟩
  | tup xs => obtain ⟨z, its, r, ob, e, c⟩ := x; exact ⟨z, its, r, ob, k _ _ (.inl rfl) e, c⟩
  | dK kvs => obtain ⟨z, y, vs, r, ob, es, ep, e, c⟩ := x; exact ⟨z, y, vs, r, ob, es, ep, k _ _ (.inl rfl) e, c⟩
  | dT kvs =>
    obtain ⟨z, y, xs, r, ob, es, ep, e, c⟩ := x
    exact ⟨z, y, xs, Paired.mapP r fun p q z => ⟨z.1, ht _ _ z.2.1, z.2.2⟩, ob, es, ep, k _ _ (.inl rfl) e, c⟩
  | set S n => obtain ⟨ob, es, ep, t, e, c⟩ := x; exact ⟨ob, es, ep, t, k _ _ (.inl rfl) e, c⟩
  | ins C dx fs =>
    obtain ⟨d, z, ne, e, mA, ⟨od, es, ep, e2, c⟩, r⟩ := x
    exact ⟨ho _ d, z, ne, k _ _ (.inl rfl) e, mA, ⟨od, es, ep, k _ _ (.inr d) e2, c⟩, r⟩
  | own y => obtain ⟨ob, e⟩ := x; exact ⟨ob, k _ _ (.inl rfl) e⟩
  | xd fs => obtain ⟨mA, ⟨od, es, ep, e, c⟩, r⟩ := x; exact ⟨mA, ⟨od, es, ep, k _ _ (.inl rfl) e, c⟩, r⟩
  | rng lo hi => obtain ⟨t, u, v, e⟩ := x; exact ⟨t, u, v, k _ _ (.inl rfl) e⟩
  | frz ob u ih => obtain ⟨e, q⟩ := x; exact ⟨k _ _ (.inl rfl) e, ih q⟩
  | tbl ps =>
    have e : h.get? a = some { cls := .none, data := .fields ps } := x
    show h'.get? a = some { cls := .none, data := .fields ps }
    exact k a _ (.inl rfl) e
  | met f y =>
    have e : h.get? a = some (W.methodObj (.ref f) (.ref y)) := x
    show h'.get? a = some (W.methodObj (.ref f) (.ref y))
    exact k a _ (.inl rfl) e
  | ext φ => obtain ⟨p, ⟨o, e⟩, st⟩ := x; exact ⟨st _ _ p fun o q => k _ _ (.inl rfl) q, ⟨o, k _ _ (.inl rfl) e⟩, st⟩
theorem HOk.lt (x : HOk P w H h) (e : H a = some o) : a < h.objs.size := (x a o e).lt
theorem HOk.fresh (x : HOk P w H h) (e : h.objs.size <= a) : H a = none := by
  cases q : H a with
  | none => rfl
  | some u => exact absurd (Nat.lt_of_lt_of_le (x.lt q) e) (Nat.lt_irrefl _)
theorem HOk.kept (x : HOk P w H h) (k : ∀ b u, h.get? b = some u -> h'.get? b = some u) : HOk P w H h' := fun a o e =>
  (x a o e).stay (fun b u _ q => k b u q) (fun _ q => q) fun _ _ q => q
theorem HOk.laid (x : HOk P w H h) (k : ∀ b u, h.get? b = some u -> h'.get? b = some u) (hp : h.objs.size <= a) (new : ObjOk P w (upd H a o) h' a o) : HOk P w (upd H a o) h' := fun b u e => by
  have hn := x.fresh hp
  by_cases hb : b = a
  . subst hb; rw [upd_same] at e; cases e; exact new
  . rw [upd_ne hb] at e; exact (x b u e).stay (fun c v _ q => k c v q) (fun c q => by rw [upd_ne (ne_of_none q hn)]; exact q) fun c xs q => by rw [upd_ne (ne_of_none q hn)]; exact q
end
def Rd (H : Hp) (a : Addr) (u : HO) : Prop := H a = some u ∨ ∃ o, H a = some (.frz o u)
theorem Rd.ok {P : Program} {w : World} {H : Hp} {h : Heap} {a : Addr} {u : HO} (r : Rd H a u) (x : HOk P w H h) : ObjOk P w H h a u := by
  rcases r with r | ⟨o, r⟩
  . exact x a u r
  . obtain ⟨_, q⟩ := x a _ r
    exact q
def Mut : Option HO -> Prop
  | some (.lst _) => True
  | some (.dK _) => True
  | some (.dT _) => True
  | some (.set _ _) => True
  | some (.ins _ _ _) => True
  | some (.ext _) => True
  | _ => False
section
variable {P : Program} {w : World} {H : Hp} {h h' : Heap} {x e : Addr} {o' : HO}
theorem HOk.write (ok : HOk P w H h) (mu : Mut (H x)) (he : e = x ∨ H e = some (.own x)) (k : ∀ b u, b ≠ e -> h.get? b = some u -> h'.get? b = some u) (heo : ∃ u, h'.get? e = some u)
    (new : ObjOk P w (upd H x o') h' x o') : HOk P w (upd H x o') h' := fun b u q => by
  have nown : ∀ c y, H c = some (.own y) -> c ≠ x := fun c y r z => by subst z; rw [r] at mu; exact mu
  have ntup : ∀ c xs, H c = some (.tup xs) -> c ≠ x := fun c xs r z => by subst z; rw [r] at mu; exact mu
  by_cases hb : b = x
  . subst hb; rw [upd_same] at q; cases q; exact new
  . rw [upd_ne hb] at q; by_cases hbe : b = e
    . have q' : H b = some (.own x) := by
        rcases he with z | z
        . exact absurd (hbe.trans z) hb
        . rw [hbe]; exact z
      rw [q] at q'; cases q'
      obtain ⟨v, hv⟩ := heo
      exact ⟨v, by rw [hbe]; exact hv⟩
    . refine (ok b u q).stay (fun c v hc r => k c v ?_ r) (fun c r => by rw [upd_ne (nown c b r)]; exact r) fun c xs r => by rw [upd_ne (ntup c xs r)]; exact r
      rcases hc with rfl | hc
      . exact hbe
      . rintro rfl
        rcases he with z | z
        . exact nown c b hc z
        . rw [hc] at z; cases z; exact hb rfl
end
structure Un (fs ex : List Addr) (H H' : Hp) (h h' : Heap) : Prop where
  keep : ∀ b o, h.get? b = some o -> H b = none -> b ∉ fs -> b ∉ ex -> h'.get? b = some o
  slot : ∀ b o, h.get? b = some o -> H b = none -> b ∈ fs -> b ∉ ex -> ∃ sl, h'.get? b = some { o with slots := sl }
  free : ∀ b o, h.get? b = some o -> H b = none -> b ∉ ex -> H' b = none
  there : ∀ b o, h.get? b = some o -> b ∉ ex -> ∃ o', h'.get? b = some o'
  tups : ∀ b xs, H b = some (.tup xs) -> H' b = some (.tup xs)
  frzs : ∀ b o u, H b = some (.frz o u) -> H' b = some (.frz o u)
  tbls : ∀ b ps, H b = some (.tbl ps) -> ∃ more, H' b = some (.tbl (ps ++ more))
section
variable {fs fs' ex ex' : List Addr} {H H1 H2 : Hp} {h h1 h2 h' : Heap} {a x e : Addr} {o : HO}
theorem Un.any (u : Un fs ex H H1 h h1) {b : Addr} {ob : Obj} (q : h.get? b = some ob) (n : H b = none) (hx : b ∉ ex) : ∃ sl, h1.get? b = some { ob with slots := sl } := by
  by_cases hb : b ∈ fs
  . exact u.slot b ob q n hb hx
  . exact ⟨ob.slots, u.keep b ob q n hb hx⟩
theorem Un.kept (k : ∀ b u, h.get? b = some u -> h'.get? b = some u) : Un fs ex H H h h' :=
  ⟨fun b ob q _ _ _ => k b ob q, fun b ob q _ _ _ => ⟨ob.slots, k b ob q⟩, fun _ _ _ n _ => n, fun b ob q _ => ⟨ob, k b ob q⟩, fun _ _ q => q, fun _ _ _ q => q, fun _ ps q => ⟨#[], by rw [q]; simp⟩⟩
theorem Un.refl : Un fs ex H H h h := Un.kept fun _ _ q => q
theorem Un.laid (k : ∀ b u, h.get? b = some u -> h'.get? b = some u) (hp : h.objs.size <= a) (hn : H a = none) : Un fs ex H (upd H a o) h h' where
  keep := fun b u q _ _ _ => k b u q
  slot := fun b u q _ _ _ => ⟨u.slots, k b u q⟩
  free := fun b u q n _ => by rw [upd_ne (Nat.ne_of_lt (Nat.lt_of_lt_of_le (Heap.lt_size q) hp))]; exact n
  there := fun b u q _ => ⟨u, k b u q⟩
  tups := fun b xs q => by rw [upd_ne (ne_of_none q hn)]; exact q
  frzs := fun b u xs q => by rw [upd_ne (ne_of_none q hn)]; exact q
  tbls := fun b ps q => ⟨#[], by rw [upd_ne (ne_of_none q hn), q]; simp⟩
theorem Un.write (mu : Mut (H x)) (he : e = x ∨ H e = some (.own x)) (k : ∀ b u, b ≠ e -> h.get? b = some u -> h'.get? b = some u) (heo : ∃ u, h'.get? e = some u) : Un fs ex H (upd H x o) h h' := by
  have hx : ∀ b, H b = none -> b ≠ x := fun b n z => by subst z; rw [n] at mu; exact mu
  have hb : ∀ b, H b = none -> b ≠ e := fun b n z => by
    subst z; rcases he with r | r
    . exact hx b n r
    . rw [n] at r; cases r
  have hm : ∀ b u, H b = some u -> ¬ Mut (some u) -> b ≠ x := fun b u q nm z => by subst z; rw [q] at mu; exact nm mu
  refine ⟨fun b u q n _ _ => k b u (hb b n) q, fun b u q n _ _ => ⟨u.slots, k b u (hb b n) q⟩, fun b u q n _ => by rw [upd_ne (hx b n)]; exact n, fun b u q _ => ?_,
    fun b xs q => by rw [upd_ne (hm b _ q fun z => z)]; exact q, fun b u xs q => by rw [upd_ne (hm b _ q fun z => z)]; exact q, fun b ps q => ⟨#[], by rw [upd_ne (hm b _ q fun z => z), q]; simp⟩⟩
  by_cases hbe : b = e
  . subst hbe; exact heo
  . exact ⟨u, k b u hbe q⟩
end
def trk (h : Heap) (H : Hp) : List Addr := (List.range h.objs.size).filter fun a => (H a).isSome
def hidT (h : Heap) (H : Hp) : Heap := W.hideAll h (trk h H)
theorem hidT_size (h : Heap) (H : Hp) : (hidT h H).objs.size = h.objs.size := W.hideAll_size _ _
theorem hidT_get {h : Heap} {H : Hp} {b : Addr} {o : Obj} (e : h.get? b = some o) (n : H b = none) : (hidT h H).get? b = some o :=
  W.hideAll_get _ e fun hm => by
    have q : (H b).isSome = true := (List.mem_filter.mp hm).2
    rw [n] at q; simp at q
theorem of_hidT {h : Heap} {H : Hp} {b : Addr} {o : Obj} (e : (hidT h H).get? b = some o) : h.get? b = some o /\ H b = none := by
  have e' : h.get? b = some o := W.of_hideAll (trk h H) e
  refine ⟨e', ?_⟩
  cases q : H b with
  | none => rfl
  | some x =>
    have hm : b ∈ trk h H := List.mem_filter.mpr ⟨List.mem_range.mpr (Heap.lt_size e'), by simp [q]⟩
    have z : (hidT h H).get? b = none := W.hideAll_none (trk h H) hm
    rw [z] at e; cases e
end L2
namespace L2
open PySem PySem.Spec PyProof.Rows
structure Mod (K : W.Frag) (mg : Str -> Option Value) (base : Heap) : Prop where
  kin : K.In base
  glob : base.Ns mainGlobals mg
  blt : ∃ mb, base.Ns builtinsNs mb /\ ∀ x : Str, x ≠ "__name__" -> mb x = bootBuiltins x
  nolimit : base.NoLimit
structure Cx where
  prog : Program
  w : World
  K : W.Frag
  mg : Str -> Option Value
  base : Heap
  A : Around
  N : List Str
  s₀ : Shared
  H₀ : Hp
  env : Env
  outer : List Env
  stack : List Env
  ex : List Addr
  fn : Str -> Bool
  calm : Bool
  pn : List (Addr × Obj)
  xe : Value -> Shared -> Prop
def frs (l : List Env) : List Addr := l.filterMap (·.frame)
abbrev Cx.fs (X : Cx) : List Addr := frs X.outer
def Vis (sc : Scope) (x : Str) : Prop := sc.names.lookup x = some .local ∨ sc.names.lookup x = some .cell ∨ sc.names.lookup x = some .free
def Loc (sc : Scope) (x : Str) : Prop := sc.names.lookup x = some .local ∨ sc.names.lookup x = some .cell
def Look (env : Env) (h : Heap) (m : Str -> Option Value) (x : Str) (u : Value) : Prop :=
  (env.kindOf x = some .local /\ m x = some u) ∨ ((env.kindOf x = some .cell ∨ env.kindOf x = some .free) /\ ∃ c, env.cells.lookup x = some c /\ h.IsCell c (some u))
structure Cx.Ok (X : Cx) : Prop where
  mod : Mod X.K X.mg X.base
  kind : X.env.scope.kind = .function
  glob : X.env.globals = mainGlobals
  blt : X.env.builtins = builtinsNs
  above : X.s₀.heap.objs.size <= X.env.locals
  inj : ∀ x y c, X.env.cells.lookup x = some c -> X.env.cells.lookup y = some c -> x = y
  has : ∀ x, (X.env.kindOf x = some .cell ∨ X.env.kindOf x = some .free) -> ∃ c, X.env.cells.lookup x = some c
  cab : ∀ x c, X.fn x = true -> X.env.cells.lookup x = some c -> X.s₀.heap.objs.size <= c
  hd : X.calm = true -> X.A.handled = none
  frames : X.A.frames = some X.stack
  stk : X.stack = X.outer ∨ (X.stack = X.env :: X.outer /\ X.env.frame = some X.env.locals)
  exf : ∀ b ∈ X.ex, b ≠ X.env.locals /\ ∀ x c, X.env.cells.lookup x = some c -> c ≠ b
  bs : ∀ b o, X.base.get? b = some o -> X.s₀.heap.get? b = some o /\ X.H₀ b = none
  bsz : X.base.objs.size <= X.s₀.heap.objs.size
  noex : ∀ b o, X.base.get? b = some o -> b ∉ X.ex
  exfs : ∀ b ∈ X.ex, b ∉ X.fs
  funs : X.s₀.heap.FunFrames X.base X.outer
  frf : ∀ b ∈ X.fs, X.H₀ b = none
structure Inv (X : Cx) (pins : List (Addr × Obj)) (σ : List (Option V)) (H : Hp) (s : Shared) : Prop where
  ok : X.Ok
  os : s.os = X.s₀.os
  bare : AllBare s.gens
  base : Un X.fs X.ex X.H₀ H X.s₀.heap s.heap
  loc : ∃ m, s.heap.Ns X.env.locals m /\ ∀ (i : Nat) (x : Str) (v : V), X.N[i]? = some x -> σ[i]? = some (some v) -> Vis X.env.scope x -> ∃ u, RelV v u /\ Look X.env s.heap m x u
  cell : ∀ x c, X.env.cells.lookup x = some c -> ∃ v, s.heap.IsCell c v
  free : H X.env.locals = none
  freeC : ∀ x c, X.env.cells.lookup x = some c -> H c = none
  pin : ∀ p ∈ X.pn ++ pins, s.heap.get? p.1 = some p.2 /\ H p.1 = none /\ p.1 ≠ X.env.locals /\ p.1 ∉ X.fs /\ ∀ v, p.2.data ≠ .cell v
  hok : HOk X.prog X.w H s.heap
  len : σ.length = X.N.length
section
variable {X : Cx} {pins : List (Addr × Obj)} {σ : List (Option V)} {H H' : Hp} {s : Shared} {h' : Heap}
theorem Cx.Ok.nofr (ok : X.Ok) {b : Addr} {o : Obj} (e : X.base.get? b = some o) : b ∉ X.fs := fun hb => by
  have := (ok.funs.mem hb).1
  rw [e] at this; cases this
theorem Inv.bs (I : Inv X pins σ H s) : ∀ b o, X.base.get? b = some o -> s.heap.get? b = some o /\ H b = none := fun b o e =>
  ⟨I.base.keep b o (I.ok.bs b o e).1 (I.ok.bs b o e).2 (I.ok.nofr e) (I.ok.noex b o e), I.base.free b o (I.ok.bs b o e).1 (I.ok.bs b o e).2 (I.ok.noex b o e)⟩
theorem Inv.bk (I : Inv X pins σ H s) : ∀ b o, X.base.get? b = some o -> s.heap.get? b = some o := fun b o e => (I.bs b o e).1
theorem Inv.mod (I : Inv X pins σ H s) : Mod X.K X.mg X.base := I.ok.mod
theorem Inv.kIn (I : Inv X pins σ H s) : X.K.In s.heap := I.ok.mod.kin.keeps I.bk
theorem Inv.fr (I : Inv X pins σ H s) : ∃ m, Fr X.base X.env.locals s.heap m :=
  let ⟨m, hn, _⟩ := I.loc
  ⟨m, hn, I.bk, Znt I.ok.bsz I.ok.above⟩
theorem Inv.lt (I : Inv X pins σ H s) : X.env.locals < s.heap.objs.size := let ⟨_, hn, _⟩ := I.loc; hn.lt
theorem Inv.sz (I : Inv X pins σ H s) : X.s₀.heap.objs.size <= s.heap.objs.size := Znt I.ok.above (Nat.le_of_lt I.lt)
theorem Inv.nofs (I : Inv X pins σ H s) {a : Addr} (h : s.heap.objs.size <= a) : a ∉ X.fs := fun hb => by
  obtain ⟨_, o, ho, _⟩ := I.ok.funs.mem hb
  exact absurd (Nat.lt_of_lt_of_le (Heap.lt_size ho) (Znt I.sz h)) (Nat.lt_irrefl _)
theorem Inv.cne (I : Inv X pins σ H s) : ∀ x c, X.env.cells.lookup x = some c -> c ≠ X.env.locals := fun x c e z => by
  obtain ⟨v, o, ho, hd⟩ := I.cell x c e
  obtain ⟨m, ⟨o', es, ep, ho', hd', _⟩, _⟩ := I.loc
  rw [z, ho'] at ho; cases ho; rw [hd'] at hd; cases hd
theorem Inv.funs (I : Inv X pins σ H s) : s.heap.FunFrames X.base X.outer := by
  have all : ∀ (l : List Env), (∀ b ∈ frs l, b ∈ X.fs) -> X.s₀.heap.FunFrames X.base l -> s.heap.FunFrames X.base l := by
    intro l; induction l with
    | nil => intro _ _; trivial
    | cons env r ih =>
      intro hs hl; obtain ⟨hk, ⟨L, o, hf, hn, ho, hd⟩, hr⟩ := hl
      have hL : L ∈ X.fs := hs L (by unfold frs; rw [List.filterMap_cons, hf]; exact Zcs)
      obtain ⟨sl, e⟩ := I.base.slot L o ho (I.ok.frf L hL) hL fun z => I.ok.exfs L z hL
      exact ⟨hk, ⟨L, _, hf, hn, e, hd⟩, ih (fun b hb => hs b (by unfold frs; rw [List.filterMap_cons, hf]; exact Zmc _ hb)) hr⟩
  exact all X.outer (fun _ hb => hb) I.ok.funs
theorem Inv.stack (I : Inv X pins σ H s) : s.heap.FunFrames X.base X.stack := by
  rcases I.ok.stk with e | ⟨e, hf⟩
  . rw [e]; exact I.funs
  . rw [e]; obtain ⟨m, hn, _⟩ := I.loc
    refine .cons (by rw [I.ok.kind]; decide) hf hn ?_ I.funs
    exact Heap.get?_none_of_le (Znt I.ok.bsz I.ok.above)
theorem Inv.stkSub (I : Inv X pins σ H s) : ∀ b ∈ frs X.stack, b ∈ X.env.locals :: X.fs := fun b hb => by
  rcases I.ok.stk with e | ⟨e, hf⟩
  . rw [e] at hb; exact Zmc _ hb
  . rw [e] at hb; unfold frs at hb; rw [List.filterMap_cons, hf] at hb; exact hb
theorem Inv.stkFree (I : Inv X pins σ H s) : ∀ b ∈ frs X.stack, H b = none := fun b hb => by
  rcases List.mem_cons.mp (I.stkSub b hb) with e | hb
  . rw [e]; exact I.free
  . obtain ⟨_, o, ho, _⟩ := I.ok.funs.mem hb
    exact I.base.free b o ho (I.ok.frf b hb) fun z => I.ok.exfs b z hb
theorem Inv.step {g' : Array GenState} {t' : Nat} {d' : Drawn} {ch : List Addr} (I : Inv X pins σ H s)
    (hch : ∀ b ∈ ch, (b ∈ X.ex ∨ X.s₀.heap.objs.size <= b) /\ b ≠ X.env.locals /\ (∀ x c, X.env.cells.lookup x = some c -> c ≠ b) /\ ∀ p ∈ X.pn ++ pins, p.1 ≠ b)
    (keep : ∀ b o, b ≠ X.env.locals -> b ∉ X.fs -> b ∉ ch -> s.heap.get? b = some o -> H b = none -> h'.get? b = some o)
    (slot : ∀ b o, b ≠ X.env.locals -> b ∈ X.fs -> b ∉ ch -> s.heap.get? b = some o -> H b = none -> ∃ sl, h'.get? b = some { o with slots := sl }) (free : ∀ b o, b ∉ ch -> s.heap.get? b = some o -> H b = none -> H' b = none)
    (there : ∀ b o, b ∉ ch -> s.heap.get? b = some o -> ∃ o', h'.get? b = some o')
    (tups : ∀ b xs, H b = some (.tup xs) -> H' b = some (.tup xs)) (frzs : ∀ b o u, H b = some (.frz o u) -> H' b = some (.frz o u)) (tbls : ∀ b ps, H b = some (.tbl ps) -> ∃ more, H' b = some (.tbl (ps ++ more)))
    (ns : ∀ m, s.heap.Ns X.env.locals m -> h'.Ns X.env.locals m) (hok : HOk X.prog X.w H' h') (hg : AllBare g') :
    Inv X pins σ H' { s with heap := h', gens := g', drawn := d', toks := t' } := by
  have neL : ∀ b o, X.s₀.heap.get? b = some o -> b ≠ X.env.locals := fun b o e => Nat.ne_of_lt (Nat.lt_of_lt_of_le (Heap.lt_size e) I.ok.above)
  have neC : ∀ b o, X.s₀.heap.get? b = some o -> b ∉ X.ex -> b ∉ ch := fun b o e hx hb => by
    rcases (hch b hb).1 with z | z
    . exact hx z
    . exact absurd (Nat.lt_of_lt_of_le (Heap.lt_size e) z) (Nat.lt_irrefl _)
  have cellK : ∀ x c, X.env.cells.lookup x = some c -> ∀ v, s.heap.IsCell c v -> h'.IsCell c v := fun x c e v ⟨o, ho, hd⟩ => by
    have nch : c ∉ ch := fun z => (hch c z).2.2.1 x c e rfl
    by_cases hc : c ∈ X.fs
    . obtain ⟨sl, q⟩ := slot c o (I.cne x c e) hc nch ho (I.freeC x c e)
      exact ⟨_, q, hd⟩
    . exact ⟨o, keep c o (I.cne x c e) hc nch ho (I.freeC x c e), hd⟩
  refine ⟨I.ok, I.os, hg, ⟨fun b o e n hb hx => ?_, fun b o e n hb hx => ?_, fun b o e n hx => ?_, fun b o e hx => ?_, fun b xs e => tups b xs (I.base.tups b xs e), fun b o xs e => frzs b o xs (I.base.frzs b o xs e), fun b ps e => ?_⟩, ?_, fun x c e => ?_, ?_, fun x c e => ?_, fun p hp => ?_, hok, I.len⟩
  . exact keep b o (neL b o e) hb (neC b o e hx) (I.base.keep b o e n hb hx) (I.base.free b o e n hx)
  . obtain ⟨sl, e1⟩ := I.base.slot b o e n hb hx
    obtain ⟨sl', e2⟩ := slot b _ (neL b o e) hb (neC b o e hx) e1 (I.base.free b o e n hx)
    exact ⟨sl', e2⟩
  . obtain ⟨o', e1⟩ := I.base.there b o e hx
    exact free b o' (neC b o e hx) e1 (I.base.free b o e n hx)
  . obtain ⟨o', e1⟩ := I.base.there b o e hx
    exact there b o' (neC b o e hx) e1
  . obtain ⟨m1, e1⟩ := I.base.tbls b ps e
    obtain ⟨m2, e2⟩ := tbls b _ e1
    exact ⟨m1 ++ m2, by rw [e2, Array.append_assoc]⟩
  . obtain ⟨m, hn, hl⟩ := I.loc
    refine ⟨m, ns m hn, fun i x v e1 e2 e3 => ?_⟩
    obtain ⟨u, r, l⟩ := hl i x v e1 e2 e3
    refine ⟨u, r, ?_⟩
    rcases l with l | ⟨k, c, e, z⟩
    . exact .inl l
    . exact .inr ⟨k, c, e, cellK x c e _ z⟩
  . obtain ⟨v, z⟩ := I.cell x c e
    exact ⟨v, cellK x c e v z⟩
  . obtain ⟨m, ⟨o, _, _, ho, _⟩, _⟩ := I.loc
    exact free _ o (fun z => (hch _ z).2.1 rfl) ho I.free
  . obtain ⟨v, o, ho, hd⟩ := I.cell x c e
    exact free c o (fun z => (hch c z).2.2.1 x c e rfl) ho (I.freeC x c e)
  . obtain ⟨e, n, ne, nf, d⟩ := I.pin p hp
    have nch : p.1 ∉ ch := fun z => (hch p.1 z).2.2.2 p hp rfl
    exact ⟨keep p.1 p.2 ne nf nch e n, free p.1 p.2 nch e n, ne, nf, d⟩
theorem Inv.un {t' : Nat} (I : Inv X pins σ H s) (u : Un X.fs [] H H' s.heap h') (hok : HOk X.prog X.w H' h') : Inv X pins σ H' { s with heap := h', toks := t' } := by
  obtain ⟨m, ⟨o, es, ep, ho, r⟩, _⟩ := id I.loc
  obtain ⟨sl, hL⟩ := u.any ho I.free (by simp)
  exact I.step (g' := s.gens) (d' := s.drawn) (ch := []) (fun _ z => nomatch z) (fun b o _ hb _ e n => u.keep b o e n hb (by simp)) (fun b o _ hb _ e n => u.slot b o e n hb (by simp)) (fun b o _ e n => u.free b o e n (by simp)) (fun b o _ e => u.there b o e (by simp)) u.tups u.frzs u.tbls (fun m' hm => by
    obtain ⟨o', es', ep', ho', r'⟩ := hm
    rw [ho] at ho'; cases ho'
    exact ⟨_, es', ep', hL, r'⟩) hok I.bare
theorem Inv.call {g' : Array GenState} {t' : Nat} {d' : Drawn} {ch : List Addr} (I : Inv X pins σ H s) (u : Un (frs X.stack) ch H H' s.heap h') (hok : HOk X.prog X.w H' h') (hg : AllBare g')
    (hch : ∀ b ∈ ch, (b ∈ X.ex ∨ X.s₀.heap.objs.size <= b) /\ b ≠ X.env.locals /\ (∀ x c, X.env.cells.lookup x = some c -> c ≠ b) /\ ∀ p ∈ X.pn ++ pins, p.1 ≠ b) :
    Inv X pins σ H' { s with heap := h', gens := g', drawn := d', toks := t' } := by
  obtain ⟨m, ⟨o, es, ep, ho, r⟩, _⟩ := id I.loc
  obtain ⟨sl, hL⟩ := u.any ho I.free fun z => (hch _ z).2.1 rfl
  exact I.step (ch := ch) hch (fun b o hL hb hc e n => u.keep b o e n (fun z => (List.mem_cons.mp (I.stkSub b z)).elim hL hb) hc) (fun b o _ _ hc e n => u.any e n hc) (fun b o hc e n => u.free b o e n hc) (fun b o hc e => u.there b o e hc) u.tups u.frzs u.tbls (fun m' hm => by
    obtain ⟨o', es', ep', ho', r'⟩ := hm
    rw [ho] at ho'; cases ho'
    exact ⟨_, es', ep', hL, r'⟩) hok hg
theorem Inv.turned {t' : Nat} {it : Addr} (I : Inv X pins σ H s) (k : ∀ b o, b ≠ it -> s.heap.get? b = some o -> h'.get? b = some o) (hn : H it = none) (hL : it ≠ X.env.locals)
    (h1 : it ∈ X.ex ∨ X.s₀.heap.objs.size <= it) (h2 : ∀ x c, X.env.cells.lookup x = some c -> c ≠ it) (h3 : ∀ p ∈ X.pn ++ pins, p.1 ≠ it) : Inv X pins σ H { s with heap := h', toks := t' } := by
  have nit : ∀ b u, H b = some u -> b ≠ it := fun b u e z => by rw [z, hn] at e; cases e
  refine I.step (g' := s.gens) (d' := s.drawn) (ch := [it]) (fun b hb => ?_) (fun b o _ _ hc e _ => k b o (fun z => hc (by simp [z])) e) (fun b o _ _ hc e _ => ⟨o.slots, k b o (fun z => hc (by simp [z])) e⟩) (fun _ _ _ _ n => n)
    (fun b o hc e => ⟨o, k b o (fun z => hc (by simp [z])) e⟩) (fun _ _ e => e) (fun _ _ _ e => e) (fun b ps e => ⟨#[], by rw [e]; simp⟩) (fun m hm => ?_) (fun b u e => ?_) I.bare
  . have e : b = it := by simpa using hb
    subst e; exact ⟨h1, hL, h2, h3⟩
  . obtain ⟨o, es, ep, ho, r⟩ := hm
    exact ⟨o, es, ep, k _ o (Ne.symm hL) ho, r⟩
  . refine (I.hok b u e).stay (fun c v hc q => k c v ?_ q) (fun _ q => q) fun _ _ q => q
    rcases hc with z | z
    . rw [z]; exact nit b u e
    . exact nit c _ z
theorem Inv.tok (I : Inv X pins σ H s) (t : Nat) : Inv X pins σ H { s with toks := t } := I.un (h' := s.heap) (t' := t) Un.refl I.hok
theorem Inv.kept {t' : Nat} (I : Inv X pins σ H s) (k : ∀ b u, s.heap.get? b = some u -> h'.get? b = some u) : Inv X pins σ H { s with heap := h', toks := t' } := I.un (Un.kept k) (I.hok.kept k)
theorem Inv.laid {a : Addr} {o : HO} {t' : Nat} (I : Inv X pins σ H s) (k : ∀ b u, s.heap.get? b = some u -> h'.get? b = some u) (hp : s.heap.objs.size <= a) (new : ObjOk X.prog X.w (upd H a o) h' a o) :
    Inv X pins σ (upd H a o) { s with heap := h', toks := t' } := I.un (Un.laid k hp (I.hok.fresh hp)) (I.hok.laid k hp new)
theorem Inv.write {x e : Addr} {o : HO} {t' : Nat} (I : Inv X pins σ H s) (mu : Mut (H x)) (he : e = x ∨ H e = some (.own x)) (k : ∀ b u, b ≠ e -> s.heap.get? b = some u -> h'.get? b = some u) (heo : ∃ u, h'.get? e = some u)
    (new : ObjOk X.prog X.w (upd H x o) h' x o) : Inv X pins σ (upd H x o) { s with heap := h', toks := t' } := I.un (Un.write mu he k heo) (I.hok.write mu he k heo new)
theorem Inv.weak {σ' : List (Option V)} (I : Inv X pins σ H s) (hl : σ'.length = σ.length) (w : ∀ (i : Nat) v, σ'[i]? = some (some v) -> σ[i]? = some (some v)) : Inv X pins σ' H s :=
  ⟨I.ok, I.os, I.bare, I.base, let ⟨m, hn, hl'⟩ := I.loc; ⟨m, hn, fun i x v e1 e2 e3 => hl' i x v e1 (w i v e2) e3⟩, I.cell, I.free, I.freeC, I.pin, I.hok, hl.trans I.len⟩
theorem Inv.pins_of {pins' : List (Addr × Obj)} (I : Inv X pins σ H s) (h : ∀ p ∈ pins', s.heap.get? p.1 = some p.2 /\ H p.1 = none /\ p.1 ≠ X.env.locals /\ p.1 ∉ X.fs /\ ∀ v, p.2.data ≠ .cell v) : Inv X pins' σ H s :=
  ⟨I.ok, I.os, I.bare, I.base, I.loc, I.cell, I.free, I.freeC, fun p hp => (Zma.mp hp).elim (fun z => I.pin p (List.mem_append_left _ z)) (h p), I.hok, I.len⟩
theorem nodup_ix {N : List Str} (hN : N.Nodup) {i j : Nat} {x : Str} (a : N[i]? = some x) (b : N[j]? = some x) : i = j := by
  obtain ⟨h1, e1⟩ := Zgs.mp a
  obtain ⟨h2, e2⟩ := Zgs.mp b
  exact (List.getElem_inj hN).mp (e1.trans e2.symm)
theorem store_ok2 {M : Model} {A : Around} {E : Value -> Shared -> Prop} {i : Nat} {x : Str} {v : V} {u : Value} {Q : Unit -> Shared -> Prop} (I : Inv X pins σ H s) (hN : X.N.Nodup) (hi : X.N[i]? = some x) (hx : Loc X.env.scope x) (r : RelV v u)
    (h : ∀ s', Inv X pins (σ.set i (some v)) H s' -> (∃ a, Heap.SameBut a s.heap s'.heap /\ (a = X.env.locals ∨ X.env.cells.lookup x = some a)) -> Q () s') (hf : X.fn x = true ∨ X.env.scope.names.lookup x = some .local := by first | exact .inl rfl | exact .inr rfl | assumption) : wpAny M A (storeName X.env x u) Q E s := by
  obtain ⟨m, hn, hl⟩ := id I.loc
  have hcls : (X.env.scope.kind == .class || (X.env.scope.kind == .module && X.env.locals != X.env.globals)) = false := by rw [I.ok.kind]; rfl
  have hiσ : i < σ.length := by rw [I.len]; exact (Zgs.mp hi).1
  have cne := I.cne
  have tracked : ∀ {a : Addr} {h' : Heap}, (∃ o, s.heap.get? a = some o /\ H a = none) -> Heap.SameBut a s.heap h' -> HOk X.prog X.w H h' := fun {a h'} ha hs b ob e => by
    obtain ⟨_, _, hfree⟩ := ha
    refine (I.hok b ob e).stay (fun c w' hc q => (hs.2 c ?_).trans q) (fun _ q => q) fun _ _ q => q
    rintro rfl
    rcases hc with rfl | hc
    . rw [hfree] at e; cases e
    . rw [hfree] at hc; cases hc
  rcases hx with hk | hk
  . refine wpAny_storeName_local hk hn (fun h' hn' hs => ?_) hcls
    obtain ⟨oL, _, _, hoL, _⟩ := id hn
    refine h _ ⟨I.ok, I.os, I.bare, ⟨fun b o e n hb hx => ?_, fun b o e n hb hx => ?_, I.base.free, fun b o e hx => ?_, I.base.tups, I.base.frzs, I.base.tbls⟩, ⟨_, hn', fun j y v' e1 e2 e3 => ?_⟩, fun y c e => ?_, I.free, I.freeC, fun p hp => ?_, tracked ⟨oL, hoL, I.free⟩ hs, by simpa using I.len⟩ ⟨_, hs, .inl rfl⟩
    . exact (hs.2 b (Nat.ne_of_lt (Nat.lt_of_lt_of_le (Heap.lt_size e) I.ok.above))).trans (I.base.keep b o e n hb hx)
    . obtain ⟨sl, e1⟩ := I.base.slot b o e n hb hx
      exact ⟨sl, (hs.2 b (Nat.ne_of_lt (Nat.lt_of_lt_of_le (Heap.lt_size e) I.ok.above))).trans e1⟩
    . obtain ⟨o', e1⟩ := I.base.there b o e hx
      exact ⟨o', (hs.2 b (Nat.ne_of_lt (Nat.lt_of_lt_of_le (Heap.lt_size e) I.ok.above))).trans e1⟩
    . by_cases hj : j = i
      . subst hj; rw [hi] at e1; cases e1
        rw [List.getElem?_set_self hiσ] at e2; cases e2
        exact ⟨u, r, .inl ⟨hk, by simp⟩⟩
      . rw [List.getElem?_set_ne (Ne.symm hj)] at e2; obtain ⟨u', r', q⟩ := hl j y v' e1 e2 e3
        refine ⟨u', r', ?_⟩
        rcases q with ⟨k, e⟩ | ⟨k, c, e, z⟩
        . refine .inl ⟨k, ?_⟩
          have : y ≠ x := fun e => hj (nodup_ix hN e1 (e ▸ hi))
          simp [this, e]
        . exact .inr ⟨k, c, e, z.sameBut hs (cne y c e)⟩
    . obtain ⟨w', z⟩ := I.cell y c e
      exact ⟨w', z.sameBut hs (cne y c e)⟩
    . obtain ⟨e, n, ne, nf, d⟩ := I.pin p hp
      exact ⟨(hs.2 p.1 ne).trans e, n, ne, nf, d⟩
  . have hfn : X.fn x = true := by
      rcases hf with z | z
      . exact z
      . rw [z] at hk; cases hk
    obtain ⟨c, hc⟩ := I.ok.has x (.inl hk)
    obtain ⟨w', z⟩ := I.cell x c hc
    refine wpAny_storeName_cell I.ok.kind hk hc z (fun h' hc' hs => ?_)
    obtain ⟨oc, hoc, hocd⟩ := id z
    refine h { s with heap := h' } ⟨I.ok, I.os, I.bare, ⟨fun b o e n hb hx => ?_, fun b o e n hb hx => ?_, I.base.free, fun b o e hx => ?_, I.base.tups, I.base.frzs, I.base.tbls⟩, ⟨m, hn.sameBut hs (Ne.symm (cne x c hc)), fun j y v' e1 e2 e3 => ?_⟩, fun y c' e => ?_, I.free, I.freeC, fun p hp => ?_, tracked ⟨oc, hoc, I.freeC x c hc⟩ hs, by simpa using I.len⟩ ⟨c, hs, .inr hc⟩
    . exact (hs.2 b (Nat.ne_of_lt (Nat.lt_of_lt_of_le (Heap.lt_size e) (I.ok.cab x c hfn hc)))).trans (I.base.keep b o e n hb hx)
    . obtain ⟨sl, e1⟩ := I.base.slot b o e n hb hx
      exact ⟨sl, (hs.2 b (Nat.ne_of_lt (Nat.lt_of_lt_of_le (Heap.lt_size e) (I.ok.cab x c hfn hc)))).trans e1⟩
    . obtain ⟨o', e1⟩ := I.base.there b o e hx
      exact ⟨o', (hs.2 b (Nat.ne_of_lt (Nat.lt_of_lt_of_le (Heap.lt_size e) (I.ok.cab x c hfn hc)))).trans e1⟩
    . by_cases hj : j = i
      . subst hj; rw [hi] at e1; cases e1
        rw [List.getElem?_set_self hiσ] at e2; cases e2
        exact ⟨u, r, .inr ⟨.inl hk, c, hc, hc'⟩⟩
      . rw [List.getElem?_set_ne (Ne.symm hj)] at e2; obtain ⟨u', r', q⟩ := hl j y v' e1 e2 e3
        refine ⟨u', r', ?_⟩
        rcases q with q | ⟨k, c', e, z'⟩
        . exact .inl q
        . refine .inr ⟨k, c', e, z'.sameBut hs ?_⟩
          rintro rfl
          exact hj (nodup_ix hN e1 (I.ok.inj _ _ _ e hc ▸ hi))
    . by_cases hcc : c' = c
      . subst hcc; exact ⟨_, hc'⟩
      . obtain ⟨w2, z2⟩ := I.cell y c' e
        exact ⟨w2, z2.sameBut hs hcc⟩
    . obtain ⟨e, n, ne, nf, d⟩ := I.pin p hp
      refine ⟨(hs.2 p.1 ?_).trans e, n, ne, nf, d⟩
      intro q; rw [q, hoc] at e; have q' : oc = p.2 := Option.some.inj e
      exact d w' (by rw [<- q']; exact hocd)
theorem store_ok {M : Model} {A : Around} {E : Value -> Shared -> Prop} {i : Nat} {x : Str} {v : V} {u : Value} {Q : Unit -> Shared -> Prop} (I : Inv X pins σ H s) (hN : X.N.Nodup) (hi : X.N[i]? = some x) (hx : Loc X.env.scope x) (r : RelV v u)
    (h : ∀ s', Inv X pins (σ.set i (some v)) H s' -> Q () s') (hf : X.fn x = true ∨ X.env.scope.names.lookup x = some .local := by first | exact .inl rfl | exact .inr rfl | assumption) : wpAny M A (storeName X.env x u) Q E s :=
  store_ok2 I hN hi hx r (fun s' I' _ => h s' I') hf
theorem Inv.call' {s' : Shared} {ch : List Addr} (I : Inv X pins σ H s) (ho : s'.os = s.os) (u : Un (frs X.stack) ch H H' s.heap s'.heap) (hok : HOk X.prog X.w H' s'.heap) (hg : AllBare s'.gens)
    (hch : ∀ b ∈ ch, (b ∈ X.ex ∨ X.s₀.heap.objs.size <= b) /\ b ≠ X.env.locals /\ (∀ x c, X.env.cells.lookup x = some c -> c ≠ b) /\ ∀ p ∈ X.pn ++ pins, p.1 ≠ b) : Inv X pins σ H' s' := by
  obtain ⟨h', g', d', t', o'⟩ := s'
  have e : o' = s.os := ho
  subst e; exact I.call (g' := g') (t' := t') (d' := d') u hok hg hch
end
abbrev XK := Value -> Option Addr -> Hp -> Prop
abbrev St := List (Option V)
abbrev VK := V -> Hp -> Prop
abbrev TE := St -> Hp -> VK -> Prop
abbrev TT := St -> Hp -> (Bool -> Hp -> Prop) -> Prop
abbrev TA := St -> Hp -> (List V -> Hp -> Prop) -> Prop
structure Ends where
  nx : St -> Hp -> Prop
  rt : VK
  bk : St -> Hp -> Prop := fun _ _ => False
  ct : St -> Hp -> Prop := fun _ _ => False
abbrev TS := Ends -> St -> Hp -> Prop
def EP (X : Cx) (pins : List (Addr × Obj)) (σ : St) (Q : VK) (u : Value) (s' : Shared) : Prop := ∃ v H', Inv X pins σ H' s' /\ RelV v u /\ Q v H'
def TP (X : Cx) (pins : List (Addr × Obj)) (σ : St) (Q : Bool -> Hp -> Prop) (b : Bool) (s' : Shared) : Prop := ∃ H', Inv X pins σ H' s' /\ Q b H'
def AP (X : Cx) (pins : List (Addr × Obj)) (σ : St) (Q : List V -> Hp -> Prop) (us : List Value) (s' : Shared) : Prop := ∃ vs H', Inv X pins σ H' s' /\ Vals vs us /\ Q vs H'
def SP (X : Cx) (pins : List (Addr × Obj)) (D : Ends) (f : Flow) (s' : Shared) : Prop :=
  match f with
  | .next => ∃ σ' H', Inv X pins σ' H' s' /\ D.nx σ' H'
  | .brk => ∃ σ' H', Inv X pins σ' H' s' /\ D.bk σ' H'
  | .cont => ∃ σ' H', Inv X pins σ' H' s' /\ D.ct σ' H'
  | .ret u => ∃ v σ' H', Inv X pins σ' H' s' /\ RelV v u /\ D.rt v H'
def PE (X : Cx) (e : Expr) (t : TE) : Prop :=
  ∀ (pins : List (Addr × Obj)) (s : Shared) (σ : St) (H : Hp) (Q : VK), Inv X pins σ H s -> t σ H Q -> wpAny (model X.prog X.w) X.A (eval e X.env) (EP X pins σ Q) X.xe s
def PT (X : Cx) (e : Expr) (t : TT) : Prop :=
  ∀ (pins : List (Addr × Obj)) (s : Shared) (σ : St) (H : Hp) (Q : Bool -> Hp -> Prop), Inv X pins σ H s -> t σ H Q -> wpAny (model X.prog X.w) X.A (isTrue e X.env (eval e X.env)) (TP X pins σ Q) X.xe s
def PW (X : Cx) (e : Expr) (t : TT) : Prop :=
  ∀ (whole : Sem Value) (pins : List (Addr × Obj)) (s : Shared) (σ : St) (H : Hp) (Q : Bool -> Hp -> Prop), Inv X pins σ H s -> t σ H Q -> wpAny (model X.prog X.w) X.A (isTrue e X.env whole) (TP X pins σ Q) X.xe s
theorem PW.pt {X : Cx} {e : Expr} {t : TT} (h : PW X e t) : PT X e t := h _
def PA (X : Cx) (es : List Expr) (t : TA) : Prop :=
  ∀ (pos : Pos) (pins : List (Addr × Obj)) (s : Shared) (σ : St) (H : Hp) (Q : List V -> Hp -> Prop), Inv X pins σ H s -> t σ H Q -> wpAny (model X.prog X.w) X.A (spliced (backTo pos (starEach es X.env))) (AP X pins σ Q) X.xe s
def PS (X : Cx) (st : Stmt) (t : TS) : Prop :=
  ∀ (pins : List (Addr × Obj)) (s : Shared) (σ : St) (H : Hp) (D : Ends), Inv X pins σ H s -> t D σ H -> wpAny (model X.prog X.w) X.A (exec st X.env) (SP X pins D) X.xe s
def PSs (X : Cx) (st : List Stmt) (t : TS) : Prop :=
  ∀ (pins : List (Addr × Obj)) (s : Shared) (σ : St) (H : Hp) (D : Ends), Inv X pins σ H s -> t D σ H -> wpAny (model X.prog X.w) X.A (execs st X.env) (SP X pins D) X.xe s
theorem thn {α : Type} {t : Sem α} {Q Q' : α -> Shared -> Prop} {M : Model} {A : Around} {E : Value -> Shared -> Prop} {s : Shared} (h : wpAny M A t Q E s) (hQ : ∀ a s, Q a s -> Q' a s) : wpAny M A t Q' E s := wpAny_mono h hQ fun _ _ x => x
end L2
namespace L2
open PySem PySem.Spec PyProof.Rows
section
variable {X : Cx}
theorem bin {a b : Expr} {ta tb : TE} (ha : PE X a ta) (hb : PE X b tb) {pins : List (Addr × Obj)} {s : Shared} {σ : St} {H : Hp} {R : V -> V -> Hp -> Prop} (I : Inv X pins σ H s) (h : ta σ H fun x H1 => tb σ H1 fun y H2 => R x y H2)
    {α : Type} {Q : α -> Shared -> Prop} {f : Value -> Value -> Sem α}
    (hf : ∀ v u s2 x y H2, Inv X pins σ H2 s2 -> RelV x v -> RelV y u -> R x y H2 -> wpAny (model X.prog X.w) X.A (f v u) Q X.xe s2) :
    wpAny (model X.prog X.w) X.A (eval a X.env) (fun v s₁ => wpAny (model X.prog X.w) X.A (eval b X.env) (fun u s₂ => wpAny (model X.prog X.w) X.A (f v u) Q X.xe s₂) X.xe s₁) X.xe s := by
  refine thn (ha pins s σ H _ I h) fun v s1 ⟨x, H1, I1, r1, q1⟩ => ?_
  refine thn (hb pins s1 σ H1 _ I1 q1) fun u s2 ⟨y, H2, I2, r2, q2⟩ => ?_
  exact hf v u s2 x y H2 I2 r1 r2 q2
def tVar (i : Nat) : TE := fun σ H Q => ∃ v, σ[i]? = some (some v) /\ Q v H
def tC (v : V) : TE := fun _ H Q => Q v H
theorem pe_var {i : Nat} {x : Str} {pos : Pos} (hN : X.N[i]? = some x) (hv : Vis X.env.scope x) (hd : (x == ("__debug__" : Str)) = false := by decide) (hcd : (x == ("__classdict__" : Str)) = false := by decide) : PE X (.Name x pos) (tVar i) := by
  intro pins s σ H Q I h; obtain ⟨v, e, h⟩ := h
  obtain ⟨m, hn, hl⟩ := I.loc
  obtain ⟨u, r, l⟩ := hl i x v hN e hv
  have fin : EP X pins σ Q u s := ⟨v, H, I, r, h⟩
  rcases l with ⟨hk, hm⟩ | ⟨hk, c, hc, hcell⟩
  . exact wpAny_Name (wpAny_loadName_local I.ok.kind hk hn hm fin) hd
  . rcases hk with hk | hk
    . exact wpAny_Name (wpAny_loadName_cell I.ok.kind hk hc hcell fin) hd
    . exact wpAny_Name (wpAny_loadName_free I.ok.kind hk hc hcell fin hcd) hd
theorem pe_int {i j pos} : PE X (.Constant (.int i) j pos) (tC (.int i)) := fun _ _ _ H _ I h => wpAny_Constant_int ⟨.int i, H, I.tok _, ⟨_, rfl⟩, h⟩
theorem pe_bl {b j pos} : PE X (.Constant (.bool b) j pos) (tC (.bl b)) := fun _ _ _ H _ I h => Constant_bool ⟨.bl b, H, I, rfl, h⟩
theorem pe_non {j pos} : PE X (.Constant .none j pos) (tC .non) := fun _ _ _ H _ I h => Constant_none ⟨.non, H, I, rfl, h⟩
theorem pe_str {x j pos} : PE X (.Constant (.str x) j pos) (tC (.str x)) := fun _ _ _ H _ I h => Calls.Constant_str ⟨.str x, H, I.tok _, ⟨_, rfl⟩, h⟩
def Gl (X : Cx) (x : Str) : Prop := X.env.kindOf x = some .globalImplicit
theorem ld_glob {E : Value -> Shared -> Prop} {pins : List (Addr × Obj)} {s : Shared} {σ : St} {H : Hp} {x : Str} {u : Value} {pos : Pos} {Q : Value -> Shared -> Prop} (I : Inv X pins σ H s) (hg : Gl X x) (hm : X.mg x = some u) (h : Q u s)
    (hd : (x == ("__debug__" : Str)) = false := by decide) : wpAny (model X.prog X.w) X.A (eval (.Name x pos) X.env) Q E s :=
  Calls.Name_function_global I.ok.kind hg (Calls.loadGlobal_global (by rw [I.ok.glob]; exact I.mod.glob.keeps I.bk) hm h) hd
theorem ld_blt {E : Value -> Shared -> Prop} {pins : List (Addr × Obj)} {s : Shared} {σ : St} {H : Hp} {x : Str} {u : Value} {pos : Pos} {Q : Value -> Shared -> Prop} (I : Inv X pins σ H s) (hg : Gl X x) (hm : X.mg x = none) (hv : bootBuiltins x = some u) (h : Q u s)
    (hn : x ≠ "__name__" := by decide) (hd : (x == ("__debug__" : Str)) = false := by decide) : wpAny (model X.prog X.w) X.A (eval (.Name x pos) X.env) Q E s := by
  obtain ⟨mb, h1, h2⟩ := I.mod.blt
  exact Calls.Name_function_global I.ok.kind hg (Calls.loadGlobal_builtin (by rw [I.ok.glob]; exact I.mod.glob.keeps I.bk) hm (by rw [I.ok.blt]; exact h1.keeps I.bk) ((h2 x hn).trans hv) h) hd
theorem pe_glob {x : Str} {v : V} {u : Value} {pos : Pos} (hg : Gl X x) (hm : X.mg x = some u) (r : RelV v u) (hd : (x == ("__debug__" : Str)) = false := by decide) : PE X (.Name x pos) (tC v) :=
  fun _ _ _ H _ I h => ld_glob I hg hm ⟨v, H, I, r, h⟩ hd
theorem pe_bltn {x : Str} {v : V} {u : Value} {pos : Pos} (hg : Gl X x) (hm : X.mg x = none) (hv : bootBuiltins x = some u) (r : RelV v u) (hn : x ≠ "__name__" := by decide) (hd : (x == ("__debug__" : Str)) = false := by decide) : PE X (.Name x pos) (tC v) :=
  fun _ _ _ H _ I h => ld_blt I hg hm hv ⟨v, H, I, r, h⟩ hn hd
variable {a b : Expr} {ta tb : TE} {pos : Pos}
def PC (X : Cx) (op : CmpOp) (a b : Expr) (t : TE) : Prop :=
  ∀ (pins : List (Addr × Obj)) (s : Shared) (σ : St) (H : Hp) (Q : VK), Inv X pins σ H s -> t σ H Q →
    wpAny (model X.prog X.w) X.A (eval a X.env) (fun v s₁ => wpAny (model X.prog X.w) X.A (eval b X.env) (fun u s₂ => wpAny (model X.prog X.w) X.A (compareOp op v u) (EP X pins σ Q) X.xe s₂) X.xe s₁) X.xe s
def tB (t : TE) : TT := fun σ H Q => t σ H fun x H1 => ∃ c, x = .bl c /\ Q c H1
theorem pt_cmp {op : CmpOp} {t : TE} (h : PC X op a b t) (h1 : behindInMarks op b = false := by first | exact nobehind _ (by decide) (by decide) | rfl) : PT X (.Compare a [op] [b] pos) (tB t) := by
  intro pins s σ H Q I hw; refine wpAny_isTrue_Compare1 (thn (h pins s σ H _ I hw) fun v s1 h1 => thn h1 fun u s2 h2 => thn h2 fun c s3 ⟨x, H1, I1, r1, q1⟩ => ?_) h1
  obtain ⟨d, rfl, q⟩ := q1
  cases r1
  exact wpAny_truthy_bool ⟨H1, I1, q⟩
theorem pt_val {e : Expr} {t : TE} (h : PE X e t) (he : ∀ whole, isTrue e X.env whole = (do let v ← whole; standAt e.pos; holding [v] (truthy v)) := by intro _; rfl) : PT X e (tB t) := by
  intro pins s σ H Q I hw; refine isTrue_plain (thn (h pins s σ H _ I hw) fun v s1 ⟨x, H1, I1, r1, q1⟩ => ?_) (he _)
  obtain ⟨d, rfl, q⟩ := q1
  cases r1
  exact wpAny_truthy_bool ⟨H1, I1, q⟩
variable {tA tB' : TT} {rest : List Expr}
def tAnd (t u : TT) : TT := fun σ H Q => t σ H fun c H1 => if c = true then u σ H1 Q else Q false H1
def tOr (t u : TT) : TT := fun σ H Q => t σ H fun c H1 => if c = true then Q true H1 else u σ H1 Q
def tNot (t : TT) : TT := fun σ H Q => t σ H fun c H1 => Q (!c) H1
theorem pw_and1 (ha : PT X a tA) : PW X (.BoolOp .And [a] pos) tA := by
  intro wh pins s σ H Q I h; refine isTrue_and (thn (ha pins s σ H Q I h) fun c s1 e => ?_)
  cases c with
  | true => exact isTrue_and_nil e
  | false => exact e
theorem pw_or1 (ha : PT X a tA) : PW X (.BoolOp .Or [a] pos) tA := by
  intro wh pins s σ H Q I h; refine isTrue_or (thn (ha pins s σ H Q I h) fun c s1 e => ?_)
  cases c with
  | false => exact isTrue_or_nil e
  | true => exact e
theorem pw_and (ha : PT X a tA) (hb : PW X (.BoolOp .And (b :: rest) pos) tB') : PW X (.BoolOp .And (a :: b :: rest) pos) (tAnd tA tB') := by
  intro wh pins s σ H Q I h; refine isTrue_and (thn (ha pins s σ H _ I h) fun c s1 ⟨H1, I1, q1⟩ => ?_)
  cases c with
  | true => exact hb wh pins s1 σ H1 Q I1 q1
  | false => exact ⟨H1, I1, q1⟩
theorem pw_or (ha : PT X a tA) (hb : PW X (.BoolOp .Or (b :: rest) pos) tB') : PW X (.BoolOp .Or (a :: b :: rest) pos) (tOr tA tB') := by
  intro wh pins s σ H Q I h; refine isTrue_or (thn (ha pins s σ H _ I h) fun c s1 ⟨H1, I1, q1⟩ => ?_)
  cases c with
  | true => exact ⟨H1, I1, q1⟩
  | false => exact hb wh pins s1 σ H1 Q I1 q1
theorem pt_not (ha : PT X a tA) : PT X (.UnaryOp .Not a pos) (tNot tA) := by
  intro pins s σ H Q I h; exact isTrue_not (ha pins s σ H (fun c H1 => Q (!c) H1) I h)
def tAndV (ta tb : TE) : TE := fun σ H Q => ta σ H fun x H1 => ∃ c, x = .bl c /\ if c = true then tb σ H1 Q else Q (.bl false) H1
def tOrV (ta tb : TE) : TE := fun σ H Q => ta σ H fun x H1 => ∃ c, x = .bl c /\ if c = true then Q (.bl true) H1 else tb σ H1 Q
def tNotV (ta : TE) : TE := fun σ H Q => ta σ H fun x H1 => ∃ c, x = .bl c /\ Q (.bl (!c)) H1
theorem pe_one {op} {t : TE} (h : PE X a t) : PE X (.BoolOp op [a] pos) t := fun pins s σ H Q I hw => BoolOp_one (h pins s σ H Q I hw)
theorem pe_and (ha : PE X a ta) (hb : PE X (.BoolOp .And (b :: rest) pos) tb) : PE X (.BoolOp .And (a :: b :: rest) pos) (tAndV ta tb) := by
  intro pins s σ H Q I h; refine BoolOp_and (thn (ha pins s σ H _ I h) fun v s1 ⟨x, H1, I1, r1, q1⟩ => ?_)
  obtain ⟨c, rfl, q1⟩ := q1
  cases r1
  refine wpAny_truthy_bool ?_
  cases c with
  | true => exact hb pins s1 σ H1 Q I1 q1
  | false => exact ⟨.bl false, H1, I1, rfl, q1⟩
theorem pe_or (ha : PE X a ta) (hb : PE X (.BoolOp .Or (b :: rest) pos) tb) : PE X (.BoolOp .Or (a :: b :: rest) pos) (tOrV ta tb) := by
  intro pins s σ H Q I h; refine BoolOp_or (thn (ha pins s σ H _ I h) fun v s1 ⟨x, H1, I1, r1, q1⟩ => ?_)
  obtain ⟨c, rfl, q1⟩ := q1
  cases r1
  refine wpAny_truthy_bool ?_
  cases c with
  | false => exact hb pins s1 σ H1 Q I1 q1
  | true => exact ⟨.bl true, H1, I1, rfl, q1⟩
theorem pe_not (ha : PE X a ta) : PE X (.UnaryOp .Not a pos) (tNotV ta) := by
  intro pins s σ H Q I h; refine UnaryOp_ (thn (ha pins s σ H _ I h) fun v s1 ⟨x, H1, I1, r1, q1⟩ => ?_)
  obtain ⟨c, rfl, q1⟩ := q1
  cases r1
  exact not_of (wpAny_truthy_bool ⟨.bl (!c), H1, I1, rfl, q1⟩)
end
end L2
namespace L2
open PySem PySem.Spec PyProof.Rows
def SqL (K : W.Frag) (H : Hp) (a : Addr) (xs : List V) : Prop :=
  Rd H a (.lst xs) ∨
    ∃ (o : Obj) (its : Array Value) (n : Nat), K.lookup a = some o /\ o.cls = .type "list" /\ o.dict = none /\ o.data = .seq its n /\ its.size <= sizeLine /\ Vals xs its.toList
def SqT (K : W.Frag) (H : Hp) (a : Addr) (xs : List V) : Prop :=
  Rd H a (.tup xs) ∨
    ∃ (o : Obj) (its : Array Value) (n : Nat), K.lookup a = some o /\ o.cls = .type "tuple" /\ o.data = .seq its n /\ its.size <= sizeLine /\ Vals xs its.toList
def absV : Value -> Option V
  | .none => some .non
  | .bool b => some (.bl b)
  | .int i _ => some (.int i)
  | .str x _ => some (.str x)
  | .bytes b _ => some (.byt b)
  | .float b _ => some (.flt b)
  | .ref a => some (.ref a)
  | .type n => some (.ty n)
  | _ => none
theorem RelV.abs {x : V} {u : Value} (r : RelV x u) : absV u = some x := by
  cases x with
  | non => cases r; rfl
  | bl _ => cases r; rfl
  | int _ => obtain ⟨t, rfl⟩ := r; rfl
  | str _ => obtain ⟨t, rfl⟩ := r; rfl
  | byt _ => obtain ⟨t, rfl⟩ := r; rfl
  | flt _ => obtain ⟨t, rfl⟩ := r; rfl
  | ref _ => cases r; rfl
  | ty _ => cases r; rfl
theorem RelV.inj {x y : V} {u : Value} (r : RelV x u) (q : RelV y u) : x = y := Option.some.inj (r.abs.symm.trans q.abs)
theorem Vals.inj : ∀ {xs ys : List V} {us : List Value}, Vals xs us -> Vals ys us -> xs = ys
  | _, _, _, .nil, .nil => rfl
  | _, _, _, .cons r t, .cons r' t' => by rw [r.inj r', Vals.inj t t']
section
variable {X : Cx} {pins : List (Addr × Obj)} {σ : St} {H : Hp} {s : Shared} {a : Addr} {xs ys : List V}
theorem SqL.of {K : W.Frag} (h : H a = some (.lst xs)) : SqL K H a xs := .inl (.inl h)
theorem SqT.of {K : W.Frag} (h : H a = some (.tup xs)) : SqT K H a xs := .inl (.inl h)
theorem Inv.list (I : Inv X pins σ H s) (h : SqL X.K H a xs) : ∃ its : List Value, Vals xs its /\ PlainL s.heap a its.toArray /\ xs.length <= sizeLine := by
  rcases h with h | ⟨o, its, n, hk, hc, hd, hs, hz, r⟩
  . obtain ⟨z, its, n, r, e⟩ := h.ok I.hok
    exact ⟨its, r, ⟨_, n, e, rfl, rfl, rfl⟩, z⟩
  . refine ⟨its.toList, r, ⟨o, n, I.kIn a o hk, hc, hd, by simpa using hs⟩, ?_⟩
    have e := r.length
    simp only [Array.length_toList] at e
    omega
theorem Inv.tuple (I : Inv X pins σ H s) (h : SqT X.K H a xs) : ∃ its : List Value, Vals xs its /\ IsTup s.heap a its.toArray /\ xs.length <= sizeLine := by
  rcases h with h | ⟨o, its, n, hk, hc, hs, hz, r⟩
  . obtain ⟨z, its, r, p⟩ := h.ok I.hok
    exact ⟨its, r, p, z⟩
  . refine ⟨its.toList, r, ⟨o, I.kIn a o hk, hc, n, by simpa using hs⟩, ?_⟩
    have e := r.length
    simp only [Array.length_toList] at e
    omega
theorem Inv.list_inj (I : Inv X pins σ H s) (h : SqL X.K H a xs) (h' : SqL X.K H a ys) : xs = ys := by
  obtain ⟨its, r, ⟨o, n, e, _, _, d⟩, _⟩ := I.list h
  obtain ⟨its', r', ⟨o', n', e', _, _, d'⟩, _⟩ := I.list h'
  rw [e] at e'; cases e'
  rw [d] at d'; injection d' with d1 _
  have : its = its' := by simpa using congrArg Array.toList d1
  subst this; exact r.inj r'
theorem Inv.tuple_inj (I : Inv X pins σ H s) (h : SqT X.K H a xs) (h' : SqT X.K H a ys) : xs = ys := by
  obtain ⟨its, r, ⟨o, e, _, n, d⟩, _⟩ := I.tuple h
  obtain ⟨its', r', ⟨o', e', _, n', d'⟩, _⟩ := I.tuple h'
  rw [e] at e'; cases e'
  rw [d] at d'; injection d' with d1 _
  have : its = its' := by simpa using congrArg Array.toList d1
  subst this; exact r.inj r'
end
abbrev Cx.wish (X : Cx) (E : Value -> Shared -> Prop) : Cx := { X with xe := E }
abbrev Cx.nox (X : Cx) : Cx := X.wish fun _ _ => False
theorem Cx.Ok.wish {X : Cx} (ok : X.Ok) (E : Value -> Shared -> Prop) : (X.wish E).Ok :=
  ⟨ok.mod, ok.kind, ok.glob, ok.blt, ok.above, ok.inj, ok.has, ok.cab, ok.hd, ok.frames, ok.stk, ok.exf, ok.bs, ok.bsz, ok.noex, ok.exfs, ok.funs, ok.frf⟩
theorem Cx.Ok.unwish {X : Cx} {E : Value -> Shared -> Prop} (ok : (X.wish E).Ok) : X.Ok :=
  ⟨ok.mod, ok.kind, ok.glob, ok.blt, ok.above, ok.inj, ok.has, ok.cab, ok.hd, ok.frames, ok.stk, ok.exf, ok.bs, ok.bsz, ok.noex, ok.exfs, ok.funs, ok.frf⟩
section
variable {X : Cx} {pins : List (Addr × Obj)} {σ : St} {H : Hp} {s : Shared} {E : Value -> Shared -> Prop}
theorem Inv.wish (I : Inv X pins σ H s) (E : Value -> Shared -> Prop) : Inv (X.wish E) pins σ H s := ⟨I.ok.wish E, I.os, I.bare, I.base, I.loc, I.cell, I.free, I.freeC, I.pin, I.hok, I.len⟩
theorem Inv.unwish (I : Inv (X.wish E) pins σ H s) : Inv X pins σ H s := ⟨I.ok.unwish, I.os, I.bare, I.base, I.loc, I.cell, I.free, I.freeC, I.pin, I.hok, I.len⟩
theorem SP.unwish {D : Ends} {f : Flow} {s' : Shared} (h : SP (X.wish E) pins D f s') : SP X pins D f s' := by
  cases f with
  | next => obtain ⟨σ', H', I, q⟩ := h; exact ⟨σ', H', I.unwish, q⟩
  | brk => obtain ⟨σ', H', I, q⟩ := h; exact ⟨σ', H', I.unwish, q⟩
  | cont => obtain ⟨σ', H', I, q⟩ := h; exact ⟨σ', H', I.unwish, q⟩
  | ret u => obtain ⟨v, σ', H', I, r, q⟩ := h; exact ⟨v, σ', H', I.unwish, r, q⟩
theorem PSs.nox {st : List Stmt} {t : TS} (h : PSs X.nox st t) : PSs X st t := fun pins s σ H D I hw =>
  wpAny_mono (h pins s σ H D (I.wish _) hw) (fun _ _ q => q.unwish) fun _ _ z => False.elim z
end
section
variable {X : Cx} {st : Stmt} {rest : List Stmt} {t u : TS} {e : Expr} {te : TE} {pos : Pos}
def tNext : TS := fun D σ H => D.nx σ H
def tSeq (t u : TS) : TS := fun D σ H => t { D with nx := u D } σ H
theorem pss_nil : PSs X [] tNext := fun _ _ σ H _ I h => wpAny_execs_nil ⟨σ, H, I, h⟩
theorem pss_cons (h1 : PS X st t) (h2 : PSs X rest u) : PSs X (st :: rest) (tSeq t u) := by
  intro pins s σ H D I h; refine wpAny_execs_cons (thn (h1 pins s σ H { D with nx := u D } I h) fun f s1 q => ?_)
  cases f with
  | next =>
    obtain ⟨σ', H', I', q⟩ := q
    exact h2 pins s1 σ' H' D I' q
  | ret v => exact q
  | brk => exact q
  | cont => exact q
theorem pss_one (h1 : PS X st t) : PSs X [st] t := by
  intro pins s σ H D I h; refine wpAny_execs_cons (thn (h1 pins s σ H D I h) fun f s1 q => ?_)
  cases f with
  | next => exact wpAny_execs_nil q
  | ret v => exact q
  | brk => exact q
  | cont => exact q
theorem Inv.quiet {pins : List (Addr × Obj)} {σ : St} {H : Hp} {s : Shared} (I : Inv X pins σ H s) : interactive X.env = false := by simp [interactive, I.ok.kind]
def tDrop (te : TE) : TS := fun D σ H => te σ H fun _ H1 => D.nx σ H1
theorem ps_expr (he : PE X e te) (hs : swapsWith e none pos.line X.env = pure false := by rfl) : PS X (.Expr e pos) (tDrop te) := by
  intro pins s σ H D I h; exact wpAny_Expr_any (thn (he pins s σ H _ I h) fun v s1 ⟨x, H1, I1, r1, q1⟩ => ⟨σ, H1, I1, q1⟩) I.quiet hs
def tRet (te : TE) : TS := fun D σ H => te σ H D.rt
theorem ps_ret (he : PE X e te) : PS X (.Return (some e) pos) (tRet te) := by
  intro pins s σ H D I h; exact wpAny_Return_some (thn (he pins s σ H _ I h) fun v s1 ⟨x, H1, I1, r1, q1⟩ => ⟨x, σ, H1, I1, r1, q1⟩)
def tIfS (c : TT) (t u : TS) : TS := fun D σ H => c σ H fun b H1 => if b = true then t D σ H1 else u D σ H1
theorem ps_if {c : Expr} {a b : List Stmt} {tc : TT} (hc : PT X c tc) (ha : PSs X a t) (hb : PSs X b u) : PS X (.If c a b pos) (tIfS tc t u) := by
  intro pins s σ H D I h; refine wpAny_If (thn (hc pins s σ H _ I h) fun d s1 ⟨H1, I1, q1⟩ => ?_)
  cases d with
  | true => exact ha pins s1 σ H1 D I1 q1
  | false => exact hb pins s1 σ H1 D I1 q1
end
abbrev TG := V -> St -> Hp -> (St -> Hp -> Prop) -> Prop
abbrev TGs := List V -> St -> Hp -> (St -> Hp -> Prop) -> Prop
def PG (X : Cx) (target : Expr) (t : TG) : Prop :=
  ∀ (pins : List (Addr × Obj)) (s : Shared) (σ : St) (H : Hp) (v : V) (u : Value) (Q : St -> Hp -> Prop), Inv X pins σ H s -> RelV v u -> t v σ H Q →
    wpAny (model X.prog X.w) X.A (assign target X.env u) (fun _ s' => ∃ σ' H', Inv X pins σ' H' s' /\ Q σ' H') X.xe s
def PGs (X : Cx) (ts : List Expr) (t : TGs) : Prop :=
  ∀ (pins : List (Addr × Obj)) (s : Shared) (σ : St) (H : Hp) (vs : List V) (us : List Value) (Q : St -> Hp -> Prop), Inv X pins σ H s -> Vals vs us -> t vs σ H Q →
    wpAny (model X.prog X.w) X.A (assignInOrder ((assignEach ts X.env).map (·.2)) us) (fun _ s' => ∃ σ' H', Inv X pins σ' H' s' /\ Q σ' H') X.xe s
abbrev TSet := V -> V -> V -> Hp -> (Hp -> Prop) -> Prop
def PSet (X : Cx) (t : TSet) : Prop :=
  ∀ (pins : List (Addr × Obj)) (s : Shared) (σ : St) (H : Hp) (o i v : V) (ov iv u : Value) (Q : Hp -> Prop), Inv X pins σ H s -> RelV o ov -> RelV i iv -> RelV v u -> t o i v H Q →
    wpAny (model X.prog X.w) X.A (setItem ov iv u) (fun _ s' => ∃ H', Inv X pins σ H' s' /\ Q H') X.xe s
section
variable {X : Cx} {pos : Pos}
def gName (i : Nat) : TG := fun v σ H Q => Q (σ.set i (some v)) H
theorem pg_name {i : Nat} {x : Str} (hN : X.N.Nodup) (hi : X.N[i]? = some x) (hx : Loc X.env.scope x) (hf : X.fn x = true ∨ X.env.scope.names.lookup x = some .local := by first | exact .inl rfl | exact .inr rfl | assumption) : PG X (.Name x pos) (gName i) := by
  intro pins s σ H v u Q I r h; exact wpAny_assign_Name (store_ok I hN hi hx r (fun s' I' => ⟨_, H, I', h⟩) hf)
def gNil : TGs := fun vs σ H Q => vs = [] /\ Q σ H
def gCons (t : TG) (u : TGs) : TGs := fun vs σ H Q => ∃ v r, vs = v :: r /\ t v σ H fun σ' H' => u r σ' H' Q
theorem pgs_nil : PGs X [] gNil := by
  intro pins s σ H vs us Q I r h; obtain ⟨e, h⟩ := h
  subst e; cases r
  exact assignInOrder_nil ⟨σ, H, I, h⟩
theorem pgs_cons {e : Expr} {es : List Expr} {t : TG} {u : TGs} (h1 : PG X e t) (h2 : PGs X es u)
    (hs : (assignEach (e :: es) X.env).map (·.2) = assign e X.env :: (assignEach es X.env).map (·.2) := by rfl) : PGs X (e :: es) (gCons t u) := by
  intro pins s σ H vs us Q I r h; obtain ⟨v, vr, e1, h⟩ := h
  subst e1; cases r with
  | cons r rr =>
    rw [hs]; refine assignInOrder_cons (thn (h1 pins s σ H _ _ _ I r h) fun _ s1 ⟨σ1, H1, I1, q1⟩ => ?_)
    exact h2 pins s1 σ1 H1 _ _ Q I1 rr q1
def gTup (K : W.Frag) (n : Nat) (t : TGs) : TG := fun v σ H Q => ∃ a xs, v = .ref a /\ SqT K H a xs /\ xs.length = n /\ t xs σ H Q
theorem pg_tup {es : List Expr} {k : Nat} {t : TGs} {n : Nat} (hc : X.calm = true) (h : PGs X es t)
    (hn : (assignEach es X.env).length = n := by rfl) (hst : (assignEach es X.env).findIdx? (·.1) = none := by rfl) : PG X (.Tuple es k pos) (gTup X.K n t) := by
  intro pins s σ H v u Q I r hw; obtain ⟨a, xs, e1, hq, hl, hw⟩ := hw
  subst e1; cases r
  obtain ⟨its, rv, ht, hz⟩ := I.tuple hq
  refine assign_Tuple_tuple (I.ok.hd hc) ht (by simp [hn, <- hl, rv.length]) hst fun h' hx => ?_
  have I1 : Inv X pins σ H { s with heap := h' } := I.kept (t' := s.toks) fun b o e => hx b o (Nat.ne_of_lt (Heap.lt_size e)) e
  exact h pins _ σ H xs _ Q I1 (by simpa using rv) hw
def gSub (to ti : TE) (t : TSet) : TG := fun v σ H Q => to σ H fun o H1 => ti σ H1 fun i H2 => t o i v H2 fun H3 => Q σ H3
theorem pg_sub {o i : Expr} {to ti : TE} {t : TSet} (ho : PE X o to) (hi : PE X i ti) (hs : PSet X t)
    (ha : ∀ v, assign (.Subscript o i pos) X.env v = (do
      let ov ← holding [v] (eval o X.env)
      let iv ← holding [v, ov] (eval i X.env)
      standAt pos
      holding [v, ov, iv] (setItem ov iv v)
      release [v, ov, iv] []) := by intro _; rfl) : PG X (.Subscript o i pos) (gSub to ti t) := by
  intro pins s σ H v u Q I r h; rw [ha]; refine wpAny_bind (wpAny_holding (thn (ho pins s σ H _ I h) fun ov s1 ⟨x, H1, I1, r1, q1⟩ => ?_))
  refine wpAny_bind (wpAny_holding (thn (hi pins s1 σ H1 _ I1 q1) fun iv s2 ⟨y, H2, I2, r2, q2⟩ => ?_))
  refine wpAny_bind (wpAny_standAt (wpAny_bind (wpAny_holding (thn (hs pins s2 σ H2 x y v ov iv u _ I2 r1 r2 r q2) fun _ s3 ⟨H3, I3, q3⟩ => ?_))))
  exact wpAny_release ⟨σ, H3, I3, q3⟩
def tAsg (te : TE) (g : TG) : TS := fun D σ H => te σ H fun x H1 => g x σ H1 D.nx
theorem ps_asg {tg e : Expr} {te : TE} {g : TG} (he : PE X e te) (hg : PG X tg g) (hs : swapsWithSole [tg] e pos.line X.env = pure false := by rfl) (hw : swappedStores [tg] e X.env = pure none := by rfl)
    (h1 : (assignEach [tg] X.env).map (·.2) = [assign tg X.env] := by rfl) : PS X (.Assign [tg] e pos) (tAsg te g) := by
  intro pins s σ H D I h; refine wpAny_Assign_stores (thn (he pins s σ H _ I h) fun v s1 ⟨x, H1, I1, r1, q1⟩ => ?_) hs hw
  rw [h1]; exact thn (hg pins s1 σ H1 x v _ I1 r1 q1) fun _ s2 q => q
theorem ps_set {i : Nat} {x : Str} {e : Expr} {te : TE} {pos' : Pos} (hN : X.N.Nodup) (hi : X.N[i]? = some x) (hx : Loc X.env.scope x) (he : PE X e te) (hs : swapsWith e (some (.Name x pos')) pos.line X.env = pure false := by rfl) (hf : X.fn x = true ∨ X.env.scope.names.lookup x = some .local := by first | exact .inl rfl | exact .inr rfl | assumption) :
    PS X (.Assign [.Name x pos'] e pos) (tAsg te (gName i)) := by
  intro pins s σ H D I h; refine wpAny_Assign_Name (thn (he pins s σ H _ I h) fun v s1 ⟨y, H1, I1, r1, q1⟩ => ?_) hs
  exact store_ok I1 hN hi hx r1 (fun s2 I2 => ⟨_, H1, I2, q1⟩) hf
end
structure It where
  go : Nat -> Hp -> Prop
  yld : Nat -> Hp -> V -> Hp -> Prop
  stop : Nat -> Hp -> Prop
def FpOk (X : Cx) (pins : List (Addr × Obj)) (H : Hp) (b : Addr) : Prop :=
  H b = none /\ b ≠ X.env.locals /\ b ∉ X.fs /\ (b ∈ X.ex ∨ X.s₀.heap.objs.size <= b) /\ (∀ x c, X.env.cells.lookup x = some c -> c ≠ b) /\ ∀ p ∈ X.pn ++ pins, p.1 ≠ b
theorem Inv.fpOk {X : Cx} {pins : List (Addr × Obj)} {σ : St} {H H' : Hp} {s : Shared} {b : Addr} (I : Inv X pins σ H s) (hb : s.heap.objs.size <= b) (hn : H' b = none) : FpOk X pins H' b := by
  refine ⟨hn, Nat.ne_of_gt (Nat.lt_of_lt_of_le I.lt hb), I.nofs hb, .inr (Znt I.sz hb), fun x c e z => ?_, fun p hp z => ?_⟩
  . obtain ⟨v, q⟩ := I.cell x c e
    exact absurd (Nat.lt_of_lt_of_le q.lt (by rw [z]; exact hb)) (Nat.lt_irrefl _)
  . exact absurd (Nat.lt_of_lt_of_le (Heap.lt_size (I.pin p hp).1) (by rw [z]; exact hb)) (Nat.lt_irrefl _)
structure Turn (P : Program) (w : World) (K : W.Frag) (tg : Expr) (J : It) (fp : List Addr) (it : Addr) (tn : Nat -> Heap -> Prop) : Prop where
  mem : it ∈ fp
  obj : ∀ i h, tn i h -> ∀ b ∈ fp, ∃ o, h.get? b = some o /\ ∀ v, o.data ≠ .cell v
  keep : ∀ i h h', tn i h -> (∀ b ∈ fp, ∀ o, h.get? b = some o -> h'.get? b = some o) -> tn i h'
  item : ∀ (X : Cx), X.prog = P -> X.w = w -> X.K = K -> X.calm = true -> ∀ (i : Nat) (pins : List (Addr × Obj)) (s : Shared) (σ : St) (H : Hp) (E : Value -> Shared -> Prop), Inv X pins σ H s -> (∀ b ∈ fp, FpOk X pins H b) -> tn i s.heap -> J.go i H →
    wpAny (model P w) X.A (pyNext (.ref it)) (fun r s1 => ∃ u, r = some u ∧
      wpAny (model P w) X.A (letOwnedTupleGo tg (.ref it) u) (fun _ s2 => ∃ x H', Inv X pins σ H' s2 /\ RelV x u /\ J.yld i H x H' /\ tn (i + 1) s2.heap /\ ∀ b ∈ fp, H' b = none) E s1) E s
  done : ∀ (X : Cx), X.prog = P -> X.w = w -> X.K = K -> X.calm = true -> ∀ (i : Nat) (pins : List (Addr × Obj)) (s : Shared) (σ : St) (H : Hp) (E : Value -> Shared -> Prop), Inv X pins σ H s -> (∀ b ∈ fp, FpOk X pins H b) -> tn i s.heap -> J.stop i H →
    wpAny (model P w) X.A (pyNext (.ref it)) (fun r s1 => r = none /\ Inv X pins σ H s1) E s
  self : ∀ (A : Around) (i : Nat) (s : Shared) (Q : Value -> Shared -> Prop) (E : Value -> Shared -> Prop), tn i s.heap -> Q (.ref it) s -> wpAny (model P w) A (pyIter (.ref it)) Q E s
abbrev TI := St -> Hp -> (It -> Hp -> Prop) -> Prop
def PIE (X : Cx) (pins : List (Addr × Obj)) (σ : St) (tg : Expr) (R : It -> Hp -> Prop) (itv : Value) (s2 : Shared) : Prop :=
  ∃ (it : Addr) (fp : List Addr) (tn : Nat -> Heap -> Prop) (J : It) (H' : Hp), itv = .ref it /\ Inv X pins σ H' s2 /\ Turn X.prog X.w X.K tg J fp it tn /\ tn 0 s2.heap /\ (∀ b ∈ fp, FpOk X pins H' b) /\ R J H'
def PI (X : Cx) (tg iter : Expr) (wi : TI) : Prop :=
  ∀ (pins : List (Addr × Obj)) (s : Shared) (σ : St) (H : Hp) (R : It -> Hp -> Prop), Inv X pins σ H s -> wi σ H R →
    wpAny (model X.prog X.w) X.A (eval iter X.env) (fun v s1 => wpAny (model X.prog X.w) X.A (pyIter v) (PIE X pins σ tg R) X.xe s1) X.xe s
theorem go_of {M : Model} {A : Around} {E : Value -> Shared -> Prop} {s : Shared} {tg : Expr} {it : Addr} {u : Value} {o : Obj} {n : String} {vs : Array Value} {Q : Unit -> Shared -> Prop} (ho : s.heap.get? it = some o) (hc : o.cls = .type n) (hd : o.data = .fields vs)
    (hn : ["enumerate", "zip", "dict_itemiterator", "dict_reverseitemiterator", "odict_iterator", "itertools.zip_longest", "itertools.pairwise"].contains n = false) (hQ : Q () s) : wpAny M A (letOwnedTupleGo tg (.ref it) u) Q E s := by
  unfold letOwnedTupleGo; cases tg <;> first
    | exact wpAny_pure hQ
    | (cases u <;> first
        | exact wpAny_pure hQ
        | (refine wpAny_bind (wpAny_load ho ?_)
           rw [hc, hd]; show wpAny M A (if (["enumerate", "zip", "dict_itemiterator", "dict_reverseitemiterator", "odict_iterator", "itertools.zip_longest", "itertools.pairwise"].contains n && vs[0]? == some (rawInt _)) = true then _ else _) Q E s
           rw [if_neg (by intro h; rw [hn, Bool.false_and] at h; cases h)]
           exact wpAny_pure hQ))
def Itl (K : W.Frag) (a : Addr) : It :=
  ⟨fun i H => ∃ xs x, SqL K H a xs /\ xs[i]? = some x, fun i H x H' => H' = H /\ ∀ xs, SqL K H a xs -> xs[i]? = some x, fun i H => ∃ xs, SqL K H a xs /\ xs.length <= i⟩
def Itt (K : W.Frag) (a : Addr) : It :=
  ⟨fun i H => ∃ xs x, SqT K H a xs /\ xs[i]? = some x, fun i H x H' => H' = H /\ ∀ xs, SqT K H a xs -> xs[i]? = some x, fun i H => ∃ xs, SqT K H a xs /\ xs.length <= i⟩
def Itr (lo : Int) (n : Nat) : It := ⟨fun i _ => i < n, fun i H x H' => H' = H /\ x = .int (lo + i), fun i _ => n <= i⟩
theorem turn_list {P : Program} {w : World} {K : W.Frag} {tg : Expr} (a it : Addr) : Turn P w K tg (Itl K a) [it] it (fun i h => h.IsListIter it a i) where
  mem := by simp
  obj := fun i h st b hb => by
    have e : b = it := by simpa using hb
    subst e; obtain ⟨o, e, c, d⟩ := st
    exact ⟨o, e, fun v z => by rw [d] at z; cases z⟩
  keep := fun i h h' st k => st.at fun o e => k it (by simp) o e
  item := by
    intro X hP hw hK hc i pins s σ H E I hf st hg; subst hP hw hK; obtain ⟨xs, x, hq, hx⟩ := hg
    obtain ⟨its, rv, p, hz⟩ := I.list hq
    obtain ⟨u, hu, ru⟩ := rv.get hx
    obtain ⟨f0, f1, f2, f3, f4, f5⟩ := hf it (by simp)
    refine wpAny_pyNext_list_item st p.isList (x := u) (by simpa using hu) fun h' st' sb => ?_
    have I1 : Inv X pins σ H { s with heap := h' } := I.turned (t' := s.toks) (fun b o hb e => (sb.2 b hb).trans e) f0 f1 f3 f4 f5
    obtain ⟨o, e, c, d⟩ := id st'
    exact ⟨u, rfl, go_of (s := { s with heap := h' }) e c d (by decide) ⟨x, H, I1, ru, ⟨rfl, fun ys hy => by rw [I.list_inj hy hq]; exact hx⟩, st', fun b hb => (hf b hb).1⟩⟩
  done := by
    intro X hP hw hK hc i pins s σ H E I hf st hg; subst hP hw hK; obtain ⟨xs, hq, hx⟩ := hg
    obtain ⟨its, rv, p, hz⟩ := I.list hq
    obtain ⟨f0, f1, f2, f3, f4, f5⟩ := hf it (by simp)
    have hl := rv.length
    exact wpAny_pyNext_list_end (I.ok.hd hc) st p.isList (by simp; omega) fun h' eb => ⟨rfl, I.turned (t' := s.toks) (fun b o hb e => eb b o hb e) f0 f1 f3 f4 f5⟩
  self := fun _ _ _ _ _ st h => wpAny_pyIter_listiter st h
theorem turn_tuple {P : Program} {w : World} {K : W.Frag} {tg : Expr} (a it : Addr) : Turn P w K tg (Itt K a) [it] it (fun i h => h.IsTupleIter it a i) where
  mem := by simp
  obj := fun i h st b hb => by
    have e : b = it := by simpa using hb
    subst e; obtain ⟨o, e, c, d⟩ := st
    exact ⟨o, e, fun v z => by rw [d] at z; cases z⟩
  keep := fun i h h' st k => st.at fun o e => k it (by simp) o e
  item := by
    intro X hP hw hK hc i pins s σ H E I hf st hg; subst hP hw hK; obtain ⟨xs, x, hq, hx⟩ := hg
    obtain ⟨its, rv, p, hz⟩ := I.tuple hq
    obtain ⟨u, hu, ru⟩ := rv.get hx
    obtain ⟨f0, f1, f2, f3, f4, f5⟩ := hf it (by simp)
    refine wpAny_pyNext_tuple_item st (show s.heap.IsTuple a its.toArray from p) (x := u) (by simpa using hu) fun h' st' sb => ?_
    have I1 : Inv X pins σ H { s with heap := h' } := I.turned (t' := s.toks) (fun b o hb e => (sb.2 b hb).trans e) f0 f1 f3 f4 f5
    obtain ⟨o, e, c, d⟩ := id st'
    exact ⟨u, rfl, go_of (s := { s with heap := h' }) e c d (by decide) ⟨x, H, I1, ru, ⟨rfl, fun ys hy => by rw [I.tuple_inj hy hq]; exact hx⟩, st', fun b hb => (hf b hb).1⟩⟩
  done := by
    intro X hP hw hK hc i pins s σ H E I hf st hg; subst hP hw hK; obtain ⟨xs, hq, hx⟩ := hg
    obtain ⟨its, rv, p, hz⟩ := I.tuple hq
    obtain ⟨f0, f1, f2, f3, f4, f5⟩ := hf it (by simp)
    have hl := rv.length
    exact wpAny_pyNext_tuple_end (I.ok.hd hc) st (show s.heap.IsTuple a its.toArray from p) (by simp; omega) fun h' eb => ⟨rfl, I.turned (t' := s.toks) (fun b o hb e => eb b o hb e) f0 f1 f3 f4 f5⟩
  self := fun _ _ _ _ _ st h => wpAny_pyIter_tupleiter st h
theorem turn_range {P : Program} {w : World} {K : W.Frag} {tg : Expr} (it : Addr) (lo : Int) (n : Nat) : Turn P w K tg (Itr lo n) [it] it (fun i h => IsRangeIter h it (lo + (i : Nat) * 1) ((n : Int) - (i : Nat)) 1) where
  mem := by simp
  obj := fun i h st b hb => by
    have e : b = it := by simpa using hb
    subst e; exact ⟨_, st, fun v z => by
      have z' : Data.fields _ = Data.cell v := z
      cases z'⟩
  keep := fun i h h' st k => k it (by simp) _ st
  item := by
    intro X hP hw hK hc i pins s σ H E I hf st hg; subst hP hw hK; obtain ⟨f0, f1, f2, f3, f4, f5⟩ := hf it (by simp)
    have W := Walks.range (prog := X.prog) (w := X.w) (I.ok.hd hc) it lo 1 n
    refine W.item i s _ _ hg st fun v h' tk hv st' kk => ?_
    obtain ⟨t, rfl⟩ := hv
    have I1 : Inv X pins σ H { s with heap := h', toks := tk } := I.turned (fun b o hb e => kk b o (by simpa using hb) e) f0 f1 f3 f4 f5
    refine ⟨_, rfl, go_of (s := { s with heap := h', toks := tk }) (n := "range_iterator") st' rfl rfl (by decide) ⟨.int (lo + i), H, I1, ⟨t, ?_⟩, ⟨rfl, rfl⟩, st', fun b hb => (hf b hb).1⟩⟩
    rw [Int.mul_one]
  done := by
    intro X hP hw hK hc i pins s σ H E I hf st hg; subst hP hw hK; obtain ⟨f0, f1, f2, f3, f4, f5⟩ := hf it (by simp)
    exact wpAny_pyNext_range_end (I.ok.hd hc) st (by have : n <= i := hg; omega) fun h' eb => ⟨rfl, I.turned (t' := s.toks) (fun b o hb e => eb b o hb e) f0 f1 f3 f4 f5⟩
  self := fun _ _ _ _ _ st h => wpAny_pyIter_rangeiter st h
end L2
namespace L2
open PySem PySem.Spec PyProof.Rows
section
variable {X : Cx} {tg : Expr}
def iList (K : W.Frag) (tl : TE) : TI := fun σ H R => tl σ H fun x H1 => ∃ a, x = .ref a /\ (∃ xs, SqL K H1 a xs) /\ R (Itl K a) H1
def iTup (K : W.Frag) (tl : TE) : TI := fun σ H R => tl σ H fun x H1 => ∃ a, x = .ref a /\ (∃ xs, SqT K H1 a xs) /\ R (Itt K a) H1
theorem pi_list {l : Expr} {tl : TE} (hl : PE X l tl) : PI X tg l (iList X.K tl) := by
  intro pins s σ H R I h; refine thn (hl pins s σ H _ I h) fun v s1 ⟨x, H1, I1, r1, q1⟩ => ?_
  obtain ⟨a, e, ⟨xs, hq⟩, q⟩ := q1
  subst e; cases r1
  obtain ⟨its, rv, p, hz⟩ := I1.list hq
  refine wpAny_pyIter_list p.isList ?_
  refine ⟨s1.heap.objs.size, [s1.heap.objs.size], _, _, H1, rfl, I1.kept (t' := s1.toks) fun b o e => Zpu _ e, turn_list a _, ⟨_, Heap.get?_push_size _ rfl, rfl, rfl⟩, fun b hb => ?_, q⟩
  have e : b = s1.heap.objs.size := by simpa using hb
  subst e; exact I1.fpOk (Znr _) (I1.hok.fresh (Znr _))
theorem pi_tup {l : Expr} {tl : TE} (hl : PE X l tl) : PI X tg l (iTup X.K tl) := by
  intro pins s σ H R I h; refine thn (hl pins s σ H _ I h) fun v s1 ⟨x, H1, I1, r1, q1⟩ => ?_
  obtain ⟨a, e, ⟨xs, hq⟩, q⟩ := q1
  subst e; cases r1
  obtain ⟨its, rv, p, hz⟩ := I1.tuple hq
  refine wpAny_pyIter_tuple (show s1.heap.IsTuple a its.toArray from p) ?_
  refine ⟨s1.heap.objs.size, [s1.heap.objs.size], _, _, H1, rfl, I1.kept (t' := s1.toks) fun b o e => Zpu _ e, turn_tuple a _, ⟨_, Heap.get?_push_size _ rfl, rfl, rfl⟩, fun b hb => ?_, q⟩
  have e : b = s1.heap.objs.size := by simpa using hb
  subst e; exact I1.fpOk (Znr _) (I1.hok.fresh (Znr _))
theorem range_it {pins : List (Addr × Obj)} {σ : St} {H : Hp} {s : Shared} {R : It -> Hp -> Prop} {E : Value -> Shared -> Prop} {lo hi : Int} {t u v : Tok} {tk : Nat} (I : Inv X pins σ H s) (h1 : -(2 ^ 62) <= lo) (h2 : lo < 2 ^ 62) (h3 : -(2 ^ 62) <= hi) (h4 : hi < 2 ^ 62)
    (q : R (Itr lo (hi - lo).toNat) H) : wpAny (model X.prog X.w) X.A (pyIter (.ref s.heap.objs.size)) (PIE X pins σ tg R) E { s with heap := s.heap.push { cls := .type "range", data := .fields #[.int lo t, .int hi u, .int 1 v] }, toks := tk } := by
  refine wpAny_pyIter_range (IsRange.new ..) (small_one h1 h2 h3 h4) ?_
  have I1 : Inv X pins σ H { s with heap := s.heap.push { cls := .type "range", data := .fields #[.int lo t, .int hi u, .int 1 v] }, toks := tk } := I.kept fun b o e => Zpu _ e
  refine ⟨(s.heap.push { cls := .type "range", data := .fields #[.int lo t, .int hi u, .int 1 v] }).objs.size, [(s.heap.push { cls := .type "range", data := .fields #[.int lo t, .int hi u, .int 1 v] }).objs.size], _, _, H, rfl,
    I1.kept (t' := tk) fun b o e => Zpu _ e, turn_range _ lo (hi - lo).toNat, ?_, fun b hb => ?_, q⟩
  . have e1 : lo + ((0 : Nat) : Int) * 1 = lo := by simp
    have e2 : (((hi - lo).toNat : Nat) : Int) - ((0 : Nat) : Int) = Builtin.Range.rangeSize lo hi 1 := by rw [rangeSize_one]; split <;> omega
    show IsRangeIter _ _ (lo + ((0 : Nat) : Int) * 1) ((((hi - lo).toNat : Nat) : Int) - ((0 : Nat) : Int)) 1
    rw [e1, e2]; exact Heap.get?_push_size _ rfl
  . have e : b = (s.heap.push { cls := .type "range", data := .fields #[.int lo t, .int hi u, .int 1 v] }).objs.size := by simpa using hb
    subst e; exact I1.fpOk (Znr _) (I1.hok.fresh (Znr _))
def iRng1 (ta : TA) : TI := fun σ H R => ta σ H fun vs H1 => ∃ j : Int, vs = [.int j] /\ -(2 ^ 62) <= j /\ j < 2 ^ 62 /\ R (Itr 0 j.toNat) H1
theorem pi_range1 {a : Expr} {ta : TA} {p pos : Pos} (hg : Gl X "range") (hm : X.mg "range" = none) (ha : PA X [a] ta) (hs : starEach [a] X.env = [(false, eval a X.env)] := by rfl) : PI X tg (.Call (.Name "range" p) [a] [] pos) (iRng1 ta) := by
  intro pins s σ H R I h; refine Call_ (ld_blt I hg hm boot_range (PyProof.Rows.callWith_type1 (thn (ha pos pins s σ H _ I h) fun us s1 ⟨vs, H1, I1, r1, q1⟩ => ?_) hs rfl))
  obtain ⟨j, e, q1, q2, q⟩ := q1
  subst e; cases r1 with
  | cons r rr =>
    cases rr
    obtain ⟨t, rfl⟩ := r
    exact call_range_1 (range_it I1 (by omega) (by omega) q1 q2 (by simpa using q))
def tFor (wi : TI) (g : TG) (tb : TS) : TS := fun D σ H => wi σ H fun J H1 => ∃ W : Nat -> Nat -> St -> Hp -> Prop, (∃ m, W 0 m σ H1) /\ ∀ i m σ H, W i m σ H →
  (J.stop i H /\ D.nx σ H) ∨ (J.go i H /\ ∃ N : St -> Hp -> Prop, (∀ σ' H', N σ' H' -> ∃ m', m' < m /\ W (i + 1) m' σ' H') /\ ∀ x H', J.yld i H x H' -> g x σ H' fun σ2 H2 => tb { D with nx := N, ct := N, bk := D.nx } σ2 H2)
def pinsAt (fp : List Addr) (h : Heap) : List (Addr × Obj) := fp.filterMap fun b => (h.get? b).map fun o => (b, o)
theorem mem_pinsAt {fp : List Addr} {h : Heap} {b : Addr} {o : Obj} (hb : b ∈ fp) (e : h.get? b = some o) : (b, o) ∈ pinsAt fp h := List.mem_filterMap.mpr ⟨b, hb, by rw [e]; rfl⟩
theorem of_pinsAt {fp : List Addr} {h : Heap} {p : Addr × Obj} (hp : p ∈ pinsAt fp h) : p.1 ∈ fp /\ h.get? p.1 = some p.2 := by
  obtain ⟨b, hb, e⟩ := List.mem_filterMap.mp hp
  cases q : h.get? b with
  | none => rw [q] at e; cases e
  | some o =>
    rw [q] at e; have e' : (b, o) = p := Option.some.inj e
    subst e'; exact ⟨hb, q⟩
theorem Inv.pinned {pins : List (Addr × Obj)} {σ : St} {H : Hp} {s : Shared} {fp : List Addr} (I : Inv X pins σ H s) (hf : ∀ b ∈ fp, FpOk X pins H b) (ho : ∀ b ∈ fp, ∃ o, s.heap.get? b = some o /\ ∀ v, o.data ≠ .cell v) : Inv X (pins ++ pinsAt fp s.heap) σ H s :=
  I.pins_of fun p hp => (Zma.mp hp).elim (fun z => I.pin p (List.mem_append_right _ z)) fun z => by
    obtain ⟨hb, e⟩ := of_pinsAt z
    obtain ⟨f0, f1, f2, _⟩ := hf p.1 hb
    obtain ⟨o, e', d⟩ := ho p.1 hb
    rw [e] at e'; cases e'
    exact ⟨e, f0, f1, f2, d⟩
theorem Inv.unpinned {pins pl : List (Addr × Obj)} {σ : St} {H : Hp} {s : Shared} (I : Inv X (pins ++ pl) σ H s) : Inv X pins σ H s := I.pins_of fun p hp => I.pin p (List.mem_append_right _ (List.mem_append_left _ hp))
theorem ps_for {iter : Expr} {body : List Stmt} {wi : TI} {g : TG} {tb : TS} {pos : Pos} (hp : PassesOwn (model X.prog X.w) X.A X.env X.xe) (hc : X.calm = true) (hi : PI X tg iter wi) (hg : PG X tg g) (hb : PSs X body tb)
    (hs : ∀ x, foldedSetIterable iter X.env x = pure x := by intro _; rfl) : PS X (.For tg iter body [] pos) (tFor wi g tb) := by
  intro pins s σ H D I h; refine wpAny_For (thn (hi pins s σ H _ I h) fun v s1 h1 => thn h1 fun itv s2 h2 => ?_) hs
  obtain ⟨it, fp, tn, J, H2, e, I2, T, st2, f2, W, ⟨m0, w0⟩, turn⟩ := h2
  subst e; have stat : ∀ {H' : Hp}, (∀ b ∈ fp, H' b = none) -> ∀ b ∈ fp, FpOk X pins H' b := fun hn b hb => ⟨hn b hb, (f2 b hb).2⟩
  refine codeAny_forLoop_any (fun n s' => ∃ i σ' H', Inv X pins σ' H' s' /\ tn i s'.heap /\ (∀ b ∈ fp, H' b = none) /\ W i n σ' H') ?_ m0 ⟨0, σ, H2, I2, st2, fun b hb => (f2 b hb).1, w0⟩
  rintro n s3 ⟨i, σ3, H3, I3, st3, fr3, w3⟩
  rcases turn i n σ3 H3 w3 with ⟨stop, qn⟩ | ⟨go, N, hN, step⟩
  . refine wpAny_passesOwn hp (thn (T.done X rfl rfl rfl hc i pins s3 σ3 H3 X.xe I3 (stat fr3) st3 stop) fun r s4 ⟨hr, I4⟩ => ?_)
    subst hr; exact wpAny_execs_nil ⟨σ3, H3, I4, qn⟩
  . refine wpAny_passesOwn hp (thn (T.item X rfl rfl rfl hc i pins s3 σ3 H3 X.xe I3 (stat fr3) st3 go) fun r s4 ⟨u, hr, h4⟩ => ?_)
    subst hr; refine wpAny_passesOwn hp (thn h4 fun _ s5 ⟨x, H5, I5, r5, y5, st5, fr5⟩ => ?_)
    have I5' := I5.pinned (stat fr5) (T.obj _ _ st5)
    refine wpAny_passesOwn hp (thn (hg _ s5 σ3 H5 x u _ I5' r5 (step x H5 y5)) fun _ s6 ⟨σ6, H6, I6, q6⟩ => ?_)
    refine wpAny_passesOwn hp (thn (hb _ s6 σ6 H6 _ I6 q6) fun f s7 q7 => ?_)
    have again : ∀ {σ7 : St} {H7 : Hp}, Inv X (pins ++ pinsAt fp s5.heap) σ7 H7 s7 -> N σ7 H7 -> ∃ m, m < n /\ ∃ i σ' H', Inv X pins σ' H' s7 /\ tn i s7.heap /\ (∀ b ∈ fp, H' b = none) /\ W i m σ' H' := fun {σ7 H7} I7 n7 => by
      obtain ⟨m', hm, w7⟩ := hN σ7 H7 n7
      refine ⟨m', hm, i + 1, σ7, H7, I7.unpinned, T.keep _ _ _ st5 fun b hb o e => (I7.pin (b, o) (List.mem_append_right _ (List.mem_append_right _ (mem_pinsAt hb e)))).1, fun b hb => ?_, w7⟩
      obtain ⟨o, e, d⟩ := T.obj _ _ st5 b hb
      exact (I7.pin (b, o) (List.mem_append_right _ (List.mem_append_right _ (mem_pinsAt hb e)))).2.1
    cases f with
    | next => obtain ⟨σ7, H7, I7, n7⟩ := q7; exact again I7 n7
    | cont => obtain ⟨σ7, H7, I7, n7⟩ := q7; exact again I7 n7
    | brk => obtain ⟨σ7, H7, I7, q7⟩ := q7; exact ⟨σ7, H7, I7.unpinned, q7⟩
    | ret v => obtain ⟨x7, σ7, H7, I7, r7, q7⟩ := q7; exact ⟨x7, σ7, H7, I7.unpinned, r7, q7⟩
end
theorem for_range {lo : Int} {n : Nat} {g : TG} {tb : TS} {D : Ends} {σ : St} {H : Hp} (Pv : Nat -> St -> Hp -> Prop) (h0 : Pv 0 σ H)
    (hs : ∀ i σ H, i < n -> Pv i σ H -> g (.int (lo + i)) σ H fun σ2 H2 => tb { D with nx := Pv (i + 1), ct := Pv (i + 1), bk := D.nx } σ2 H2) (hd : ∀ σ H, Pv n σ H -> D.nx σ H) :
    ∃ W : Nat -> Nat -> St -> Hp -> Prop, (∃ m, W 0 m σ H) /\ ∀ i m σ H, W i m σ H →
      ((Itr lo n).stop i H /\ D.nx σ H) ∨ ((Itr lo n).go i H /\ ∃ N : St -> Hp -> Prop, (∀ σ' H', N σ' H' -> ∃ m', m' < m /\ W (i + 1) m' σ' H') /\ ∀ x H', (Itr lo n).yld i H x H' -> g x σ H' fun σ2 H2 => tb { D with nx := N, ct := N, bk := D.nx } σ2 H2) := by
  refine ⟨fun i m σ H => m = n - i /\ i <= n /\ Pv i σ H, ⟨n, by simp, Nat.zero_le _, h0⟩, ?_⟩
  rintro i m σ H ⟨rfl, hi, p⟩
  by_cases hlt : i < n
  . refine .inr ⟨hlt, Pv (i + 1), fun σ' H' p' => ⟨n - (i + 1), by omega, rfl, hlt, p'⟩, fun x H' y => ?_⟩
    obtain ⟨e, y⟩ := y
    subst e y; exact hs i σ _ hlt p
  . have e : i = n := by omega
    subst e; exact .inl ⟨Znr _, hd σ H p⟩
end L2
namespace L2
open PySem PySem.Spec PyProof.Rows
abbrev R2 := V -> V -> Hp -> VK -> Prop
def OpR (X : Cx) (f : Value -> Value -> Sem Value) (r : R2) : Prop :=
  ∀ (pins : List (Addr × Obj)) (s : Shared) (σ : St) (H : Hp) (x y : V) (v u : Value) (Q : VK), Inv X pins σ H s -> RelV x v -> RelV y u -> r x y H Q →
    wpAny (model X.prog X.w) X.A (f v u) (EP X pins σ Q) X.xe s
def UnR (X : Cx) (f : Value -> Sem Value) (r : V -> Hp -> VK -> Prop) : Prop :=
  ∀ (pins : List (Addr × Obj)) (s : Shared) (σ : St) (H : Hp) (x : V) (v : Value) (Q : VK), Inv X pins σ H s -> RelV x v -> r x H Q →
    wpAny (model X.prog X.w) X.A (f v) (EP X pins σ Q) X.xe s
def CallR (X : Cx) (f : Value) (r : List V -> Hp -> VK -> Prop) : Prop :=
  ∀ (pins : List (Addr × Obj)) (s : Shared) (σ : St) (H : Hp) (xs : List V) (us : List Value) (Q : VK), Inv X pins σ H s -> Vals xs us -> r xs H Q →
    wpAny (model X.prog X.w) X.A (call f us) (EP X pins σ Q) X.xe s
def tOp (r : R2) (ta tb : TE) : TE := fun σ H Q => ta σ H fun x H1 => tb σ H1 fun y H2 => r x y H2 Q
def tUn (r : V -> Hp -> VK -> Prop) (ta : TE) : TE := fun σ H Q => ta σ H fun x H1 => r x H1 Q
def rI (C : Int -> Int -> Prop) (g : Int -> Int -> V) : R2 := fun x y H Q => ∃ i j, x = .int i /\ y = .int j /\ C i j /\ Q (g i j) H
def rI0 (g : Int -> Int -> V) : R2 := fun x y H Q => ∃ i j, x = .int i /\ y = .int j /\ Q (g i j) H
def rU (g : Int -> V) : V -> Hp -> VK -> Prop := fun x H Q => ∃ i, x = .int i /\ Q (g i) H
section
variable {X : Cx} {a b c : Expr} {ta tb tc : TE} {pos : Pos}
theorem binT (ha : PE X a ta) (hb : PE X b tb) {pins : List (Addr × Obj)} {s : Shared} {σ : St} {H : Hp} {R : V -> V -> Hp -> Prop} (I : Inv X pins σ H s)
    (h : ta σ H fun x H1 => tb σ H1 fun y H2 => R x y H2) {Q : Value -> Shared -> Prop} {f : Value -> Value -> Sem Value}
    (hf : ∀ v u s2 x y H2, Inv X pins σ H2 s2 -> RelV x v -> RelV y u -> R x y H2 -> wpAny (model X.prog X.w) X.A (f v u) Q X.xe s2) :
    wpAny (model X.prog X.w) X.A (eval a X.env) (fun v s₁ => wpAny (model X.prog X.w) X.A (eval b X.env) (fun u s₂ => wpAny (model X.prog X.w) X.A (f v u) Q X.xe s₂) X.xe s₁) X.xe s := by
  refine thn (ha pins s σ H _ I h) fun v s1 ⟨x, H1, I1, r1, q1⟩ => ?_
  refine thn (hb pins s1 σ H1 _ I1 q1) fun u s2 ⟨y, H2, I2, r2, q2⟩ => ?_
  exact hf v u s2 x y H2 I2 r1 r2 q2
theorem pe_op {op : Operator} {r : R2} (ho : OpR X (binaryOp op) r) (ha : PE X a ta) (hb : PE X b tb) : PE X (.BinOp a op b pos) (tOp r ta tb) := by
  intro pins s σ H Q I h; exact wpAny_BinOp (binT ha hb I h fun v u s2 x y H2 I2 rx ry q => ho pins s2 σ H2 x y v u Q I2 rx ry q)
theorem pe_un {op : UnaryOp} {r : V -> Hp -> VK -> Prop} (ho : UnR X (unaryOp op) r) (ha : PE X a ta) : PE X (.UnaryOp op a pos) (tUn r ta) := by
  intro pins s σ H Q I h; exact UnaryOp_ (thn (ha pins s σ H _ I h) fun v s1 ⟨x, H1, I1, r1, q1⟩ => ho pins s1 σ H1 x v Q I1 r1 q1)
theorem opI {f : Value -> Value -> Sem Value} {C : Int -> Int -> Prop} {g : Int -> Int -> Int}
    (rule : ∀ (i j : Int) (t u : Tok) (s : Shared) (Q : Value -> Shared -> Prop) (E : Value -> Shared -> Prop), C i j -> Q (.int (g i j) s.toks) { s with toks := s.toks + 1 } -> wpAny (model X.prog X.w) X.A (f (.int i t) (.int j u)) Q E s) :
    OpR X f (rI C fun i j => .int (g i j)) := by
  intro pins s σ H x y v u Q I rx ry h; obtain ⟨i, j, rfl, rfl, hc, q⟩ := h
  obtain ⟨t, rfl⟩ := rx
  obtain ⟨t', rfl⟩ := ry
  exact rule i j t t' s _ _ hc ⟨.int (g i j), H, I.tok _, ⟨_, rfl⟩, q⟩
theorem opI0 {f : Value -> Value -> Sem Value} {g : Int -> Int -> Int}
    (rule : ∀ (i j : Int) (t u : Tok) (s : Shared) (Q : Value -> Shared -> Prop) (E : Value -> Shared -> Prop), Q (.int (g i j) s.toks) { s with toks := s.toks + 1 } -> wpAny (model X.prog X.w) X.A (f (.int i t) (.int j u)) Q E s) :
    OpR X f (rI0 fun i j => .int (g i j)) := by
  intro pins s σ H x y v u Q I rx ry h; obtain ⟨i, j, rfl, rfl, q⟩ := h
  obtain ⟨t, rfl⟩ := rx
  obtain ⟨t', rfl⟩ := ry
  exact rule i j t t' s _ _ ⟨.int (g i j), H, I.tok _, ⟨_, rfl⟩, q⟩
theorem opB0 {f : Value -> Value -> Sem Value} {g : Int -> Int -> Bool}
    (rule : ∀ (i j : Int) (t u : Tok) (s : Shared) (Q : Value -> Shared -> Prop) (E : Value -> Shared -> Prop), Q (.bool (g i j)) s -> wpAny (model X.prog X.w) X.A (f (.int i t) (.int j u)) Q E s) :
    OpR X f (rI0 fun i j => .bl (g i j)) := by
  intro pins s σ H x y v u Q I rx ry h; obtain ⟨i, j, rfl, rfl, q⟩ := h
  obtain ⟨t, rfl⟩ := rx
  obtain ⟨t', rfl⟩ := ry
  exact rule i j t t' s _ _ ⟨.bl (g i j), H, I, rfl, q⟩
def CPow (i j : Int) : Prop := 0 <= j /\ j <= 1000000 /\ i.natAbs < 2 ^ 64
def CMul (i j : Int) : Prop := (-(2 ^ 64) < i /\ i < 2 ^ 64) ∨ (-(2 ^ 64) < j /\ j < 2 ^ 64)
theorem CMul.ok {i j : Int} (h : CMul i j) : IntMulOk i j := by
  rcases h with ⟨h1, h2⟩ | ⟨h1, h2⟩
  . exact .of_left (intBits_le_64 h1 h2)
  . exact .of_right (intBits_le_64 h1 h2)
theorem op_add : OpR X (binaryOp .Add) (rI0 fun i j => .int (i + j)) := opI0 fun _ _ _ _ _ _ _ q => add_int q
theorem op_sub : OpR X (binaryOp .Sub) (rI0 fun i j => .int (i - j)) := opI0 fun _ _ _ _ _ _ _ q => sub_int q
theorem op_mul : OpR X (binaryOp .Mult) (rI CMul fun i j => .int (i * j)) := opI fun _ _ _ _ _ _ _ hc q => mul_int q hc.ok
theorem op_mod : OpR X (binaryOp .Mod) (rI (fun _ j => 0 < j) fun i j => .int (i % j)) := opI fun i j _ _ _ _ _ hc q => by
  have h1 : (0 : Int) < j := hc
  exact mod_int' (by omega) (by rw [Int.fmod_eq_emod_of_nonneg i (by omega)]; exact q)
theorem op_pow : OpR X (binaryOp .Pow) (rI CPow fun i j => .int (i ^ j.toNat)) := opI fun _ _ _ _ _ _ _ hc q => pow_int_small hc.1 hc.2.1 hc.2.2 q
theorem unI {f : Value -> Sem Value} {g : Int -> Int}
    (rule : ∀ (i : Int) (t : Tok) (s : Shared) (Q : Value -> Shared -> Prop) (E : Value -> Shared -> Prop), Q (.int (g i) s.toks) { s with toks := s.toks + 1 } -> wpAny (model X.prog X.w) X.A (f (.int i t)) Q E s) :
    UnR X f (rU fun i => .int (g i)) := by
  intro pins s σ H x v Q I rx h; obtain ⟨i, rfl, q⟩ := h
  obtain ⟨t, rfl⟩ := rx
  exact rule i t s _ _ ⟨.int (g i), H, I.tok _, ⟨_, rfl⟩, q⟩
theorem un_neg : UnR X (unaryOp .USub) (rU fun i => .int (-i)) := unI fun _ _ _ _ _ q => neg_int q
end
def scal : V -> V -> Bool
  | .non, .non => true | .non, .int _ => true | .int _, .non => true | .non, .bl _ => true | .bl _, .non => true | .non, .str _ => true | .str _, .non => true
  | .int _, .int _ => true | .bl _, .bl _ => true | .str _, .str _ => true | .byt _, .byt _ => true
  | .int _, .str _ => true | .str _, .int _ => true | .bl _, .str _ => true | .str _, .bl _ => true
  | _, _ => false
def rEq : R2 := fun x y H Q => scal x y = true /\ Q (.bl (decide (x = y))) H
def rNe : R2 := fun x y H Q => scal x y = true /\ Q (.bl (!decide (x = y))) H
theorem dec_int {i j : Int} : decide (V.int i = V.int j) = (i == j) := by
  rw [Bool.eq_iff_iff]; simp
theorem dec_bl {i j : Bool} : decide (V.bl i = V.bl j) = (i == j) := by
  rw [Bool.eq_iff_iff]; simp
theorem dec_str {i j : Str} : decide (V.str i = V.str j) = (i == j) := by
  rw [Bool.eq_iff_iff]; simp
theorem dec_byt {i j : Array UInt8} : decide (V.byt i = V.byt j) = (i.toList == j.toList) := by
  rw [Bool.eq_iff_iff]; cases i
  cases j
  simp
section
variable {X : Cx} {a b c : Expr} {ta tb tc : TE} {pos : Pos}
theorem fin_bl {pins : List (Addr × Obj)} {σ : St} {H : Hp} {s : Shared} {Q : VK} {k k' : Bool} (I : Inv X pins σ H s) (q : Q (.bl k) H) (e : k = k') : EP X pins σ Q (.bool k') s := by
  subst e; exact ⟨.bl k, H, I, rfl, q⟩
theorem op_eq : OpR X (compareOp .Eq) rEq := by
  intro pins s σ H x y v u Q I rx ry h; obtain ⟨hs, q⟩ := h
  cases x with
  | non =>
    cases rx
    cases y with
    | non => cases ry; exact PySem.EqNone.eq_none_none (fin_bl I q (by simp))
    | bl j => cases ry; exact PySem.EqNone.eq_none_bool (fin_bl I q (by simp))
    | int j => obtain ⟨t', rfl⟩ := ry; exact PySem.EqNone.eq_none_int (fin_bl I q (by simp))
    | str j => obtain ⟨t', rfl⟩ := ry; exact PySem.EqNone.eq_none_str (fin_bl I q (by simp))
    | _ => exact absurd (show false = true from hs) Bool.false_ne_true
  | bl i =>
    cases rx
    cases y with
    | non => cases ry; exact PySem.EqNone.eq_bool_none (fin_bl I q (by simp))
    | bl j => cases ry; exact eq_bool (fin_bl I q dec_bl)
    | str j => obtain ⟨t', rfl⟩ := ry; exact PySem.EqMixed.eq_bool_str (fin_bl I q (by simp))
    | _ => exact absurd (show false = true from hs) Bool.false_ne_true
  | int i =>
    obtain ⟨t, rfl⟩ := rx
    cases y with
    | non => cases ry; exact PySem.EqNone.eq_int_none (fin_bl I q (by simp))
    | int j => obtain ⟨t', rfl⟩ := ry; exact eq_int (fin_bl I q dec_int)
    | str j => obtain ⟨t', rfl⟩ := ry; exact PySem.EqMixed.eq_int_str (fin_bl I q (by simp))
    | _ => exact absurd (show false = true from hs) Bool.false_ne_true
  | str i =>
    obtain ⟨t, rfl⟩ := rx
    cases y with
    | non => cases ry; exact PySem.EqNone.eq_str_none (fin_bl I q (by simp))
    | bl j => cases ry; exact PySem.EqMixed.eq_str_bool (fin_bl I q (by simp))
    | int j => obtain ⟨t', rfl⟩ := ry; exact PySem.EqMixed.eq_str_int (fin_bl I q (by simp))
    | str j => obtain ⟨t', rfl⟩ := ry; exact eq_str (fin_bl I q dec_str)
    | _ => exact absurd (show false = true from hs) Bool.false_ne_true
  | byt i =>
    obtain ⟨t, rfl⟩ := rx
    cases y with
    | byt j => obtain ⟨t', rfl⟩ := ry; exact W.eq_bytes (fin_bl I q dec_byt)
    | _ => exact absurd (show false = true from hs) Bool.false_ne_true
  | _ => cases y <;> exact absurd (show false = true from hs) Bool.false_ne_true
theorem op_ne : OpR X (compareOp .NotEq) rNe := by
  intro pins s σ H x y v u Q I rx ry h; obtain ⟨hs, q⟩ := h
  cases x with
  | non =>
    cases rx
    cases y with
    | non => cases ry; exact PySem.EqNone.ne_none_none (fin_bl I q (by simp))
    | bl j => cases ry; exact PySem.EqNone.ne_none_bool (fin_bl I q (by simp))
    | int j => obtain ⟨t', rfl⟩ := ry; exact PySem.EqNone.ne_none_int (fin_bl I q (by simp))
    | str j => obtain ⟨t', rfl⟩ := ry; exact PySem.EqNone.ne_none_str (fin_bl I q (by simp))
    | _ => exact absurd (show false = true from hs) Bool.false_ne_true
  | bl i =>
    cases rx
    cases y with
    | non => cases ry; exact PySem.EqNone.ne_bool_none (fin_bl I q (by simp))
    | bl j => cases ry; exact ne_bool (fin_bl I q (congrArg not dec_bl))
    | str j => obtain ⟨t', rfl⟩ := ry; exact PySem.EqMixed.ne_bool_str (fin_bl I q (by simp))
    | _ => exact absurd (show false = true from hs) Bool.false_ne_true
  | int i =>
    obtain ⟨t, rfl⟩ := rx
    cases y with
    | non => cases ry; exact PySem.EqNone.ne_int_none (fin_bl I q (by simp))
    | int j => obtain ⟨t', rfl⟩ := ry; exact ne_int (fin_bl I q (congrArg not dec_int))
    | str j => obtain ⟨t', rfl⟩ := ry; exact PySem.EqMixed.ne_int_str (fin_bl I q (by simp))
    | _ => exact absurd (show false = true from hs) Bool.false_ne_true
  | str i =>
    obtain ⟨t, rfl⟩ := rx
    cases y with
    | non => cases ry; exact PySem.EqNone.ne_str_none (fin_bl I q (by simp))
    | bl j => cases ry; exact PySem.EqMixed.ne_str_bool (fin_bl I q (by simp))
    | int j => obtain ⟨t', rfl⟩ := ry; exact PySem.EqMixed.ne_str_int (fin_bl I q (by simp))
    | str j => obtain ⟨t', rfl⟩ := ry; exact ne_str (fin_bl I q (congrArg not dec_str))
    | _ => exact absurd (show false = true from hs) Bool.false_ne_true
  | byt i =>
    obtain ⟨t, rfl⟩ := rx
    cases y with
    | byt j => obtain ⟨t', rfl⟩ := ry; exact W.ne_bytes (fin_bl I q (congrArg not dec_byt))
    | _ => exact absurd (show false = true from hs) Bool.false_ne_true
  | _ => cases y <;> exact absurd (show false = true from hs) Bool.false_ne_true
theorem op_lt : OpR X (compareOp .Lt) (rI0 fun i j => .bl (decide (i < j))) := opB0 fun _ _ _ _ _ _ _ q => lt_int q
theorem op_le : OpR X (compareOp .LtE) (rI0 fun i j => .bl (decide (i <= j))) := opB0 fun _ _ _ _ _ _ _ q => le_int q
theorem op_gt : OpR X (compareOp .Gt) (rI0 fun i j => .bl (decide (j < i))) := opB0 fun _ _ _ _ _ _ _ q => gt_int q
theorem op_in_str : OpR X (compareOp .In) (fun x y H Q => ∃ i j, x = .str i /\ y = .str j /\ Q (.bl (!(Builtin.Str.occurrences j i 0 j.length 1).isEmpty)) H) := by
  intro pins s σ H x y v u Q I rx ry h; obtain ⟨i, j, rfl, rfl, q⟩ := h
  obtain ⟨t, rfl⟩ := rx
  obtain ⟨t', rfl⟩ := ry
  exact in_str (fin_bl I q rfl)
theorem nomark (b : Expr) {op : CmpOp} (h : op ≠ .In := by decide) (h2 : op ≠ .NotIn := by decide) : behindInMarks op b = false := by
  have e1 : (op == CmpOp.In) = false := by cases op <;> first | rfl | exact absurd rfl h
  have e2 : (op == CmpOp.NotIn) = false := by cases op <;> first | rfl | exact absurd rfl h2
  cases b <;> simp [behindInMarks, e1, e2]
theorem pe_cmpR {op : CmpOp} {r : R2} (ho : OpR X (compareOp op) r) (ha : PE X a ta) (hb : PE X b tb) (hm : behindInMarks op b = false) : PE X (.Compare a [op] [b] pos) (tOp r ta tb) := by
  intro pins s σ H Q I h; exact wpAny_Compare1 (binT ha hb I h fun v u s2 x y H2 I2 rx ry q => ho pins s2 σ H2 x y v u Q I2 rx ry q) hm
def tTest (t : TE) : TT := fun σ H Q => t σ H fun x H' => ∃ k, x = .bl k /\ Q k H'
theorem pt_cmpR {op : CmpOp} {r : R2} (ho : OpR X (compareOp op) r) (ha : PE X a ta) (hb : PE X b tb) (hm : behindInMarks op b = false) : PT X (.Compare a [op] [b] pos) (tTest (tOp r ta tb)) := by
  intro pins s σ H Q I h; refine wpAny_isTrue_Compare1 (thn (ha pins s σ H _ I h) fun v s1 ⟨x, H1, I1, r1, q1⟩ => thn (hb pins s1 σ H1 _ I1 q1) fun u s2 ⟨y, H2, I2, r2, q2⟩ =>
    thn (ho pins s2 σ H2 x y v u _ I2 r1 r2 q2) fun c s3 ⟨z, H3, I3, r3, k, e, q3⟩ => ?_) hm
  subst e; cases r3
  exact wpAny_truthy_bool ⟨H3, I3, q3⟩
def tChain (r r' : R2) (ta tb tc : TE) : TE := fun σ H Q => ta σ H fun x H1 => tb σ H1 fun y H2 => r x y H2 fun z H3 => ∃ k, z = .bl k ∧
  (if k = true then tc σ H3 fun w' H4 => r' y w' H4 Q else Q (.bl false) H3)
theorem pe_chain {op op' : CmpOp} {r r' : R2} (ho : OpR X (compareOp op) r) (ho' : OpR X (compareOp op') r') (ha : PE X a ta) (hb : PE X b tb) (hc : PE X c tc)
    (hm : lastMarks [op, op'] [b, c] = false := by with_unfolding_all rfl) : PE X (.Compare a [op, op'] [b, c] pos) (tChain r r' ta tb tc) := by
  intro pins s σ H Q I h; refine Compare_chain (thn (ha pins s σ H _ I h) fun v s1 ⟨x, H1, I1, r1, q1⟩ => chain_link (thn (hb pins s1 σ H1 _ I1 q1) fun u s2 ⟨y, H2, I2, r2, q2⟩ =>
    thn (ho pins s2 σ H2 x y v u _ I2 r1 r2 q2) fun d s3 ⟨z, H3, I3, r3, k, e, q3⟩ => ?_)) hm
  subst e; cases r3
  refine wpAny_truthy_bool ?_
  cases k with
  | false => exact ite_ff ⟨.bl false, H3, I3, rfl, q3⟩
  | true => exact ite_tt (chain_last (thn (hc pins s3 σ H3 _ I3 q3) fun w' s4 ⟨z', H4, I4, r4, q4⟩ => ho' pins s4 σ H4 y z' u w' Q I4 r2 r4 q4))
theorem pt_chain {op op' : CmpOp} {r r' : R2} (ho : OpR X (compareOp op) r) (ho' : OpR X (compareOp op') r') (ha : PE X a ta) (hb : PE X b tb) (hc : PE X c tc)
    (hm : lastMarks [op, op'] [b, c] = false := by with_unfolding_all rfl) : PT X (.Compare a [op, op'] [b, c] pos) (tTest (tChain r r' ta tb tc)) := by
  intro pins s σ H Q I h; refine isTrue_chain (thn (ha pins s σ H _ I h) fun v s1 ⟨x, H1, I1, r1, q1⟩ => test_link (thn (hb pins s1 σ H1 _ I1 q1) fun u s2 ⟨y, H2, I2, r2, q2⟩ =>
    thn (ho pins s2 σ H2 x y v u _ I2 r1 r2 q2) fun d s3 ⟨z, H3, I3, r3, k, e, q3⟩ => ?_)) hm
  subst e; cases r3
  refine wpAny_truthy_bool ?_
  cases k with
  | false =>
    obtain ⟨k', e', q'⟩ := q3
    cases e'
    exact ite_ff ⟨H3, I3, q'⟩
  | true =>
    refine ite_tt (test_last (thn (hc pins s3 σ H3 _ I3 q3) fun w' s4 ⟨z', H4, I4, r4, q4⟩ => thn (ho' pins s4 σ H4 y z' u w' _ I4 r2 r4 q4) fun d' s5 ⟨z2, H5, I5, r5, k2, e2, q5⟩ => ?_))
    subst e2; cases r5
    exact wpAny_truthy_bool ⟨H5, I5, q5⟩
theorem line63 : (sizeLine : Nat) < 2 ^ 63 := by rw [sizeLine_eq]; decide
theorem op_add_str : OpR X (binaryOp .Add) (fun x y H Q => ∃ i j, x = .str i /\ y = .str j /\ i.length + j.length <= sizeLine /\ Q (.str (i ++ j)) H) := by
  intro pins s σ H x y v u Q I rx ry h; obtain ⟨i, j, rfl, rfl, hz, q⟩ := h
  obtain ⟨t, rfl⟩ := rx
  obtain ⟨t', rfl⟩ := ry
  exact add_str (fun t' tk => ⟨.str (i ++ j), H, I.tok _, ⟨_, rfl⟩, q⟩) hz
theorem vals1 {x : V} {us : List Value} (r : Vals [x] us) : ∃ u, us = [u] /\ RelV x u := by
  cases r with
  | cons r1 r2 => cases r2; exact ⟨_, rfl, r1⟩
theorem vals2 {x y : V} {us : List Value} (r : Vals [x, y] us) : ∃ u w', us = [u, w'] /\ RelV x u /\ RelV y w' := by
  cases r with
  | cons r1 r2 =>
    cases r2 with
    | cons r3 r4 => cases r4; exact ⟨_, _, rfl, r1, r3⟩
theorem call_max2 (hc : X.calm = true) : CallR X (.builtin "max") (fun xs H Q => ∃ i j, xs = [.int i, .int j] /\ Q (.int (if j > i then j else i)) H) := by
  intro pins s σ H xs us Q I r h; obtain ⟨i, j, rfl, q⟩ := h
  obtain ⟨u, w', rfl, ⟨t, rfl⟩, ⟨t', rfl⟩⟩ := vals2 r
  refine max_two_ints (I.ok.hd hc) fun h' tk k => ⟨_, H, I.kept k, ?_, q⟩
  by_cases hj : j > i
  . rw [if_pos hj, if_pos hj]; exact ⟨_, rfl⟩
  . rw [if_neg hj, if_neg hj]; exact ⟨_, rfl⟩
theorem call_min2 (hc : X.calm = true) : CallR X (.builtin "min") (fun xs H Q => ∃ i j, xs = [.int i, .int j] /\ Q (.int (if j < i then j else i)) H) := by
  intro pins s σ H xs us Q I r h; obtain ⟨i, j, rfl, q⟩ := h
  obtain ⟨u, w', rfl, ⟨t, rfl⟩, ⟨t', rfl⟩⟩ := vals2 r
  refine min_two_ints (I.ok.hd hc) fun h' tk k => ⟨_, H, I.kept k, ?_, q⟩
  by_cases hj : j < i
  . rw [if_pos hj, if_pos hj]; exact ⟨_, rfl⟩
  . rw [if_neg hj, if_neg hj]; exact ⟨_, rfl⟩
theorem call_int1 : CallR X (.type "int") (fun xs H Q => (∃ i, xs = [.int i] /\ Q (.int i) H) ∨ ∃ k, xs = [.bl k] /\ Q (.int (if k then 1 else 0)) H) := by
  intro pins s σ H xs us Q I r h; rcases h with ⟨i, rfl, q⟩ | ⟨k, rfl, q⟩
  . obtain ⟨u, rfl, t, rfl⟩ := vals1 r
    exact call_int_int ⟨.int i, H, I, ⟨_, rfl⟩, q⟩
  . obtain ⟨u, rfl, r1⟩ := vals1 r
    cases r1
    exact call_int_bool ⟨.int (if k then 1 else 0), H, I.tok _, ⟨_, rfl⟩, q⟩
end
end L2
namespace L2
open PySem PySem.Spec PyProof.Rows
structure ObjM (h : Heap) (x dx C : Addr) (mA : Str -> Option Value) : Prop where
  obj : h.get? x = some (W.instObj C dx)
  ns : h.Ns1 dx mA
  ne : dx ≠ x
theorem lookIn_ns {h : Heap} {dx : Addr} {mA : Str -> Option Value} (n : h.Ns1 dx mA) : ∃ od, h.get? dx = some od /\ ∀ name, W.lookIn name od = some (mA name) := by
  obtain ⟨o, es, ep, ho, hd, hk, _, hm⟩ := n
  refine ⟨o, ho, fun name => ?_⟩
  have e := hm name
  unfold nsFind findBy at e; rw [<- Array.find?_toList] at e; unfold W.lookIn; rw [hd]; dsimp only; split
  . rename_i y q
    rw [q] at e; exact congrArg some e
  . rename_i q
    rw [q] at e; have a : es.toList.any (·.refKey) = false := by
      rw [List.any_eq_false]; intro y hy; obtain ⟨z, t, hkey⟩ := hk y (Array.mem_toList_iff.mp hy)
      simp [DictEntry.refKey, hkey]
    have a' : ¬ es.toList.any (·.refKey) = true := by rw [a]; exact Bool.false_ne_true
    rw [if_neg a']; exact congrArg some e
theorem ObjM.look {h : Heap} {x dx C : Addr} {mA : Str -> Option Value} (I : ObjM h x dx C mA) : ∃ od, W.InstAt h x (W.instObj C dx) C (some od) /\ ∀ name, W.lookIn name od = some (mA name) :=
  let ⟨od, ho, hl⟩ := lookIn_ns I.ns
  ⟨od, ⟨I.obj, rfl, rfl, ho⟩, hl⟩
theorem RelO.some_of {v : V} {o : Option Value} (r : RelO (some v) o) : ∃ u, o = some u /\ RelV v u := by
  cases o with
  | none => exact (show False from r).elim
  | some u => exact ⟨u, rfl, r⟩
section
variable {P : Program} {w : World} {H H' : Hp} {h h' : Heap} {a C dx : Addr} {fs fs' : List (Str × V)}
theorem ins_get (hok : HOk P w H h) (e : H a = some (.ins C dx fs)) : ∃ mA, ObjM h a dx C mA /\ (∀ f, RelO (fs.lookup f) (mA f)) /\ PySem.Within mA (fs.map (·.1)) /\ fs.length <= 1000 /\ H dx = some (.own a) := by
  obtain ⟨d, z, ne, ob, mA, n, r, q⟩ := (show ObjOk P w H h a (.ins C dx fs) from hok a _ e)
  exact ⟨mA, ⟨ob, n, ne⟩, r, q, z, d⟩
end
structure Cls (K : W.Frag) (C : Addr) : Prop where
  pg : W.plainGet K C Str.empty = true
  hd : W.hasDictIn K C = true
  po : W.plainOver K C = true
  sa : W.findIn K (.ref C) "__setattr__" = some (some (.builtin "object.__setattr__"))
theorem Cls.get {K : W.Frag} {C : Addr} (c : Cls K C) (f : Str) : W.plainGet K C f = true := c.pg
section
variable {X : Cx} {pins : List (Addr × Obj)} {σ : St} {H : Hp} {s : Shared} {A : Around} {E : Value -> Shared -> Prop} {Q : Value -> Shared -> Prop} {c : Value} {b : Bool}
inductive TyOf (K : W.Frag) (H : Hp) : V -> Value -> Prop where
  | non : TyOf K H .non (.type "NoneType")
  | bl (x : Bool) : TyOf K H (.bl x) (.type "bool")
  | int (i : Int) : TyOf K H (.int i) (.type "int")
  | str (x : Str) : TyOf K H (.str x) (.type "str")
  | flt (x : UInt64) : TyOf K H (.flt x) (.type "float")
  | lst {a : Addr} {xs : List V} (e : H a = some (.lst xs)) : TyOf K H (.ref a) (.type "list")
  | frz {a : Addr} {o : Obj} {xs : List V} (e : H a = some (.frz o (.lst xs))) : TyOf K H (.ref a) (.type "list")
  | tup {a : Addr} {xs : List V} (e : H a = some (.tup xs)) : TyOf K H (.ref a) (.type "tuple")
  | dK {a : Addr} {kvs : List (Key × V)} (e : H a = some (.dK kvs)) : TyOf K H (.ref a) (.type "dict")
  | dT {a : Addr} {kvs : List (List Key × V)} (e : H a = some (.dT kvs)) : TyOf K H (.ref a) (.type "dict")
  | ins {a C dx : Addr} {fs : List (Str × V)} (e : H a = some (.ins C dx fs)) (cl : Cls K C) (ha : W.findIn K (.ref C) "__class__" = some (some (.builtin "object.__class__")))
      (hn : W.specialIn K (.builtin "object.__class__") "__get__" = some (some (.builtin "getset_descriptor.__get__"))) (htk : W.takesIn K (.builtin "object.__class__") = some true)
      (hm : W.mroIn K C (.type "object") = some true) : TyOf K H (.ref a) (.ref C)
theorem isinst_ok {x : V} {u t : Value} (I : Inv X pins σ H s) (rx : RelV x u) (ty : TyOf X.K H x t) (e : W.kitOne X.K t c = some b) (h : ∀ tk, Q (.bool b) { s with toks := tk }) :
    wpAny (model X.prog X.w) A (call (.builtin "isinstance") [u, c]) Q E s := by
  cases ty with
  | non => cases (show u = Value.none from rx); exact W.kia_one W.kitx_none I.kIn True.intro e (fun z => nomatch z) h
  | bl y => cases (show u = Value.bool y from rx); exact W.kia_one W.kitx_bool I.kIn True.intro e (fun z => nomatch z) h
  | int i => obtain ⟨t, q⟩ := (show ∃ t, u = Value.int i t from rx); cases q; exact W.kia_one W.kitx_int I.kIn True.intro e (fun z => nomatch z) h
  | str y => obtain ⟨t, q⟩ := (show ∃ t, u = Value.str y t from rx); cases q; exact W.kia_one W.kitx_str I.kIn True.intro e (fun z => nomatch z) h
  | flt y => obtain ⟨t, q⟩ := (show ∃ t, u = Value.float y t from rx); cases q; exact W.kia_one W.kitx_float I.kIn True.intro e (fun z => nomatch z) h
  | @lst a xs ea =>
    cases (show u = Value.ref a from rx)
    obtain ⟨_, _, n, _, h1⟩ := (show ObjOk X.prog X.w H s.heap a (.lst xs) from I.hok a _ ea)
    exact W.kia_one W.kitx_list I.kIn ⟨_, h1, rfl⟩ e (fun z => nomatch z) h
  | @frz a ob xs ea =>
    cases (show u = Value.ref a from rx)
    obtain ⟨_, _, _, n, _, h1⟩ := (show ObjOk X.prog X.w H s.heap a (.frz ob (.lst xs)) from I.hok a _ ea)
    exact W.kia_one W.kitx_list I.kIn ⟨_, h1, rfl⟩ e (fun z => nomatch z) h
  | @tup a xs ea =>
    cases (show u = Value.ref a from rx)
    obtain ⟨_, _, _, p⟩ := (show ObjOk X.prog X.w H s.heap a (.tup xs) from I.hok a _ ea)
    obtain ⟨o, h1, h2, _⟩ := p
    exact W.kia_one W.kitx_tuple I.kIn ⟨o, h1, h2⟩ e (fun z => nomatch z) h
  | @dK a kvs ea =>
    cases (show u = Value.ref a from rx)
    obtain ⟨_, _, vs, _, p⟩ := (show ObjOk X.prog X.w H s.heap a (.dK kvs) from I.hok a _ ea)
    obtain ⟨o, es, ep, h1, h2, _⟩ := p
    exact W.kia_one W.kitx_dict I.kIn ⟨o, h1, h2.1⟩ e (fun z => nomatch z) h
  | @dT a kvs ea =>
    cases (show u = Value.ref a from rx)
    obtain ⟨_, _, xs, _, o, es, ep, h1, h2, _⟩ := (show ObjOk X.prog X.w H s.heap a (.dT kvs) from I.hok a _ ea)
    exact W.kia_one W.kitx_dict I.kIn ⟨o, h1, h2.1⟩ e (fun z => nomatch z) h
  | @ins a C dx fs ea cl ha hn htk hm =>
    cases (show u = Value.ref a from rx)
    obtain ⟨mA, O, _⟩ := ins_get I.hok ea
    obtain ⟨od, J, _⟩ := O.look
    exact W.kia_one (W.kitx_own (cl.get _) cl.hd ha hn htk hm) I.kIn J e (fun z => nomatch z) h
end
end L2
namespace L2
open PySem PySem.Spec PyProof.Rows
structure Room (k : Nat) (A : Around) : Prop where
  hd : A.handled = none
  dp : A.depth + 3 * k + 5 < recursionLimit
  un : A.units + 16 * k + 200 < cLine
theorem Room.mono {j k : Nat} {A : Around} (r : Room k A) (h : j <= k) : Room j A := ⟨r.hd, by have := r.dp; omega, by have := r.un; omega⟩
theorem Room.deeper {k : Nat} {A : Around} (r : Room (k + 1) A) (env : Env) : Room k (A.deeper env) :=
  ⟨r.hd, by have := r.dp; show A.depth + 1 + 3 * k + 5 < _; omega, by have := r.un; show A.units + 3 + 16 * k + 200 < _; omega⟩
theorem Room.depth {k : Nat} {A : Around} (r : Room k A) : A.depth < recursionLimit := by have := r.dp; omega
theorem Room.units {k : Nat} {A : Around} (r : Room k A) : A.units + 64 < cLine := by have := r.un; omega
theorem Room.units0 {k : Nat} {A : Around} (r : Room k A) : A.units < cLine := by have := r.un; omega
def tNil : TA := fun _ H Q => Q [] H
def tCons (ta : TE) (tr : TA) : TA := fun σ H Q => ta σ H fun x H1 => tr σ H1 fun xs H2 => Q (x :: xs) H2
section
variable {X : Cx} {e : Expr} {es : List Expr} {te : TE} {t : TA} {pos : Pos}
theorem pa_nil : PA X [] tNil := fun _ _ _ _ H Q I h => Calls.spliced_nil ⟨[], H, I, .nil, h⟩
theorem pa_cons (ha : PE X e te) (hr : PA X es t) (hs : starEach (e :: es) X.env = (false, eval e X.env) :: starEach es X.env := by rfl) : PA X (e :: es) (tCons te t) := by
  intro pos pins s σ H Q I h; rw [hs]; show wpAny _ _ (spliced ((false, eval e X.env) :: backTo pos (starEach es X.env))) _ _ s
  refine Calls.spliced_cons (thn (ha pins s σ H _ I h) fun u s1 ⟨x, H1, I1, r1, q1⟩ => ?_)
  exact thn (hr pos pins s1 σ H1 _ I1 q1) fun us s2 ⟨xs, H2, I2, r2, q2⟩ => ⟨x :: xs, H2, I2, .cons r1 r2, q2⟩
def tLst (t : TA) : TE := fun σ H Q => t σ H fun xs H1 => xs.length <= sizeLine /\ ∀ p, H1 p = none -> Q (.ref p) (upd H1 p (.lst xs))
theorem pe_lst (h : PA X es t) : PE X (.List es pos) (tLst t) := by
  intro pins s σ H Q I hq; refine wpAny_List_spliced (thn (h pos pins s σ H _ I hq) fun us s1 ⟨xs, H1, I1, r, z, q⟩ => ⟨by rw [<- r.length]; exact z, ?_⟩)
  have hf : H1 s1.heap.objs.size = none := I1.hok.fresh (Znr _)
  refine ⟨.ref s1.heap.objs.size, upd H1 s1.heap.objs.size (.lst xs), I1.laid (t' := s1.toks) (fun b u e => Zpu _ e) (Znr _) ?_, rfl, q _ hf⟩
  exact ⟨z, us, 0, r, Heap.get?_push_size _ rfl⟩
end
abbrev Sp := List V -> Hp -> VK -> XK -> Prop
abbrev CXT := List Env -> Hp -> Shared -> XK -> Value -> Shared -> Prop
structure Env0 (P : Program) (w : World) (K : W.Frag) (mg : Str -> Option Value) (base : Heap) (A : Around) (outer : List Env) (s : Shared) (H : Hp) : Prop where
  frames : A.frames = some outer
  mod : Mod K mg base
  bs : ∀ b o, base.get? b = some o -> s.heap.get? b = some o /\ H b = none
  bsz : base.objs.size <= s.heap.objs.size
  funs : s.heap.FunFrames base outer
  frf : ∀ b ∈ frs outer, H b = none
  hok : HOk P w H s.heap
  bare : AllBare s.gens
def CE (outer : List Env) (P : Program) (w : World) (H : Hp) (s : Shared) (Q : VK) (u : Value) (s' : Shared) : Prop :=
  ∃ v H', s'.os = s.os /\ AllBare s'.gens /\ Un (frs outer) [] H H' s.heap s'.heap /\ HOk P w H' s'.heap /\ RelV v u /\ Q v H'
def CR (CX : CXT) (outer : List Env) (P : Program) (w : World) (H : Hp) (s : Shared) (Q : VK) (E : XK) (r : Result) (s' : Shared) : Prop :=
  match r with
  | .ok (.ret u) => CE outer P w H s Q u s'
  | .ok _ => False
  | .error e => CX outer H s E e s'
structure FnOk (P : Program) (w : World) (K : W.Frag) (mg : Str -> Option Value) (base : Heap) (CX : CXT) (k : Nat) (f : Addr) (fd : FuncData) (ps : List Str) (sp : Sp) : Prop where
  len : ∀ vs H Q E, sp vs H Q E -> vs.length = ps.length
  run : ∀ (A : Around) (outer : List Env) (s : Shared) (H : Hp) (args : Args) (us : List Value) (vs : List V) (Q : VK) (E : XK), Room k A -> Env0 P w K mg base A outer s H -> BindsTo s fd args (ps.zip us) -> Vals vs us -> sp vs H Q E →
    codeAny (model P w) A (.call (.ref f) args) (CR CX outer P w H s Q E) s
section
variable {X : Cx} {pins : List (Addr × Obj)} {σ : St} {H : Hp} {s s' : Shared}
theorem Inv.env0 (I : Inv X pins σ H s) : Env0 X.prog X.w X.K X.mg X.base X.A X.stack s H :=
  ⟨I.ok.frames, I.ok.mod, I.bs, Znt I.ok.bsz I.sz, I.stack, I.stkFree, I.hok, I.bare⟩
theorem Inv.after {Q : VK} {u : Value} (I : Inv X pins σ H s) (h : CE X.stack X.prog X.w H s Q u s') : EP X pins σ Q u s' := by
  obtain ⟨v, H', os, bare, un, hok, r, q⟩ := h
  obtain ⟨hh, g, d, t, os'⟩ := s'
  obtain rfl : os' = s.os := os
  exact ⟨v, H', I.call (h' := hh) (g' := g) (d' := d) (t' := t) (ch := []) un hok bare (fun b z => absurd z (by simp)), r, q⟩
end
def tCall (sp : Sp) (dvs : List V) (E : XK) (t : TA) : TE := fun σ H Q => t σ H fun vs H1 => sp (vs ++ dvs) H1 Q E
def Binds (K : W.Frag) (fd : FuncData) (ps : List Str) (ds : List Value) : Prop :=
  ∀ (s : Shared) (us : List Value), K.In s.heap -> (us ++ ds).length = ps.length -> BindsTo s fd ⟨us, []⟩ (ps.zip (us ++ ds))
theorem Binds.all {K : W.Frag} {fd : FuncData} {ps : List Str} (h : ∀ us : List Value, us.length = ps.length -> bindArgs fd ⟨us, []⟩ = pure (ps.zip us)) : Binds K fd ps [] := fun s us _ hl => by
  rw [List.append_nil] at hl ⊢; exact .of_eq (h us hl)
def Passes (CX : CXT) (X : Cx) (E : XK) : Prop := ∀ (pins : List (Addr × Obj)) (σ : St) (H : Hp) (s : Shared) (e : Value) (s' : Shared), Inv X pins σ H s -> CX X.stack H s E e s' -> X.xe e s'
section
variable {X : Cx} {CX : CXT} {k : Nat} {f C : Addr} {fd : FuncData} {ps : List Str} {sp : Sp} {dvs : List V} {ds : List Value} {E : XK} {x m : Str} {p pos apos : Pos} {e o : Expr} {es : List Expr} {ta : TE} {t : TA}
theorem run_fn {pins : List (Addr × Obj)} {σ : St} {H : Hp} {s : Shared} {Q : VK} {us : List Value} {vs : List V} (F : FnOk X.prog X.w X.K X.mg X.base CX k f fd ps sp) (hr : Room k X.A) (hb : Binds X.K fd ps ds) (hd : Vals dvs ds) (hx : Passes CX X E)
    (I : Inv X pins σ H s) (r : Vals vs us) (h : sp (vs ++ dvs) H Q E) : wpAny (model X.prog X.w) X.A (call (.ref f) us) (EP X pins σ Q) X.xe s := by
  have r2 : Vals (vs ++ dvs) (us ++ ds) := r.append hd
  have hl : (us ++ ds).length = ps.length := by rw [<- r2.length]; exact F.len _ _ _ _ h
  refine wpAny_call (codeAny_mono (F.run X.A X.stack s H ⟨us, []⟩ (us ++ ds) (vs ++ dvs) Q E hr I.env0 (hb s us I.kIn hl) r2 h) fun r s' hq => ?_)
  cases r with
  | error e => exact hx pins σ H s e s' I hq
  | ok fl =>
    cases fl with
    | ret u => exact I.after hq
    | next => exact False.elim hq
    | brk => exact False.elim hq
    | cont => exact False.elim hq
theorem pe_call (F : FnOk X.prog X.w X.K X.mg X.base CX k f fd ps sp) (hr : Room k X.A) (hg : Gl X x) (hm : X.mg x = some (.ref f)) (hk : W.keepIn X.K (.ref f) = true) (hb : Binds X.K fd ps ds) (hd : Vals dvs ds) (hx : Passes CX X E)
    (ha : PA X (e :: es) t) (hdb : (x == ("__debug__" : Str)) = false := by decide) (he : starEach (e :: es) X.env = (false, eval e X.env) :: starEach es X.env := by rfl) (hpl : (backTo pos (starEach es X.env)).any (·.1) = false := by rfl) :
    PE X (.Call (.Name x p) (e :: es) [] pos) (tCall sp dvs E t) := by
  intro pins s σ H Q I h; refine wpAny_Call_Name_kw (ld_glob I hg hm ?_ hdb)
  refine W.callWith_K (h₀ := X.base) I.ok.mod.kin hk (thn (ha pos pins s σ H _ I h) fun us s1 ⟨vs, H1, I1, r, q⟩ => ⟨I1.kIn, ?_⟩) he hpl
  exact run_fn F hr hb hd hx I1 r q
end
structure FnScope (N P : List Str) (sc : Scope) : Prop where
  kind : sc.kind = .function
  co : sc.isCoroutine = false
  gen : sc.isGenerator = false
  nd : N.Nodup
  pre : N.take P.length = P
  par : ∀ x ∈ P, sc.names.lookup x = some .local ∨ sc.names.lookup x = some .cell
  nofree : ∀ y ∈ sc.names, y.2 ≠ .free
theorem bindL_out {kindOf : Str -> Option NameKind} {x : Str} : ∀ {binds : List (Str × Value)} {m : Str -> Option Value}, (∀ v, (x, v) ∉ binds) -> bindL kindOf binds m x = m x
  | [], _, _ => rfl
  | (n, v) :: r, m, h => by
    unfold bindL; rw [bindL_out fun w hw => h w (Zmc _ hw)]
    split
    . have : x ≠ n := by rintro rfl; exact h v Zcs
      simp [this]
    . rfl
theorem bindC_out {kindOf : Str -> Option NameKind} {x : Str} : ∀ {binds : List (Str × Value)} {m : Str -> Option Value}, (∀ v, (x, v) ∉ binds) -> bindC kindOf binds m x = m x
  | [], _, _ => rfl
  | (n, v) :: r, m, h => by
    unfold bindC; rw [bindC_out fun w hw => h w (Zmc _ hw)]
    split
    . rfl
    . have : x ≠ n := by rintro rfl; exact h v Zcs
      simp [this]
theorem bindL_get {kindOf : Str -> Option NameKind} {x : Str} {v : Value} : ∀ {P : List Str} {vs : List Value} {i : Nat} {m : Str -> Option Value}, P.Nodup -> P[i]? = some x -> vs[i]? = some v -> kindOf x = some .local →
    bindL kindOf (P.zip vs) m x = some v
  | [], _, _, _, _, h, _, _ => by simp at h
  | _ :: _, [], _, _, _, _, h, _ => by simp at h
  | p :: P, w :: vs, 0, m, nd, h1, h2, hk => by
    simp at h1 h2; subst h1; subst h2
    show bindL kindOf ((p, w) :: P.zip vs) m p = _
    unfold bindL; rw [bindL_out fun v hv => (List.nodup_cons.mp nd).1 (List.of_mem_zip hv).1, if_pos hk]
    simp
  | p :: P, w :: vs, i + 1, m, nd, h1, h2, hk => by
    show bindL kindOf ((p, w) :: P.zip vs) m x = _
    unfold bindL; exact bindL_get (i := i) (List.nodup_cons.mp nd).2 (by simpa using h1) (by simpa using h2) hk
theorem bindC_get {kindOf : Str -> Option NameKind} {x : Str} {v : Value} : ∀ {P : List Str} {vs : List Value} {i : Nat} {m : Str -> Option Value}, P.Nodup -> P[i]? = some x -> vs[i]? = some v -> kindOf x ≠ some .local →
    bindC kindOf (P.zip vs) m x = some v
  | [], _, _, _, _, h, _, _ => by simp at h
  | _ :: _, [], _, _, _, _, h, _ => by simp at h
  | p :: P, w :: vs, 0, m, nd, h1, h2, hk => by
    simp at h1 h2; subst h1; subst h2
    show bindC kindOf ((p, w) :: P.zip vs) m p = _
    unfold bindC; rw [bindC_out fun v hv => (List.nodup_cons.mp nd).1 (List.of_mem_zip hv).1, if_neg hk]
    simp
  | p :: P, w :: vs, i + 1, m, nd, h1, h2, hk => by
    show bindC kindOf ((p, w) :: P.zip vs) m x = _
    unfold bindC; exact bindC_get (i := i) (List.nodup_cons.mp nd).2 (by simpa using h1) (by simpa using h2) hk
def start (N : List Str) (vs : List V) : St := vs.map some ++ List.replicate (N.length - vs.length) none
def cxOf (CX : CXT) (P : Program) (w : World) (K : W.Frag) (mg : Str -> Option Value) (base : Heap) (N : List Str) (qual : Str) (scope : Scope) (f : Addr) (cd : Value) (A : Around) (outer : List Env) (s : Shared) (H : Hp) (E : XK) : Cx where
  prog := P
  w := w
  K := K
  mg := mg
  base := base
  A := A.deeper (envOfC qual scope s.heap.objs.size f cd)
  N := N
  s₀ := s
  H₀ := H
  env := envOfC qual scope s.heap.objs.size f cd
  outer := outer
  stack := envOfC qual scope s.heap.objs.size f cd :: outer
  ex := []
  calm := true
  fn := fun _ => true
  pn := []
  xe := fun e s' => wpAny (model P w) (A.deeper (envOfC qual scope s.heap.objs.size f cd)) (leaving (envOfC qual scope s.heap.objs.size f cd) e) (fun _ s'' => CX outer H s E e s'') (fun e' s'' => CX outer H s E e' s'') s'
theorem cell_has {sc : Scope} {n : Nat} {x : Str} (h : sc.names.lookup x = some .cell) : ∃ c, (cellsFrom n sc.names []).lookup x = some c := by
  have q := W.cellsFrom_some sc.names n [] (.inl h)
  exact Option.isSome_iff_exists.mp q
theorem inv_start {CX : CXT} {P : Program} {w : World} {K : W.Frag} {mg : Str -> Option Value} {base : Heap} {N ps : List Str} {qual : Str} {scope : Scope} {f : Addr} {cd : Value} {A : Around} {outer : List Env} {s s1 : Shared} {H : Hp} {E : XK} {us : List Value} {vs : List V}
    (S : FnScope N ps scope) (hd : A.handled = none) (e0 : Env0 P w K mg base A outer s H) (hl : vs.length = ps.length) (r : Vals vs us)
    (x : InCallC s s.heap.objs.size (bindL (envOfC qual scope s.heap.objs.size f cd).kindOf (ps.zip us) fun _ => none) (cellsFrom (s.heap.objs.size + 1) scope.names []) (bindC (envOfC qual scope s.heap.objs.size f cd).kindOf (ps.zip us) fun _ => none) s1) :
    Inv (cxOf CX P w K mg base N qual scope f cd A outer s H E) [] (start N vs) H s1 := by
  have hpl : ps.length <= N.length := by have := congrArg List.length S.pre; rw [Zlk] at this; omega
  obtain ⟨h1, tk, rfl, hk⟩ := x.done
  have noA : ∀ b : Addr, b ∉ (cxOf CX P w K mg base N qual scope f cd A outer s H E).ex := fun b z => absurd (show b ∈ ([] : List Addr) from z) (by simp)
  refine ⟨⟨e0.mod, S.kind, rfl, rfl, Znr _, fun y z c h1 h2 => ?_, fun y hy => ?_, fun y c _ h => ?_, fun _ => hd, Around.frames_deeper e0.frames, .inr ⟨rfl, rfl⟩, fun b z => absurd z (noA b), e0.bs, e0.bsz, fun b _ _ => noA b, fun b z => absurd z (noA b), e0.funs, e0.frf⟩,
    rfl, e0.bare, Un.kept hk, ⟨_, x.toInCall.ns, fun i y v h1 h2 h3 => ?_⟩, fun y c h => ⟨_, x.cell y c h⟩, e0.hok.fresh (Znr _), fun y c h => ?_, fun p hp => absurd (show p ∈ ([] : List (Addr × Obj)) from hp) (by simp), e0.hok.kept hk, ?_⟩
  . exact name_of_addr x.apart (PySem.mem_of_lookup h1) (PySem.mem_of_lookup h2)
  . have hy : scope.names.lookup y = some .cell ∨ scope.names.lookup y = some .free := hy
    rcases hy with hy | hy
    . exact cell_has hy
    . exact absurd rfl (S.nofree _ (PySem.mem_of_lookup hy))
  . exact Nat.le_of_lt (x.above y c (PySem.mem_of_lookup h))
  . have hi : i < vs.length := by
      unfold start at h2; by_cases hi : i < vs.length
      . exact hi
      . rw [List.getElem?_append_right (by simpa using hi)] at h2
        rw [List.getElem?_replicate] at h2; split at h2 <;> cases h2
    have ha : vs[i]? = some v := by
      unfold start at h2; rw [List.getElem?_append_left (by simpa using hi), Zgm] at h2
      cases e : vs[i]? with
      | none => rw [e] at h2; cases h2
      | some a => rw [e] at h2; cases h2; rfl
    obtain ⟨u, hu, rv⟩ := r.get ha
    have hp : ps[i]? = some y := by
      rw [<- S.pre, List.getElem?_take_of_lt (by omega)]; exact h1
    have ndP : ps.Nodup := by rw [<- S.pre]; exact S.nd.sublist (List.take_sublist _ _)
    refine ⟨u, rv, ?_⟩
    rcases S.par y (Zmg hp) with k | k
    . exact .inl ⟨k, bindL_get ndP hp hu k⟩
    . obtain ⟨c, e⟩ := cell_has (n := s.heap.objs.size + 1) k
      refine .inr ⟨.inl k, c, e, ?_⟩
      have q := x.cell y c e
      rw [bindC_get ndP hp hu (by show scope.names.lookup y ≠ _; rw [k]; decide)] at q
      exact q
  . exact e0.hok.fresh (Nat.le_of_lt (x.above y c (PySem.mem_of_lookup h)))
  . unfold start; show _ = N.length
    rw [Zla, Zlm, List.length_replicate]; omega
theorem fn_of {CX : CXT} {P : Program} {w : World} {K : W.Frag} {mg : Str -> Option Value} {base : Heap} {k : Nat} {f : Addr} {name qual : Str} {params : Arguments} {body : List Stmt} {scope : Scope} {dV kV doc pm cdv ct oc : Value} {an od : Option Addr}
    {osl : Array (Option Value)} {N ps : List Str} {sp : Sp} (lk : K.lookup f = some ⟨oc, od, .func (W.fnOf name qual params body scope dV kV doc pm an cdv ct), osl⟩) (hcd : W.codeIn K cdv qual = true) (S : FnScope N ps scope)
    (len : ∀ vs H Q E, sp vs H Q E -> vs.length = ps.length)
    (hbody : ∀ (A : Around) (outer : List Env) (s : Shared) (H : Hp) (vs : List V) (Q : VK) (E : XK), Room k (A.deeper (envOfC qual scope s.heap.objs.size f cdv)) -> sp vs H Q E →
      ∃ t, PSs (cxOf CX P w K mg base N qual scope f cdv A outer s H E) body t /\ t { nx := fun _ H' => Q .non H', rt := Q } (start N vs) H) :
    FnOk P w K mg base CX (k + 1) f (W.fnOf name qual params body scope dV kV doc pm an cdv ct) ps sp := by
  refine ⟨len, fun A outer s H args us vs Q E hr e0 hb r hsp => ?_⟩
  have hl := len _ _ _ _ hsp
  have KX : K.In s.heap := e0.mod.kin.keeps fun b o e => (e0.bs b o e).1
  have lim : s.heap.NoLimit := e0.mod.nolimit.keeps fun b o e => (e0.bs b o e).1
  have hkind : ∀ y ∈ ps.zip us, scope.names.lookup y.1 = some .local ∨ (scope.names.lookup y.1 = some .cell /\ ((cellsFrom (s.heap.objs.size + 1) scope.names []).lookup y.1).isSome = true) := fun ⟨n, v⟩ hy => by
    rcases S.par n (List.of_mem_zip hy).1 with q | q
    . exact .inl q
    . exact .inr ⟨q, W.cellsFrom_some _ _ _ (.inl q)⟩
  refine codeAny_call_function hr.depth (KX _ _ lk) rfl S.co S.gen rfl (W.codeRec_of KX hcd) (hb _ _ _ _ ?_)
  refine wpAny_newFunctionEnv_cells S.kind hkind fun env he s1 x => ?_
  subst he; refine ⟨lim.keeps x.toInCall.keep, codeAny_func ?_⟩
  obtain ⟨t, ht, hq⟩ := hbody A outer s H vs Q E (hr.deeper _) hsp
  have I : Inv (cxOf CX P w K mg base N qual scope f cdv A outer s H E) [] (start N vs) H s1 := inv_start S hr.hd e0 hl r x
  refine wpAny_mono (ht [] s1 (start N vs) H _ I hq) (fun fl s' hs => ?_) fun e s' hs => hs
  have fin : ∀ {σ' : St} {H' : Hp} {v : V} {u : Value}, Inv (cxOf CX P w K mg base N qual scope f cdv A outer s H E) [] σ' H' s' -> RelV v u -> Q v H' -> CE outer P w H s Q u s' :=
    fun {σ' H' v u} J rv q => ⟨v, H', J.os, J.bare, J.base, J.hok, rv, q⟩
  cases fl with
  | ret u =>
    obtain ⟨v, σ', H', J, rv, q⟩ := hs
    exact fin J rv q
  | next =>
    obtain ⟨σ', H', J, q⟩ := hs
    exact fin (v := V.non) (u := Value.none) J rfl q
  | brk =>
    obtain ⟨_, _, _, q⟩ := hs
    exact False.elim q
  | cont =>
    obtain ⟨_, _, _, q⟩ := hs
    exact False.elim q
end L2
namespace L2
open PySem PySem.Spec PyProof.Rows
section
variable {X : Cx} {x : Str} {p pos : Pos} {e : Expr} {es : List Expr} {t : TA} {id T : String} {r : List V -> Hp -> VK -> Prop}
def tCB (r : List V -> Hp -> VK -> Prop) (t : TA) : TE := fun σ H Q => t σ H fun vs H1 => r vs H1 Q
theorem pe_callB (hc : CallR X (.builtin id) r) (hg : Gl X x) (hm : X.mg x = none) (hv : bootBuiltins x = some (.builtin id)) (ha : PA X (e :: es) t) (hn : x ≠ "__name__" := by decide) (hdb : (x == ("__debug__" : Str)) = false := by decide)
    (he : starEach (e :: es) X.env = (false, eval e X.env) :: starEach es X.env := by rfl) (hpl : (backTo pos (starEach es X.env)).any (·.1) = false := by rfl) : PE X (.Call (.Name x p) (e :: es) [] pos) (tCB r t) := by
  intro pins s σ H Q I h; refine wpAny_Call_Name_kw (ld_blt I hg hm hv ?_ hn hdb)
  exact PyProof.Rows.callWith_builtin1 (thn (ha pos pins s σ H _ I h) fun us s1 ⟨vs, H1, I1, r1, q1⟩ => hc pins s1 σ H1 vs us Q I1 r1 q1) he hpl
theorem pe_callTy (hc : CallR X (.type T) r) (hg : Gl X x) (hm : X.mg x = none) (hv : bootBuiltins x = some (.type T)) (ha : PA X (e :: es) t) (hn : x ≠ "__name__" := by decide) (hdb : (x == ("__debug__" : Str)) = false := by decide)
    (he : starEach (e :: es) X.env = (false, eval e X.env) :: starEach es X.env := by rfl) (hpl : (backTo pos (starEach es X.env)).any (·.1) = false := by rfl) : PE X (.Call (.Name x p) (e :: es) [] pos) (tCB r t) := by
  intro pins s σ H Q I h; refine wpAny_Call_Name_kw (ld_blt I hg hm hv ?_ hn hdb)
  exact PyProof.Rows.callWith_type1 (thn (ha pos pins s σ H _ I h) fun us s1 ⟨vs, H1, I1, r1, q1⟩ => hc pins s1 σ H1 vs us Q I1 r1 q1) he hpl
end
end L2
namespace HT
open PySem PyProof.Rows
section
variable {prog : Program} {w : World} {A : Around} {E : Value -> Shared -> Prop} {s : Shared}
theorem cat_tup {t b : Addr} {vs ws : List Value} {Q : Value -> Shared -> Prop} (ht : IsTup s.heap t vs.toArray) (hb : IsTup s.heap b ws.toArray) (hv : vs ≠ [])
    (h1 : ws = [] -> Q (.ref t) s) (h2 : ws ≠ [] -> Q (.ref s.heap.objs.size) { s with heap := s.heap.push { cls := .type "tuple", data := .seq (vs ++ ws).toArray } })
    (hsz : vs.length + ws.length <= sizeLine) : wpAny (model prog w) A (binaryOp .Add (.ref t) (.ref b)) Q E s := by
  obtain ⟨⟨cls, dd, data, sl⟩, ho, hc, n, hd⟩ := id ht
  obtain ⟨⟨cls2, dd2, data2, sl2⟩, ho2, hc2, n2, hd2⟩ := id hb
  simp only at hc hd hc2 hd2
  subst hc hd hc2 hd2; have e : vs.toArray ++ ws.toArray = (vs ++ ws).toArray := by simp
  by_cases hw : ws = []
  . exact concat_meets ⟨_, ho, rfl⟩ ⟨_, ho2, rfl⟩ noFill_tuple_add seq_tuple_add PySem.F.slot_tuple_add PySem.F.entry_tuple_add (PySem.F.args_tuple_add_2 _ _)
      (tuple_addW1 t b vs.toArray ws.toArray n n2 dd dd2 sl sl2 (by simpa using hv) (by simp [hw])) ⟨ho, ho2, h1 hw⟩
  . refine concat_meets ⟨_, ho, rfl⟩ ⟨_, ho2, rfl⟩ noFill_tuple_add seq_tuple_add PySem.F.slot_tuple_add PySem.F.entry_tuple_add (PySem.F.args_tuple_add_2 _ _)
      (tuple_addW2 t b vs.toArray ws.toArray n n2 dd dd2 sl sl2 (by simpa using hv) (by simpa using hw) (by rw [Zst, Zst]; exact hsz)) ⟨ho, ho2, ?_⟩
    rw [e]; exact h2 hw
def sIx (n d : Nat) : Option Int -> Nat
  | none => d
  | some v => if v < 0 then (v + (n : Int)).toNat else min v.toNat n
theorem sIx_none (n d : Nat) : sIx n d none = d := rfl
theorem sIx_nat (n d k : Nat) : sIx n d (some (k : Int)) = min k n := by
  show (if (k : Int) < 0 then ((k : Int) + (n : Int)).toNat else min (k : Int).toNat n) = min k n
  rw [if_neg (by omega), Int.toNat_natCast]
theorem sIx_le (n d : Nat) (hd : d <= n) (o : Option Int) : sIx n d o <= n := by
  cases o with
  | none => exact hd
  | some v =>
    show (if v < 0 then (v + (n : Int)).toNat else min v.toNat n) <= n
    by_cases hv : v < 0
    . rw [if_pos hv]; omega
    . rw [if_neg hv]; exact Nat.min_le_right _ _
theorem clip_eq (v : Int) (n d : Nat) : (if v < 0 then max (v + (n : Int)) 0 else min v (n : Int)) = ((sIx n d (some v) : Nat) : Int) := by
  show (if v < 0 then max (v + (n : Int)) 0 else min v (n : Int)) = (((if v < 0 then (v + (n : Int)).toNat else min v.toNat n) : Nat) : Int)
  by_cases hv : v < 0
  . simp only [if_pos hv]; omega
  . simp only [if_neg hv]; omega
theorem adjust_gen (lo hi : Option Int) (n : Nat) : Builtin.Slice.sliceAdjust lo hi 1 (n : Int) = (((sIx n 0 lo : Nat) : Int), ((sIx n n hi : Nat) : Int)) := by
  have h1 : ¬ ((1 : Int) < 0) := by omega
  unfold Builtin.Slice.sliceAdjust; simp only [h1, if_false]
  refine Prod.ext ?_ ?_
  . cases lo with
    | none => rfl
    | some v => exact clip_eq v n 0
  . cases hi with
    | none => rfl
    | some v => exact clip_eq v n n
theorem places_gen (i j : Nat) : Builtin.Slice.slicePlaces (i : Int) (j : Int) 1 = j - i := by
  unfold Builtin.Slice.slicePlaces; have h1 : (1 : Int) > 0 := by omega
  simp only [h1, if_true, Int.ediv_one]
  split <;> omega
theorem slicePart_ {v : Value} {o : Option Int} {Q : Option Int -> Shared -> Prop} (p : IsPart v o) (h : Q o s) : wpAny (model prog w) A (Builtin.Slice.slicePartIndex v) Q E s := by
  cases p with
  | none => exact slicePart_none h
  | int i t => exact slicePart_int h
theorem sliceApplied_gen {sl : Addr} {vl vu : Value} {lo hi : Option Int} {n : Nat} {Q : Int × Int × Nat -> Shared -> Prop} (hs : s.heap.IsSliceOf sl vl vu .none) (pl : IsPart vl lo) (pu : IsPart vu hi)
    (h : Q (((sIx n 0 lo : Nat) : Int), 1, sIx n n hi - sIx n 0 lo) s) : wpAny (model prog w) A (Builtin.Slice.sliceApplied (.ref sl) (pure (n : Int))) Q E s := by
  obtain ⟨os, hos, hcs, hds⟩ := id hs
  unfold Builtin.Slice.sliceApplied Builtin.Slice.sliceFields; refine wpAny_bind (wpAny_bind (wpAny_field hos hds (x := vl) rfl (wpAny_bind (wpAny_field hos hds (x := vu) rfl (wpAny_bind (wpAny_field hos hds (x := .none) rfl (wpAny_pure ?_)))))))
  refine wpAny_bind (slicePart_none ?_)
  show wpAny _ _ (if ((1 : Int) == 0) = true then _ else _) _ _ s
  rw [if_neg (by decide)]
  refine wpAny_bind (slicePart_ pl (wpAny_bind (slicePart_ pu (wpAny_bind (wpAny_pure ?_)))))
  show wpAny _ _ (match Builtin.Slice.sliceAdjust lo hi 1 (n : Int) with | (lo, hi) => pure (lo, (1 : Int), Builtin.Slice.slicePlaces lo hi 1)) _ _ s
  rw [adjust_gen lo hi n]; show wpAny _ _ (pure (((sIx n 0 lo : Nat) : Int), (1 : Int), Builtin.Slice.slicePlaces ((sIx n 0 lo : Nat) : Int) ((sIx n n hi : Nat) : Int) 1)) _ _ s
  rw [places_gen]; exact wpAny_pure h
theorem pick_gen (xs : Array Value) (i k : Nat) : ((List.range k).filterMap fun (m : Nat) => xs[((i : Int) + (m : Int) * 1).toNat]?).toArray = ((xs.toList.drop i).take k).toArray := by
  have e : (fun (m : Nat) => xs[((i : Int) + (m : Int) * 1).toNat]?) = fun m => xs[i + m]? := by
    funext m
    have : ((i : Int) + (m : Int) * 1).toNat = i + m := by omega
    rw [this]
  rw [e]; have := pick_run xs i k
  rw [List.filterMap_map] at this; have e2 : ((fun x => xs[x]?) ∘ fun x => i + x) = fun m => xs[i + m]? := rfl
  rw [e2] at this; rw [this]
theorem getItem_tuple_cut {t sl : Addr} {items : Array Value} {vl vu : Value} {lo hi : Option Int} {Q : Value -> Shared -> Prop} (ht : IsTup s.heap t items) (hs : s.heap.IsSliceOf sl vl vu .none) (pl : IsPart vl lo) (pu : IsPart vu hi)
    (hw : ¬ (sIx items.size 0 lo = 0 /\ sIx items.size items.size hi = items.size))
    (h : Q (.ref s.heap.objs.size) { s with heap := s.heap.push { cls := .type "tuple", data := .seq ((items.toList.drop (sIx items.size 0 lo)).take (sIx items.size items.size hi - sIx items.size 0 lo)).toArray } })
    (hsz : items.size <= sizeLine) : wpAny (model prog w) A (getItem (.ref t) (.ref sl)) Q E s := by
  have htake : sizeOk (.seq ((items.toList.drop (sIx items.size 0 lo)).take (sIx items.size items.size hi - sIx items.size 0 lo)).toArray) := by
    show ((items.toList.drop (sIx items.size 0 lo)).take (sIx items.size items.size hi - sIx items.size 0 lo)).toArray.size <= sizeLine
    rw [Zst, Zlk, List.length_drop, Array.length_toList]; omega
  have hj : sIx items.size items.size hi <= items.size := sIx_le _ _ (Znr _) hi
  obtain ⟨os, hos, hcs, hds⟩ := id hs
  have hTs : s.TypeIs (.ref sl) "slice" := ⟨os, hos, hcs⟩
  unfold getItem; try with_reducible refine wpAny_holding ?_
  first | refine wpAny_bind (wpAny_pure ?_) | skip
  refine wpAny_bind (wpAny_sequenceKey ht.typeIs (by decide) ?_)
  refine wpAny_bind (wpAny_callSpecial?_slot (name := Str.ofString "__getitem__") ht.typeIs PyProof.Rows.slot_tuple_getitem
    (wpAny_call_entry PyProof.Rows.slot_tuple_getitem ht.typeIs entry_tuple_getitem ?_ (args_tuple_getitem _ _)))
  show wpAny _ _ (Builtin.Tuple.tupleItemsOf (.ref t) >>= _) _ _ s
  refine wpAny_bind (tupleItemsOf_ ht ?_)
  refine wpAny_bind (wpAny_typeOf hTs ?_)
  rw [if_pos (by decide)]
  refine wpAny_bind (sliceApplied_gen hs pl pu ?_)
  have hno : ¬ ((((sIx items.size 0 lo : Nat) : Int) == 0 && (1 : Int) == 1 && (sIx items.size items.size hi - sIx items.size 0 lo) == items.size) = true) := by
    intro q; rw [Bool.and_eq_true, Bool.and_eq_true] at q; have q1 : ((sIx items.size 0 lo : Nat) : Int) = 0 := eq_of_beq q.1.1
    have q2 : sIx items.size items.size hi - sIx items.size 0 lo = items.size := eq_of_beq q.2
    exact hw ⟨by omega, by omega⟩
  show wpAny _ _ (if (((sIx items.size 0 lo : Nat) : Int) == 0 && (1 : Int) == 1 && (sIx items.size items.size hi - sIx items.size 0 lo) == items.size) = true then _ else _) _ _ s
  rw [if_neg hno, pick_gen]; first
    | exact wpAny_bind (m := Builtin.Tuple.tupleExact _) (wpAny_newObj_type (wpAny_pure ⟨_, rfl, wpAny_pure h⟩) htake)
    | exact wpAny_bind (m := Builtin.Tuple.tupleExact _) (wpAny_newObj_type (wpAny_bind (wpAny_pure (wpAny_pure ⟨_, rfl, wpAny_pure h⟩))) htake)
    | exact wpAny_bind (wpAny_bind (m := Builtin.Tuple.tupleExact _) (wpAny_newObj_type (wpAny_pure (wpAny_pure ⟨_, rfl, wpAny_pure h⟩)) htake))
    | exact wpAny_bind (wpAny_bind (m := Builtin.Tuple.tupleExact _) (wpAny_newObj_type (wpAny_pure ⟨_, rfl, wpAny_pure h⟩) htake))
end
end HT
namespace L2
open PySem PySem.Spec PyProof.Rows
abbrev TO := St -> Hp -> (Option Int -> Hp -> Prop) -> Prop
def PO (X : Cx) (e : Option Expr) (t : TO) : Prop :=
  ∀ (pins : List (Addr × Obj)) (s : Shared) (σ : St) (H : Hp) (Q : Option Int -> Hp -> Prop), Inv X pins σ H s -> t σ H Q →
    wpAny (model X.prog X.w) X.A (evalPart e X.env) (fun u s' => ∃ o H', Inv X pins σ H' s' /\ IsPart u o /\ Q o H') X.xe s
def tNoPart : TO := fun _ H Q => Q none H
def tPart (t : TE) : TO := fun σ H Q => t σ H fun x H1 => ∃ i, x = .int i /\ Q (some i) H1
section
variable {X : Cx} {e : Expr} {te : TE} {lo hi : Option Expr} {tl th : TO} {pos p2 : Pos}
theorem po_none : PO X none tNoPart := by
  intro pins s σ H Q I h; rw [evalPart_none]; exact wpAny_pure ⟨none, H, I, .none, h⟩
theorem po_some (h : PE X e te) : PO X (some e) (tPart te) := by
  intro pins s σ H Q I hw; rw [evalPart_some]; refine thn (h pins s σ H _ I hw) fun u s1 ⟨x, H1, I1, r1, q1⟩ => ?_
  obtain ⟨i, rfl, q⟩ := q1
  obtain ⟨t, rfl⟩ := r1
  exact ⟨some i, H1, I1, .int i t, q⟩
def SlR (X : Cx) (r : V -> Option Int -> Option Int -> Hp -> VK -> Prop) : Prop :=
  ∀ (pins : List (Addr × Obj)) (s : Shared) (σ : St) (H : Hp) (x : V) (v vl vu : Value) (lo hi : Option Int) (sl : Addr) (Q : VK), Inv X pins σ H s -> RelV x v -> s.heap.IsSliceOf sl vl vu .none -> IsPart vl lo -> IsPart vu hi -> r x lo hi H Q →
    ∃ T id, typeLookup (.type T) "__getitem__" = pure (some (.builtin id)) /\ s.TypeIs v T /\ wpAny (model X.prog X.w) X.A (getItem v (.ref sl)) (EP X pins σ Q) X.xe s
def tSl (r : V -> Option Int -> Option Int -> Hp -> VK -> Prop) (te : TE) (tl th : TO) : TE := fun σ H Q => te σ H fun x H1 => tl σ H1 fun l H2 => th σ H2 fun u H3 => r x l u H3 Q
theorem pe_slice {r : V -> Option Int -> Option Int -> Hp -> VK -> Prop} (hr : SlR X r) (he : PE X e te) (hl : PO X lo tl) (hu : PO X hi th) : PE X (.Subscript e (.Slice lo hi none p2) pos) (tSl r te tl th) := by
  intro pins s σ H Q I h; refine Subscript_ (thn (he pins s σ H _ I h) fun v s1 ⟨x, H1, I1, r1, q1⟩ => ?_)
  refine wpAny_Slice (thn (hl pins s1 σ H1 _ I1 q1) fun vl s2 ⟨l, H2, I2, pl, q2⟩ => thn (hu pins s2 σ H2 _ I2 q2) fun vu s3 ⟨u, H3, I3, pu, q3⟩ => ?_)
  rw [evalPart_none]; refine wpAny_pure ?_
  have I4 : Inv X pins σ H3 { s3 with heap := s3.heap.push { cls := .type "slice", data := .fields #[vl, vu, .none] } } := I3.kept (t' := s3.toks) fun b ob q => Zpu _ q
  obtain ⟨T, id, hT, ht, hg⟩ := hr pins { s3 with heap := s3.heap.push { cls := .type "slice", data := .fields #[vl, vu, .none] } } σ H3 x v vl vu l u s3.heap.objs.size Q I4 r1 (Heap.IsSliceOf.new ..) pl pu q3
  show wpAny (model X.prog X.w) X.A (subscriptTail e (.Slice lo hi none p2) v (.ref s3.heap.objs.size)) (EP X pins σ Q) X.xe { s3 with heap := s3.heap.push { cls := .type "slice", data := .fields #[vl, vu, .none] } }
  exact tail_any (ops := [.ref s3.heap.objs.size, v]) ht hT hg (by with_unfolding_all rfl)
def cutV (xs : List V) (lo hi : Option Int) : List V := (xs.drop (HT.sIx xs.length 0 lo)).take (HT.sIx xs.length xs.length hi - HT.sIx xs.length 0 lo)
theorem cutV_length (xs : List V) (lo hi : Option Int) : (cutV xs lo hi).length <= xs.length := by
  unfold cutV; rw [Zlk, List.length_drop]; omega
def rSlT (K : W.Frag) : V -> Option Int -> Option Int -> Hp -> VK -> Prop := fun x lo hi H Q => ∃ a xs, x = .ref a /\ SqT K H a xs ∧
  ¬ (HT.sIx xs.length 0 lo = 0 /\ HT.sIx xs.length xs.length hi = xs.length) /\ ∀ p, H p = none -> Q (.ref p) (upd H p (.tup (cutV xs lo hi)))
theorem sl_tup : SlR X (rSlT X.K) := by
  intro pins s σ H x v vl vu lo hi sl Q I rx hs pl pu h; obtain ⟨a, xs, rfl, hx, hw, q⟩ := h
  cases rx
  obtain ⟨its, r, ht, hz⟩ := I.tuple hx
  have hlen : its.toArray.size = xs.length := by rw [Zst]; exact r.length.symm
  refine ⟨"tuple", _, PyProof.Rows.slot_tuple_getitem.lookup, ht.typeIs, ?_⟩
  refine HT.getItem_tuple_cut ht hs pl pu (by rw [hlen]; exact hw) ?_ (by rw [hlen]; exact hz)
  rw [hlen]; refine ⟨.ref s.heap.objs.size, _, I.laid (t' := s.toks) (o := .tup (cutV xs lo hi)) (fun b ob q => Zpu _ q) (Znr _) ?_, rfl, q _ (I.hok.fresh (Znr _))⟩
  exact ⟨Znt (cutV_length xs lo hi) hz, _, (r.drop (HT.sIx xs.length 0 lo)).take (HT.sIx xs.length xs.length hi - HT.sIx xs.length 0 lo), IsTup.new _ _⟩
def rCatT (K : W.Frag) : R2 := fun x y H Q => ∃ a b xs ys, x = .ref a /\ y = .ref b /\ SqT K H a xs /\ SqT K H b ys /\ xs ≠ [] /\ xs.length + ys.length <= sizeLine ∧
  (ys = [] -> Q (.ref a) H) /\ (ys ≠ [] -> ∀ p, H p = none -> Q (.ref p) (upd H p (.tup (xs ++ ys))))
theorem Vals.nil_iff {xs : List V} {us : List Value} (r : Vals xs us) : us = [] ↔ xs = [] := by
  cases r with
  | nil => simp
  | cons _ _ => simp
theorem op_catT : OpR X (binaryOp .Add) (rCatT X.K) := by
  intro pins s σ H x y v u Q I rx ry h; obtain ⟨a, b, xs, ys, rfl, rfl, ha, hb, hx, hz, q1, q2⟩ := h
  cases rx
  cases ry
  obtain ⟨its, r1, p1, _⟩ := I.tuple ha
  obtain ⟨its2, r2, p2, _⟩ := I.tuple hb
  refine HT.cat_tup p1 p2 (fun z => hx (r1.nil_iff.mp z)) (fun z => ⟨.ref a, H, I, rfl, q1 (r2.nil_iff.mp z)⟩) (fun z => ?_) (by rw [<- r1.length, <- r2.length]; exact hz)
  refine ⟨.ref s.heap.objs.size, _, I.laid (t' := s.toks) (o := .tup (xs ++ ys)) (fun b ob q => Zpu _ q) (Znr _) ?_, rfl, q2 (fun w => z (r2.nil_iff.mpr w)) _ (I.hok.fresh (Znr _))⟩
  exact ⟨by rw [Zla]; exact hz, _, r1.append r2, IsTup.new _ _⟩
end
end L2
namespace L2
open PySem PySem.Spec PyProof.Rows
def ixN (n : Nat) (i : Int) : Option Nat := if 0 <= i then (if i < n then some i.toNat else none) else if -(n : Int) <= i then some (i + n).toNat else none
def atI {α : Type} (xs : List α) (i : Int) : Option α := (ixN xs.length i).bind fun j => xs[j]?
theorem ixN_seq {n : Nat} {i : Int} {j : Nat} (h : ixN n i = some j) : seqIndex? i n = some j /\ j < n /\ -(n : Int) <= i /\ i < n := by
  unfold ixN at h; by_cases h0 : 0 <= i
  . rw [if_pos h0] at h; by_cases h1 : i < n
    . rw [if_pos h1] at h; have e : i.toNat = j := Option.some.inj h
      exact ⟨by rw [seqIndex_of h0 h1, e], by omega, by omega, h1⟩
    . rw [if_neg h1] at h; cases h
  . rw [if_neg h0] at h; by_cases h1 : -(n : Int) <= i
    . rw [if_pos h1] at h; have e : (i + n).toNat = j := Option.some.inj h
      exact ⟨by rw [seqIndex_neg (by omega) h1, e], by omega, h1, by omega⟩
    . rw [if_neg h1] at h; cases h
theorem atI_get {α : Type} {xs : List α} {i : Int} {v : α} (h : atI xs i = some v) : ∃ j, seqIndex? i xs.length = some j /\ xs[j]? = some v /\ j < xs.length /\ -(xs.length : Int) <= i /\ i < xs.length := by
  unfold atI at h; cases e : ixN xs.length i with
  | none => rw [e] at h; cases h
  | some j =>
    rw [e] at h; obtain ⟨h1, h2, h3, h4⟩ := ixN_seq e
    exact ⟨j, h1, h, h2, h3, h4⟩
theorem atI_nat {α : Type} {xs : List α} {j : Nat} {v : α} (h : xs[j]? = some v) : atI xs (j : Int) = some v := by
  have hj : j < xs.length := (Zgs.mp h).1
  have e : ixN xs.length (j : Int) = some j := by
    unfold ixN; rw [if_pos (by omega), if_pos (by omega)]; simp
  unfold atI; rw [e]; exact h
def PlainIx (b : Expr) : Prop := ∀ o i, subscripted b false o i = operate [o, i] (getItem o i)
def IxR (X : Cx) (r : R2) : Prop :=
  ∀ (value slice : Expr) (pins : List (Addr × Obj)) (s : Shared) (σ : St) (H : Hp) (x y : V) (v u : Value) (Q : VK), Inv X pins σ H s -> RelV x v -> RelV y u -> r x y H Q →
    subscripted slice false v u = operate [v, u] (getItem v u) -> wpAny (model X.prog X.w) X.A (subscriptTail value slice v u) (EP X pins σ Q) X.xe s
def MtR (X : Cx) (id : String) (r : V -> List V -> Hp -> VK -> Prop) : Prop :=
  ∀ (pins : List (Addr × Obj)) (s : Shared) (σ : St) (H : Hp) (x : V) (xs : List V) (v : Value) (us : List Value) (Q : VK), Inv X pins σ H s -> RelV x v -> Vals xs us -> r x xs H Q →
    wpAny (model X.prog X.w) X.A (call (.builtin id) (v :: us)) (EP X pins σ Q) X.xe s
section
variable {X : Cx} {a b : Expr} {ta tb : TE} {pos : Pos}
theorem pe_ix {r : R2} (hr : IxR X r) (ha : PE X a ta) (hb : PE X b tb) (hs : PlainIx b) : PE X (.Subscript a b pos) (tOp r ta tb) := by
  intro pins s σ H Q I h; exact Subscript_ (binT ha hb I h fun v u s2 x y H2 I2 rx ry q => hr a b pins s2 σ H2 x y v u Q I2 rx ry q (hs _ _))
def rIxL (K : W.Frag) : R2 := fun x y H Q => ∃ p xs i v, x = .ref p /\ y = .int i /\ SqL K H p xs /\ atI xs i = some v /\ Q v H
def rIxT (K : W.Frag) : R2 := fun x y H Q => ∃ p xs i v, x = .ref p /\ y = .int i /\ SqT K H p xs /\ atI xs i = some v /\ Q v H
def rIxS : R2 := fun x y H Q => ∃ z i c, x = .str z /\ y = .int i /\ z.length <= sizeLine /\ atI z.cps.toList i = some c /\ Q (.str ⟨#[c]⟩) H
theorem ix_list : IxR X (rIxL X.K) := by
  intro value slice pins s σ H x y v u Q I rx ry h hs; obtain ⟨p, xs, i, z, rfl, rfl, hq, he, q⟩ := h
  cases rx
  obtain ⟨t, rfl⟩ := ry
  obtain ⟨its, r, pl, hz⟩ := I.list hq
  obtain ⟨j, h1, h2, h3, h4, h5⟩ := atI_get he
  obtain ⟨w, ew, rw'⟩ := r.get h2
  have hl := r.length
  have hn := line63
  have fin : EP X pins σ Q w s := ⟨z, H, I, rw', q⟩
  by_cases h0 : 0 <= i
  . have hj : i.toNat = j := by
      rw [seqIndex_of h0 h5] at h1; exact Option.some.inj h1
    exact item_listR pl.isList h0 (by omega) (by rw [hj]; simpa using ew) fin hs
  . have hj : (i + (its.toArray.size : Int)).toNat = j := by
      rw [seqIndex_neg (by omega) h4] at h1
      rw [Zst, <- hl]; exact Option.some.inj h1
    exact subscriptTail_builtinR (x := w) pl.isList.typeIs slot_list_getitem.lookup
      (wpAny_getItem_list_neg (Q := fun r s' => r = w /\ EP X pins σ Q r s') pl.isList (by omega) (by rw [Zst] <;> omega) (by omega) (by rw [hj]; simpa using ew) ⟨rfl, fin⟩) hs
theorem ix_tup : IxR X (rIxT X.K) := by
  intro value slice pins s σ H x y v u Q I rx ry h hs; obtain ⟨p, xs, i, z, rfl, rfl, hq, he, q⟩ := h
  cases rx
  obtain ⟨t, rfl⟩ := ry
  obtain ⟨its, r, pl, hz⟩ := I.tuple hq
  obtain ⟨j, h1, h2, h3, h4, h5⟩ := atI_get he
  obtain ⟨w, ew, rw'⟩ := r.get h2
  have hl := r.length
  have hn := line63
  have fin : EP X pins σ Q w s := ⟨z, H, I, rw', q⟩
  exact subscriptTail_builtinR (x := w) pl.typeIs slot_tuple_getitem.lookup
    (getItem_tuple (j := j) (Q := fun r s' => r = w /\ EP X pins σ Q r s') pl (by omega) (by omega) (by rw [Zst, <- hl]; exact h1) (by simpa using ew) ⟨rfl, fin⟩) hs
theorem ix_str : IxR X rIxS := by
  intro value slice pins s σ H x y v u Q I rx ry h hs; obtain ⟨z, i, c, rfl, rfl, hz, he, q⟩ := h
  obtain ⟨t, rfl⟩ := rx
  obtain ⟨t', rfl⟩ := ry
  obtain ⟨j, h1, h2, h3, h4, h5⟩ := atI_get he
  have hl : z.cps.toList.length = z.length := by simp [Str.length]
  rw [hl] at h1 h4 h5; have hn := line63
  exact tail_any (typeIs_str s z t) slot_str_getitem.lookup (getItem_str (c := c) (by
    have e1 : decide (i < -(2 ^ 63 : Int)) = false := decide_eq_false (by omega)
    have e2 : decide (i ≥ 2 ^ 63) = false := decide_eq_false (by omega)
    rw [e1, e2, Bool.or_false]) (by rw [h1]; simpa using h2) ⟨.str ⟨#[c]⟩, H, I.tok _, ⟨_, rfl⟩, q⟩) hs
theorem mapSeq_set (its : List Value) (n j : Nat) (u : Value) : Obj.mapSeq (·.setIfInBounds j u) { cls := .type "list", data := .seq its.toArray n } = { cls := .type "list", data := .seq (its.set j u).toArray n } := by
  simp [Obj.mapSeq]
theorem Inv.lst {pins : List (Addr × Obj)} {σ : St} {H : Hp} {s : Shared} {p : Addr} {xs : List V} (I : Inv X pins σ H s) (h : H p = some (.lst xs)) :
    ∃ (its : List Value) (n : Nat), Vals xs its /\ s.heap.get? p = some { cls := .type "list", data := .seq its.toArray n } /\ xs.length <= sizeLine := by
  obtain ⟨z, its, n, r, e⟩ := I.hok p _ h
  exact ⟨its, n, r, e, z⟩
theorem Inv.lstUpd {pins : List (Addr × Obj)} {σ : St} {H : Hp} {s : Shared} {p : Addr} {xs ys : List V} {its its' : List Value} {n n' : Nat} {f : Obj -> Obj} (I : Inv X pins σ H s) (h : H p = some (.lst xs))
    (ho : s.heap.get? p = some { cls := .type "list", data := .seq its.toArray n }) (hf : f { cls := .type "list", data := .seq its.toArray n } = { cls := .type "list", data := .seq its'.toArray n' }) (r : Vals ys its') (hz : ys.length <= sizeLine) (t : Nat) :
    Inv X pins σ (upd H p (.lst ys)) { s with heap := s.heap.update p f, toks := t } := by
  have e : (s.heap.update p f).get? p = some { cls := .type "list", data := .seq its'.toArray n' } := by
    rw [Heap.get?_update_self f ho (by rw [hf] <;> rfl), hf]
  refine I.write (x := p) (e := p) (by rw [h]; trivial) (.inl rfl) (fun b u hb q => (Heap.get?_update_other _ _ (Ne.symm hb)).trans q) ⟨_, e⟩ ?_
  exact ⟨hz, its', n', r, e⟩
def rSetL : V -> V -> V -> Hp -> (Hp -> Prop) -> Prop := fun o i v H Q => ∃ p xs k j, o = .ref p /\ i = .int k /\ H p = some (.lst xs) /\ ixN xs.length k = some j /\ Q (upd H p (.lst (xs.set j v)))
theorem set_list : PSet X rSetL := by
  intro pins s σ H o i v ov iv u Q I ro ri rv h; obtain ⟨p, xs, k, j, rfl, rfl, hp, hj, q⟩ := h
  cases ro
  obtain ⟨t, rfl⟩ := ri
  obtain ⟨its, n, r, ho, hz⟩ := I.lst hp
  obtain ⟨h1, h2, h3, h4⟩ := ixN_seq hj
  have hl := r.length
  have hn := line63
  have I' : Inv X pins σ (upd H p (.lst (xs.set j v))) { s with heap := s.heap.update p (Obj.mapSeq (·.setIfInBounds j u)) } :=
    I.lstUpd hp ho (mapSeq_set its n j u) (r.set rv j) (by rw [List.length_set]; exact hz) s.toks
  by_cases h0 : 0 <= k
  . have hk : k.toNat = j := by
      rw [seqIndex_of h0 h4] at h1; exact Option.some.inj h1
    exact W.ki_setAt ho h0 (by omega) (by rw [Zst, <- hl]; exact h4) (by rw [hk]; exact ⟨_, I', q⟩)
  . have hk : (k + (its.toArray.size : Int)).toNat = j := by
      rw [seqIndex_neg (by omega) h3] at h1
      rw [Zst, <- hl]; exact Option.some.inj h1
    exact W.ki_setBack ho (by omega) (by rw [Zst, <- hl]; exact h3) (by omega) (by rw [hk]; exact ⟨_, I', q⟩)
theorem slice_bounds (lo hi : Option Int) (n : Nat) : (sliceBounds lo hi none n).1 = ((HT.sIx n 0 lo : Nat) : Int) /\ (sliceBounds lo hi none n).2.1 = ((HT.sIx n n hi : Nat) : Int) /\ (sliceBounds lo hi none n).2.2 = 1 := by
  refine ⟨?_, ?_, rfl⟩
  . cases lo with
    | none => simp [sliceBounds, HT.sIx]
    | some i =>
      simp only [sliceBounds, HT.sIx, Option.getD_none, show (1 : Int) > 0 by decide, if_true]
      by_cases h : i < 0
      . simp only [h, if_true] <;> omega
      . simp only [h, if_false] <;> omega
  . cases hi with
    | none => simp [sliceBounds, HT.sIx]
    | some i =>
      simp only [sliceBounds, HT.sIx, Option.getD_none, show (1 : Int) > 0 by decide, if_true]
      by_cases h : i < 0
      . simp only [h, if_true] <;> omega
      . simp only [h, if_false] <;> omega
theorem slicePick_cut (its : List Value) (lo hi : Option Int) : slicePick its.toArray lo hi none = ((its.drop (HT.sIx its.length 0 lo)).take (HT.sIx its.length its.length hi - HT.sIx its.length 0 lo)).toArray := by
  obtain ⟨h1, h2, h3⟩ := slice_bounds lo hi its.toArray.size
  unfold slicePick; rw [h1, h2, h3]; simp only [sliceRange_one, pick_run, Zst] <;> rfl
def rSlL (K : W.Frag) : V -> Option Int -> Option Int -> Hp -> VK -> Prop := fun x lo hi H Q => ∃ a xs, x = .ref a /\ SqL K H a xs /\ ∀ p, H p = none -> Q (.ref p) (upd H p (.lst (cutV xs lo hi)))
theorem sl_list : SlR X (rSlL X.K) := by
  intro pins s σ H x v vl vu lo hi sl Q I rx hs pl pu h; obtain ⟨a, xs, rfl, hx, q⟩ := h
  cases rx
  obtain ⟨its, r, ht, hz⟩ := I.list hx
  have hlen := r.length
  refine ⟨"list", _, slot_list_getitem.lookup, ht.isList.typeIs, ?_⟩
  refine wpAny_getItem_list_slice ht.isList hs pl pu .none (by simp) ?_ (by rw [Zst] <;> omega)
  rw [slicePick_cut, <- hlen]; refine ⟨.ref s.heap.objs.size, _, I.laid (t' := s.toks) (o := .lst (cutV xs lo hi)) (fun b ob q => Zpu _ q) (Znr _) ?_, rfl, q _ (I.hok.fresh (Znr _))⟩
  exact ⟨Znt (cutV_length xs lo hi) hz, _, 0, (r.drop (HT.sIx xs.length 0 lo)).take (HT.sIx xs.length xs.length hi - HT.sIx xs.length 0 lo), Heap.get?_push_size _ rfl⟩
def flatV : V -> Bool
  | .non => true
  | .bl _ => true
  | .int _ => true
  | .str _ => true
  | _ => false
def eqV : V -> V -> Bool
  | .non, .non => true
  | .bl a, .bl b => a == b
  | .bl a, .int b => (if a then 1 else 0) == b
  | .int a, .bl b => a == (if b then 1 else 0)
  | .int a, .int b => a == b
  | .str a, .str b => a == b
  | _, _ => false
theorem eqAt_V {A : Around} {s : Shared} {y x : V} {u v : Value} (ry : RelV y u) (rx : RelV x v) (fy : flatV y = true) (fx : flatV x = true) : SeqAt.EqAt A s u v (eqV y x) := by
  cases y with
  | non =>
    cases ry
    cases x with
    | non => cases rx; exact SeqAt.EqAt.same _
    | bl b => cases rx; exact SeqAt.EqAt.none_bool b
    | int b => obtain ⟨t, rfl⟩ := rx; exact SeqAt.EqAt.none_int b t
    | str b => obtain ⟨t, rfl⟩ := rx; exact SeqAt.EqAt.none_str b t
    | _ => exact absurd (show false = true from fx) Bool.false_ne_true
  | bl a =>
    cases ry
    cases x with
    | non => cases rx; exact SeqAt.EqAt.bool_none a
    | bl b => cases rx; exact SeqAt.EqAt.bool_bool a b
    | int b => obtain ⟨t, rfl⟩ := rx; exact SeqAt.EqAt.bool_int a b t
    | str b => obtain ⟨t, rfl⟩ := rx; exact SeqAt.EqAt.bool_str a b t
    | _ => exact absurd (show false = true from fx) Bool.false_ne_true
  | int a =>
    obtain ⟨t', rfl⟩ := ry
    cases x with
    | non => cases rx; exact SeqAt.EqAt.int_none a t'
    | bl b => cases rx; exact SeqAt.EqAt.int_bool a t' b
    | int b => obtain ⟨t, rfl⟩ := rx; exact SeqAt.EqAt.int_int a t' b t
    | str b => obtain ⟨t, rfl⟩ := rx; exact SeqAt.EqAt.int_str a t' b t
    | _ => exact absurd (show false = true from fx) Bool.false_ne_true
  | str a =>
    obtain ⟨t', rfl⟩ := ry
    cases x with
    | non => cases rx; exact SeqAt.EqAt.str_none a t'
    | bl b => cases rx; exact SeqAt.EqAt.str_bool a t' b
    | int b => obtain ⟨t, rfl⟩ := rx; exact SeqAt.EqAt.str_int a t' b t
    | str b => obtain ⟨t, rfl⟩ := rx; exact SeqAt.EqAt.str_str a t' b t
    | _ => exact absurd (show false = true from fx) Bool.false_ne_true
  | _ => exact absurd (show false = true from fy) Bool.false_ne_true
def eqU (x : V) (u : Value) : Bool := match u with
  | .none => eqV .non x
  | .bool b => eqV (.bl b) x
  | .int i _ => eqV (.int i) x
  | .str z _ => eqV (.str z) x
  | _ => false
theorem eqU_of {x y : V} {u : Value} (r : RelV y u) (f : flatV y = true) : eqU x u = eqV y x := by
  cases y with
  | non => cases r; rfl
  | bl b => cases r; rfl
  | int i => obtain ⟨t, rfl⟩ := r; rfl
  | str z => obtain ⟨t, rfl⟩ := r; rfl
  | _ => exact absurd (show false = true from f) Bool.false_ne_true
theorem any_eqU {x : V} : ∀ {xs : List V} {us : List Value}, Vals xs us -> xs.all flatV = true -> us.any (eqU x) = xs.any fun y => eqV y x
  | _, _, .nil, _ => rfl
  | y :: xs, u :: us, .cons r t, f => by
    rw [List.all_cons, Bool.and_eq_true] at f; rw [List.any_cons, List.any_cons, eqU_of r f.1, any_eqU t f.2]
theorem mem_eqAt {A : Around} {s : Shared} {x : V} {v : Value} (rx : RelV x v) (fx : flatV x = true) : ∀ {xs : List V} {us : List Value}, Vals xs us -> xs.all flatV = true -> ∀ u ∈ us, SeqAt.EqAt A s u v (eqU x u)
  | _, _, .nil, _ => fun u hu => by cases hu
  | y :: xs, u :: us, .cons r t, f => fun u' hu => by
    rw [List.all_cons, Bool.and_eq_true] at f; rcases List.mem_cons.mp hu with rfl | hu
    . rw [eqU_of r f.1]; exact eqAt_V r rx f.1 fx
    . exact mem_eqAt rx fx t f.2 u' hu
def inV (x : V) (xs : List V) : Bool := xs.any fun y => eqV y x
def rIn (K : W.Frag) (neg : Bool) : R2 := fun x y H Q => ∃ p xs, y = .ref p /\ (SqL K H p xs ∨ SqT K H p xs) /\ flatV x = true /\ xs.all flatV = true /\ Q (.bl (if neg then !inV x xs else inV x xs)) H
theorem op_in_seq : OpR X (compareOp .In) (rIn X.K false) := by
  intro pins s σ H x y v u Q I rx ry h; obtain ⟨p, xs, rfl, hq, fx, fs, q⟩ := h
  cases ry
  rcases hq with hq | hq
  . obtain ⟨its, r, pl, hz⟩ := I.list hq
    refine SeqAt.in_listAt (eqU x) pl.isList (fun w hw => mem_eqAt rx fx r fs w (by simpa using hw)) ⟨.bl _, H, I, rfl, ?_⟩
    rw [show its.toArray.any (eqU x) = its.any (eqU x) by simp, any_eqU r fs]
    exact q
  . obtain ⟨its, r, pl, hz⟩ := I.tuple hq
    refine SeqAt.in_tupleAt (eqU x) pl (fun w hw => mem_eqAt rx fx r fs w (by simpa using hw)) ⟨.bl _, H, I, rfl, ?_⟩
    rw [show its.toArray.any (eqU x) = its.any (eqU x) by simp, any_eqU r fs]
    exact q
theorem op_notIn_seq : OpR X (compareOp .NotIn) (rIn X.K true) := by
  intro pins s σ H x y v u Q I rx ry h; obtain ⟨p, xs, rfl, hq, fx, fs, q⟩ := h
  cases ry
  rcases hq with hq | hq
  . obtain ⟨its, r, pl, hz⟩ := I.list hq
    refine SeqAt.notIn_listAt (eqU x) pl.isList (fun w hw => mem_eqAt rx fx r fs w (by simpa using hw)) ⟨.bl _, H, I, rfl, ?_⟩
    rw [show its.toArray.any (eqU x) = its.any (eqU x) by simp, any_eqU r fs]
    exact q
  . obtain ⟨its, r, pl, hz⟩ := I.tuple hq
    refine SeqAt.notIn_tupleAt (eqU x) pl (fun w hw => mem_eqAt rx fx r fs w (by simpa using hw)) ⟨.bl _, H, I, rfl, ?_⟩
    rw [show its.toArray.any (eqU x) = its.any (eqU x) by simp, any_eqU r fs]
    exact q
theorem op_notIn_str : OpR X (compareOp .NotIn) (fun x y H Q => ∃ i j, x = .str i /\ y = .str j /\ Q (.bl (!(!(Builtin.Str.occurrences j i 0 j.length 1).isEmpty))) H) := by
  intro pins s σ H x y v u Q I rx ry h; obtain ⟨i, j, rfl, rfl, q⟩ := h
  obtain ⟨t, rfl⟩ := rx
  obtain ⟨t', rfl⟩ := ry
  exact notIn_str ⟨.bl _, H, I, rfl, q⟩
theorem call_len_seq : CallR X (.builtin "len") (fun xs H Q => ∃ p ys, xs = [.ref p] /\ (SqL X.K H p ys ∨ SqT X.K H p ys) /\ Q (.int ys.length) H) := by
  intro pins s σ H xs us Q I r h; obtain ⟨p, ys, rfl, hq, q⟩ := h
  obtain ⟨u, rfl, rx⟩ := vals1 r
  cases rx
  have hn := line63
  rcases hq with hq | hq
  . obtain ⟨its, r', pl, hz⟩ := I.list hq
    have hlen := r'.length
    exact Calls.call_len_list pl.isList (by simp only [Zst] <;> omega) ⟨.int ys.length, H, I.tok _, ⟨s.toks + 1, by rw [Zst, hlen]⟩, q⟩
  . obtain ⟨its, r', pl, hz⟩ := I.tuple hq
    have hlen := r'.length
    exact len_tuple pl (by simp only [Zst] <;> omega) ⟨.int ys.length, H, I.tok _, ⟨s.toks + 1, by rw [Zst, hlen]⟩, q⟩
theorem call_len_str : CallR X (.builtin "len") (fun xs H Q => ∃ z, xs = [.str z] /\ z.length <= sizeLine /\ Q (.int z.length) H) := by
  intro pins s σ H xs us Q I r h; obtain ⟨z, rfl, hz, q⟩ := h
  obtain ⟨u, rfl, t, rfl⟩ := vals1 r
  have hn := line63
  exact len_str (by omega) ⟨.int z.length, H, I.tok _, ⟨_, rfl⟩, q⟩
theorem call_list_of : CallR X (.type "list") (fun xs H Q => ∃ p ys, xs = [.ref p] /\ (SqL X.K H p ys ∨ SqT X.K H p ys) /\ ∀ l, H l = none -> Q (.ref l) (upd H l (.lst ys))) := by
  intro pins s σ H xs us Q I r h; obtain ⟨p, ys, rfl, hq, q⟩ := h
  obtain ⟨u, rfl, rx⟩ := vals1 r
  cases rx
  have fin : ∀ (its : List Value), Vals ys its -> ys.length <= sizeLine -> ∀ (h' : Heap) (c' : Nat), (∀ b o', s.heap.get? b = some o' -> h'.get? b = some o') →
      h'.get? s.heap.objs.size = some { cls := .type "list", dict := none, data := .seq its.toArray c', slots := #[] } -> EP X pins σ Q (.ref s.heap.objs.size) { s with heap := h' } := fun its r' hz h' c' kp e =>
    ⟨.ref s.heap.objs.size, _, I.laid (t' := s.toks) kp (Znr _) (show ObjOk X.prog X.w _ h' _ (.lst ys) from ⟨hz, its, c', r', e⟩), rfl, q _ (I.hok.fresh (Znr _))⟩
  rcases hq with hq | hq
  . obtain ⟨its, r', pl, hz⟩ := I.list hq
    have hlen := r'.length
    obtain ⟨o, ho, hc, n, hd⟩ := pl.isList
    exact call_list_seq p (.inl rfl) ho hc hd (fun h' c' kp e => fin its r' hz h' c' kp e) (by simp only [Zst] <;> omega)
  . obtain ⟨its, r', pl, hz⟩ := I.tuple hq
    have hlen := r'.length
    obtain ⟨o, ho, hc, n, hd⟩ := pl
    exact call_list_seq p (.inr rfl) ho hc hd (fun h' c' kp e => fin its r' hz h' c' kp e) (by simp only [Zst] <;> omega)
def tyV (K : W.Frag) (T : String) (x : V) (H : Hp) : Prop := match x with
  | .str _ => T = "str"
  | .int _ => T = "int"
  | .ref p => (T = "list" /\ ∃ xs, SqL K H p xs) ∨ (T = "tuple" /\ ∃ o, K.lookup p = some o /\ o.cls = .type "tuple" /\ o.dict = none) ∨
      (T = "dict" /\ ((∃ kvs, H p = some (.dK kvs)) ∨ ∃ kvs, H p = some (.dT kvs))) ∨ (T = "set" /\ ∃ S n, H p = some (.set S n))
  | _ => False
theorem tyV_is {pins : List (Addr × Obj)} {σ : St} {H : Hp} {s : Shared} {T : String} {x : V} {v : Value} (I : Inv X pins σ H s) (r : RelV x v) (ty : tyV X.K T x H) :
    s.TypeIs v T /\ ∀ a, v = .ref a -> ∃ ob, s.heap.get? a = some ob /\ ob.dict = none := by
  cases x with
  | str z =>
    obtain ⟨t, rfl⟩ := r
    cases (show T = "str" from ty)
    exact ⟨typeIs_str s z t, fun _ e => nomatch e⟩
  | int i =>
    obtain ⟨t, rfl⟩ := r
    cases (show T = "int" from ty)
    exact ⟨typeIs_int s i t, fun _ e => nomatch e⟩
  | ref p =>
    cases r
    rcases ty with ⟨rfl, xs, hq⟩ | ⟨rfl, o, hk, hc, hd⟩ | ⟨rfl, hk⟩ | ⟨rfl, S, n, hk⟩
    . obtain ⟨its, _, pl, _⟩ := I.list hq
      refine ⟨pl.isList.typeIs, fun a e => ?_⟩
      cases e
      obtain ⟨o, n, e, c, hd, _⟩ := pl
      exact ⟨o, e, hd⟩
    . refine ⟨⟨o, I.kIn p o hk, hc⟩, fun a e => ?_⟩
      cases e
      exact ⟨o, I.kIn _ o hk, hd⟩
    . have z : ∃ o, s.heap.get? p = some o /\ o.ExactDict := by
        rcases hk with ⟨kvs, hk⟩ | ⟨kvs, hk⟩
        . obtain ⟨_, _, _, _, o, _, _, e, ex, _⟩ := I.hok p _ hk
          exact ⟨o, e, ex⟩
        . obtain ⟨_, _, _, _, o, _, _, e, ex, _⟩ := I.hok p _ hk
          exact ⟨o, e, ex⟩
      obtain ⟨o, e, ex⟩ := z
      refine ⟨⟨o, e, ex.1⟩, fun a e2 => ?_⟩
      cases e2
      exact ⟨o, e, ex.2.1⟩
    . obtain ⟨o, _, _, _, e, ex, _⟩ := I.hok p _ hk
      refine ⟨⟨o, e, ex.1⟩, fun a e2 => ?_⟩
      cases e2
      exact ⟨o, e, ex.2.1⟩
  | _ => exact False.elim ty
def tBM (K : W.Frag) (T : String) (r : V -> List V -> Hp -> VK -> Prop) (to : TE) (t : TA) : TE := fun σ H Q => to σ H fun x H1 => tyV K T x H1 /\ t σ H1 fun xs H2 => r x xs H2 Q
variable {o e : Expr} {es : List Expr} {to : TE} {t : TA} {name : Str} {apos cpos : Pos} {T id : String} {r : V -> List V -> Hp -> VK -> Prop}
theorem pe_bm (pa : PlainAttrs T) (slot : Slot T name id) (hty : typeOf (.builtin id) = pure (.type "method_descriptor")) (hm : MtR X id r) (ho : PE X o to) (ha : PA X (e :: es) t)
    (hbase : attributeBase o name X.env (eval o X.env) = eval o X.env := by rfl)
    (hfew : ((backTo cpos (starEach (e :: es) X.env)).all (fun x => !x.1) && (backToKw cpos (keywordEach [] X.env)).all (fun x => x.1.isSome)
      && decide ((e :: es).length + ([] : List Keyword).length + (if ([] : List Keyword).isEmpty then 0 else 1) < 30)) = true := by rfl)
    (hline : (apos.endLine == cpos.line) = true := by rfl) (hs : starEach (e :: es) X.env = (false, eval e X.env) :: starEach es X.env := by rfl) (hplain : (backTo cpos (starEach es X.env)).any (·.1) = false := by rfl) :
    PE X (.Call (.Attribute o name apos) (e :: es) [] cpos) (tBM X.K T r to t) := by
  intro pins s σ H Q I h; refine wpAny_Call_method_late hbase hfew hline rfl (thn (ho pins s σ H _ I h) fun v s1 ⟨x, H1, I1, r1, ty, q1⟩ => ?_)
  obtain ⟨h1, h2⟩ := tyV_is I1 r1 ty
  refine ⟨T, id, pa, slot, hty, h1, h2, ?_⟩
  have hA := ha cpos pins s1 σ H1 _ I1 q1
  rw [hs] at hA ⊢; refine Calls.callWith_builtin (by show (false || (backTo cpos (starEach es X.env)).any (·.1)) = false; rw [hplain] <;> rfl) (Calls.evalArgs_plain ?_)
  exact thn hA fun us s2 ⟨vs, H2, I2, r2, q2⟩ => hm pins s2 σ H2 x vs v us Q I2 r1 r2 q2
/- xs.append(e), list.index on a module's tuple .. are MtR facts of 06m -/
end
end L2
namespace L2
open PySem PySem.Spec PyProof.Rows
def MtM (X : Cx) (id : String) (r : V -> List V -> Hp -> VK -> Prop) : Prop :=
  ∀ (pins : List (Addr × Obj)) (s : Shared) (σ : St) (H : Hp) (x : V) (xs : List V) (v : Value) (us : List Value) (Q : VK), Inv X pins σ H s -> RelV x v -> Vals xs us -> r x xs H Q →
    wpAny (model X.prog X.w) X.A (call (.builtin id) (v :: us)) (EP X pins σ Q) X.xe s
theorem Vals.one : ∀ {x : V} {us : List Value}, Vals [x] us -> ∃ u, us = [u] /\ RelV x u
  | _, _, .cons r .nil => ⟨_, rfl, r⟩
section
variable {X : Cx} {pins : List (Addr × Obj)} {σ : St} {H : Hp} {s : Shared} {l b : Addr} {xs ys zs : List V}
theorem Inv.lset {its its' : List Value} {n : Nat} {f : Array Value -> Array Value} {t' : Nat} (I : Inv X pins σ H s) (hH : H l = some (.lst xs))
    (e : s.heap.get? l = some { cls := .type "list", data := .seq its.toArray n }) (hf : f its.toArray = its'.toArray) (hv : Vals ys its') (hz : ys.length <= sizeLine) :
    Inv X pins σ (upd H l (.lst ys)) { s with heap := s.heap.update l (Obj.mapSeq f), toks := t' } := by
  have q := PySem.IsL.update e f
  rw [hf] at q; refine I.write (x := l) (e := l) (by rw [hH]; exact trivial) (.inl rfl) (fun b' u hb hu => (Heap.get?_update_other s.heap (Obj.mapSeq f) (Ne.symm hb)).trans hu) ⟨_, q⟩ ?_
  exact ⟨hz, its', _, hv, q⟩
theorem Inv.lnew {its : List Value} {t' : Nat} (I : Inv X pins σ H s) (hv : Vals ys its) (hz : ys.length <= sizeLine) :
    Inv X pins σ (upd H s.heap.objs.size (.lst ys)) { s with heap := s.heap.push { cls := .type "list", data := .seq its.toArray }, toks := t' } :=
  I.laid (fun _ _ q => Zpu _ q) (Znr _) ⟨hz, its, 0, hv, Heap.get?_push_size _ rfl⟩
theorem Inv.fresh (I : Inv X pins σ H s) : H s.heap.objs.size = none := I.hok.fresh (Znr _)
theorem Inv.lstM (I : Inv X pins σ H s) (hH : H l = some (.lst xs)) : xs.length <= sizeLine /\ ∃ (its : List Value) (n : Nat), Vals xs its /\ xs.length = its.length /\ s.heap.get? l = some { cls := .type "list", data := .seq its.toArray n } := by
  obtain ⟨z, its, n, r, e⟩ := I.hok l _ hH
  exact ⟨z, its, n, r, r.length, e⟩
theorem notLongL {n : Nat} (h : n <= sizeLine) : Builtin.List.listTooLong n = false := by
  unfold Builtin.List.listTooLong; exact decide_eq_false (by omega)
end
section
variable {X : Cx}
def rAppend : V -> List V -> Hp -> VK -> Prop := fun x vs H Q => ∃ l xs y, x = .ref l /\ vs = [y] /\ H l = some (.lst xs) /\ xs.length < sizeLine /\ Q .non (upd H l (.lst (xs ++ [y])))
theorem mt_append : MtM X "list.append" rAppend := by
  intro pins s σ H x vs v us Q I rx rv h; obtain ⟨l, xs, y, rfl, rfl, hH, hz, q⟩ := h
  cases rx
  obtain ⟨u, rfl, ru⟩ := rv.one
  obtain ⟨z, its, n, r, hl, e⟩ := I.lstM hH
  refine call_meets F.slot_list_append ⟨_, e, rfl⟩ F.entry_list_append (F.args_list_append_2 _ _) (PySem.list_append l its.toArray n u (by rw [Zst]; omega)) ⟨e, ?_⟩
  refine ⟨.non, _, I.lset (its' := its ++ [u]) hH e (by simp) (r.append (.cons ru .nil)) ?_, rfl, q⟩
  rw [Zla, List.length_singleton]; omega
def rExtend : V -> List V -> Hp -> VK -> Prop := fun x vs H Q => ∃ l b xs zs, x = .ref l /\ vs = [.ref b] /\ H l = some (.lst xs) /\ H b = some (.lst zs) /\ xs.length + zs.length <= sizeLine /\ Q .non (upd H l (.lst (xs ++ zs)))
theorem mt_extend : MtM X "list.extend" rExtend := by
  intro pins s σ H x vs v us Q I rx rv h; obtain ⟨l, b, xs, zs, rfl, rfl, hH, hB, hz, q⟩ := h
  cases rx
  obtain ⟨u, rfl, ru⟩ := rv.one
  cases ru
  obtain ⟨z, its, n, r, hl, e⟩ := I.lstM hH
  obtain ⟨z2, its2, n2, r2, hl2, e2⟩ := I.lstM hB
  have hsz : its.toArray.size + its2.toArray.size <= sizeLine := by rw [Zst, Zst]; omega
  have hlong : ¬ (!its.toArray.isEmpty && Builtin.List.listTooLong (its.toArray.size + its2.toArray.size)) = true := by
    rw [notLongL hsz, Bool.and_false]; exact Bool.false_ne_true
  refine call_meets F.slot_list_extend ⟨_, e, rfl⟩ F.entry_list_extend (F.args_list_extend_2 _ _)
    (AutoSeq1.list_extend_list_list_0 l its.toArray n b its2.toArray n2 hlong (by rw [Zst]; omega) (by omega)) ⟨e, e2, ?_⟩
  refine ⟨.non, _, I.lset (its' := its ++ its2) hH e (by simp) (r.append r2) ?_, rfl, q⟩
  rw [Zla]; omega
def rCat : R2 := fun x y H Q => ∃ l b xs zs, x = .ref l /\ y = .ref b /\ H l = some (.lst xs) /\ H b = some (.lst zs) /\ xs.length + zs.length <= sizeLine /\ ∀ p, H p = none -> Q (.ref p) (upd H p (.lst (xs ++ zs)))
theorem op_cat : OpR X (binaryOp .Add) rCat := by
  intro pins s σ H x y v u Q I rx ry h; obtain ⟨l, b, xs, zs, rfl, rfl, hH, hB, hz, q⟩ := h
  cases rx
  cases ry
  obtain ⟨z, its, n, r, hl, e⟩ := I.lstM hH
  obtain ⟨z2, its2, n2, r2, hl2, e2⟩ := I.lstM hB
  refine PySem.P.add_list e e2 ?_ (by rw [Zst, Zst]; omega)
  have ea : its.toArray ++ its2.toArray = (its ++ its2).toArray := by simp
  rw [ea]; exact ⟨.ref _, _, I.lnew (t' := s.toks) (r.append r2) (by rw [Zla]; omega), rfl, q _ I.fresh⟩
end
end L2
namespace L2
open PySem PySem.Spec PyProof.Rows
section
variable {κ : Type} [DecidableEq κ]
def valV (kvs : List (κ × V)) (k : κ) : Option V := (kvs.find? fun kv => decide (kv.1 = k)).map (·.2)
def putK (kvs : List (κ × V)) (k : κ) (v : V) : List (κ × V) :=
  if (kvs.any fun kv => decide (kv.1 = k)) = true then kvs.map (fun kv => if kv.1 = k then (kv.1, v) else kv) else kvs ++ [(k, v)]
theorem valV_pos {p : κ × V} {r : List (κ × V)} {k : κ} (e : p.1 = k) : valV (p :: r) k = some p.2 := by simp [valV, List.find?_cons, e]
theorem valV_neg {p : κ × V} {r : List (κ × V)} {k : κ} (e : ¬ p.1 = k) : valV (p :: r) k = valV r k := by simp [valV, List.find?_cons, e]
theorem valV_any (k : κ) : ∀ kvs : List (κ × V), (kvs.any fun kv => decide (kv.1 = k)) = (valV kvs k).isSome
  | [] => rfl
  | p :: r => by
    rw [List.any_cons]; by_cases e : p.1 = k
    . simp only [valV_pos e, decide_eq_true e, Bool.true_or, Option.isSome_some]
    . rw [valV_neg e, decide_eq_false e, Bool.false_or]; exact valV_any k r
theorem valV_map (k j : κ) (y : V) : ∀ kvs : List (κ × V), valV (kvs.map fun kv => if kv.1 = k then (kv.1, y) else kv) j = (valV kvs j).map fun x => if j = k then y else x
  | [] => rfl
  | p :: r => by
    have ih := valV_map k j y r
    rw [List.map_cons]; by_cases h : p.1 = k
    . rw [if_pos h]; by_cases e : p.1 = j
      . rw [valV_pos (p := (p.1, y)) e, valV_pos e, Option.map_some, if_pos (e.symm.trans h)]
      . rw [valV_neg (p := (p.1, y)) e, valV_neg e, ih]
    . rw [if_neg h]; by_cases e : p.1 = j
      . rw [valV_pos (p := p) e, valV_pos e, Option.map_some, if_neg (fun z => h (e.trans z))]
      . rw [valV_neg (p := p) e, valV_neg e, ih]
theorem valV_snoc (k j : κ) (y : V) : ∀ kvs : List (κ × V), valV kvs k = none -> valV (kvs ++ [(k, y)]) j = if j = k then some y else valV kvs j
  | [], _ => by
    by_cases e : k = j
    . rw [if_pos e.symm]; exact valV_pos (p := (k, y)) e
    . rw [if_neg (fun z => e z.symm)]; exact valV_neg (p := (k, y)) e
  | p :: r, hn => by
    rw [List.cons_append]; have hk : ¬ p.1 = k := fun z => by rw [valV_pos z] at hn; cases hn
    rw [valV_neg hk] at hn; have ih := valV_snoc k j y r hn
    by_cases e : p.1 = j
    . rw [valV_pos e, valV_pos e, if_neg (fun z => hk (e.trans z))]
    . rw [valV_neg e, valV_neg e, ih]
theorem valV_put (kvs : List (κ × V)) (k j : κ) (y : V) : valV (putK kvs k y) j = if j = k then some y else valV kvs j := by
  unfold putK; by_cases a : (kvs.any fun kv => decide (kv.1 = k)) = true
  . rw [if_pos a, valV_map]; rw [valV_any] at a; by_cases e : j = k
    . obtain ⟨x, hx⟩ := Option.isSome_iff_exists.mp a
      rw [if_pos e, e, hx, Option.map_some, if_pos rfl]
    . rw [if_neg e]; cases valV kvs j with
      | none => rfl
      | some x => rw [Option.map_some, if_neg e]
  . rw [if_neg a]; refine valV_snoc k j y kvs ?_
    rw [valV_any] at a; cases q : valV kvs k with
    | none => rfl
    | some x => rw [q] at a; exact (a rfl).elim
theorem length_putK (kvs : List (κ × V)) (k : κ) (v : V) : (putK kvs k v).length <= kvs.length + 1 := by
  unfold putK; split
  . rw [Zlm]; omega
  . rw [Zla, Zlc, List.length_nil]; omega
theorem putK_new {kvs : List (κ × V)} {k : κ} (v : V) (h : valV kvs k = none) : putK kvs k v = kvs ++ [(k, v)] := by
  unfold putK; rw [valV_any, h]; exact if_neg (by decide)
theorem RelO.isSome_eq {o : Option V} {u : Option Value} (r : RelO o u) : o.isSome = u.isSome := by
  cases o with
  | none => cases u with
    | none => rfl
    | some _ => exact (show False from r).elim
  | some _ => cases u with
    | none => exact (show False from r).elim
    | some _ => rfl
theorem RelO.getD {o : Option V} {u : Option Value} {d : V} {d' : Value} (r : RelO o u) (rd : RelV d d') : RelV (o.getD d) (u.getD d') := by
  cases o with
  | none => cases u with
    | none => exact rd
    | some _ => exact (show False from r).elim
  | some _ => cases u with
    | none => exact (show False from r).elim
    | some _ => exact r
theorem KV.val {kvs : List (κ × V)} {vs : List (κ × Value)} (r : KV kvs vs) (k : κ) : RelO (valV kvs k) (valueAt vs k) := by
  unfold KV at r; induction r with
  | nil => exact True.intro
  | @cons p q ps qs h t ih =>
    obtain ⟨h1, h2⟩ := h
    by_cases e : p.1 = k
    . have e' : q.1 = k := h1.symm.trans e
      have b : valueAt (q :: qs) k = some q.2 := by simp [valueAt, List.find?_cons, e']
      rw [valV_pos e, b]; exact h2
    . have e' : ¬ q.1 = k := fun z => e (h1.trans z)
      have b : valueAt (q :: qs) k = valueAt qs k := by simp [valueAt, List.find?_cons, e']
      rw [valV_neg e, b]; exact ih
theorem KV.any {kvs : List (κ × V)} {vs : List (κ × Value)} (r : KV kvs vs) (k : κ) : (kvs.any fun kv => decide (kv.1 = k)) = vs.any fun kv => decide (kv.1 = k) := by
  unfold KV at r; induction r with
  | nil => rfl
  | cons h t ih => rw [List.any_cons, List.any_cons, ih, h.1]
theorem KV.repl {kvs : List (κ × V)} {vs : List (κ × Value)} (r : KV kvs vs) (k : κ) {y : V} {u : Value} (ry : RelV y u) :
    KV (kvs.map fun kv => if kv.1 = k then (kv.1, y) else kv) (vs.map fun kv => if kv.1 = k then (kv.1, u) else kv) := by
  unfold KV at r ⊢
  induction r with
  | nil => exact .nil
  | @cons p q ps qs h t ih =>
    rw [List.map_cons, List.map_cons]; refine .cons ?_ ih
    obtain ⟨h1, h2⟩ := h
    by_cases e : p.1 = k
    . rw [if_pos e, if_pos (h1.symm.trans e)]; exact ⟨h1, ry⟩
    . rw [if_neg e, if_neg (fun z => e (h1.trans z))]; exact ⟨h1, h2⟩
theorem KV.put {kvs : List (κ × V)} {vs : List (κ × Value)} (r : KV kvs vs) (k : κ) {y : V} {u : Value} (ry : RelV y u) : KV (putK kvs k y) (stored vs k u) := by
  unfold putK stored; rw [r.any k]; by_cases e : (vs.any fun kv => decide (kv.1 = k)) = true
  . rw [if_pos e, if_pos e]; exact r.repl k ry
  . rw [if_neg e, if_neg e]; exact Paired.snoc r ⟨rfl, ry⟩
end
theorem kV_is {P : Program} {w : World} {k : Key} {u : Value} (r : RelV (kV k) u) : (mixKind P w).is k u = true := by
  cases k with
  | inl i => obtain ⟨t, e⟩ := (show ∃ t, u = Value.int i t from r); subst e; exact mixKind_int P w i t
  | inr x => obtain ⟨t, e⟩ := (show ∃ t, u = Value.str x t from r); subst e; exact mixKind_str P w x t
theorem items_are {P : Program} {w : World} : ∀ {ks : List Key} {us : List Value}, Vals (ks.map kV) us -> ItemsAre (mixKind P w) ks us
  | [], _, r => by rw [List.map_nil] at r; cases r; exact .nil
  | k :: ks, _, r => by
    rw [List.map_cons] at r; cases r with
    | cons h t => exact .cons (kV_is h) (items_are t)
abbrev KT (H : Hp) : List (List Key × V) -> List (List Key × Addr × Value) -> Prop := Paired fun p q => p.1 = q.1 /\ H q.2.1 = some (.tup (p.1.map kV)) /\ RelV p.2 q.2.2
theorem KT.val {H : Hp} {kvs : List (List Key × V)} {xs : List (List Key × Addr × Value)} (r : KT H kvs xs) (k : List Key) : RelO (valV kvs k) ((atKey xs k).map (·.2)) := by
  induction r with
  | nil => exact True.intro
  | @cons p q ps qs h t ih =>
    obtain ⟨h1, _, h2⟩ := h
    by_cases e : p.1 = k
    . have e' : q.1 = k := h1.symm.trans e
      have b : atKey (q :: qs) k = some q.2 := by simp [atKey, List.find?_cons, e']
      rw [valV_pos e, b]; exact h2
    . have e' : ¬ q.1 = k := fun z => e (h1.trans z)
      have b : atKey (q :: qs) k = atKey qs k := by simp [atKey, List.find?_cons, e']
      rw [valV_neg e, b]; exact ih
section
variable {P : Program} {w : World} {H : Hp} {h : Heap} {a : Addr}
theorem rd_of {u : HO} (ok : HOk P w H h) (e : Rd H a u) : ObjOk P w H h a u := e.ok ok
theorem dk_rd {kvs : List (Key × V)} (ok : HOk P w H h) (e : Rd H a (.dK kvs)) : kvs.length <= sizeLine /\ (a == sysModules) = false /\ ∃ vs, KV kvs vs /\ h.DictOf (mixKind P w) a vs :=
  show ObjOk P w H h a (.dK kvs) from rd_of ok e
theorem dk_of {kvs : List (Key × V)} (ok : HOk P w H h) (e : H a = some (.dK kvs)) : kvs.length <= sizeLine /\ (a == sysModules) = false /\ ∃ vs, KV kvs vs /\ h.DictOf (mixKind P w) a vs := dk_rd ok (.inl e)
theorem key_of {ks : List Key} (ok : HOk P w H h) (e : H a = some (.tup (ks.map kV))) : (tupleKind (mixKind P w)).is h ks a := by
  obtain ⟨_, its, r, o, h1, h2, n, h3⟩ := (show ObjOk P w H h a (.tup (ks.map kV)) from ok a _ e)
  exact ⟨o, its.toArray, n, h1, h2, h3, by simpa using items_are r⟩
theorem dt_rd {kvs : List (List Key × V)} (ok : HOk P w H h) (e : Rd H a (.dT kvs)) : kvs.length <= sizeLine /\ (a == sysModules) = false ∧
    ∃ xs, KT H kvs xs /\ h.DictOfH (tupleKind (mixKind P w)) a xs := by
  obtain ⟨z, y, xs, r, o, es, ep, h1, h2, h3, h4, h5⟩ := (show ObjOk P w H h a (.dT kvs) from rd_of ok e)
  refine ⟨z, y, xs, r, o, es, ep, h1, h2, h3, h4, fun x hx => ?_, h5⟩
  have all : ∀ {l : List (List Key × V)} {m : List (List Key × Addr × Value)}, KT H l m -> ∀ x ∈ m, (tupleKind (mixKind P w)).is h x.1 x.2.1 := by
    intro l m q; induction q with
    | nil => intro x hx; exact nomatch hx
    | @cons p q ps qs hq t ih =>
      intro x hx; rcases List.mem_cons.mp hx with e | hx
      . subst e; exact key_of ok (by rw [<- hq.1]; exact hq.2.1)
      . exact ih x hx
  exact all r x hx
end
def DGet (H : Hp) (a : Addr) (y : V) (r : Option V) : Prop :=
  (∃ kvs k, Rd H a (.dK kvs) /\ y = kV k /\ r = valV kvs k) ∨ ∃ kvs k b, Rd H a (.dT kvs) /\ y = .ref b /\ H b = some (.tup (k.map kV)) /\ r = valV kvs k
theorem DGet.k {H : Hp} {a : Addr} {kvs : List (Key × V)} {k : Key} (e : H a = some (.dK kvs)) : DGet H a (kV k) (valV kvs k) := .inl ⟨kvs, k, .inl e, rfl, rfl⟩
section
variable {X : Cx} {pins : List (Addr × Obj)} {σ : St} {H : Hp} {s : Shared} {a : Addr} {y v : V} {u r : Value} {o : Option V} {A : Around} {E : Value -> Shared -> Prop}
theorem Inv.big (I : Inv X pins σ H s) : sysModules < s.heap.objs.size := by
  have h : mainGlobals < s.heap.objs.size := (I.mod.glob.keeps I.bk).lt
  exact Nat.lt_trans (by decide) h
theorem d_getItem {Q : Value -> Shared -> Prop} (hu : A.units + 1 < cLine) (I : Inv X pins σ H s) (g : DGet H a y (some v)) (ry : RelV y u) (h : ∀ w' s', Inv X pins σ H s' -> RelV v w' -> Q w' s') :
    wpAny (model X.prog X.w) A (getItem (.ref a) u) Q E s := by
  rcases g with ⟨kvs, k, e, ey, l⟩ | ⟨kvs, k, b, e, ey, eb, l⟩
  . subst ey; obtain ⟨z, hd, vs, rel, dd⟩ := dk_rd I.hok e
    obtain ⟨w', hw, rw'⟩ := RelO.some_of (v := v) (o := valueAt vs k) (by rw [l]; exact rel.val k)
    exact wpAny_getItem_of (kV_is ry) dd.mapOf hw (h w' _ (I.tok _) rw')
  . subst ey; cases (show u = Value.ref b from ry)
    obtain ⟨z, hd, xs, rel, dd⟩ := dt_rd I.hok e
    obtain ⟨w', hw, rw'⟩ := RelO.some_of (v := v) (o := (atKey xs k).map (·.2)) (by rw [l]; exact rel.val k)
    obtain ⟨p, hp, hp2⟩ := Option.map_eq_some_iff.mp hw
    refine wpAny_getItem_heap (tupleKind_room_in1 hu) (key_of I.hok eb) dd hp ?_
    rw [hp2]; exact h w' _ (I.tok _) rw'
theorem d_in {Q : Value -> Shared -> Prop} (hu : A.units + 1 < cLine) (I : Inv X pins σ H s) (g : DGet H a y o) (ry : RelV y u) (h : ∀ s', Inv X pins σ H s' -> Q (.bool o.isSome) s') :
    wpAny (model X.prog X.w) A (compareOp .In u (.ref a)) Q E s := by
  rcases g with ⟨kvs, k, e, ey, l⟩ | ⟨kvs, k, b, e, ey, eb, l⟩
  . subst ey; obtain ⟨z, hd, vs, rel, dd⟩ := dk_rd I.hok e
    refine wpAny_in_of (kV_is ry) hd dd.mapOf ?_
    rw [<- (rel.val k).isSome_eq, <- l]; exact h _ (I.tok _)
  . subst ey; cases (show u = Value.ref b from ry)
    obtain ⟨z, hd, xs, rel, dd⟩ := dt_rd I.hok e
    refine wpAny_in_heap (tupleKind_room_in1 hu) (key_of I.hok eb) hd dd ?_
    have q := (rel.val k).isSome_eq
    rw [Option.isSome_map] at q; rw [<- q, <- l]; exact h _ (I.tok _)
theorem d_notIn {Q : Value -> Shared -> Prop} (hu : A.units + 1 < cLine) (I : Inv X pins σ H s) (g : DGet H a y o) (ry : RelV y u) (h : ∀ s', Inv X pins σ H s' -> Q (.bool (!o.isSome)) s') :
    wpAny (model X.prog X.w) A (compareOp .NotIn u (.ref a)) Q E s := by
  rcases g with ⟨kvs, k, e, ey, l⟩ | ⟨kvs, k, b, e, ey, eb, l⟩
  . subst ey; obtain ⟨z, hd, vs, rel, dd⟩ := dk_rd I.hok e
    refine wpAny_notIn_of (kV_is ry) hd dd.mapOf ?_
    rw [<- (rel.val k).isSome_eq, <- l]; exact h _ (I.tok _)
  . subst ey; cases (show u = Value.ref b from ry)
    obtain ⟨z, hd, xs, rel, dd⟩ := dt_rd I.hok e
    refine wpAny_notIn_heap (tupleKind_room_in1 hu) (key_of I.hok eb) hd dd ?_
    have q := (rel.val k).isSome_eq
    rw [Option.isSome_map] at q; rw [<- q, <- l]; exact h _ (I.tok _)
theorem d_write {h' : Heap} {t' : Nat} {ob : HO} (I : Inv X pins σ H s) (mu : Mut (H a)) (hs : Heap.SameBut a s.heap h') (he : ∃ q, h'.get? a = some q) (new : ObjOk X.prog X.w (upd H a ob) h' a ob) :
    Inv X pins σ (upd H a ob) { s with heap := h', toks := t' } :=
  I.write (x := a) (e := a) mu (.inl rfl) (fun b q hb z => (hs.2 b hb).trans z) he new
theorem dk_new {P : Program} {w : World} {H' : Hp} {h' : Heap} {kvs : List (Key × V)} {vs : List (Key × Value)} (z : kvs.length <= sizeLine) (hd : (a == sysModules) = false) (rel : KV kvs vs) (dd : h'.DictOf (mixKind P w) a vs) :
    ObjOk P w H' h' a (.dK kvs) := ⟨z, hd, vs, rel, dd⟩
end
def NoSl (i : Expr) : Prop := ∀ ov iv, subscripted i false ov iv = operate [ov, iv] (getItem ov iv)
theorem subD_of {prog : Program} {w : World} {A : Around} {E : Value -> Shared -> Prop} {s : Shared} {env : Env} {value slice : Expr} {pos : Pos} {T id : String} {Q : Value -> Shared -> Prop}
    (hl : typeLookup (.type T) "__getitem__" = pure (some (.builtin id))) (hs : NoSl slice)
    (h : wpAny (model prog w) A (eval value env) (fun o s₁ => wpAny (model prog w) A (eval slice env) (fun i s₂ => s₂.TypeIs o T /\ wpAny (model prog w) A (getItem o i) Q E s₂) E s₁) E s) :
    wpAny (model prog w) A (eval (.Subscript value slice pos) env) Q E s := by
  refine Subscript_ (wpAny_mono h (fun o s₁ h₁ => wpAny_mono h₁ (fun i s₂ h₂ => ?_) fun _ _ x => x) fun _ _ x => x)
  obtain ⟨hT, h₂⟩ := h₂
  unfold subscriptTail; refine wpAny_bind ?_
  rw [getitemInPython_of_ne hT.not_modules]; refine wpAny_bind (wpAny_specialOf hT hl ?_)
  have fin : wpAny (model prog w) A (subscripted slice false o i) (fun r s₃ => wpAny (model prog w) A (letTemporaryGo value o r >>= fun _ => pure r) Q E s₃) E s₂ := by
    rw [hs o i]; exact wpAny_operating (wpAny_mono h₂ (fun r s₃ h₃ => wpAny_bind (wpAny_letTemporaryGo (wpAny_pure h₃))) fun _ _ x => x)
  first
    | exact wpAny_pure (wpAny_bind fin)
    | exact wpAny_bind (wpAny_pure (wpAny_bind fin))
    | exact wpAny_bind fin
theorem dict_typeIs {X : Cx} {pins : List (Addr × Obj)} {σ : St} {H : Hp} {s : Shared} {a : Addr} {y : V} {o : Option V} (I : Inv X pins σ H s) (g : DGet H a y o) : s.TypeIs (.ref a) "dict" := by
  rcases g with ⟨kvs, k, e, _, _⟩ | ⟨kvs, k, b, e, _, _, _⟩
  . obtain ⟨_, _, vs, _, dd⟩ := dk_rd I.hok e
    exact dd.typeIs
  . obtain ⟨_, _, xs, _, dd⟩ := dt_rd I.hok e
    exact dd.typeIs
def tDGet (td ty : TE) : TE := fun σ H Q => td σ H fun x H1 => ty σ H1 fun y H2 => ∃ a v, x = .ref a /\ DGet H2 a y (some v) /\ Q v H2
section
variable {X : Cx} {o i e value : Expr} {pos pos' tpos : Pos} {td ty tv : TE}
theorem pe_dget (hu : X.A.units + 1 < cLine) (ho : PE X o td) (hi : PE X i ty) (hs : NoSl i) : PE X (.Subscript o i pos) (tDGet td ty) := by
  intro pins s σ H Q I h; refine subD_of PySem.F.slot_dict_getitem.lookup hs (thn (ho pins s σ H _ I h) fun u s1 ⟨x, H1, I1, rx, q1⟩ => thn (hi pins s1 σ H1 _ I1 q1) fun iv s2 ⟨y, H2, I2, ry, a, v, ex, g, q2⟩ => ?_)
  subst ex; obtain rfl : u = Value.ref a := rx
  exact ⟨dict_typeIs I2 g, d_getItem hu I2 g ry fun w' s3 I3 rw' => ⟨v, H2, I3, rw', q2⟩⟩
end
theorem dk_empty {P : Program} {w : World} {H : Hp} (h : Heap) (hb : sysModules < h.objs.size) : ObjOk P w H (h.push { cls := .type "dict", data := .dict #[] }) h.objs.size (.dK []) :=
  ⟨Nat.zero_le _, beq_eq_false_iff_ne.mpr (Ne.symm (Nat.ne_of_lt hb)), [], .nil, Heap.DictOf.new h⟩
def tDNewK : TE := fun _ H Q => ∀ p, H p = none -> Q (.ref p) (upd H p (.dK []))
section
variable {X : Cx} {pos : Pos}
theorem pe_dnewK : PE X (.Dict [] [] pos) tDNewK := fun pins s σ H Q I h =>
  wpAny_Dict_empty ⟨.ref s.heap.objs.size, _, I.laid (a := s.heap.objs.size) (o := .dK []) (t' := s.toks) (fun _ _ q => Zpu _ q) (Znr _) (dk_empty s.heap I.big), rfl, h _ (I.hok.fresh (Znr _))⟩
end
def tPairs : List (TE × TE) -> St -> Hp -> (List (V × V) -> Hp -> Prop) -> Prop
  | [], _, H, Q => Q [] H
  | (tk, tv) :: r, σ, H, Q => tk σ H fun x H1 => tv σ H1 fun y H2 => tPairs r σ H2 fun ps H3 => Q ((x, y) :: ps) H3
abbrev VV : List (V × V) -> List (Value × Value) -> Prop := Paired fun p q => RelV p.1 q.1 /\ RelV p.2 q.2
def PPs (X : Cx) (pos : Pos) (keys : List (Option Expr)) (values : List Expr) (trs : List (TE × TE)) : Prop :=
  ∀ (pins : List (Addr × Obj)) (s : Shared) (σ : St) (H : Hp) (Q : List (V × V) -> Hp -> Prop), Inv X pins σ H s -> tPairs trs σ H Q →
    wpAny (model X.prog X.w) X.A (evalPairs (pairTrees keys values X.env pos)) (fun vs s' => ∃ ps H', Inv X pins σ H' s' /\ VV ps vs /\ Q ps H') X.xe s
theorem pps_nil {X : Cx} {pos : Pos} : PPs X pos [] [] [] := fun pins s σ H Q I h => pairTrees_nil_walk ⟨[], H, I, .nil, h⟩
theorem pps_cons {X : Cx} {pos : Pos} {k v : Expr} {ks : List (Option Expr)} {vs : List Expr} {tk tv : TE} {trs : List (TE × TE)} (hk : PE X k tk) (hv : PE X v tv) (hr : PPs X pos ks vs trs) :
    PPs X pos (some k :: ks) (v :: vs) ((tk, tv) :: trs) := fun pins s σ H Q I h =>
  pairTrees_cons_walk (thn (hk pins s σ H _ I h) fun u s1 ⟨x, H1, I1, rx, q1⟩ => thn (hv pins s1 σ H1 _ I1 q1) fun w2 s2 ⟨y, H2, I2, ry, q2⟩ =>
    thn (hr pins s2 σ H2 _ I2 q2) fun ws s3 ⟨ps, H3, I3, rel, q3⟩ => ⟨(x, y) :: ps, H3, I3, .cons ⟨rx, ry⟩ rel, q3⟩)
def mergeK (kvs more : List (Key × V)) : List (Key × V) := more.foldl (fun acc kv => putK acc kv.1 kv.2) kvs
theorem KV.merge : ∀ {more : List (Key × V)} {rs : List (Key × Value)} {kvs : List (Key × V)} {vs : List (Key × Value)}, KV more rs -> KV kvs vs -> KV (mergeK kvs more) (merged vs rs) := by
  intro more rs kvs vs r; unfold KV at r; induction r generalizing kvs vs with
  | nil => intro q; exact q
  | @cons p q ps qs h t ih =>
    intro r0; have e : KV (putK kvs p.1 p.2) (stored vs q.1 q.2) := by
      have := r0.put p.1 h.2
      rw [<- h.1]; exact this
    exact ih e
theorem length_mergeK : ∀ (more kvs : List (Key × V)), (mergeK kvs more).length <= kvs.length + more.length
  | [], kvs => by show kvs.length <= kvs.length + 0; omega
  | p :: r, kvs => by
    have h1 := length_mergeK r (putK kvs p.1 p.2)
    have h2 := length_putK kvs p.1 p.2
    show (mergeK (putK kvs p.1 p.2) r).length <= _
    rw [Zlc]; omega
theorem carries_of {P : Program} {w : World} : ∀ {kvs : List (Key × V)} {ws : List (Value × Value)}, VV (kvs.map fun kv => (kV kv.1, kv.2)) ws -> ∃ rs, Carries (mixKind P w) ws rs /\ KV kvs rs
  | [], _, r => by rw [List.map_nil] at r; cases r; exact ⟨[], True.intro, .nil⟩
  | p :: kvs, _, r => by
    rw [List.map_cons] at r; cases r with
    | @cons a b as bs h t =>
      obtain ⟨rs, c, q⟩ := carries_of (P := P) (w := w) t
      obtain ⟨b1, b2⟩ := b
      exact ⟨(p.1, b2) :: rs, ⟨kV_is h.1, rfl, c⟩, .cons ⟨rfl, h.2⟩ q⟩
def tDisp (trs : List (TE × TE)) : TE := fun σ H Q => ∀ p, H p = none -> tPairs trs σ (upd H p (.dK [])) fun ps H2 => H2 p = some (.dK []) /\ ∃ kvs : List (Key × V), ps = kvs.map (fun kv => (kV kv.1, kv.2)) /\ kvs.length <= 15 /\ Q (.ref p) (upd H2 p (.dK (mergeK [] kvs)))
theorem pe_disp {X : Cx} {pos : Pos} {keys : List (Option Expr)} {values : List Expr} {trs : List (TE × TE)} (h : PPs X pos keys values trs) (hall : keys.all (·.isSome) = true) (hl : keys.length = values.length) (h0 : keys ≠ [])
    (h15 : keys.length <= 15) : PE X (.Dict keys values pos) (tDisp trs) := by
  intro pins s σ H Q I q; have hn := I.hok.fresh (Znr s.heap.objs.size)
  have I1 := I.laid (a := s.heap.objs.size) (o := .dK []) (h' := s.heap.push { cls := .type "dict", data := .dict #[] }) (t' := s.toks) (fun _ _ q => Zpu _ q) (Znr _) (dk_empty s.heap I.big)
  refine wpAny_Dict_walk (knd := mixKind X.prog X.w) hall hl h0 h15 (thn (h pins _ σ _ _ I1 (q _ hn)) fun ws s2 ⟨ps, H2, I2, rel, e, kvs, ep, lk, q2⟩ => ?_)
  subst ep; obtain ⟨rs, c, rk⟩ := carries_of (P := X.prog) (w := X.w) rel
  obtain ⟨z, hd, vs0, r0, dd⟩ := dk_of I2.hok e
  cases r0
  refine ⟨rs, c, dd, fun h' dd' hs => ⟨.ref s.heap.objs.size, _, ?_, rfl, q2⟩⟩
  have hz : (mergeK [] kvs).length <= sizeLine := by
    have h1 := length_mergeK kvs []
    rw [List.length_nil] at h1; rw [sizeLine_eq]; omega
  have he : ∃ q, h'.get? s.heap.objs.size = some q := let ⟨q, _, _, hq, _⟩ := dd'; ⟨q, hq⟩
  exact d_write I2 (by rw [e]; exact True.intro) hs he (dk_new hz hd (rk.merge .nil) dd')
structure M2 (X : Cx) (o : Expr) (m : Str) (apos : Pos) (e f : Expr) (cpos : Pos) : Prop where
  base : attributeBase o m X.env (eval o X.env) = eval o X.env
  few : ((backTo cpos (starEach [e, f] X.env)).all (fun x => !x.1) && (backToKw cpos (keywordEach [] X.env)).all (fun x => x.1.isSome)
    && decide (([e, f] : List Expr).length + ([] : List Keyword).length + (if ([] : List Keyword).isEmpty then 0 else 1) < 30)) = true
  line : (apos.endLine == cpos.line) = true
  trees : backTo cpos (starEach [e, f] X.env) = [(false, eval e X.env), (false, eval f X.env)]
def IsD (H : Hp) (a : Addr) : Prop := (∃ kvs, Rd H a (.dK kvs)) ∨ ∃ kvs, Rd H a (.dT kvs)
theorem isD_at {X : Cx} {pins : List (Addr × Obj)} {σ : St} {H : Hp} {s : Shared} {a : Addr} (I : Inv X pins σ H s) (d : IsD H a) :
    s.TypeIs (.ref a) "dict" /\ (∀ b, Value.ref a = .ref b -> ∃ ob, s.heap.get? b = some ob /\ ob.dict = none) /\ (a == sysModules) = false := by
  rcases d with ⟨kvs, e⟩ | ⟨kvs, e⟩
  . obtain ⟨_, hd, vs, _, dd⟩ := dk_rd I.hok e
    refine ⟨dd.typeIs, fun b q => ?_, hd⟩
    cases q
    obtain ⟨ob, _, _, h1, h2, _⟩ := dd
    exact ⟨ob, h1, h2.2.1⟩
  . obtain ⟨_, hd, xs, _, dd⟩ := dt_rd I.hok e
    refine ⟨dd.typeIs, fun b q => ?_, hd⟩
    cases q
    obtain ⟨ob, _, _, h1, h2, _⟩ := dd
    exact ⟨ob, h1, h2.2.1⟩
section
variable {X : Cx} {pins : List (Addr × Obj)} {σ : St} {H : Hp} {s : Shared} {a : Addr} {y d : V} {u r : Value} {o : Option V} {A : Around} {E : Value -> Shared -> Prop}
theorem d_get2 {Q : Value -> Shared -> Prop} (hu : A.units + 1 < cLine) (I : Inv X pins σ H s) (g : DGet H a y o) (ry : RelV y u) (rd : RelV d r) (h : ∀ w' s', Inv X pins σ H s' -> RelV (o.getD d) w' -> Q w' s') :
    wpAny (model X.prog X.w) A (call (.builtin "dict.get") [.ref a, u, r]) Q E s := by
  rcases g with ⟨kvs, k, e, ey, l⟩ | ⟨kvs, k, b, e, ey, eb, l⟩
  . subst ey; obtain ⟨z, hd, vs, rel, dd⟩ := dk_rd I.hok e
    refine call_meetsIn PySem.F.slot_dict_get dd.typeIs PySem.F.entry_dict_get (PySem.F.args_dict_get_3 _ _ _) (meets_dict_get_default (mixKind X.prog X.w) a (kV_is ry) hd r) ⟨_, dd.mapOf, h _ _ (I.tok _) ?_⟩
    rw [l]; exact (rel.val k).getD rd
  . subst ey; cases (show u = Value.ref b from ry)
    obtain ⟨z, hd, xs, rel, dd⟩ := dt_rd I.hok e
    refine call_meetsIn PySem.F.slot_dict_get dd.typeIs PySem.F.entry_dict_get (PySem.F.args_dict_get_3 _ _ _) (meetsH_dict_get_default (tupleKind (mixKind X.prog X.w)) a b hd r) ⟨tupleKind_room_in1 hu, k, xs, key_of I.hok eb, dd, h _ _ (I.tok _) ?_⟩
    rw [l]; exact (rel.val k).getD rd
end
def tDGet2 (td ty tx : TE) : TE := fun σ H Q => td σ H fun x H1 => ∃ a, x = .ref a /\ IsD H1 a /\ ty σ H1 fun y H2 => tx σ H2 fun z H3 => ∃ o, DGet H3 a y o /\ Q (o.getD z) H3
section
variable {X : Cx} {o e f : Expr} {apos cpos : Pos} {td ty tx : TE}
theorem pe_dget2 (hu : X.A.units + 1 < cLine) (ho : PE X o td) (he : PE X e ty) (hf : PE X f tx) (m : M2 X o "get" apos e f cpos) : PE X (.Call (.Attribute o "get" apos) [e, f] [] cpos) (tDGet2 td ty tx) := by
  intro pins s σ H Q I h; refine wpAny_Call_method m.base m.few m.line PySem.F.plainAttrs_dict PySem.F.slot_dict_get PySem.F.type_dict_get (thn (ho pins s σ H _ I h) fun u s1 ⟨x, H1, I1, rx, a, ex, d, q1⟩ => ?_)
  subst ex; obtain rfl : u = Value.ref a := rx
  obtain ⟨t1, t2, _⟩ := isD_at I1 d
  refine ⟨t1, t2, ?_⟩
  rw [m.trees]; refine Calls.callWith_builtin rfl (Calls.evalArgs_plain (Calls.spliced_cons (thn (he pins s1 σ H1 _ I1 q1) fun iv s2 ⟨y, H2, I2, ry, q2⟩ =>
    Calls.spliced_cons (thn (hf pins s2 σ H2 _ I2 q2) fun fv s3 ⟨z, H3, I3, rz, ov, g, q3⟩ => Calls.spliced_nil ?_))))
  exact d_get2 hu I3 g ry rz fun w' s4 I4 rw' => ⟨_, H3, I4, rw', q3⟩
end
end L2
namespace Att
open PySem PySem.W PySem.Calls PyProof.Rows
theorem ints_of_wellAll {P : Params} {h : Heap} : ∀ (ns : List Int) (vs : List Value), WellAll P h vs (ns.map WData.int) -> IntsAre vs ns := by
  intro ns; induction ns with
  | nil =>
    intro vs w; rw [List.map_nil] at w; cases w
    exact .nil
  | cons n ns ih =>
    intro vs w; rw [List.map_cons] at w; cases w with
    | cons a b =>
      cases a
      exact .cons _ _ (ih _ b)
theorem script_of {l : OpenLaw} {n : Nat} (hn : l.most = some n) {P : Params} {h : Heap} {args : List WData} {vals : List Value}
    (hpre : l.row.toRowW.claim.pre args = true) (hwl : WellAll P h vals args) :
    ∃ a vs ns, vals = [Value.ref a] /\ args = [WData.list (ns.map WData.int)] /\ h.get? a = some { cls := .type "list", data := .seq vs.toArray } /\ IntsAre vs ns /\ ns.length <= n := by
  have hsh : WShape.hasAll [] args [.list .int] = true := (pre_splitW hpre).1
  have hc : l.pre.holds [] { args := args } = true := (pre_splitW hpre).2
  obtain ⟨d, r, rfl, h1, h2⟩ := hasAllW_cons hsh
  obtain rfl := hasAllW_nil h2
  obtain ⟨xs, rfl, h3⟩ := hasW_list h1
  obtain ⟨ns, rfl⟩ := items_int h3
  have hlen : ns.length <= n := by
    unfold OpenLaw.pre at hc; have h4 : (WTm.not (.lt (.lit (.int (n : Int))) (.len (.arg 0)))).holds [] { args := [.list (ns.map .int)] } = true := by
      have h4 := (holds_andW hc).1
      rw [hn] at h4; exact h4
    have h5 := condW_of h4 (w_not (w_lt w_lit (w_len_list (w_arg rfl))))
    rw [Zlm] at h5; refine Nat.le_of_not_lt fun q => ?_
    have q' : (n : Int) < ((ns.length : Nat) : Int) := by omega
    first
      | (rw [decide_eq_true q'] at h5; exact absurd h5 (by decide))
      | (simp at h5; omega)
  cases hwl with
  | cons w1 w2 =>
    cases w2
    cases w1 with
    | list ho hall => exact ⟨_, _, ns, rfl, rfl, ho, ints_of_wellAll ns _ hall, hlen⟩
theorem post_true (l : OpenLaw) (args : List WData) : l.row.toRowW.claim.post args (.bool true) args = true :=
  postW_of (r := l.row.toRowW) (X := (true == true))
    (show WShape.has [] (.bool true) .bool = true by first | rfl | decide | simp [WShape.has, WShape.arms, WShape.armsAll])
    (show (WTm.eq .res (.lit (.bool true))).value [] { args := args, res := some (.bool true), after := args } = some (.bool (true == true)) from w_eq_bool (w_res rfl) w_lit) rfl
theorem attach_call {l : OpenLaw} {n : Nat} {q : Program} {loose : List Str} {XP : (Str -> Option Value) -> Heap -> Prop} {YP : World -> Heap -> Prop} {d : DefRec}
    (hn : l.most = some n) (hdf : d.params.defaults = [])
    (call : ∀ (w : World) (s₀ s₁ : Shared) (mg mb : Str -> Option Value) (fa : Addr) (o : Obj) (pm cd doc : Value) (a : Addr) (vs : List Value) (ns : List Int),
      Ground q loose [] XP w s₀ mg mb s₁.heap -> YP w s₁.heap →
      s₁.heap.get? fa = some o -> o.data = .func (docDef d.name d.params d.body d.scope pm cd doc) -> s₁.heap.CodeRec cd d.name -> mg d.name = some (.ref fa) →
      s₁.heap.get? a = some { cls := .type "list", data := .seq vs.toArray } -> IntsAre vs ns -> ns.length <= n -> s₁.gens = #[] →
      codeAny (model l.prog w) callerA (.call (.ref fa) ⟨[.ref a], []⟩) (fun r s' => r = .ok (.ret (.bool true)) /\ OldK s₁.heap s'.heap /\ s'.os = s₁.os /\ AllBare s'.gens) s₁) :
    WalkO q loose XP YP l.row.toRowW d [] (fun f vs => PySem.call f vs) := by
  intro w s₀ s₁ mg mb G Y fa o pm cd doc dV kV ho hd hcd hD hmg hg args vals as hpre hlay hrd hwl hlo; obtain rfl : dV = .none := Dflts.none hD hdf
  obtain rfl : kV = .none := Dflts.noKw hD
  obtain ⟨a, vs, ns, rfl, rfl, hobj, hints, hlen⟩ := script_of hn hpre hwl
  refine enter_call (codeAny_mono (call w s₀ s₁ mg mb fa o pm cd doc a vs ns G Y ho (fd_plain hd) hcd hmg hobj hints hlen hg) fun r s' hq => ?_)
  obtain ⟨rfl, h2, h3, h4⟩ := hq
  exact ⟨.inl ⟨.bool true, .bool true, [], rfl, fun _ => rfl, .bool true, post_true l _, fun _ => ⟨List.Pairwise.nil, fun _ hm => (nomatch hm)⟩⟩, h2, h3, h4⟩
end Att
namespace L2
open PySem PySem.Spec PyProof.Rows
theorem vals_ints : ∀ {vs : List Value} {ns : List Int}, IntsAre vs ns -> Vals (ns.map V.int) vs
  | _, _, .nil => .nil
  | _, _, .cons n t h => .cons ⟨t, rfl⟩ (vals_ints h)
def Only (H : Hp) : Prop := ∀ b, H b = none ∨ ∃ o xs, H b = some (.frz o (.lst xs))
theorem law_call {P : Program} {w : World} {K : W.Frag} {mg mb : Str -> Option Value} {CX : CXT} {k : Nat} {fa a : Addr} {fd : FuncData} {x : Str} {sp : Sp} {s₁ : Shared} {vs : List Value} {ns : List Int}
    (KX : K.In s₁.heap) (hns : s₁.heap.Ns mainGlobals mg) (hb : s₁.heap.Ns builtinsNs mb) (hbb : ∀ x : Str, x ≠ "__name__" -> mb x = bootBuiltins x) (hlim : s₁.heap.NoLimit) (hg : s₁.gens = #[])
    (ha : s₁.heap.get? a = some { cls := .type "list", data := .seq vs.toArray }) (hi : IntsAre vs ns) (hl : ns.length <= sizeLine) (hr : Room k callerA)
    (F : ∀ base : Heap, K.In base -> base.Ns mainGlobals mg -> FnOk P w K mg base CX k fa fd [x] sp) (hbind : ∀ (s : Shared) (u : Value), BindsTo s fd ⟨[u], []⟩ [(x, u)])
    (hsp : ∀ H : Hp, Only H -> SqL K H a (ns.map V.int) -> sp [.ref a] H (fun v _ => v = .bl true) fun _ _ _ => False)
    (hCX : ∀ H e s', CX [] H s₁ (fun _ _ _ => False) e s' -> False) :
    codeAny (model P w) callerA (.call (.ref fa) ⟨[.ref a], []⟩) (fun r s' => r = .ok (.ret (.bool true)) /\ OldK s₁.heap s'.heap /\ s'.os = s₁.os /\ AllBare s'.gens) s₁ := by
  have rv := vals_ints hi
  have lenV := hi.length
  have core : ∀ H : Hp, Only H -> SqL K H a (ns.map V.int) -> HOk P w H s₁.heap -> (∀ b, H b ≠ none -> b = a) -> (H a ≠ none -> K.lookup a = none) →
      codeAny (model P w) callerA (.call (.ref fa) ⟨[.ref a], []⟩) (fun r s' => r = .ok (.ret (.bool true)) /\ OldK s₁.heap s'.heap /\ s'.os = s₁.os /\ AllBare s'.gens) s₁ := by
    intro H hO hS hok hA hK; have base_of : ∀ {b : Addr} {o : Obj}, s₁.heap.get? b = some o -> H b = none -> (hidT s₁.heap H).get? b = some o := fun e n => hidT_get e n
    have noA : ∀ {b : Addr} {o : Obj} {es : Array DictEntry} {ep : Nat}, s₁.heap.get? b = some o -> o.data = .dict es ep -> H b = none := fun {b o es ep} e d => by
      cases q : H b with
      | none => rfl
      | some u =>
        have e' : b = a := hA b (by rw [q]; simp)
        subst e'; rw [ha] at e; cases e
        have d' : Data.seq vs.toArray _ = Data.dict es ep := d
        cases d'
    have nsK : ∀ {b : Addr} {m : Str -> Option Value}, s₁.heap.Ns b m -> (hidT s₁.heap H).Ns b m := fun {b m} ⟨o, es, ep, e, d, r⟩ => ⟨o, es, ep, base_of e (noA e d), d, r⟩
    have hKb : K.In (hidT s₁.heap H) := fun b o e => base_of (KX b o e) (by
      cases q : H b with
      | none => rfl
      | some u =>
        have e' : b = a := hA b (by rw [q]; simp)
        subst e'; rw [hK (by rw [q]; simp)] at e; cases e)
    have hM : Mod K mg (hidT s₁.heap H) := ⟨hKb, nsK hns, ⟨mb, nsK hb, hbb⟩, let ⟨mc, h1, h2⟩ := hlim; ⟨mc, nsK h1, h2⟩⟩
    have e0 : Env0 P w K mg (hidT s₁.heap H) callerA [] s₁ H := ⟨rfl, hM, fun b o e => of_hidT e, Nat.le_of_eq (hidT_size _ _), trivial, fun b hb => absurd (show b ∈ ([] : List Addr) from hb) (by simp), hok, .of_eq hg⟩
    refine codeAny_mono ((F _ hKb (nsK hns)).run callerA [] s₁ H ⟨[.ref a], []⟩ [.ref a] [.ref a] _ _ hr e0 (hbind s₁ (.ref a)) (.cons rfl .nil) (hsp H hO hS)) fun r s' h => ?_
    cases r with
    | error e => exact (hCX H e s' h).elim
    | ok fl =>
      cases fl with
      | next => exact False.elim h
      | brk => exact False.elim h
      | cont => exact False.elim h
      | ret u =>
        obtain ⟨v, H', os, bare, un, hok', r', q⟩ := h
        have q' : v = .bl true := q
        subst q'; obtain rfl : u = Value.bool true := r'
        refine ⟨rfl, OldK.of_keep fun b o e => ?_, os, bare⟩
        cases q : H b with
        | none => exact un.keep b o e q (by intro z; exact absurd (show b ∈ ([] : List Addr) from z) (by simp)) (by simp)
        | some u =>
          rcases hO b with z | ⟨ob, xs, z⟩
          . rw [q] at z; cases z
          . have z2 := un.frzs b ob _ z
            obtain ⟨e1, _⟩ := hok b _ z
            obtain ⟨e2, _⟩ := hok' b _ z2
            rw [e] at e1; cases e1
            exact e2
  cases hk : K.lookup a with
  | some o =>
    have e := KX a o hk
    rw [ha] at e; cases e
    refine core (fun _ => none) (fun _ => .inl rfl) (.inr ⟨_, vs.toArray, _, hk, rfl, rfl, rfl, by rw [Zst, lenV]; exact hl, by simpa using rv⟩) (fun b u z => by have z' : (none : Option HO) = some u := z; cases z') (fun b z => absurd rfl z) fun z => absurd rfl z
  | none =>
    refine core (fun b => if b = a then some (.frz { cls := .type "list", data := .seq vs.toArray } (.lst (ns.map V.int))) else none) (fun b => ?_) (.inl (.inr ⟨{ cls := .type "list", data := .seq vs.toArray }, if_pos rfl⟩)) (fun b u z => ?_) (fun b z => ?_) fun _ => hk
    . by_cases hb : b = a
      . exact .inr ⟨_, _, if_pos hb⟩
      . exact .inl (if_neg hb)
    . by_cases hb : b = a
      . have z' := (if_pos hb).symm.trans z
        cases z'
        subst hb; exact ⟨ha, by rw [Zlm]; exact hl, vs, _, rv, ha⟩
      . have z' := (if_neg hb).symm.trans z
        cases z'
    . by_cases hb : b = a
      . exact hb
      . exact absurd (if_neg hb) z
end L2
namespace L2
open PySem PySem.Spec PyProof.Rows
theorem walk_of {l : W.OpenLaw} {n k : Nat} {q : Program} {loose : List Str} {XP : (Str -> Option Value) -> Heap -> Prop} {YP : World -> Heap -> Prop} {d : DefRec} {K : Params -> W.Frag} {CX : World -> CXT} {sp : World -> Sp} {x : Str}
    (hn : l.most = some n) (hn2 : n <= sizeLine) (hdf : d.params.defaults = []) (hr : Room k callerA)
    (hY : ∀ (w : World) (h : Heap), YP w h -> (K w.params).In h)
    (F : ∀ (w : World) (mg : Str -> Option Value) (fa : Addr) (h : Heap), (K w.params).In h -> h.Ns mainGlobals mg -> mg d.name = some (.ref fa) →
      ∃ fd : FuncData, (∀ (s : Shared) (u : Value), BindsTo s fd ⟨[u], []⟩ [(x, u)]) ∧
        ∀ base : Heap, (K w.params).In base -> base.Ns mainGlobals mg -> FnOk l.prog w (K w.params) mg base (CX w) k fa fd [x] (sp w))
    (hsp : ∀ (w : World) (H : Hp) (a : Addr) (ns : List Int), ns.length <= n -> Only H -> SqL (K w.params) H a (ns.map V.int) -> sp w [.ref a] H (fun v _ => v = .bl true) fun _ _ _ => False)
    (hCX : ∀ (w : World) (H : Hp) (s : Shared) (e : Value) (s' : Shared), CX w [] H s (fun _ _ _ => False) e s' -> False) :
    W.WalkO q loose XP YP l.row.toRowW d [] (fun f vs => PySem.call f vs) := by
  refine Att.attach_call hn hdf fun w s₀ s₁ mg mb fa o pm cd doc a vs ns G Y ho hd hcd hmg hobj hints hlen hg => ?_
  have KX := hY w _ Y
  obtain ⟨fd, hb, hF⟩ := F w mg fa _ KX G.T.g hmg
  exact law_call KX G.T.g G.T.b G.T.builtins G.T.nolimit hg hobj hints (Znt hlen hn2) hr hF hb (fun H hO hS => hsp w H a ns hlen hO hS) fun H e s' => hCX w H s₁ e s'
end L2
/- THE LAST THEOREM (shape; LID, My.* are yours):
   My.Adr: a structure of the addresses that your layer names (classes, functions); My.Txt K t: a structure (Prop) of the equations over K;
   My.txt_mk : {K} {implicit addresses ..} (e1 : nsIn K mainGlobals "law" = some (some (.ref f))) (e2 : K.lookup f = some ⟨oc, od, .func (fnOf "law" "law" params body scope dV kV doc pm an cdv ct), sl⟩) (e3 : codeIn K cdv "law" = true) .. : ∃ t, My.Txt K t
set_option maxRecDepth 100000 in
set_option maxHeartbeats 0 in
theorem PySem.Challenge.cw_LID_holds : PySem.Challenge.rw_LID.Holds := by
  w_on; o_law; k_head; (case hw => w_witness2)
  k_fill
  refine L2.walk_of (l := PySem.Challenge.rw_LID) (n := 63) (k := 40) (x := "script") (CX := fun w => ..) (sp := fun _ => My.sp_law) rfl (by decide) rfl ⟨rfl, by decide, by decide⟩ (fun w h Y => W.kIn_of Y) ?F ?S ?C
  case F =>
    intro w mg fa h KX G hmg; have T : ∃ t, My.Txt (L2.KOf KX) t := by
      dsimp only [L2.KOf]                          -- K must stand as «<heap const> w.params» for k_is
      refine' My.txt_mk ?e1 ?e2 ?e3 ..
      (case e1 => W.k_is)                    -- in the order: a name -> its address -> its object -> its parts
      (case e2 => W.k_is)
      ..
    obtain ⟨t, T⟩ := T
    have e0 := hmg.symm.trans (W.mg_of KX G T.law)
    cases e0                                       -- fa is the law's own address
    exact ⟨_, fun s u => .of_eq rfl, fun base kb nb => My.law_fn T kb nb⟩     -- if «.of_eq rfl» comes too early: refine' ⟨_, ?b, fun base kb nb => My.law_fn T kb nb⟩; exact fun s u => .of_eq rfl
  case S => exact fun w H a ns hl hO hS => ..
  case C => exact ..
(the tactic k_is has no namespace: write k_is) -/
namespace L2
open PySem PySem.Spec PyProof.Rows
def defArgs (s : Stmt) : Arguments := match s with
  | .FunctionDef _ a _ _ _ _ _ _ _ _ => a
  | _ => { posonlyargs := [], args := [], vararg := none, kwonlyargs := [], kw_defaults := [], kwarg := none, defaults := [] }
def defBody (s : Stmt) : List Stmt := match s with
  | .FunctionDef _ _ b _ _ _ _ _ _ _ => b
  | _ => []
def defScope (s : Stmt) : Scope := match s with
  | .FunctionDef _ _ _ _ _ _ sc _ _ _ => sc
  | _ => { kind := .function, names := [], isGenerator := false, isCoroutine := false }
abbrev CX0 : CXT := fun _ _ _ _ _ _ => False
abbrev E0 : XK := fun _ _ _ => False
theorem pass0 {X : Cx} : Passes CX0 X E0 := fun _ _ _ _ _ _ _ h => h.elim
structure Fun (K : W.Frag) (x qual : Str) (st : Stmt) (f : Addr) (fd : FuncData) : Prop where
  ex : ∃ (oc : Value) (od : Option Addr) (kV doc pm : Value) (an : Option Addr) (cdv ct : Value) (osl : Array (Option Value)),
    fd = W.fnOf x qual (defArgs st) (defBody st) (defScope st) .none kV doc pm an cdv ct /\ K.lookup f = some ⟨oc, od, .func fd, osl⟩ /\ W.codeIn K cdv qual = true
  kp : W.keepIn K (.ref f) = true
section
variable {P : Program} {w : World} {K : W.Frag} {mg : Str -> Option Value} {base : Heap}
theorem Fun.ok {x qual : Str} {st : Stmt} {f : Addr} {fd : FuncData} {N ps : List Str} {k : Nat} {sp : Sp} (F : Fun K x qual st f fd) (S : FnScope N ps (defScope st)) (len : ∀ vs H Q E, sp vs H Q E -> vs.length = ps.length)
    (hbody : ∀ (cdv : Value) (A : Around) (outer : List Env) (s : Shared) (H : Hp) (vs : List V) (Q : VK) (E : XK), Room k (A.deeper (envOfC qual (defScope st) s.heap.objs.size f cdv)) -> sp vs H Q E →
      ∃ t, PSs (cxOf CX0 P w K mg base N qual (defScope st) f cdv A outer s H E).nox (defBody st) t /\ t { nx := fun _ H' => Q .non H', rt := Q } (start N vs) H) : FnOk P w K mg base CX0 (k + 1) f fd ps sp := by
  obtain ⟨oc, od, kV, doc, pm, an, cdv, ct, osl, rfl, lk, hcd⟩ := F.ex
  refine fn_of lk hcd S len fun A outer s H vs Q E hr hsp => ?_
  obtain ⟨t, h, q⟩ := hbody cdv A outer s H vs Q E hr hsp
  exact ⟨t, h.nox, q⟩
theorem Fun.binds {x qual : Str} {st : Stmt} {f : Addr} {fd : FuncData} {ps : List Str} (F : Fun K x qual st f fd)
    (h : ∀ (kV doc pm : Value) (an : Option Addr) (cdv ct : Value) (us : List Value), us.length = ps.length -> bindArgs (W.fnOf x qual (defArgs st) (defBody st) (defScope st) .none kV doc pm an cdv ct) ⟨us, []⟩ = pure (ps.zip us)) : Binds K fd ps [] := by
  obtain ⟨oc, od, kV, doc, pm, an, cdv, ct, osl, rfl, lk, hcd⟩ := F.ex
  exact .all (h kV doc pm an cdv ct)
theorem fun_mk {x qual : Str} {st : Stmt} {f : Addr} {oc : Value} {od an : Option Addr} {osl : Array (Option Value)} {kV doc pm cdv ct : Value} (l : K.lookup f = some ⟨oc, od, .func (W.fnOf x qual (defArgs st) (defBody st) (defScope st) .none kV doc pm an cdv ct), osl⟩)
    (c : W.codeIn K cdv qual = true) (k : W.keepIn K (.ref f) = true) : Fun K x qual st f (W.fnOf x qual (defArgs st) (defBody st) (defScope st) .none kV doc pm an cdv ct) := ⟨⟨oc, od, kV, doc, pm, an, cdv, ct, osl, rfl, l, c⟩, k⟩
end
theorem hu_of {A : Around} {k : Nat} (hr : Room k A) : A.units + 1 < cLine := Znl (Nat.add_le_add_left (by decide : 1 <= 64) _) hr.units
def Same (H H' : Hp) : Prop := ∀ b o, H b = some o -> H' b = some o
theorem Same.refl (H : Hp) : Same H H := fun _ _ h => h
theorem Same.trans {H H1 H2 : Hp} (a : Same H H1) (b : Same H1 H2) : Same H H2 := fun c o h => b c o (a c o h)
theorem Same.free {H H' : Hp} (e : Same H H') {l : Addr} (h : H' l = Option.none) : H l = Option.none := by
  cases q : H l with
  | none => rfl
  | some o =>
    rw [e l o q] at h; cases h
end L2
namespace L2
open PySem PySem.Spec PyProof.Rows
def clOf (env : Env) : List (Str × NameKind) -> List (Str × Addr) -> List (Str × Addr)
  | [], cs => cs
  | (n, k) :: r, cs => clOf env r (if k = .free then (match env.cells.lookup n with | some c => (n, c) :: cs | none => cs) else cs)
theorem closure_go {env : Env} : ∀ (names : List (Str × NameKind)) (cs : List (Str × Addr)), (∀ x ∈ names, x.2 = .free -> ∃ c, env.cells.lookup x.1 = some c) →
    (forIn names cs fun (x : Str × NameKind) (r : List (Str × Addr)) => (do
      if x.2 == .free then do
        let c ← cellOf env x.1
        pure (ForInStep.yield ((x.1, c) :: r))
      else pure (ForInStep.yield r) : Sem _)) = pure (clOf env names cs)
  | [], cs, _ => rfl
  | (n, k) :: r, cs, h => by
    rw [List.forIn_cons]; by_cases hk : k = .free
    . subst hk; obtain ⟨c, hc⟩ := h (n, .free) Zcs rfl
      have hc' : env.cells.lookup n = some c := hc
      have e1 : cellOf env n = pure c := by unfold cellOf; rw [hc']
      simp only [beq_self_eq_true, if_true, e1, pure_bind]
      rw [closure_go r ((n, c) :: cs) fun x hx => h x (Zmc _ hx)]
      simp [clOf, hc']
    . have hb : (k == NameKind.free) = false := by simpa using hk
      simp only [hb, Bool.false_eq_true, if_false, pure_bind]
      rw [closure_go r cs fun x hx => h x (Zmc _ hx)]
      simp [clOf, hk]
theorem closure_ok {scope : Scope} {env : Env} (h : ∀ x ∈ scope.names, x.2 = .free -> ∃ c, env.cells.lookup x.1 = some c) : closureFor scope env = pure (clOf env scope.names []) := by
  have e := closure_go scope.names [] h
  unfold closureFor; exact (congrArg (fun z => z >>= fun (r : List (Str × Addr)) => (pure r : Sem _)) e).trans (pure_bind _ _)
theorem cl_sound {env : Env} : ∀ (names : List (Str × NameKind)) (cs : List (Str × Addr)), (∀ y d, (y, d) ∈ cs -> env.cells.lookup y = some d) -> ∀ y d, (y, d) ∈ clOf env names cs -> env.cells.lookup y = some d
  | [], _, h => h
  | (n, k) :: r, cs, h => by
    unfold clOf; refine cl_sound r _ fun y d hm => ?_
    split at hm
    . split at hm
      . rename_i c hc
        rcases List.mem_cons.mp hm with e | e
        . cases e; exact hc
        . exact h y d e
      . exact h y d hm
    . exact h y d hm
theorem cl_from {env : Env} : ∀ (names : List (Str × NameKind)) (cs : List (Str × Addr)) (y : Str) (d : Addr), (y, d) ∈ clOf env names cs -> (y, .free) ∈ names ∨ (y, d) ∈ cs
  | [], _, _, _, h => .inr h
  | (n, k) :: r, cs, y, d, h => by
    unfold clOf at h; rcases cl_from r _ y d h with e | hm
    . exact .inl (Zmc _ e)
    . split at hm
      . rename_i hk
        split at hm
        . rcases List.mem_cons.mp hm with e | e
          . cases e; subst hk; exact .inl Zcs
          . exact .inr e
        . exact .inr hm
      . exact .inr hm
theorem cl_has {env : Env} : ∀ (names : List (Str × NameKind)) (cs : List (Str × Addr)) (y : Str), ((∃ d, (y, d) ∈ cs) ∨ (y, .free) ∈ names) -> (∀ x ∈ names, x.2 = .free -> ∃ c, env.cells.lookup x.1 = some c) -> ∃ d, (y, d) ∈ clOf env names cs
  | [], _, _, h, _ => by
    rcases h with h | h
    . exact h
    . cases h
  | (n, k) :: r, cs, y, h, hf => by
    unfold clOf; refine cl_has r _ y ?_ fun x hx => hf x (Zmc _ hx)
    rcases h with ⟨d, hd⟩ | h
    . refine .inl ⟨d, ?_⟩
      split
      . split
        . exact Zmc _ hd
        . exact hd
      . exact hd
    . rcases List.mem_cons.mp h with e | e
      . have e1 : y = n := congrArg Prod.fst e
        have e2 : NameKind.free = k := congrArg Prod.snd e
        subst e1 e2; obtain ⟨c, hc⟩ := hf (y, .free) Zcs rfl
        have hc' : env.cells.lookup y = some c := hc
        refine .inl ⟨c, ?_⟩
        rw [if_pos rfl, hc']; exact Zcs
      . exact .inr e
theorem mem_lookup {α : Type} : ∀ {l : List (Str × α)} {y : Str} {d : α}, (y, d) ∈ l -> ∃ d', l.lookup y = some d' /\ (y, d') ∈ l
  | (n, c) :: r, y, d, h => by
    by_cases e : y = n
    . subst e; exact ⟨c, by simp [List.lookup_cons], Zcs⟩
    . rcases List.mem_cons.mp h with q | q
      . cases q; exact absurd rfl e
      . obtain ⟨d', h1, h2⟩ := mem_lookup q
        have hb : (y == n) = false := by simpa using e
        exact ⟨d', by rw [List.lookup_cons, hb]; exact h1, Zmc _ h2⟩
theorem cl_lookup {env : Env} {names : List (Str × NameKind)} {y : Str} {c : Addr} (h : (clOf env names []).lookup y = some c) : env.cells.lookup y = some c /\ (y, .free) ∈ names := by
  have hm := PySem.mem_of_lookup h
  refine ⟨cl_sound names [] (fun _ _ z => nomatch z) y c hm, ?_⟩
  rcases cl_from names [] y c hm with e | e
  . exact e
  . cases e
theorem cl_some {env : Env} {names : List (Str × NameKind)} {y : Str} (h : (y, .free) ∈ names) (hf : ∀ x ∈ names, x.2 = .free -> ∃ c, env.cells.lookup x.1 = some c) : ∃ c, (clOf env names []).lookup y = some c /\ env.cells.lookup y = some c := by
  obtain ⟨d, hd⟩ := cl_has names [] y (.inr h) hf
  obtain ⟨c, hc, _⟩ := mem_lookup hd
  exact ⟨c, hc, (cl_lookup hc).1⟩
theorem relabel_free {scope : Scope} {env : Env} (hcell : ∀ y ∈ scope.names, y.2 ≠ .cell) {x : Str} (h : (relabel scope env).names.lookup x = some .cell ∨ (relabel scope env).names.lookup x = some .free) : (x, .free) ∈ scope.names := by
  have go : ∀ {k : NameKind}, k = .cell ∨ k = .free -> (relabel scope env).names.lookup x = some k -> (x, .free) ∈ scope.names := fun {k} hk h => by
    have hm := PySem.mem_of_lookup h
    unfold relabel at hm; obtain ⟨⟨n, j⟩, hp, e⟩ := Zmm.mp hm
    dsimp only at e
    split at e
    . rename_i hc
      cases e
      have : j = .free := by
        have := (Bool.and_eq_true_iff.mp (Bool.and_eq_true_iff.mp hc).1).1
        simpa using this
      subst this; exact hp
    . cases e
      rcases hk with q | q
      . exact absurd q (hcell _ hp)
      . subst q; exact hp
  rcases h with h | h
  . exact go (.inl rfl) h
  . exact go (.inr rfl) h
theorem relabel_some {env : Env} : ∀ {names : List (Str × NameKind)} {x : Str}, names.lookup x = some .free →
    (names.map fun (n, k) => if (k == NameKind.free && env.scope.kind == .function && env.kindOf n == some .cell) then (n, NameKind.cell) else (n, k)).lookup x = some .cell ∨
    (names.map fun (n, k) => if (k == NameKind.free && env.scope.kind == .function && env.kindOf n == some .cell) then (n, NameKind.cell) else (n, k)).lookup x = some .free
  | [], _, h => by simp at h
  | (n, k) :: r, x, h => by
    have ih := @relabel_some env r x
    rw [List.map_cons]; dsimp only; cases hx : x == n with
    | true =>
      simp only [List.lookup_cons, hx] at h
      cases h
      split
      . left; simp [List.lookup_cons, hx]
      . right; simp [List.lookup_cons, hx]
    | false =>
      simp only [List.lookup_cons, hx] at h
      split
      . simp only [List.lookup_cons, hx]; exact ih h
      . simp only [List.lookup_cons, hx]; exact ih h
def cxC (X : Cx) (scope : Scope) (C : Addr) (N : List Str) (s₂ : Shared) (H₂ : Hp) (fp : List Addr) : Cx where
  prog := X.prog
  w := X.w
  K := X.K
  mg := X.mg
  base := X.base
  A := X.A
  N := N
  s₀ := s₂
  H₀ := H₂
  env := compEnvC scope (clOf X.env scope.names []) C X.env
  outer := X.stack
  stack := X.stack
  ex := fp
  fn := fun _ => false
  calm := X.calm
  pn := []
  xe := fun _ _ => False
def stC (js : List (Option Nat)) (σ : St) : St := js.map fun o => match o with | some j => (σ[j]?).getD none | none => none
structure CompScope (X : Cx) (scope : Scope) (N : List Str) (js : List (Option Nat)) : Prop where
  kind : scope.kind = .function
  nocell : ∀ y ∈ scope.names, y.2 ≠ .cell
  loc : ∀ y ∈ scope.names, y.2 = .local -> scope.names.lookup y.1 = some .local
  len : js.length = N.length
  cap : ∀ (i j : Nat), js[i]? = some (some j) -> ∃ x, N[i]? = some x /\ X.N[j]? = some x /\ scope.names.lookup x = some .free
  out : ∀ y ∈ scope.names, y.2 = .free -> X.env.kindOf y.1 = some .cell ∨ X.env.kindOf y.1 = some .free
def GOwn (js : List (Option Nat)) (g : TG) : Prop := ∀ x σ H Q, g x σ H Q -> g x σ H fun σ2 H2 => Q σ2 H2 /\ σ2.length = σ.length /\ ∀ (i j : Nat), js[i]? = some (some j) -> σ2[i]? = σ[i]?
def GOwns (js : List (Option Nat)) (g : TGs) : Prop := ∀ xs σ H Q, g xs σ H Q -> g xs σ H fun σ2 H2 => Q σ2 H2 /\ σ2.length = σ.length /\ ∀ (i j : Nat), js[i]? = some (some j) -> σ2[i]? = σ[i]?
theorem gown_name {js : List (Option Nat)} {k : Nat} (h : js[k]? = some none) : GOwn js (gName k) := fun x σ H Q q => by
  refine ⟨q, by simp, fun i j e => ?_⟩
  have : k ≠ i := fun z => by subst z; rw [h] at e; cases e
  rw [List.getElem?_set_ne this]
theorem gowns_nil {js : List (Option Nat)} : GOwns js gNil := fun xs σ H Q q => ⟨q.1, q.2, rfl, fun _ _ _ => rfl⟩
theorem gowns_cons {js : List (Option Nat)} {k : Nat} {u : TGs} (h : js[k]? = some none) (hu : GOwns js u) : GOwns js (gCons (gName k) u) := fun xs σ H Q q => by
  obtain ⟨v, r, e, q⟩ := q
  refine ⟨v, r, e, ?_⟩
  obtain ⟨_, h2⟩ := gown_name h v σ H (fun _ _ => True) trivial
  have q2 := hu r _ _ _ q
  have e2 : (fun σ2 H2 => Q σ2 H2 /\ σ2.length = (σ.set k (some v)).length /\ ∀ (i j : Nat), js[i]? = some (some j) -> σ2[i]? = (σ.set k (some v))[i]?) = (fun σ2 (H2 : Hp) => Q σ2 H2 /\ σ2.length = σ.length /\ ∀ (i j : Nat), js[i]? = some (some j) -> σ2[i]? = σ[i]?) := by
    funext σ2 H2
    have e3 : ∀ (i j : Nat), js[i]? = some (some j) -> (σ.set k (some v))[i]? = σ[i]? := h2.2
    apply propext
    constructor
    . rintro ⟨a, b, c⟩
      exact ⟨a, by simpa using b, fun i j e => (c i j e).trans (e3 i j e)⟩
    . rintro ⟨a, b, c⟩
      exact ⟨a, by simpa using b, fun i j e => (c i j e).trans (e3 i j e).symm⟩
  show u r (σ.set k (some v)) H _
  rw [<- e2]; exact q2
theorem gown_tup {K : W.Frag} {n : Nat} {js : List (Option Nat)} {t : TGs} (h : GOwns js t) : GOwn js (gTup K n t) := fun x σ H Q q => by
  obtain ⟨a, xs, e, hq, hl, q⟩ := q
  exact ⟨a, xs, e, hq, hl, h xs σ H Q q⟩
section
variable {X : Cx} {pins : List (Addr × Obj)} {σ : St} {H H' : Hp} {s : Shared}
theorem Un.more {fs ex : List Addr} {H H' : Hp} {h h' : Heap} {D : Addr} {o : HO} (u : Un fs ex H H' h h') (hD : h.get? D = none) (hH : H D = none) : Un fs ex H (upd H' D o) h h' where
  keep := u.keep
  slot := u.slot
  free := fun b ob q n hx => by
    have : b ≠ D := fun z => by rw [z, hD] at q; cases q
    rw [upd_ne this]; exact u.free b ob q n hx
  there := u.there
  tups := fun b xs q => by rw [upd_ne (ne_of_none q hH)]; exact u.tups b xs q
  frzs := fun b ob xs q => by rw [upd_ne (ne_of_none q hH)]; exact u.frzs b ob xs q
  tbls := fun b ps q => by rw [upd_ne (ne_of_none q hH)]; exact u.tbls b ps q
theorem HOk.more {P : Program} {w : World} {h : Heap} {D : Addr} {o : HO} (k : HOk P w H h) (hH : H D = none) (new : ObjOk P w (upd H D o) h D o) : HOk P w (upd H D o) h := fun b u e => by
  by_cases hb : b = D
  . subst hb; rw [upd_same] at e; cases e; exact new
  . rw [upd_ne hb] at e; exact (k b u e).stay (fun _ _ _ q => q) (fun c q => by rw [upd_ne (ne_of_none q hH)]; exact q) fun c xs q => by rw [upd_ne (ne_of_none q hH)]; exact q
theorem CompScope.ok {scope : Scope} {N : List Str} {js : List (Option Nat)} {C : Addr} {fp : List Addr} (S : CompScope X scope N js) (I : Inv X pins σ H s) (hC : s.heap.objs.size <= C) (hf : ∀ b ∈ fp, FpOk X pins H b) (hl : ∀ b ∈ fp, b < s.heap.objs.size) :
    (cxC X scope C N s H fp).Ok where
  mod := I.ok.mod
  kind := S.kind
  glob := I.ok.glob
  blt := I.ok.blt
  above := hC
  inj := fun x y c h1 h2 => I.ok.inj x y c (cl_lookup h1).1 (cl_lookup h2).1
  has := fun x hx => by
    have hm : (x, .free) ∈ scope.names := relabel_free S.nocell hx
    obtain ⟨c, h1, _⟩ := cl_some (env := X.env) hm fun y hy hk => I.ok.has y.1 (S.out y hy hk)
    exact ⟨c, h1⟩
  cab := fun x c z => nomatch z
  hd := I.ok.hd
  frames := I.ok.frames
  stk := .inl rfl
  exf := fun b hb => ⟨Nat.ne_of_lt (Nat.lt_of_lt_of_le (hl b hb) hC), fun x c e => (hf b hb).2.2.2.2.1 x c (cl_lookup e).1⟩
  bs := I.bs
  bsz := Znt I.ok.bsz I.sz
  noex := fun b o e hb => by
    rcases (hf b hb).2.2.2.1 with z | z
    . exact I.ok.noex b o e z
    . exact absurd (Nat.lt_of_lt_of_le (Heap.lt_size e) (Znt I.ok.bsz z)) (Nat.lt_irrefl _)
  exfs := fun b hb hm => by
    rcases List.mem_cons.mp (I.stkSub b hm) with z | z
    . exact (hf b hb).2.1 z
    . exact (hf b hb).2.2.1 z
  funs := I.stack
  frf := I.stkFree
theorem CompScope.start {scope : Scope} {N : List Str} {js : List (Option Nat)} {C D : Addr} {fp : List Addr} {ob : Obj} {h₁ : Heap} {m : Str -> Option Value} {tk : Nat} (S : CompScope X scope N js) (I : Inv X pins σ H s) (hC : s.heap.objs.size <= C) (hD : s.heap.objs.size <= D) (hDC : D ≠ C)
    (hf : ∀ b ∈ fp, FpOk X pins H b) (hl : ∀ b ∈ fp, b < s.heap.objs.size) (k : ∀ b o, s.heap.get? b = some o -> h₁.get? b = some o) (hns : h₁.Ns C m) (eD : h₁.get? D = some ob) (nc : ∀ v, ob.data ≠ .cell v) :
    Inv (cxC X scope C N s H fp) [(D, ob)] (stC js σ) H { s with heap := h₁, toks := tk } where
  ok := S.ok I hC hf hl
  os := rfl
  bare := I.bare
  base := Un.kept k
  loc := by
    refine ⟨m, hns, fun i x v h1 h2 h3 => ?_⟩
    have h1 : N[i]? = some x := h1
    unfold stC at h2; rw [Zgm] at h2; cases e : js[i]? with
    | none => rw [e] at h2; cases h2
    | some o =>
      rw [e] at h2; cases o with
      | none => cases h2
      | some j =>
        have h2' : (σ[j]?).getD none = some v := Option.some.inj h2
        have hσ : σ[j]? = some (some v) := by
          cases q : σ[j]? with
          | none => rw [q] at h2'; cases h2'
          | some z => rw [q] at h2'; exact congrArg some h2'
        obtain ⟨y, e1, e2, e3⟩ := S.cap i j e
        rw [h1] at e1; cases e1
        have hfree : (x, .free) ∈ scope.names := PySem.mem_of_lookup e3
        have ho := S.out (x, .free) hfree rfl
        obtain ⟨mX, _, hlX⟩ := I.loc
        have hvX : Vis X.env.scope x := by
          rcases ho with z | z
          . exact .inr (.inl z)
          . exact .inr (.inr z)
        obtain ⟨u, r, l⟩ := hlX j x v e2 hσ hvX
        refine ⟨u, r, .inr ?_⟩
        rcases l with ⟨hk, _⟩ | ⟨hk, c, hc, hcell⟩
        . rcases ho with z | z
          . have z' : X.env.kindOf x = some .cell := z
            rw [hk] at z'; cases z'
          . have z' : X.env.kindOf x = some .free := z
            rw [hk] at z'; cases z'
        . obtain ⟨c', h1', h2''⟩ := cl_some (env := X.env) hfree fun y hy hk => I.ok.has y.1 (S.out y hy hk)
          rw [hc] at h2''; cases h2''
          refine ⟨relabel_some e3, c, h1', ?_⟩
          obtain ⟨oc, q1, q2⟩ := hcell
          exact ⟨oc, k c oc q1, q2⟩
  cell := fun x c e => by
    obtain ⟨v, oc, q1, q2⟩ := I.cell x c (cl_lookup e).1
    exact ⟨v, oc, k c oc q1, q2⟩
  free := I.hok.fresh hC
  freeC := fun x c e => I.freeC x c (cl_lookup e).1
  pin := fun p hp => by
    have e : p = (D, ob) := by
      rcases Zma.mp hp with z | z
      . exact absurd (show p ∈ ([] : List (Addr × Obj)) from z) (by simp)
      . simpa using z
    subst e; refine ⟨eD, I.hok.fresh hD, hDC, fun hm => ?_, nc⟩
    rcases List.mem_cons.mp (I.stkSub D hm) with z | z
    . have z : D = X.env.locals := z
      have := I.lt
      rw [<- z] at this; exact absurd (Nat.lt_of_lt_of_le this hD) (Nat.lt_irrefl _)
    . exact I.nofs hD z
  hok := I.hok.kept k
  len := by
    unfold stC; rw [Zlm]; exact S.len
end
def PTs (X : Cx) (cs : List Expr) (t : TT) : Prop :=
  ∀ (pins : List (Addr × Obj)) (s : Shared) (σ : St) (H : Hp) (Q : Bool -> Hp -> Prop) (E : Value -> Shared -> Prop), Inv X pins σ H s -> t σ H Q →
    wpAny (model X.prog X.w) X.A (forIn cs true fun c r => if r = true then do let ok ← isTrue c X.env (eval c X.env); pure (ForInStep.yield ok) else pure (ForInStep.yield r)) (TP X pins σ Q) E s
def tTrue : TT := fun _ H Q => Q true H
theorem pts_nil {X : Cx} : PTs X [] tTrue := fun pins s σ H Q E I h => wpAny_tests_nil ⟨H, I, h⟩
theorem pts_one {X : Cx} {c : Expr} {t : TT} (h : PT X c t) (hx : X.xe = fun _ _ => False := by rfl) : PTs X [c] t := fun pins s σ H Q E I q =>
  wpAny_tests_one (wpAny_mono (h pins s σ H Q I q) (fun _ _ z => z) fun e s' z => by rw [hx] at z; exact z.elim)
def wComp (js : List (Option Nat)) (g : TG) (tt : TT) (te : TE) (σ : St) (J : It) (H1 : Hp) (Q : List V -> Hp -> Prop) : Prop :=
  ∃ W : Nat -> Nat -> List V -> Hp -> Prop, (∃ m, W 0 m [] H1) /\ ∀ i m ys H, W i m ys H →
    (J.stop i H /\ Q ys H) ∨
    (J.go i H /\ ys.length < sizeLine /\ ∃ N : List V -> Hp -> Prop, (∀ ys' H', N ys' H' -> ∃ m', m' < m /\ W (i + 1) m' ys' H') ∧
      ∀ x H', J.yld i H x H' -> g x (stC js σ) H' fun σ2 H2 => tt σ2 H2 fun b H3 => if b = true then te σ2 H3 fun y H4 => N (ys ++ [y]) H4 else N ys H3)
def tComp (wi : TI) (js : List (Option Nat)) (g : TG) (tt : TT) (te : TE) : TE := fun σ H Q => wi σ H fun J H1 =>
  wComp js g tt te σ J H1 fun ys H2 => ∀ p, H2 p = none -> Q (.ref p) (upd H2 p (.lst ys))
def sComp (i : Nat) (wi : TI) (js : List (Option Nat)) (g : TG) (tt : TT) (te : TE) : TS := fun D σ H => wi σ H fun J H1 =>
  wComp js g tt te σ J H1 fun ys H2 => ∀ p, H2 p = none -> D.nx (σ.set i (some (.ref p))) (upd H2 p (.lst ys))
section
variable {X : Cx} {tg iter elt : Expr} {ifs : List Expr} {scope : Scope} {N : List Str} {js : List (Option Nat)} {wi : TI} {g : TG} {tt : TT} {te : TE} {pos : Pos}
theorem comp_block {pins : List (Addr × Obj)} {σ : St} {H2 : Hp} {s2 : Shared} {it : Addr} {fp : List Addr} {tn : Nat -> Heap -> Prop} {J : It} {Qf : List V -> Hp -> Prop} {RR : Value -> Addr -> Result -> Shared -> Prop} {E : Value -> Shared -> Prop} (hc : X.calm = true) (S : CompScope X scope N js) (go : GOwn js g)
    (hb : ∀ (C : Addr) (s₂ : Shared) (H₂ : Hp) (fp : List Addr), PG (cxC X scope C N s₂ H₂ fp) tg g /\ PTs (cxC X scope C N s₂ H₂ fp) ifs tt /\ PE (cxC X scope C N s₂ H₂ fp) elt te)
    (I2 : Inv X pins σ H2 s2) (T : Turn X.prog X.w X.K tg J fp it tn) (st2 : tn 0 s2.heap) (f2 : ∀ b ∈ fp, FpOk X pins H2 b) (hw : wComp js g tt te σ J H2 Qf)
    (hRR : ∀ (C D : Addr) (ys : List V) (H3 : Hp) (s3 : Shared) (m : Str -> Option Value), s2.heap.objs.size <= C -> s2.heap.objs.size <= D -> D ≠ C -> Inv X pins σ (upd H3 D (.lst ys)) s3 -> H3 C = none -> H3 D = none -> s3.heap.Ns C m -> Qf ys H3 -> RR (.ref D) C (.ok .next) s3) :
    wpAny (model X.prog X.w) X.A (newList []) (fun acc s₃ => wpAny (model X.prog X.w) X.A (newFunctionEnv scope X.env.globals (clOf X.env scope.names []) [] X.env.qual none .none (some X.env)) (fun cenv s₄ =>
      codeAny (model X.prog X.w) X.A (.compStart (.ListComp elt [⟨tg, iter, ifs, 0⟩] scope pos) 0 (.ref it) acc { cenv with scope := relabel scope X.env }) (RR acc cenv.locals) s₄) E s₃) E s2 := by
  obtain ⟨W, ⟨m0, w0⟩, turn⟩ := hw
  refine wpAny_newObj_type (wpAny_newFunctionEnv S.nocell (by intro y hy; simp at hy) (fun h₁ hns₁ hsb₁ => ?_) S.kind)
  dsimp only at hns₁ hsb₁ ⊢
  generalize hH2 : s2.heap.push { cls := .type "list", dict := none, data := .seq ([] : List Value).toArray } = HP at hns₁ hsb₁ ⊢; have hC : HP.objs.size = s2.heap.objs.size + 1 := by rw [<- hH2, Heap.size_push]
  have hDC : s2.heap.objs.size ≠ HP.objs.size := by rw [hC]; exact Nat.ne_of_lt (Nat.lt_succ_self _)
  have hCle : s2.heap.objs.size <= HP.objs.size := by rw [hC]; exact Nat.le_succ _
  have old : ∀ b o, s2.heap.get? b = some o -> h₁.get? b = some o := fun b o e => hsb₁.extBut b o (by rw [hC]; exact Nat.ne_of_lt (Nat.lt_succ_of_lt (Heap.lt_size e))) (Zpu _ (hH2 ▸ Zpu _ e))
  have hacc : h₁.get? s2.heap.objs.size = some { cls := .type "list", data := .seq ([] : List Value).toArray 0 } := hsb₁.extBut _ _ hDC (Zpu _ (hH2 ▸ Heap.get?_push_size _ rfl))
  have hfl : ∀ b ∈ fp, b < s2.heap.objs.size := fun b hb => by
    obtain ⟨o, e, _⟩ := T.obj _ _ st2 b hb
    exact Heap.lt_size e
  generalize hDn : s2.heap.objs.size = D at hDC hCle hacc ⊢; generalize hCn : HP.objs.size = C at hDC hCle hns₁ ⊢; have hCs : s2.heap.objs.size <= C := by rw [hDn]; exact hCle
  have hDs : s2.heap.objs.size <= D := Nat.le_of_eq hDn
  obtain ⟨pg, pt, pe⟩ := hb C s2 H2 fp
  have I0 := S.start (D := D) (fp := fp) (tk := s2.toks + ([] : List (Str × Value)).length) I2 hCs hDs hDC f2 hfl old hns₁ hacc (fun v z => nomatch z)
  have fpY : ∀ {H' : Hp} {pl : List (Addr × Obj)}, (∀ b ∈ fp, H' b = none) -> (∀ p ∈ pl, p.1 ∉ fp) -> ∀ b ∈ fp, FpOk (cxC X scope C N s2 H2 fp) pl H' b := fun hn hp b hb =>
    ⟨hn b hb, Nat.ne_of_lt (Nat.lt_of_lt_of_le (hfl b hb) hCs), (S.ok I2 hCs f2 hfl).exfs b hb, .inl hb, fun x c e => (f2 b hb).2.2.2.2.1 x c (cl_lookup e).1, fun p hm z => by
      rcases Zma.mp hm with q | q
      . exact absurd (show p ∈ ([] : List (Addr × Obj)) from q) (by simp)
      . exact hp p q (z ▸ hb)⟩
  have dfp : D ∉ fp := fun z => absurd (Nat.lt_of_lt_of_le (hfl D z) hDs) (Nat.lt_irrefl _)
  have one : ∀ {ob : Obj}, ∀ p ∈ [(D, ob)], p.1 ∉ fp := fun p hp => by
    have e := Zms.mp hp
    subst e; exact dfp
  have loop : ∀ s₃ : Shared, s₃ = { s2 with heap := h₁, toks := s2.toks + ([] : List (Str × Value)).length } →
      codeAny (model X.prog X.w) X.A (.compLoop (.ListComp elt [⟨tg, iter, ifs, 0⟩] scope pos) 0 (.ref it) (.ref D) (compEnvC scope (clOf X.env scope.names []) C X.env)) (RR (.ref D) C) s₃ := by
    rintro s₃ rfl
    refine codeAny_loop rfl (fun n s' => ∃ (i : Nat) (ys : List V) (H' : Hp) (its : List Value) (k : Nat), Inv (cxC X scope C N s2 H2 fp) [(D, { cls := .type "list", data := .seq its.toArray k })] (stC js σ) H' s' /\ Vals ys its /\ ys.length <= sizeLine /\ tn i s'.heap /\ (∀ b ∈ fp, H' b = none) /\ W i n ys H') ?_ m0 ?_
    . rintro n s3 ⟨i, ys, H3, its, k, I3, rv, hz, st3, fr3, w3⟩
      show wpAny _ X.A ((compTurn (.ListComp elt [⟨tg, iter, ifs, 0⟩] scope pos) 0 (.ref it) (.ref D) (compEnvC scope (clOf X.env scope.names []) C X.env)).onRaise (fun x => do noteFrame x _; theTreesLotGoes x)) _ _ s3
      refine wpAny_noted (wpAny_noRaise ?_)
      rw [compTurn_list]; rcases turn i n ys H3 w3 with ⟨stop, qn⟩ | ⟨goes, hlt, Nx, hN, step⟩
      . refine wpAny_bind (wpAny_standAt (wpAny_bind (thn (T.done (cxC X scope C N s2 H2 fp) rfl rfl rfl hc i _ s3 (stC js σ) H3 (fun _ _ => False) I3 (fpY fr3 one) st3 stop) fun r s4 ⟨hr, I4⟩ => ?_)))
        subst hr; refine wpAny_pure ?_
        have pD := I4.pin (D, { cls := .type "list", data := .seq its.toArray k }) (by simp [cxC])
        obtain ⟨mC, hnC, _⟩ := id I4.loc
        have IX : Inv X pins σ (upd H3 D (.lst ys)) s4 := by
          refine I2.call' (ch := fp) I4.os (Un.more I4.base (Heap.get?_none_of_le hDs) (I2.hok.fresh hDs)) (HOk.more I4.hok pD.2.1 ⟨hz, its, k, rv, pD.1⟩) I4.bare fun b hb => ?_
          obtain ⟨_, f1, _, f3, f4, f5⟩ := f2 b hb
          exact ⟨f3, f1, f4, f5⟩
        exact hRR C D ys H3 s4 mC hCs hDs hDC IX I4.free pD.2.1 hnC qn
      . refine wpAny_bind (wpAny_standAt (wpAny_bind (thn (T.item (cxC X scope C N s2 H2 fp) rfl rfl rfl hc i _ s3 (stC js σ) H3 (fun _ _ => False) I3 (fpY fr3 one) st3 goes) fun r s4 ⟨u, hr, h4⟩ => ?_)))
        subst hr; refine wpAny_bind (thn h4 fun _ s5 ⟨x, H5, I5, r5, y5, st5, fr5⟩ => ?_)
        have I5' := I5.pinned (fpY fr5 one) (T.obj _ _ st5)
        refine wpAny_bind (thn (pg _ s5 (stC js σ) H5 x u _ I5' r5 (go _ _ _ _ (step x H5 y5))) fun _ s6 ⟨σ6, H6, I6, ⟨q6, l6, e6⟩⟩ => ?_)
        have weak : ∀ {pl : List (Addr × Obj)} {H7 : Hp} {s7 : Shared}, Inv (cxC X scope C N s2 H2 fp) pl σ6 H7 s7 -> Inv (cxC X scope C N s2 H2 fp) pl (stC js σ) H7 s7 := fun {pl H7 s7} I7 => by
          refine I7.weak l6.symm fun j v hj => ?_
          cases e : js[j]? with
          | none => unfold stC at hj; rw [Zgm, e] at hj; cases hj
          | some o =>
            cases o with
            | none => unfold stC at hj; rw [Zgm, e] at hj; cases hj
            | some j' => rw [e6 j j' e]; exact hj
        have keepN : ∀ {H7 : Hp} {s7 : Shared} {pl : List (Addr × Obj)}, Inv (cxC X scope C N s2 H2 fp) (pl ++ pinsAt fp s5.heap) (stC js σ) H7 s7 -> tn (i + 1) s7.heap /\ ∀ b ∈ fp, H7 b = none := fun {H7 s7 pl} I7 => by
          refine ⟨T.keep _ _ _ st5 fun b hb o e => (I7.pin (b, o) (List.mem_append_right _ (List.mem_append_right _ (mem_pinsAt hb e)))).1, fun b hb => ?_⟩
          obtain ⟨o, e, d⟩ := T.obj _ _ st5 b hb
          exact (I7.pin (b, o) (List.mem_append_right _ (List.mem_append_right _ (mem_pinsAt hb e)))).2.1
        refine wpAny_bind (thn (pt _ s6 σ6 H6 _ _ I6 q6) fun ok s7 ⟨H7, I7, q7⟩ => ?_)
        cases ok with
        | false =>
          rw [if_neg Bool.false_ne_true] at q7; refine wpAny_pure ⟨rfl, ?_⟩
          obtain ⟨m', hm, w7⟩ := hN ys H7 q7
          have I7' := weak I7
          obtain ⟨k1, k2⟩ := keepN I7'
          exact ⟨m', hm, i + 1, ys, H7, its, k, I7'.unpinned, rv, hz, k1, k2, w7⟩
        | true =>
          rw [if_pos rfl] at q7; show wpAny _ _ ((eval elt _ >>= fun x => call (.builtin "list.append") [.ref D, x] >>= fun _ => pure ()) >>= fun _ => again _) _ _ _
          refine wpAny_bind (wpAny_bind (thn (pe _ s7 σ6 H7 _ I7 q7) fun y s8 ⟨yv, H8, I8, r8, q8⟩ => ?_))
          obtain ⟨m', hm, w8⟩ := hN (ys ++ [yv]) H8 q8
          have I8' := weak I8
          obtain ⟨k1, k2⟩ := keepN I8'
          have pD := I8'.pin (D, { cls := .type "list", data := .seq its.toArray k }) (by simp [cxC])
          have hln := rv.length
          refine wpAny_bind (call_meets F.slot_list_append ⟨_, pD.1, rfl⟩ F.entry_list_append (F.args_list_append_2 _ _) (PySem.list_append D its.toArray k y (by rw [Zst]; omega)) ⟨pD.1, ?_⟩)
          refine wpAny_pure (wpAny_pure ⟨rfl, m', hm, i + 1, ys ++ [yv], H8, its ++ [y], ?_⟩)
          have q := PySem.IsL.update pD.1 (fun z => z.push y)
          have eA : its.toArray.push y = (its ++ [y]).toArray := by simp
          rw [eA] at q; have I9 : Inv (cxC X scope C N s2 H2 fp) [] (stC js σ) H8 s8 := I8'.pins_of fun p hp => absurd hp (by simp)
          have hob : ∀ b o, b ≠ D -> s8.heap.get? b = some o -> (s8.heap.update D (Obj.mapSeq fun z => z.push y)).get? b = some o := fun b o hb hu => (Heap.get?_update_other s8.heap _ (Ne.symm hb)).trans hu
          have I10 : Inv (cxC X scope C N s2 H2 fp) [] (stC js σ) H8 { s8 with heap := s8.heap.update D (Obj.mapSeq fun z => z.push y), toks := s8.toks } := I9.turned hob pD.2.1 pD.2.2.1 (.inr hDs)
            (fun x c e z => by
              obtain ⟨v, oc, q1, q2⟩ := I2.cell x c (cl_lookup e).1
              rw [z] at q1; exact absurd (Nat.lt_of_lt_of_le (Heap.lt_size q1) hDs) (Nat.lt_irrefl _))
            (fun p hp => by
              rcases Zma.mp hp with q | q
              . exact absurd (show p ∈ ([] : List (Addr × Obj)) from q) (by simp)
              . exact absurd q (by simp))
          refine ⟨(if ((its ++ [y]).toArray).size == its.toArray.size then k else k + 1), I10.pins_of fun p hp => ?_, rv.append (.cons r8 .nil), ?_, ?_, k2, w8⟩
          . have e := Zms.mp hp
            subst e; exact ⟨q, pD.2.1, pD.2.2.1, pD.2.2.2.1, fun v z => nomatch z⟩
          . rw [Zla, List.length_singleton]; omega
          . exact T.keep _ _ _ k1 fun b hb o e => hob b o (fun z => dfp (z ▸ hb)) e
    . exact ⟨0, [], H2, [], 0, I0, .nil, Nat.zero_le _, T.keep _ _ _ st2 fun b _ o e => old b o e, fun b hb => (f2 b hb).1, w0⟩
  exact codeAny_compStart_list (loop _ rfl) (T.self _ 0 _ _ _ (T.keep _ _ _ st2 fun b _ o e => old b o e) (loop _ rfl))
theorem pe_comp (hc : X.calm = true) (S : CompScope X scope N js) (go : GOwn js g) (hi : PI X tg iter wi)
    (hb : ∀ (C : Addr) (s₂ : Shared) (H₂ : Hp) (fp : List Addr), PG (cxC X scope C N s₂ H₂ fp) tg g /\ PTs (cxC X scope C N s₂ H₂ fp) ifs tt /\ PE (cxC X scope C N s₂ H₂ fp) elt te)
    (hs : ∀ x, foldedSetIterable iter X.env x = pure x := by intro _; rfl) : PE X (.ListComp elt [⟨tg, iter, ifs, 0⟩] scope pos) (tComp wi js g tt te) := by
  intro pins s σ H Q I h; rw [eval_ListComp]; refine wpAny_comprehension_free (use := none) rfl hs (closure_ok fun y hy hk => I.ok.has y.1 (S.out y hy hk)) S.kind S.loc (thn (hi pins s σ H _ I h) fun v s1 h1 => thn h1 fun itv s2 h2 => ?_)
  obtain ⟨it, fp, tn, J, H2, e, I2, T, st2, f2, hw⟩ := h2
  subst e; refine comp_block (RR := fun acc C => compPost (model X.prog X.w) X.A X.xe none (EP X pins σ Q) acc C) hc S go hb I2 T st2 f2 hw ?_
  intro C D ys H3 s3 m hC hD hDC I3 fC fD hn q; refine ⟨m, hn, fun h' hs' => ?_⟩
  refine ⟨.ref D, upd H3 D (.lst ys), I3.turned (it := C) (t' := s3.toks) (fun b o hb e => (hs'.2 b hb).trans e) (by rw [upd_ne (Ne.symm hDC)]; exact fC) ?_ (.inr (Znt I2.sz hC)) ?_ ?_, rfl, q D fD⟩
  . exact Nat.ne_of_gt (Nat.lt_of_lt_of_le I2.lt hC)
  . intro x c e z; obtain ⟨v, oc, q1, q2⟩ := I2.cell x c e
    rw [z] at q1; exact absurd (Nat.lt_of_lt_of_le (Heap.lt_size q1) hC) (Nat.lt_irrefl _)
  . intro p hp z; have := Heap.lt_size (I2.pin p hp).1
    rw [z] at this; exact absurd (Nat.lt_of_lt_of_le this hC) (Nat.lt_irrefl _)
theorem ps_comp {i : Nat} {y : Str} {py spos : Pos} (hN : X.N.Nodup) (hy : X.N[i]? = some y) (hx : Loc X.env.scope y) (hc : X.calm = true) (S : CompScope X scope N js) (go : GOwn js g) (hi : PI X tg iter wi)
    (hb : ∀ (C : Addr) (s₂ : Shared) (H₂ : Hp) (fp : List Addr), PG (cxC X scope C N s₂ H₂ fp) tg g /\ PTs (cxC X scope C N s₂ H₂ fp) ifs tt /\ PE (cxC X scope C N s₂ H₂ fp) elt te)
    (hsw : swapsWith (.ListComp elt [⟨tg, iter, ifs, 0⟩] scope pos) (some (.Name y py)) spos.line X.env = pure true)
    (hs : ∀ x, foldedSetIterable iter X.env x = pure x := by intro _; rfl) (hf : X.fn y = true ∨ X.env.scope.names.lookup y = some .local := by first | exact .inl rfl | exact .inr rfl | assumption) :
    PS X (.Assign [.Name y py] (.ListComp elt [⟨tg, iter, ifs, 0⟩] scope pos) spos) (sComp i wi js g tt te) := by
  intro pins s σ H D I h; rw [exec_Assign_Name_used _ _ _ _ hsw]; refine wpAny_bind (wpAny_standAt (wpAny_bind ?_))
  show wpAny _ X.A (do let _ ← comprehension (.ListComp elt [⟨tg, iter, ifs, 0⟩] scope pos) scope X.env _ (newList []) false (eval iter X.env) (some (assign (.Name y py) X.env))) _ _ s
  refine wpAny_bind (thn (wpAny_comprehension_free (use := some (assign (.Name y py) X.env)) (Q := fun _ s' => SP X pins D .next s') rfl hs (closure_ok fun y hy hk => I.ok.has y.1 (S.out y hy hk)) S.kind S.loc
    (thn (hi pins s σ H _ I h) fun v s1 h1 => thn h1 fun itv s2 h2 => ?_)) fun _ s' hq => wpAny_pure (wpAny_pure hq))
  obtain ⟨it, fp, tn, J, H2, e, I2, T, st2, f2, hw⟩ := h2
  subst e; refine comp_block (RR := fun acc C => compPost (model X.prog X.w) X.A X.xe (some (assign (.Name y py) X.env)) (fun _ s' => SP X pins D .next s') acc C) hc S go hb I2 T st2 f2 hw ?_
  intro C Da ys H3 s3 m hC hD hDC I3 fC fD hn q; have cne : ∀ x c, X.env.cells.lookup x = some c -> c ≠ C := fun x c e z => by
    obtain ⟨v, oc, q1, q2⟩ := I2.cell x c e
    rw [z] at q1; exact absurd (Nat.lt_of_lt_of_le (Heap.lt_size q1) hC) (Nat.lt_irrefl _)
  have lne : C ≠ X.env.locals := Nat.ne_of_gt (Nat.lt_of_lt_of_le I2.lt hC)
  show wpAny _ X.A (assign (.Name y py) X.env (.ref Da)) _ _ _
  refine wpAny_assign_Name (store_ok2 (v := .ref Da) I3 hN hy hx rfl (fun s4 I4 hs4 => ?_) hf)
  obtain ⟨a, hsb, ha⟩ := hs4
  have aC : C ≠ a := by
    rcases ha with z | z
    . rw [z]; exact lne
    . exact Ne.symm (cne y a z)
  refine ⟨m, hn.sameBut hsb aC, fun h' hs' => ?_⟩
  refine ⟨_, _, I4.turned (it := C) (t' := s4.toks) (fun b o hb e => (hs'.2 b hb).trans e) (by rw [upd_ne (Ne.symm hDC)]; exact fC) lne (.inr (Znt I2.sz hC)) cne ?_, q Da fD⟩
  intro p hp z; have := Heap.lt_size (I2.pin p hp).1
  rw [z] at this; exact absurd (Nat.lt_of_lt_of_le this hC) (Nat.lt_irrefl _)
end
end L2
namespace L2
open PySem PySem.Spec PyProof.Rows
def Its (x : Str) : It := ⟨fun i _ => i < x.cps.size, fun i H v H' => H' = H /\ ∃ c, x.cps[i]? = some c /\ v = .str ⟨#[c]⟩, fun i _ => x.cps.size <= i⟩
theorem turn_ascii {P : Program} {w : World} {K : W.Frag} {tg : Expr} (it : Addr) (x : Str) (t : Tok) : Turn P w K tg (Its x) [it] it (fun i h => h.IsStrIter it "str_ascii_iterator" x t i) where
  mem := by simp
  obj := fun i h st b hb => by
    have e : b = it := by simpa using hb
    subst e; obtain ⟨o, e, c, d⟩ := st
    exact ⟨o, e, fun v z => by rw [d] at z; cases z⟩
  keep := fun i h h' st k => let ⟨o, ho, r⟩ := st; ⟨o, k it (by simp) o ho, r⟩
  item := by
    intro X hP hw hK hc i pins s σ H E I hf st hg; subst hP hw hK; obtain ⟨f0, f1, f2, f3, f4, f5⟩ := hf it (by simp)
    have hi : i < x.cps.size := hg
    refine wpAny_pyNext_ascii_item st (c := x.cps[i]) (by simp [hi]) fun h' st' sb => ?_
    have I1 : Inv X pins σ H { s with heap := h', toks := s.toks + 1 } := I.turned (fun b o hb e => (sb.2 b hb).trans e) f0 f1 f3 f4 f5
    obtain ⟨o, e, c, d⟩ := id st'
    exact ⟨_, rfl, go_of (s := { s with heap := h', toks := s.toks + 1 }) e c d (by decide) ⟨.str ⟨#[x.cps[i]]⟩, H, I1, ⟨_, rfl⟩, ⟨rfl, _, by simp [hi], rfl⟩, st', fun b hb => (hf b hb).1⟩⟩
  done := by
    intro X hP hw hK hc i pins s σ H E I hf st hg; subst hP hw hK; obtain ⟨f0, f1, f2, f3, f4, f5⟩ := hf it (by simp)
    have hi : x.cps.size <= i := hg
    exact wpAny_pyNext_ascii_end (I.ok.hd hc) st (by simp [hi]) fun h' eb => ⟨rfl, I.turned (t' := s.toks) (fun b o hb e => eb b o hb e) f0 f1 f3 f4 f5⟩
  self := fun _ _ _ _ _ st h => wpAny_pyIter_striter_ascii st h
theorem turn_wide {P : Program} {w : World} {K : W.Frag} {tg : Expr} (it : Addr) (x : Str) (t : Tok) : Turn P w K tg (Its x) [it] it (fun i h => h.IsStrIter it "str_iterator" x t i) where
  mem := by simp
  obj := fun i h st b hb => by
    have e : b = it := by simpa using hb
    subst e; obtain ⟨o, e, c, d⟩ := st
    exact ⟨o, e, fun v z => by rw [d] at z; cases z⟩
  keep := fun i h h' st k => let ⟨o, ho, r⟩ := st; ⟨o, k it (by simp) o ho, r⟩
  item := by
    intro X hP hw hK hc i pins s σ H E I hf st hg; subst hP hw hK; obtain ⟨f0, f1, f2, f3, f4, f5⟩ := hf it (by simp)
    have hi : i < x.cps.size := hg
    refine wpAny_pyNext_wide_item st (c := x.cps[i]) (by simp [hi]) fun h' st' sb => ?_
    have I1 : Inv X pins σ H { s with heap := h', toks := s.toks + 1 } := I.turned (fun b o hb e => (sb.2 b hb).trans e) f0 f1 f3 f4 f5
    obtain ⟨o, e, c, d⟩ := id st'
    exact ⟨_, rfl, go_of (s := { s with heap := h', toks := s.toks + 1 }) e c d (by decide) ⟨.str ⟨#[x.cps[i]]⟩, H, I1, ⟨_, rfl⟩, ⟨rfl, _, by simp [hi], rfl⟩, st', fun b hb => (hf b hb).1⟩⟩
  done := by
    intro X hP hw hK hc i pins s σ H E I hf st hg; subst hP hw hK; obtain ⟨f0, f1, f2, f3, f4, f5⟩ := hf it (by simp)
    have hi : x.cps.size <= i := hg
    exact wpAny_pyNext_wide_end (I.ok.hd hc) st (by simp [hi]) fun h' eb => ⟨rfl, I.turned (t' := s.toks) (fun b o hb e => eb b o hb e) f0 f1 f3 f4 f5⟩
  self := fun _ _ _ _ _ st h => wpAny_pyIter_striter_wide st h
section
variable {X : Cx} {tg : Expr}
def iStr (tl : TE) : TI := fun σ H R => tl σ H fun x H1 => ∃ z, x = .str z /\ R (Its z) H1
theorem pi_str {l : Expr} {tl : TE} (hl : PE X l tl) : PI X tg l (iStr tl) := by
  intro pins s σ H R I h; refine thn (hl pins s σ H _ I h) fun v s1 ⟨x, H1, I1, r1, q1⟩ => ?_
  obtain ⟨z, rfl, q⟩ := q1
  obtain ⟨t, rfl⟩ := r1
  have fp : ∀ b ∈ [s1.heap.objs.size], FpOk X pins H1 b := fun b hb => by
    have e : b = s1.heap.objs.size := by simpa using hb
    subst e; exact I1.fpOk (Znr _) (I1.hok.fresh (Znr _))
  cases ha : z.cps.all (· < 128)
  . refine wpAny_pyIter_wide ha ?_
    exact ⟨s1.heap.objs.size, [s1.heap.objs.size], _, _, H1, rfl, I1.kept (t' := s1.toks) fun b o e => Zpu _ e, turn_wide _ z t, ⟨_, Heap.get?_push_size _ rfl, rfl, rfl⟩, fp, q⟩
  . refine wpAny_pyIter_ascii ha ?_
    exact ⟨s1.heap.objs.size, [s1.heap.objs.size], _, _, H1, rfl, I1.kept (t' := s1.toks) fun b o e => Zpu _ e, turn_ascii _ z t, ⟨_, Heap.get?_push_size _ rfl, rfl, rfl⟩, fp, q⟩
end
abbrev tx (l : List Nat) : Str := ⟨l.toArray⟩
theorem tx_cps (x : Str) : tx x.cps.toList = x := by cases x; simp
theorem tx_len (l : List Nat) : (tx l).length = l.length := by simp [Str.length]
theorem app_cps (x y : Str) : (x ++ y).cps.toList = x.cps.toList ++ y.cps.toList := by
  show (Str.append x y).cps.toList = _
  unfold Str.append; simp
def cut {α : Type} (xs : List α) (lo hi : Option Int) : List α := (xs.drop (HT.sIx xs.length 0 lo)).take (HT.sIx xs.length xs.length hi - HT.sIx xs.length 0 lo)
theorem cut_len {α : Type} (xs : List α) (lo hi : Option Int) : (cut xs lo hi).length <= xs.length := by
  unfold cut; rw [Zlk, List.length_drop]; omega
section
variable {X : Cx}
theorem strsAre_of {ns : List Str} : ∀ {us : List Value}, Vals (ns.map V.str) us -> StrsAre us ns := by
  induction ns with
  | nil => intro us r; rw [List.map_nil] at r; cases r; exact .nil
  | cons n ns ih =>
    intro us r; rw [List.map_cons] at r; cases r with
    | cons r1 r2 =>
      obtain ⟨t, e⟩ := r1
      subst e; exact .cons n t (ih r2)
def rJoin (K : W.Frag) : V -> List V -> Hp -> VK -> Prop := fun x vs H Q => ∃ sep p ys, x = .str sep /\ vs = [.ref p] /\ SqL K H p (ys.map V.str) /\ (ys.map (·.length)).sum + ys.length * sep.length <= 16777216 /\ Q (.str (Txt.join sep ys)) H
theorem mt_join : MtR X "str.join" (rJoin X.K) := by
  intro pins s σ H x vs v us Q I rx rv h; obtain ⟨sep, p, ys, rfl, rfl, hq, hz, q⟩ := h
  obtain ⟨t, rfl⟩ := rx
  obtain ⟨u, rfl, ru⟩ := rv.one
  cases ru
  obtain ⟨its, r, pl, _⟩ := I.list hq
  exact join_list pl.isList (by simpa using strsAre_of r) hz fun t' k => ⟨.str _, H, I.tok _, ⟨_, rfl⟩, q⟩
def rIsi (K : W.Frag) : List V -> Hp -> VK -> Prop := fun vs H Q => ∃ x T t b, vs = [x, .ty T] /\ TyOf K H x t /\ W.kitOne K t (.type T) = some b /\ Q (.bl b) H
theorem call_isi : CallR X (.builtin "isinstance") (rIsi X.K) := by
  intro pins s σ H xs us Q I r h; obtain ⟨x, T, t, b, rfl, ty, e, q⟩ := h
  obtain ⟨u, c, rfl, ru, rc⟩ : ∃ u c, us = [u, c] /\ RelV x u /\ RelV (.ty T) c := by
    cases r with
    | cons p q =>
      cases q with
      | cons p' q' =>
        cases q'
        exact ⟨_, _, rfl, p, p'⟩
  cases (show c = Value.type T from rc)
  exact isinst_ok I ru ty e fun tk => ⟨.bl b, H, I.tok _, rfl, q⟩
theorem boolsAre_of {ns : List Bool} : ∀ {us : List Value}, Vals (ns.map V.bl) us -> PyProof.Rows.LSm.BoolsAre us ns := by
  induction ns with
  | nil => intro us r; rw [List.map_nil] at r; cases r; exact .nil
  | cons n ns ih =>
    intro us r; rw [List.map_cons] at r; cases r with
    | cons r1 r2 =>
      have e := r1
      cases (show _ = Value.bool n from e)
      exact .cons n (ih r2)
def rAll (K : W.Frag) : List V -> Hp -> VK -> Prop := fun vs H Q => ∃ (p : Addr) (bs : List Bool), vs = [.ref p] /\ SqL K H p (bs.map V.bl) /\ Q (.bl (bs.all id)) H
def rAny (K : W.Frag) : List V -> Hp -> VK -> Prop := fun vs H Q => ∃ (p : Addr) (bs : List Bool), vs = [.ref p] /\ SqL K H p (bs.map V.bl) /\ Q (.bl (bs.any id)) H
theorem call_all (hc : X.calm = true) : CallR X (.builtin "all") (rAll X.K) := by
  intro pins s σ H xs us Q I r h; obtain ⟨p, bs, rfl, hq, q⟩ := h
  obtain ⟨u, rfl, ru⟩ := vals1 r
  cases ru
  obtain ⟨its, rv, pl, hz⟩ := I.list hq
  have hl := pl.isList
  have hb := boolsAre_of rv
  have hlt : p < s.heap.objs.size := by obtain ⟨_, e, _⟩ := hl; exact Heap.lt_size e
  refine call_all_walk (wpAny_pyIter_list hl ?_)
  refine ⟨s.heap.objs.size, [s.heap.objs.size, p], [s.heap.objs.size], its.toArray.size, _, _, fun i => (bs[i]?).getD true, rfl, Walks.list (A := X.A.in1) (I.ok.hd hc) _ p (Nat.ne_of_lt hlt) its.toArray,
    ⟨⟨_, Heap.get?_push_size _ rfl, rfl, rfl⟩, hl.push _⟩, fun i v s' Q' E' hP hQ => ?_, fun h' tk hk => ?_⟩
  . obtain ⟨b, e, rfl⟩ := hb.get i v (by simpa using hP)
    simp only [e, Option.getD_some] at hQ
    exact wpAny_truthy_bool hQ
  . have e : ((List.range its.toArray.size).all fun i => (bs[i]?).getD true) = bs.all id := by
      rw [Zst, hb.length]; exact PyProof.Rows.LSm.range_all bs
    rw [e]; exact ⟨.bl _, H, I.kept (PyProof.Rows.LSm.kept_iter hk), rfl, q⟩
theorem call_any (hc : X.calm = true) : CallR X (.builtin "any") (rAny X.K) := by
  intro pins s σ H xs us Q I r h; obtain ⟨p, bs, rfl, hq, q⟩ := h
  obtain ⟨u, rfl, ru⟩ := vals1 r
  cases ru
  obtain ⟨its, rv, pl, hz⟩ := I.list hq
  have hl := pl.isList
  have hb := boolsAre_of rv
  have hlt : p < s.heap.objs.size := by obtain ⟨_, e, _⟩ := hl; exact Heap.lt_size e
  refine call_any_walk (wpAny_pyIter_list hl ?_)
  refine ⟨s.heap.objs.size, [s.heap.objs.size, p], [s.heap.objs.size], its.toArray.size, _, _, fun i => (bs[i]?).getD false, rfl, Walks.list (A := X.A.in1) (I.ok.hd hc) _ p (Nat.ne_of_lt hlt) its.toArray,
    ⟨⟨_, Heap.get?_push_size _ rfl, rfl, rfl⟩, hl.push _⟩, fun i v s' Q' E' hP hQ => ?_, fun h' tk hk => ?_⟩
  . obtain ⟨b, e, rfl⟩ := hb.get i v (by simpa using hP)
    simp only [e, Option.getD_some] at hQ
    exact wpAny_truthy_bool hQ
  . have e : ((List.range its.toArray.size).any fun i => (bs[i]?).getD false) = bs.any id := by
      rw [Zst, hb.length]; exact PyProof.Rows.LSm.range_any bs
    rw [e]; exact ⟨.bl _, H, I.kept (PyProof.Rows.LSm.kept_iter hk), rfl, q⟩
end
section
variable {X : Cx}
def rEqNil (K : W.Frag) (neg : Bool) : R2 := fun x y H Q => ∃ (a b : Addr) (xs : List V), x = .ref a /\ y = .ref b /\ SqL K H a xs /\ SqL K H b [] /\ Q (.bl (if neg then !xs.isEmpty else xs.isEmpty)) H
theorem nil_items {us : List Value} (r : Vals [] us) : us = [] := by cases r; rfl
theorem op_eqNil (hu : X.A.units < cLine) : OpR X (compareOp .Eq) (rEqNil X.K false) := by
  intro pins s σ H x y v u Q I rx ry h; obtain ⟨a, b, xs, rfl, rfl, h1, h2, q⟩ := h
  cases rx
  cases ry
  obtain ⟨its, r1, p1, _⟩ := I.list h1
  obtain ⟨its2, r2, p2, _⟩ := I.list h2
  have e2 := nil_items r2
  subst e2; have hl := r1.length
  cases xs with
  | nil =>
    have e1 := nil_items r1
    subst e1; exact SeqAt.eq_listAt (e := fun _ => true) p1.isList p2.isList rfl hu (fun j h => absurd h (by simp)) ⟨.bl true, H, I, rfl, q⟩
  | cons z zs =>
    exact SeqAt.eq_list_lengthsAt p1.isList p2.isList (by simp only [Zst, <- hl]; simp) hu ⟨.bl false, H, I, rfl, q⟩
theorem op_neNil (hu : X.A.units < cLine) : OpR X (compareOp .NotEq) (rEqNil X.K true) := by
  intro pins s σ H x y v u Q I rx ry h; obtain ⟨a, b, xs, rfl, rfl, h1, h2, q⟩ := h
  cases rx
  cases ry
  obtain ⟨its, r1, p1, _⟩ := I.list h1
  obtain ⟨its2, r2, p2, _⟩ := I.list h2
  have e2 := nil_items r2
  subst e2; have hl := r1.length
  cases xs with
  | nil =>
    have e1 := nil_items r1
    subst e1; exact SeqAt.RcNeAt.lists (e := fun _ => true) p1.isList p2.isList rfl hu (fun j h => absurd h (by simp)) _ _ _ _ ⟨.bl false, H, I, rfl, q⟩
  | cons z zs =>
    exact SeqAt.RcNeAt.lists_lengths p1.isList p2.isList (by simp only [Zst, <- hl]; simp) hu _ _ _ _ ⟨.bl true, H, I, rfl, q⟩
end
end L2
namespace L2
open PySem PySem.Spec PyProof.Rows
def mB (x : V) (k : Bool -> Prop) : Prop := match x with | .bl b => k b | _ => False
def mI (x : V) (k : Int -> Prop) : Prop := match x with | .int b => k b | _ => False
def mS (x : V) (k : Str -> Prop) : Prop := match x with | .str b => k b | _ => False
def mR (x : V) (k : Addr -> Prop) : Prop := match x with | .ref b => k b | _ => False
theorem mB_eq (x : V) (k : Bool -> Prop) : mB x k = ∃ b, x = .bl b /\ k b := by
  cases x <;> simp [mB]
theorem mI_eq (x : V) (k : Int -> Prop) : mI x k = ∃ b, x = .int b /\ k b := by
  cases x <;> simp [mI]
theorem mS_eq (x : V) (k : Str -> Prop) : mS x k = ∃ b, x = .str b /\ k b := by
  cases x <;> simp [mS]
theorem mR_eq (x : V) (k : Addr -> Prop) : mR x k = ∃ b, x = .ref b /\ k b := by
  cases x <;> simp [mR]
theorem szl {n : Nat} (h : Nat.ble n 1000 = true) : n <= sizeLine := Znt (Nat.le_of_ble_eq_true h) (by decide)
theorem szl' {n : Nat} (h : n <= 1000) : n <= sizeLine := Znt h (by decide)
section
variable {X : Cx} {a b c e : Expr} {ta tb tc te : TE} {pos : Pos}
def vr (i : Nat) : TE := fun σ H Q => match σ[i]? with | some (some v) => Q v H | _ => False
theorem vr_eq (i : Nat) : vr i = tVar i := by
  funext σ H Q
  unfold vr tVar; apply propext
  cases σ[i]? with
  | none => simp
  | some o => cases o <;> simp
theorem xv (i : Nat) {x : Str} {pos : Pos} (hN : X.N[i]? = some x := by rfl) (hv : Vis X.env.scope x := by first | exact Or.inl rfl | exact Or.inr (Or.inl rfl) | exact Or.inr (Or.inr rfl)) (hd : (x == ("__debug__" : Str)) = false := by decide)
    (hcd : (x == ("__classdict__" : Str)) = false := by decide) : PE X (.Name x pos) (vr i) := by
  rw [vr_eq]; exact pe_var hN hv hd hcd
theorem OpR.imp {f : Value -> Value -> Sem Value} {r r' : R2} (h : OpR X f r) (hi : ∀ x y H Q, r' x y H Q -> r x y H Q) : OpR X f r' := fun pins s σ H x y v u Q I rx ry q => h pins s σ H x y v u Q I rx ry (hi x y H Q q)
theorem UnR.imp {f : Value -> Sem Value} {r r' : V -> Hp -> VK -> Prop} (h : UnR X f r) (hi : ∀ x H Q, r' x H Q -> r x H Q) : UnR X f r' := fun pins s σ H x v Q I rx q => h pins s σ H x v Q I rx (hi x H Q q)
theorem CallR.imp {f : Value} {r r' : List V -> Hp -> VK -> Prop} (h : CallR X f r) (hi : ∀ xs H Q, r' xs H Q -> r xs H Q) : CallR X f r' := fun pins s σ H xs us Q I rs q => h pins s σ H xs us Q I rs (hi xs H Q q)
theorem IxR.imp {r r' : R2} (h : IxR X r) (hi : ∀ x y H Q, r' x y H Q -> r x y H Q) : IxR X r' := fun value slice pins s σ H x y v u Q I rx ry q => h value slice pins s σ H x y v u Q I rx ry (hi x y H Q q)
theorem SlR.imp {r r' : V -> Option Int -> Option Int -> Hp -> VK -> Prop} (h : SlR X r) (hi : ∀ x l u H Q, r' x l u H Q -> r x l u H Q) : SlR X r' := fun pins s σ H x v vl vu lo hi' sl Q I rx hs pl pu q => h pins s σ H x v vl vu lo hi' sl Q I rx hs pl pu (hi x lo hi' H Q q)
def m2 (C : Int -> Int -> Prop) (g : Int -> Int -> V) : R2 := fun x y H Q => mI x fun i => mI y fun j => C i j /\ Q (g i j) H
def m20 (g : Int -> Int -> V) : R2 := fun x y H Q => mI x fun i => mI y fun j => Q (g i j) H
theorem m20_imp {g : Int -> Int -> V} (x y : V) (H : Hp) (Q : VK) (h : m20 g x y H Q) : rI0 g x y H Q := by
  unfold m20 at h; rw [mI_eq] at h; obtain ⟨i, rfl, h⟩ := h
  rw [mI_eq] at h; obtain ⟨j, rfl, h⟩ := h
  exact ⟨i, j, rfl, rfl, h⟩
theorem m2_imp {C : Int -> Int -> Prop} {g : Int -> Int -> V} (x y : V) (H : Hp) (Q : VK) (h : m2 C g x y H Q) : rI C g x y H Q := by
  unfold m2 at h; rw [mI_eq] at h; obtain ⟨i, rfl, h⟩ := h
  rw [mI_eq] at h; obtain ⟨j, rfl, hc, h⟩ := h
  exact ⟨i, j, rfl, rfl, hc, h⟩
theorem o_add : OpR X (binaryOp .Add) (m20 fun i j => .int (i + j)) := op_add.imp m20_imp
theorem o_sub : OpR X (binaryOp .Sub) (m20 fun i j => .int (i - j)) := op_sub.imp m20_imp
theorem o_mul : OpR X (binaryOp .Mult) (m2 CMul fun i j => .int (i * j)) := op_mul.imp m2_imp
theorem o_mod : OpR X (binaryOp .Mod) (m2 (fun _ j => 0 < j) fun i j => .int (i % j)) := op_mod.imp m2_imp
theorem o_pow : OpR X (binaryOp .Pow) (m2 CPow fun i j => .int (i ^ j.toNat)) := op_pow.imp m2_imp
theorem o_lt : OpR X (compareOp .Lt) (m20 fun i j => .bl (decide (i < j))) := op_lt.imp m20_imp
theorem o_le : OpR X (compareOp .LtE) (m20 fun i j => .bl (decide (i <= j))) := op_le.imp m20_imp
theorem o_gt : OpR X (compareOp .Gt) (m20 fun i j => .bl (decide (j < i))) := op_gt.imp m20_imp
def mAddS : R2 := fun x y H Q => mS x fun i => mS y fun j => i.length + j.length <= sizeLine /\ Q (.str (i ++ j)) H
theorem o_addS : OpR X (binaryOp .Add) mAddS := op_add_str.imp fun x y H Q h => by
  unfold mAddS at h; rw [mS_eq] at h; obtain ⟨i, rfl, h⟩ := h
  rw [mS_eq] at h; obtain ⟨j, rfl, hc, h⟩ := h
  exact ⟨i, j, rfl, rfl, hc, h⟩
def mEq : R2 := fun x y H Q => match x, y with
  | .int i, .int j => Q (.bl (decide (i = j))) H
  | .str i, .str j => Q (.bl (decide (i = j))) H
  | .bl i, .bl j => Q (.bl (decide (i = j))) H
  | .non, .non => Q (.bl true) H
  | .int _, .non => Q (.bl false) H | .non, .int _ => Q (.bl false) H
  | .str _, .non => Q (.bl false) H | .non, .str _ => Q (.bl false) H
  | .bl _, .non => Q (.bl false) H | .non, .bl _ => Q (.bl false) H
  | .int _, .str _ => Q (.bl false) H | .str _, .int _ => Q (.bl false) H
  | .bl _, .str _ => Q (.bl false) H | .str _, .bl _ => Q (.bl false) H
  | _, _ => False
def mNe : R2 := fun x y H Q => match x, y with
  | .int i, .int j => Q (.bl (!decide (i = j))) H
  | .str i, .str j => Q (.bl (!decide (i = j))) H
  | .bl i, .bl j => Q (.bl (!decide (i = j))) H
  | .non, .non => Q (.bl false) H
  | .int _, .non => Q (.bl true) H | .non, .int _ => Q (.bl true) H
  | .str _, .non => Q (.bl true) H | .non, .str _ => Q (.bl true) H
  | .bl _, .non => Q (.bl true) H | .non, .bl _ => Q (.bl true) H
  | .int _, .str _ => Q (.bl true) H | .str _, .int _ => Q (.bl true) H
  | .bl _, .str _ => Q (.bl true) H | .str _, .bl _ => Q (.bl true) H
  | _, _ => False
theorem o_eq : OpR X (compareOp .Eq) mEq := op_eq.imp fun x y H Q h => by
  unfold mEq at h; unfold rEq; split at h <;> first | exact h.elim | (refine ⟨rfl, ?_⟩; first | simpa using h | exact h)
theorem o_ne : OpR X (compareOp .NotEq) mNe := op_ne.imp fun x y H Q h => by
  unfold mNe at h; unfold rNe; split at h <;> first | exact h.elim | (refine ⟨rfl, ?_⟩; first | simpa using h | exact h)
def mInS (neg : Bool) : R2 := fun x y H Q => mS x fun i => mS y fun j => ∃ c, i = tx [c] /\ Q (.bl (if neg then !decide (c ∈ j.cps.toList) else decide (c ∈ j.cps.toList))) H
theorem o_inS : OpR X (compareOp .In) (mInS false) := op_in_str.imp fun x y H Q h => by
  unfold mInS at h; rw [mS_eq] at h; obtain ⟨i, rfl, h⟩ := h
  rw [mS_eq] at h; obtain ⟨j, rfl, c, rfl, h⟩ := h
  refine ⟨_, j, rfl, rfl, ?_⟩
  have e := StrLaws.found_one j c
  have e' : (!(Builtin.Str.occurrences j (tx [c]) 0 j.length 1).isEmpty) = decide (c ∈ j.cps.toList) := e
  rw [e']; exact h
theorem o_notInS : OpR X (compareOp .NotIn) (mInS true) := op_notIn_str.imp fun x y H Q h => by
  unfold mInS at h; rw [mS_eq] at h; obtain ⟨i, rfl, h⟩ := h
  rw [mS_eq] at h; obtain ⟨j, rfl, c, rfl, h⟩ := h
  refine ⟨_, j, rfl, rfl, ?_⟩
  have e := StrLaws.found_one j c
  have e' : (!(Builtin.Str.occurrences j (tx [c]) 0 j.length 1).isEmpty) = decide (c ∈ j.cps.toList) := e
  rw [e']; exact h
def mT (t : TE) : TT := fun σ H Q => t σ H fun x H' => mB x fun k => Q k H'
theorem mT_eq (t : TE) : mT t = tTest t := by
  funext σ H Q
  unfold mT tTest; congr 1
  funext x H'
  exact mB_eq x _
theorem mT_eqB (t : TE) : mT t = tB t := by
  funext σ H Q
  unfold mT tB; congr 1
  funext x H'
  exact mB_eq x _
theorem t_cmp {op : CmpOp} {r : R2} (ho : OpR X (compareOp op) r) (ha : PE X a ta) (hb : PE X b tb) (hm : behindInMarks op b = false := by first | exact nomark _ | rfl) : PT X (.Compare a [op] [b] pos) (mT (tOp r ta tb)) := by
  rw [mT_eq]; exact pt_cmpR ho ha hb hm
theorem x_cmp {op : CmpOp} {r : R2} (ho : OpR X (compareOp op) r) (ha : PE X a ta) (hb : PE X b tb) (hm : behindInMarks op b = false := by first | exact nomark _ | rfl) : PE X (.Compare a [op] [b] pos) (tOp r ta tb) := pe_cmpR ho ha hb hm
def mChain (r r' : R2) (ta tb tc : TE) : TE := fun σ H Q => ta σ H fun x H1 => tb σ H1 fun y H2 => r x y H2 fun z H3 => mB z fun k => (if k = true then tc σ H3 fun w' H4 => r' y w' H4 Q else Q (.bl false) H3)
theorem mChain_eq (r r' : R2) (ta tb tc : TE) : mChain r r' ta tb tc = tChain r r' ta tb tc := by
  funext σ H Q
  unfold mChain tChain; congr 1
  funext x H1
  congr 1
  funext y H2
  congr 1
  funext z H3
  exact mB_eq z _
theorem x_chain {op op' : CmpOp} {r r' : R2} (ho : OpR X (compareOp op) r) (ho' : OpR X (compareOp op') r') (ha : PE X a ta) (hb : PE X b tb) (hc : PE X c tc)
    (hm : lastMarks [op, op'] [b, c] = false := by with_unfolding_all rfl) : PE X (.Compare a [op, op'] [b, c] pos) (mChain r r' ta tb tc) := by
  rw [mChain_eq]; exact pe_chain ho ho' ha hb hc hm
theorem t_chain {op op' : CmpOp} {r r' : R2} (ho : OpR X (compareOp op) r) (ho' : OpR X (compareOp op') r') (ha : PE X a ta) (hb : PE X b tb) (hc : PE X c tc)
    (hm : lastMarks [op, op'] [b, c] = false := by with_unfolding_all rfl) : PT X (.Compare a [op, op'] [b, c] pos) (mT (mChain r r' ta tb tc)) := by
  rw [mT_eq, mChain_eq]; exact pt_chain ho ho' ha hb hc hm
theorem t_val {t : TE} (h : PE X e t) (he : ∀ whole, isTrue e X.env whole = (do let v ← whole; standAt e.pos; holding [v] (truthy v)) := by intro _; rfl) : PT X e (mT t) := by
  rw [mT_eqB]; exact pt_val h he
def mAndV (ta tb : TE) : TE := fun σ H Q => ta σ H fun x H1 => mB x fun c => if c = true then tb σ H1 Q else Q (.bl false) H1
def mOrV (ta tb : TE) : TE := fun σ H Q => ta σ H fun x H1 => mB x fun c => if c = true then Q (.bl true) H1 else tb σ H1 Q
def mNotV (ta : TE) : TE := fun σ H Q => ta σ H fun x H1 => mB x fun c => Q (.bl (!c)) H1
theorem x_and {rest : List Expr} (ha : PE X a ta) (hb : PE X (.BoolOp .And (b :: rest) pos) tb) : PE X (.BoolOp .And (a :: b :: rest) pos) (mAndV ta tb) := by
  have : mAndV ta tb = tAndV ta tb := by
    funext σ H Q; unfold mAndV tAndV; congr 1; funext x H1; exact mB_eq x _
  rw [this]; exact pe_and ha hb
theorem x_or {rest : List Expr} (ha : PE X a ta) (hb : PE X (.BoolOp .Or (b :: rest) pos) tb) : PE X (.BoolOp .Or (a :: b :: rest) pos) (mOrV ta tb) := by
  have : mOrV ta tb = tOrV ta tb := by
    funext σ H Q; unfold mOrV tOrV; congr 1; funext x H1; exact mB_eq x _
  rw [this]; exact pe_or ha hb
theorem x_not (ha : PE X a ta) : PE X (.UnaryOp .Not a pos) (mNotV ta) := by
  have : mNotV ta = tNotV ta := by
    funext σ H Q; unfold mNotV tNotV; congr 1; funext x H1; exact mB_eq x _
  rw [this]; exact pe_not ha
theorem x_neg (ha : PE X a ta) : PE X (.UnaryOp .USub a pos) (tUn (fun x H Q => mI x fun i => Q (.int (-i)) H) ta) := pe_un (un_neg.imp fun x H Q h => by
  rw [mI_eq] at h; obtain ⟨i, rfl, h⟩ := h
  exact ⟨i, rfl, h⟩) ha
def mIxL (K : W.Frag) : R2 := fun x y H Q => mR x fun p => mI y fun i => ∃ xs, SqL K H p xs /\ ∃ v, atI xs i = some v /\ Q v H
def mIxT (K : W.Frag) : R2 := fun x y H Q => mR x fun p => mI y fun i => ∃ xs, SqT K H p xs /\ ∃ v, atI xs i = some v /\ Q v H
def mIxS : R2 := fun x y H Q => mS x fun z => mI y fun i => z.length <= sizeLine /\ ∃ c, atI z.cps.toList i = some c /\ Q (.str (tx [c])) H
theorem i_list : IxR X (mIxL X.K) := ix_list.imp fun x y H Q h => by
  unfold mIxL at h; rw [mR_eq] at h; obtain ⟨p, rfl, h⟩ := h
  rw [mI_eq] at h; obtain ⟨i, rfl, xs, hq, v, hv, h⟩ := h
  exact ⟨p, xs, i, v, rfl, rfl, hq, hv, h⟩
theorem i_tup : IxR X (mIxT X.K) := ix_tup.imp fun x y H Q h => by
  unfold mIxT at h; rw [mR_eq] at h; obtain ⟨p, rfl, h⟩ := h
  rw [mI_eq] at h; obtain ⟨i, rfl, xs, hq, v, hv, h⟩ := h
  exact ⟨p, xs, i, v, rfl, rfl, hq, hv, h⟩
theorem i_str : IxR X mIxS := ix_str.imp fun x y H Q h => by
  unfold mIxS at h; rw [mS_eq] at h; obtain ⟨z, rfl, h⟩ := h
  rw [mI_eq] at h; obtain ⟨i, rfl, hz, c, hc, h⟩ := h
  exact ⟨z, i, c, rfl, rfl, hz, hc, h⟩
theorem x_ix {r : R2} (hr : IxR X r) (ha : PE X a ta) (hb : PE X b tb) (hs : PlainIx b := by exact fun _ _ => rfl) : PE X (.Subscript a b pos) (tOp r ta tb) := pe_ix hr ha hb hs
def mPart (t : TE) : TO := fun σ H Q => t σ H fun x H1 => mI x fun i => Q (some i) H1
theorem p_some (h : PE X e te) : PO X (some e) (mPart te) := by
  have : mPart te = tPart te := by
    funext σ H Q; unfold mPart tPart; congr 1; funext x H1; exact mI_eq x _
  rw [this]; exact po_some h
def mSlL (K : W.Frag) : V -> Option Int -> Option Int -> Hp -> VK -> Prop := fun x lo hi H Q => mR x fun a => ∃ xs, SqL K H a xs /\ ∀ p, H p = none -> Q (.ref p) (upd H p (.lst (cut xs lo hi)))
theorem s_list : SlR X (mSlL X.K) := sl_list.imp fun x l u H Q h => by
  unfold mSlL at h; rw [mR_eq] at h; obtain ⟨a, rfl, xs, hq, h⟩ := h
  exact ⟨a, xs, rfl, hq, h⟩
theorem c_lenS : CallR X (.builtin "len") (fun vs H Q => match vs with | [.str z] => z.length <= sizeLine /\ Q (.int z.length) H | _ => False) := call_len_str.imp fun vs H Q h => by
  split at h
  . rename_i z
    exact ⟨z, rfl, h.1, h.2⟩
  . exact h.elim
theorem c_lenL : CallR X (.builtin "len") (fun vs H Q => match vs with | [.ref p] => ∃ ys, (SqL X.K H p ys ∨ SqT X.K H p ys) /\ Q (.int ys.length) H | _ => False) := call_len_seq.imp fun vs H Q h => by
  split at h
  . rename_i p
    obtain ⟨ys, hq, h⟩ := h
    exact ⟨p, ys, rfl, hq, h⟩
  . exact h.elim
theorem c_int : CallR X (.type "int") (fun vs H Q => match vs with | [.bl k] => Q (.int (if k then 1 else 0)) H | _ => False) := call_int1.imp fun vs H Q h => by
  split at h
  . rename_i k
    exact .inr ⟨k, rfl, h⟩
  . exact h.elim
end
inductive Kd where | non | bl | int | str | lst | tup | dct
def kdT : Kd -> String | .non => "NoneType" | .bl => "bool" | .int => "int" | .str => "str" | .lst => "list" | .tup => "tuple" | .dct => "dict"
def Kof (H : Hp) : V -> Kd -> Prop
  | .non, .non => True | .bl _, .bl => True | .int _, .int => True | .str _, .str => True
  | .ref a, .lst => (∃ xs, H a = some (.lst xs)) ∨ ∃ o xs, H a = some (.frz o (.lst xs))
  | .ref a, .tup => ∃ xs, H a = some (.tup xs)
  | .ref a, .dct => ∃ kvs, H a = some (.dK kvs)
  | _, _ => False
def isK : Kd -> Kd -> Bool | .non, .non => true | .bl, .bl => true | .int, .int => true | .int, .bl => true | .str, .str => true | .lst, .lst => true | .tup, .tup => true | .dct, .dct => true | _, _ => false
theorem kit_K (K : W.Frag) (want k : Kd) : W.kitOne K (.type (kdT k)) (.type (kdT want)) = some (isK want k) := by
  cases want <;> cases k <;> first | rfl | kernel_rfl
theorem ty_K {K : W.Frag} {H : Hp} {x : V} {k : Kd} (h : Kof H x k) : TyOf K H x (.type (kdT k)) := by
  cases x <;> cases k <;> first
    | exact h.elim
    | exact .non
    | exact .bl _
    | exact .int _
    | exact .str _
    | (obtain ⟨xs, e⟩ := h; exact .tup e)
    | (obtain ⟨xs, e⟩ := h; exact .dK e)
    | (rcases h with ⟨xs, e⟩ | ⟨o, xs, e⟩
       . exact .lst e
       . exact .frz e)
def mIsi (want : Kd) : List V -> Hp -> VK -> Prop := fun vs H Q => match vs with
  | [x, y] => y = .ty (kdT want) /\ ∃ k, Kof H x k /\ Q (.bl (isK want k)) H
  | _ => False
section
variable {X : Cx}
theorem c_isi (want : Kd) : CallR X (.builtin "isinstance") (mIsi want) := call_isi.imp fun vs H Q h => by
  unfold mIsi at h; split at h
  . rename_i x y
    obtain ⟨rfl, k, hk, h⟩ := h
    exact ⟨x, _, _, _, rfl, ty_K hk, kit_K X.K want k, h⟩
  . exact h.elim
variable {e : Expr} {te : TE} {p p2 pos : Pos} {T : Str}
def tIsi (want : Kd) (te : TE) : TE := fun σ H Q => te σ H fun x H1 => ∃ k, Kof H1 x k /\ Q (.bl (isK want k)) H1
theorem x_isi (want : Kd) (he : PE X e te) (hg : Gl X "isinstance") (hm : X.mg "isinstance" = none) (hgT : Gl X T) (hmT : X.mg T = none) (hT : bootBuiltins T = some (.type (kdT want)))
    (hs : starEach [e, .Name T p2] X.env = (false, eval e X.env) :: starEach [.Name T p2] X.env := by rfl) (hs2 : starEach [.Name T p2] X.env = (false, eval (.Name T p2) X.env) :: starEach [] X.env := by rfl)
    (hn : T ≠ "__name__" := by decide) (hd : (T == ("__debug__" : Str)) = false := by decide) (hpl : (backTo pos (starEach [.Name T p2] X.env)).any (·.1) = false := by rfl) :
    PE X (.Call (.Name "isinstance" p) [e, .Name T p2] [] pos) (tIsi want te) := by
  have h := pe_callB (X := X) (x := "isinstance") (p := p) (pos := pos) (c_isi want) hg hm PyProof.Rows.boot_isinstance (pa_cons he (pa_cons (pe_bltn (v := .ty (kdT want)) (pos := p2) hgT hmT hT rfl hn hd) pa_nil hs2) hs) (by decide) (by decide) hs hpl
  intro pins s σ H Q I q; exact h pins s σ H Q I (by
    show te σ H _
    have : (fun (x : V) (H1 : Hp) => mIsi want [x, .ty (kdT want)] H1 Q) = (fun x H1 => ∃ k, Kof H1 x k /\ Q (.bl (isK want k)) H1) := by
      funext x H1
      apply propext
      constructor
      . rintro ⟨_, z⟩; exact z
      . intro z; exact ⟨rfl, z⟩
    exact this ▸ q)
end
structure Callee (P : Program) (w : World) (K : W.Frag) (mg : Str -> Option Value) (base : Heap) (n : Nat) (x : Str) (ps : List Str) (sp : Sp) : Prop where
  ex : ∃ (f : Addr) (fd : FuncData), FnOk P w K mg base CX0 n f fd ps sp /\ mg x = some (.ref f) /\ W.keepIn K (.ref f) = true /\ Binds K fd ps []
section
variable {X : Cx} {n : Nat} {x : Str} {ps : List Str} {sp : Sp} {p pos : Pos} {e : Expr} {es : List Expr} {t : TA}
def tFn (sp : Sp) (t : TA) : TE := fun σ H Q => t σ H fun vs H1 => sp vs H1 Q E0
theorem x_fn (c : Callee X.prog X.w X.K X.mg X.base n x ps sp) (hr : Room n X.A) (hg : Gl X x) (ha : PA X (e :: es) t) (hdb : (x == ("__debug__" : Str)) = false := by decide)
    (he : starEach (e :: es) X.env = (false, eval e X.env) :: starEach es X.env := by rfl) (hpl : (backTo pos (starEach es X.env)).any (·.1) = false := by rfl) : PE X (.Call (.Name x p) (e :: es) [] pos) (tFn sp t) := by
  obtain ⟨f, fd, F, hm, hk, hb⟩ := c.ex
  have h := pe_call (X := X) (p := p) (pos := pos) (E := E0) F hr hg hm hk hb (dvs := []) .nil pass0 ha hdb he hpl
  intro pins s σ H Q I q; exact h pins s σ H Q I (by
    show t σ H _
    have : (fun (vs : List V) (H1 : Hp) => sp (vs ++ []) H1 Q E0) = (fun vs H1 => sp vs H1 Q E0) := by
      funext vs H1; rw [List.append_nil]
    rw [this]; exact q)
end
structure DefAt (K : W.Frag) (mg : Str -> Option Value) (x : Str) (st : Stmt) (ps : List Str) : Prop where
  ex : ∃ (f : Addr) (fd : FuncData), Fun K x x st f fd /\ mg x = some (.ref f) /\ Binds K fd ps []
theorem DefAt.ok {P : Program} {w : World} {K : W.Frag} {mg : Str -> Option Value} {base : Heap} {x : Str} {st : Stmt} {N ps : List Str} {k : Nat} {sp : Sp} (D : DefAt K mg x st ps) (S : FnScope N ps (defScope st)) (len : ∀ vs H Q E, sp vs H Q E -> vs.length = ps.length)
    (hbody : ∀ (f : Addr) (cdv : Value) (A : Around) (outer : List Env) (s : Shared) (H : Hp) (vs : List V) (Q : VK) (E : XK), Room k (A.deeper (envOfC x (defScope st) s.heap.objs.size f cdv)) -> sp vs H Q E →
      ∃ t, PSs (cxOf CX0 P w K mg base N x (defScope st) f cdv A outer s H E).nox (defBody st) t /\ t { nx := fun _ H' => Q .non H', rt := Q } (start N vs) H) : Callee P w K mg base (k + 1) x ps sp := by
  obtain ⟨f, fd, F, hm, hb⟩ := D.ex
  exact ⟨f, fd, F.ok S len (hbody f), hm, F.kp, hb⟩
def compOk (sc0 : Scope) (N0 : List Str) (scope : Scope) (N : List Str) (js : List (Option Nat)) : Bool :=
  (scope.kind == .function) && scope.names.all (fun y => y.2 != .cell) && scope.names.all (fun y => y.2 != .local || scope.names.lookup y.1 == some .local) && (js.length == N.length) &&
  (List.range js.length).all (fun i => match js[i]? with | some (some j) => (match N[i]? with | some x => N0[j]? == some x && scope.names.lookup x == some .free | none => false) | _ => true) &&
  scope.names.all (fun y => y.2 != .free || sc0.names.lookup y.1 == some .cell || sc0.names.lookup y.1 == some .free)
theorem CompScope.by {X : Cx} {scope : Scope} {N : List Str} {js : List (Option Nat)} (sc0 : Scope) (N0 : List Str) (h0 : X.env.scope = sc0) (hN : X.N = N0) (ok : compOk sc0 N0 scope N js = true) : CompScope X scope N js := by
  unfold compOk at ok; simp only [Bool.and_eq_true] at ok
  obtain ⟨⟨⟨⟨⟨h1, h2⟩, h3⟩, h4⟩, h5⟩, h6⟩ := ok
  refine ⟨by simpa using h1, fun y hy => ?_, fun y hy hk => ?_, by simpa using h4, fun i j e => ?_, fun y hy hk => ?_⟩
  . have := List.all_eq_true.mp h2 y hy
    simpa using this
  . have := List.all_eq_true.mp h3 y hy
    rw [hk] at this; simpa using this
  . have hi : i < js.length := (Zgs.mp e).1
    have := List.all_eq_true.mp h5 i (List.mem_range.mpr hi)
    rw [e] at this; cases q : N[i]? with
    | none => simp [q] at this
    | some x =>
      simp only [q, Bool.and_eq_true, beq_iff_eq] at this
      exact ⟨x, rfl, by rw [hN]; exact this.1, this.2⟩
  . have := List.all_eq_true.mp h6 y hy
    rw [hk] at this; have z : (sc0.names.lookup y.1 == some .cell) = true ∨ (sc0.names.lookup y.1 == some .free) = true := by simpa using this
    have ek : X.env.kindOf y.1 = sc0.names.lookup y.1 := by rw [<- h0]; rfl
    rw [ek]; rcases z with z | z
    . exact .inl (by simpa using z)
    . exact .inr (by simpa using z)
end L2
namespace L2
open PySem PySem.Spec PyProof.Rows
def notStar : Expr -> Bool | .Starred _ _ => false | _ => true
theorem star_cons {e : Expr} {es : List Expr} {env : Env} (h : notStar e = true) : starEach (e :: es) env = (false, eval e env) :: starEach es env := by
  cases e <;> first | rfl | cases h
theorem star_any {es : List Expr} {env : Env} {pos : Pos} (h : es.all notStar = true) : (backTo pos (starEach es env)).any (·.1) = false := by
  induction es with
  | nil => rfl
  | cons e es ih =>
    rw [List.all_cons, Bool.and_eq_true] at h; rw [star_cons h.1]; have := ih h.2
    show (false || (backTo pos (starEach es env)).any (·.1)) = false
    rw [this]; rfl
section
variable {X : Cx} {e o : Expr} {es : List Expr} {te to : TE} {t : TA} {x : Str} {p pos apos cpos : Pos} {id T : String} {r : List V -> Hp -> VK -> Prop}
theorem a_cons (ha : PE X e te) (hr : PA X es t) (h : notStar e = true := by rfl) : PA X (e :: es) (tCons te t) := pa_cons ha hr (star_cons h)
theorem x_callB (hc : CallR X (.builtin id) r) (hg : Gl X x) (hm : X.mg x = none) (hv : bootBuiltins x = some (.builtin id)) (ha : PA X (e :: es) t) (hn : x ≠ "__name__" := by decide) (hdb : (x == ("__debug__" : Str)) = false := by decide)
    (h1 : notStar e = true := by rfl) (h2 : es.all notStar = true := by rfl) : PE X (.Call (.Name x p) (e :: es) [] pos) (tCB r t) := pe_callB hc hg hm hv ha hn hdb (star_cons h1) (star_any h2)
theorem x_callTy (hc : CallR X (.type T) r) (hg : Gl X x) (hm : X.mg x = none) (hv : bootBuiltins x = some (.type T)) (ha : PA X (e :: es) t) (hn : x ≠ "__name__" := by decide) (hdb : (x == ("__debug__" : Str)) = false := by decide)
    (h1 : notStar e = true := by rfl) (h2 : es.all notStar = true := by rfl) : PE X (.Call (.Name x p) (e :: es) [] pos) (tCB r t) := pe_callTy hc hg hm hv ha hn hdb (star_cons h1) (star_any h2)
theorem x_fnc {n : Nat} {ps : List Str} {sp : Sp} (c : Callee X.prog X.w X.K X.mg X.base n x ps sp) (hr : Room n X.A) (hg : Gl X x) (ha : PA X (e :: es) t) (hdb : (x == ("__debug__" : Str)) = false := by decide)
    (h1 : notStar e = true := by rfl) (h2 : es.all notStar = true := by rfl) : PE X (.Call (.Name x p) (e :: es) [] pos) (tFn sp t) := x_fn c hr hg ha hdb (star_cons h1) (star_any h2)
theorem star_few {es : List Expr} {env : Env} {cpos : Pos} (h : es.all notStar = true) : (backTo cpos (starEach es env)).all (fun x => !x.1) = true := by
  induction es with
  | nil => rfl
  | cons e es ih =>
    rw [List.all_cons, Bool.and_eq_true] at h; rw [star_cons h.1]; show (!false && (backTo cpos (starEach es env)).all (fun x => !x.1)) = true
    rw [ih h.2]; rfl
theorem x_bm {name : Str} {r : V -> List V -> Hp -> VK -> Prop} (pa : PlainAttrs T) (slot : Slot T name id) (hty : typeOf (.builtin id) = pure (.type "method_descriptor")) (hm : MtR X id r) (ho : PE X o to) (ha : PA X (e :: es) t)
    (hbase : attributeBase o name X.env (eval o X.env) = eval o X.env := by rfl) (hline : (apos.endLine == cpos.line) = true := by rfl) (h1 : notStar e = true := by rfl) (h2 : es.all notStar = true := by rfl) (hn : es.length + 1 < 30 := by decide) :
    PE X (.Call (.Attribute o name apos) (e :: es) [] cpos) (tBM X.K T r to t) := by
  refine pe_bm pa slot hty hm ho ha hbase ?_ hline (star_cons h1) (star_any h2)
  rw [star_few (by rw [List.all_cons, h1, h2]; rfl)]
  show (true && true && decide (es.length + 1 + 0 + 0 < 30)) = true
  simp
  omega
theorem x_isin {p2 : Pos} {T : Str} (want : Kd) (he : PE X e te) (hg : Gl X "isinstance") (hm : X.mg "isinstance" = none) (hgT : Gl X T) (hmT : X.mg T = none) (hT : bootBuiltins T = some (.type (kdT want)))
    (hn : T ≠ "__name__" := by decide) (hd : (T == ("__debug__" : Str)) = false := by decide) (h1 : notStar e = true := by rfl) : PE X (.Call (.Name "isinstance" p) [e, .Name T p2] [] pos) (tIsi want te) :=
  x_isi want he hg hm hgT hmT hT (star_cons h1) (star_cons rfl) hn hd (star_any rfl)
end
end L2
namespace L2
open PySem PySem.Spec PyProof.Rows
theorem bb_len : bootBuiltins "len" = some (.builtin "len") := by decide +kernel
theorem bb_all : bootBuiltins "all" = some (.builtin "all") := by decide +kernel
theorem bb_any : bootBuiltins "any" = some (.builtin "any") := by decide +kernel
theorem bb_max : bootBuiltins "max" = some (.builtin "max") := by decide +kernel
theorem bb_min : bootBuiltins "min" = some (.builtin "min") := by decide +kernel
theorem bb_list : bootBuiltins "list" = some (.type "list") := by decide +kernel
theorem bb_str : bootBuiltins "str" = some (.type "str") := by decide +kernel
theorem bb_int : bootBuiltins "int" = some (.type "int") := by decide +kernel
theorem bb_bool : bootBuiltins "bool" = some (.type "bool") := by decide +kernel
theorem bb_tuple : bootBuiltins "tuple" = some (.type "tuple") := by decide +kernel
end L2
namespace L2
theorem if_t {c : Bool} {A B : Prop} (h : c = true) (k : A) : if c = true then A else B := by rw [if_pos h]; exact k
theorem if_f {c : Bool} {A B : Prop} (h : c = false) (k : B) : if c = true then A else B := by rw [if_neg (by rw [h]; exact Bool.false_ne_true)]; exact k
theorem if_b {c : Bool} {A B : Prop} (ht : c = true -> A) (hf : c = false -> B) : if c = true then A else B := by
  cases h : c with
  | true => rw [if_pos rfl]; exact ht h
  | false => rw [if_neg Bool.false_ne_true]; exact hf h
end L2
namespace L2
open PySem PySem.Spec PyProof.Rows
structure Seqs (J : It) (xs : List V) (A : Hp -> Prop) : Prop where
  go : ∀ i H, i < xs.length -> A H -> J.go i H
  yld : ∀ i H x H', i < xs.length -> A H -> J.yld i H x H' -> H' = H /\ xs[i]? = some x
  stop : ∀ H, A H -> J.stop xs.length H
def signs (x : Str) : List V := x.cps.toList.map fun c => V.str (tx [c])
theorem seq_str (x : Str) : Seqs (Its x) (signs x) (fun _ => True) := by
  have hl : (signs x).length = x.cps.size := by simp [signs]
  refine ⟨fun i H hi _ => by rw [hl] at hi; exact hi, fun i H v H' _ _ ⟨e, c, hc, ev⟩ => ⟨e, ?_⟩, fun H _ => by rw [hl]; exact Znr _⟩
  subst ev; unfold signs; rw [Zgm, Array.getElem?_toList, hc]; rfl
def rangeV (lo : Int) (n : Nat) : List V := (List.range n).map fun (i : Nat) => V.int (lo + (i : Int))
theorem seq_range (lo : Int) (n : Nat) : Seqs (Itr lo n) (rangeV lo n) (fun _ => True) := by
  have hl : (rangeV lo n).length = n := by simp [rangeV]
  refine ⟨fun i H hi _ => by rw [hl] at hi; exact hi, fun i H v H' hi _ ⟨e, ev⟩ => ⟨e, ?_⟩, fun H _ => by rw [hl]; exact Znr _⟩
  subst ev; rw [hl] at hi; unfold rangeV; rw [Zgm, List.getElem?_range hi]; rfl
theorem seq_list (K : W.Frag) (a : Addr) (xs : List V) : Seqs (Itl K a) xs (fun H => SqL K H a xs) :=
  ⟨fun i H hi h => ⟨xs, xs[i], h, by simp [hi]⟩, fun i H x H' _ h ⟨e, y⟩ => ⟨e, y xs h⟩, fun H h => ⟨xs, h, Znr _⟩⟩
theorem seq_tup (K : W.Frag) (a : Addr) (xs : List V) : Seqs (Itt K a) xs (fun H => SqT K H a xs) :=
  ⟨fun i H hi h => ⟨xs, xs[i], h, by simp [hi]⟩, fun i H x H' _ h ⟨e, y⟩ => ⟨e, y xs h⟩, fun H h => ⟨xs, h, Znr _⟩⟩
theorem comp_seq {J : It} {xs : List V} {A : Hp -> Prop} {js : List (Option Nat)} {g : TG} {tt : TT} {te : TE} {σ : St} {H : Hp} {Q : List V -> Hp -> Prop} (S : Seqs J xs A) (hz : xs.length <= 100000) (Pv : Nat -> List V -> Hp -> Prop) (hA : ∀ i ys H, Pv i ys H -> A H /\ ys.length <= i) (h0 : Pv 0 [] H)
    (hs : ∀ i x ys H, xs[i]? = some x -> Pv i ys H -> g x (stC js σ) H fun σ2 H2 => tt σ2 H2 fun b H3 => if b = true then te σ2 H3 fun y H4 => Pv (i + 1) (ys ++ [y]) H4 else Pv (i + 1) ys H3)
    (hd : ∀ ys H, Pv xs.length ys H -> Q ys H) : wComp js g tt te σ J H Q := by
  refine ⟨fun i m ys H => m = xs.length - i /\ i <= xs.length /\ Pv i ys H, ⟨xs.length, by simp, Nat.zero_le _, h0⟩, ?_⟩
  rintro i m ys H ⟨rfl, hi, p⟩
  obtain ⟨pa, hy⟩ := hA i ys H p
  by_cases hlt : i < xs.length
  . refine .inr ⟨S.go i H hlt pa, Znl (m := 100000) (by omega) (by decide), Pv (i + 1), fun ys' H' p' => ⟨xs.length - (i + 1), by omega, rfl, hlt, p'⟩, fun x H' y => ?_⟩
    obtain ⟨rfl, hx⟩ := S.yld i H x H' hlt pa y
    exact hs i x ys H' hx p
  . have e : i = xs.length := by omega
    subst e; exact .inl ⟨S.stop H pa, hd ys H p⟩
theorem comp_pure {J : It} {xs : List V} {A : Hp -> Prop} {js : List (Option Nat)} {g : TG} {tt : TT} {te : TE} {σ : St} {H : Hp} {Q : List V -> Hp -> Prop} (S : Seqs J xs A) (hz : xs.length <= 100000) (p : V -> Bool) (f : V -> V) (hA : A H)
    (hs : ∀ (x : V) (ys : List V) (N : List V -> Hp -> Prop), x ∈ xs -> (p x = true -> N (ys ++ [f x]) H) -> (p x = false -> N ys H) -> g x (stC js σ) H fun σ2 H2 => tt σ2 H2 fun b H3 => if b = true then te σ2 H3 fun y H4 => N (ys ++ [y]) H4 else N ys H3)
    (hd : Q ((xs.filter p).map f) H) : wComp js g tt te σ J H Q := by
  refine comp_seq S hz (fun i ys H' => ys = ((xs.take i).filter p).map f /\ H' = H) (fun i ys H' ⟨e, e2⟩ => ⟨by rw [e2]; exact hA, ?_⟩) ⟨by simp, rfl⟩ (fun i x ys H' hx ⟨e, e2⟩ => ?_) (fun ys H' ⟨e, e2⟩ => ?_)
  . rw [e, Zlm]; exact Znt (List.length_filter_le _ _) (by rw [Zlk]; exact Nat.min_le_left _ _)
  . subst e2; have key : (xs.take (i + 1)).filter p = (xs.take i).filter p ++ (if p x = true then [x] else []) := take_succ_filter p xs i x hx
    refine hs x ys (fun ys' H3 => ys' = ((xs.take (i + 1)).filter p).map f /\ H3 = H') (Zmg hx) (fun h => ⟨?_, rfl⟩) (fun h => ⟨?_, rfl⟩)
    . rw [key, if_pos h, Zap, e]; rfl
    . rw [key, if_neg (by rw [h]; exact Bool.false_ne_true), List.append_nil, e]
  . subst e2; rw [e, Ztl (Znr _)]; exact hd
theorem for_seq {J : It} {xs : List V} {A : Hp -> Prop} {g : TG} {tb : TS} {D : Ends} {σ : St} {H : Hp} (S : Seqs J xs A) (Pv : Nat -> St -> Hp -> Prop) (hA : ∀ i σ H, Pv i σ H -> A H) (h0 : Pv 0 σ H)
    (hs : ∀ (i : Nat) (x : V) σ H, xs[i]? = some x -> Pv i σ H -> g x σ H fun σ2 H2 => tb { D with nx := Pv (i + 1), ct := Pv (i + 1), bk := D.nx } σ2 H2) (hd : ∀ σ H, Pv xs.length σ H -> D.nx σ H) :
    ∃ W : Nat -> Nat -> St -> Hp -> Prop, (∃ m, W 0 m σ H) /\ ∀ i m σ H, W i m σ H →
      (J.stop i H /\ D.nx σ H) ∨ (J.go i H /\ ∃ N : St -> Hp -> Prop, (∀ σ' H', N σ' H' -> ∃ m', m' < m /\ W (i + 1) m' σ' H') /\ ∀ x H', J.yld i H x H' -> g x σ H' fun σ2 H2 => tb { D with nx := N, ct := N, bk := D.nx } σ2 H2) := by
  refine ⟨fun i m σ H => m = xs.length - i /\ i <= xs.length /\ Pv i σ H, ⟨xs.length, by simp, Nat.zero_le _, h0⟩, ?_⟩
  rintro i m σ H ⟨rfl, hi, p⟩
  have pa := hA i σ H p
  by_cases hlt : i < xs.length
  . refine .inr ⟨S.go i H hlt pa, Pv (i + 1), fun σ' H' p' => ⟨xs.length - (i + 1), by omega, rfl, hlt, p'⟩, fun x H' y => ?_⟩
    obtain ⟨rfl, hx⟩ := S.yld i H x H' hlt pa y
    exact hs i x σ H' hx p
  . have e : i = xs.length := by omega
    subst e; exact .inl ⟨S.stop H pa, hd σ H p⟩
end L2
namespace L2
open PySem
theorem same_upd {H : Hp} {p : Addr} {o : HO} (h : H p = none) : Same H (upd H p o) := fun b u q => by rw [upd_ne (ne_of_none q h)]; exact q
theorem cut_to {α : Type} (xs : List α) (k : Nat) : cut xs none (some (k : Int)) = xs.take k := by
  unfold cut; rw [HT.sIx_none, HT.sIx_nat, List.drop_zero, Nat.sub_zero, <- List.take_take, Ztl (Znr _)]
theorem cut_from {α : Type} (xs : List α) (k : Nat) : cut xs (some (k : Int)) none = xs.drop k := by
  unfold cut; rw [HT.sIx_none, HT.sIx_nat]; by_cases h : k <= xs.length
  . rw [Nat.min_eq_left h, Ztl (by rw [List.length_drop]; exact Znr _)]
  . rw [Nat.min_eq_right (by omega), List.drop_of_length_le (Znr _), List.drop_of_length_le (by omega), List.take_nil]
end L2
namespace L2
open PySem PySem.Spec PyProof.Rows
theorem at_upd {H : Hp} {p q : Addr} {o u : HO} (h : H p = some o) (hq : H q = none) : upd H q u p = some o := by rw [upd_ne (ne_of_none h hq)]; exact h
theorem atI_some {α : Type} {xs : List α} {i : Int} (h0 : 0 <= i) (h1 : i < xs.length) : ∃ v, atI xs i = some v /\ v ∈ xs := by
  obtain ⟨j, rfl⟩ := Zio h0
  have hj : j < xs.length := by omega
  exact ⟨xs[j], atI_nat (by simp [hj]), List.getElem_mem hj⟩
theorem glue_go (g : Array Nat) : ∀ (ps : List Str) (acc : Array Nat), (ps.foldl (fun acc p => acc ++ g ++ p.cps) acc).toList = acc.toList ++ (ps.map fun p => g.toList ++ p.cps.toList).flatten
  | [], acc => by simp
  | p :: ps, acc => by
    rw [List.foldl_cons, glue_go g ps]; simp
theorem join_cps (ps : List Str) : (Txt.join (tx []) ps).cps.toList = (ps.map fun p => p.cps.toList).flatten := by
  unfold Txt.join Builtin.Str.glued; rw [glue_go]; cases ps with
  | nil => simp [Str.empty]
  | cons p ps => simp
theorem join_tx (ps : List Str) : Txt.join (tx []) ps = tx (ps.map fun p => p.cps.toList).flatten := by rw [<- join_cps, tx_cps]
theorem join_signs (ts : List Nat) : Txt.join (tx []) (ts.map fun c => tx [c]) = tx ts := by
  rw [join_tx, List.map_map]; congr 1
  congr 1
  induction ts with
  | nil => rfl
  | cons c r ih => rw [List.map_cons, List.flatten_cons, ih]; rfl
theorem emp_eq : ("" : Str) = tx [] := by decide +kernel
end L2
namespace L2
open PySem PySem.Spec PyProof.Rows
theorem comp_str {js : List (Option Nat)} {g : TG} {tt : TT} {te : TE} {σ : St} {z : Str} {H : Hp} {Q : List V -> Hp -> Prop} (hz : z.length <= 100000) (p : Nat -> Bool) (f : Nat -> V)
    (hs : ∀ (c : Nat) (ys : List V) (N : List V -> Hp -> Prop), c ∈ z.cps.toList -> (p c = true -> N (ys ++ [f c]) H) -> (p c = false -> N ys H) -> g (.str (tx [c])) (stC js σ) H fun σ2 H2 => tt σ2 H2 fun b H3 => if b = true then te σ2 H3 fun y H4 => N (ys ++ [y]) H4 else N ys H3)
    (hd : Q ((z.cps.toList.filter p).map f) H) : wComp js g tt te σ (Its z) H Q := by
  have hl : (signs z).length = z.cps.toList.length := by simp [signs]
  refine comp_seq (seq_str z) (by rw [hl]; simpa [Str.length] using hz) (fun i ys H' => ys = ((z.cps.toList.take i).filter p).map f /\ H' = H) (fun i ys H' ⟨e, e2⟩ => ⟨trivial, ?_⟩) ⟨by simp, rfl⟩ (fun i x ys H' hx ⟨e, e2⟩ => ?_) (fun ys H' ⟨e, e2⟩ => ?_)
  . rw [e, Zlm]; exact Znt (List.length_filter_le _ _) (by rw [Zlk]; exact Nat.min_le_left _ _)
  . subst e2; unfold signs at hx; rw [Zgm] at hx; cases hc : z.cps.toList[i]? with
    | none => rw [hc] at hx; cases hx
    | some c =>
      rw [hc] at hx; cases hx
      have key : (z.cps.toList.take (i + 1)).filter p = (z.cps.toList.take i).filter p ++ (if p c = true then [c] else []) := take_succ_filter p _ i c hc
      refine hs c ys (fun ys' H3 => ys' = ((z.cps.toList.take (i + 1)).filter p).map f /\ H3 = H') (Zmg hc) (fun h => ⟨?_, rfl⟩) (fun h => ⟨?_, rfl⟩)
      . rw [key, if_pos h, Zap, e]; rfl
      . rw [key, if_neg (by rw [h]; exact Bool.false_ne_true), List.append_nil, e]
  . subst e2; rw [e, hl, Ztl (Znr _)]; exact hd
theorem all_filter {α : Type} (p : α -> Bool) : ∀ l : List α, (l.filter fun c => !p c).isEmpty = l.all p
  | [] => rfl
  | c :: l => by
    rw [List.filter_cons, List.all_cons]; cases h : p c with
    | true => simp [all_filter p l]
    | false => simp
end L2
namespace L2
open PySem
theorem sum_ones : ∀ ts : List Nat, ((ts.map fun c => tx [c]).map (·.length)).sum = ts.length
  | [] => rfl
  | c :: ts => by
    rw [List.map_cons, List.map_cons, List.sum_cons, sum_ones ts, Zlc]; show 1 + ts.length = _
    omega
end L2
namespace L2
open PySem
theorem cutT {t : TT} {σ : St} {H : Hp} {Q : Bool -> Hp -> Prop} (R : Bool -> Hp -> Prop) (h : ∀ k : Bool -> Hp -> Prop, (∀ v H', R v H' -> k v H') -> t σ H k) (h2 : ∀ v H', R v H' -> Q v H') : t σ H Q := h Q h2
theorem cutS {t : TS} {D : Ends} {σ : St} {H : Hp} (R : St -> Hp -> Prop) (h : ∀ nx : St -> Hp -> Prop, (∀ σ' H', R σ' H' -> nx σ' H') -> t { D with nx := nx } σ H) (h2 : ∀ σ' H', R σ' H' -> D.nx σ' H') : t D σ H := h D.nx h2
theorem Kof.same {H H' : Hp} {x : V} {k : Kd} (s : Same H H') (h : Kof H x k) : Kof H' x k := by
  cases x <;> cases k <;> first
    | exact h
    | (obtain ⟨xs, e⟩ := h; exact ⟨xs, s _ _ e⟩)
    | (rcases h with ⟨xs, e⟩ | ⟨o, xs, e⟩
       . exact .inl ⟨xs, s _ _ e⟩
       . exact .inr ⟨o, xs, s _ _ e⟩)
end L2
namespace L2
open PySem PySem.Spec PyProof.Rows
structure XE (X : Cx) (e : Expr) (t : TE) : Prop where
  h : PE X e t
structure XT (X : Cx) (e : Expr) (t : TT) : Prop where
  h : PT X e t
structure XW (X : Cx) (e : Expr) (t : TT) : Prop where
  h : PW X e t
structure XA (X : Cx) (es : List Expr) (t : TA) : Prop where
  h : PA X es t
structure XS (X : Cx) (st : Stmt) (t : TS) : Prop where
  h : PS X st t
structure XB (X : Cx) (st : List Stmt) (t : TS) : Prop where
  h : PSs X st t
structure XI (X : Cx) (tg iter : Expr) (t : TI) : Prop where
  h : PI X tg iter t
structure XG (X : Cx) (e : Expr) (t : TG) : Prop where
  h : PG X e t
structure XGs (X : Cx) (es : List Expr) (t : TGs) : Prop where
  h : PGs X es t
structure XO (X : Cx) (e : Option Expr) (t : TO) : Prop where
  h : PO X e t
structure XTs (X : Cx) (cs : List Expr) (t : TT) : Prop where
  h : PTs X cs t
structure XSet (X : Cx) (t : TSet) : Prop where
  h : PSet X t
structure XOp (X : Cx) (f : Value -> Value -> Sem Value) (r : R2) : Prop where
  h : OpR X f r
structure XIx (X : Cx) (r : R2) : Prop where
  h : IxR X r
structure XSl (X : Cx) (r : V -> Option Int -> Option Int -> Hp -> VK -> Prop) : Prop where
  h : SlR X r
structure XC (X : Cx) (f : Value) (r : List V -> Hp -> VK -> Prop) : Prop where
  h : CallR X f r
structure XM (X : Cx) (id : String) (r : V -> List V -> Hp -> VK -> Prop) : Prop where
  h : MtR X id r
namespace R
section
variable {X : Cx} {a b c e o i : Expr} {es rest : List Expr} {ta tb tc te to ti : TE} {tA tB' : TT} {t u : TA} {pos p p2 apos cpos pos' : Pos} {x : Str} {n : Nat} {r r' : R2}
theorem v (i : Nat) {x : Str} {pos : Pos} (hN : X.N[i]? = some x := by rfl) (hv : Vis X.env.scope x := by first | exact Or.inl rfl | exact Or.inr (Or.inl rfl) | exact Or.inr (Or.inr rfl)) (hd : (x == ("__debug__" : Str)) = false := by decide)
    (hcd : (x == ("__classdict__" : Str)) = false := by decide) : XE X (.Name x pos) (vr i) := ⟨xv i hN hv hd hcd⟩
theorem int {i j pos} : XE X (.Constant (.int i) j pos) (tC (.int i)) := ⟨pe_int⟩
theorem bl {b j pos} : XE X (.Constant (.bool b) j pos) (tC (.bl b)) := ⟨pe_bl⟩
theorem non {j pos} : XE X (.Constant .none j pos) (tC .non) := ⟨pe_non⟩
theorem str {x j pos} : XE X (.Constant (.str x) j pos) (tC (.str x)) := ⟨pe_str⟩
theorem gS {z : Str} (hg : Gl X x) (hm : ∃ t, X.mg x = some (.str z t)) (hd : (x == ("__debug__" : Str)) = false := by decide) : XE X (.Name x pos) (tC (.str z)) := by
  obtain ⟨t, hm⟩ := hm; exact ⟨pe_glob hg hm ⟨t, rfl⟩ hd⟩
theorem gI {z : Int} (hg : Gl X x) (hm : ∃ t, X.mg x = some (.int z t)) (hd : (x == ("__debug__" : Str)) = false := by decide) : XE X (.Name x pos) (tC (.int z)) := by
  obtain ⟨t, hm⟩ := hm; exact ⟨pe_glob hg hm ⟨t, rfl⟩ hd⟩
theorem gR {a : Addr} (hg : Gl X x) (hm : X.mg x = some (.ref a)) (hd : (x == ("__debug__" : Str)) = false := by decide) : XE X (.Name x pos) (tC (.ref a)) := ⟨pe_glob hg hm rfl hd⟩
theorem op {op : Operator} (ho : XOp X (binaryOp op) r) (ha : XE X a ta) (hb : XE X b tb) : XE X (.BinOp a op b pos) (tOp r ta tb) := ⟨pe_op ho.h ha.h hb.h⟩
theorem add : XOp X (binaryOp .Add) (m20 fun i j => .int (i + j)) := ⟨o_add⟩
theorem sub : XOp X (binaryOp .Sub) (m20 fun i j => .int (i - j)) := ⟨o_sub⟩
theorem mul : XOp X (binaryOp .Mult) (m2 CMul fun i j => .int (i * j)) := ⟨o_mul⟩
theorem mod : XOp X (binaryOp .Mod) (m2 (fun _ j => 0 < j) fun i j => .int (i % j)) := ⟨o_mod⟩
theorem pow : XOp X (binaryOp .Pow) (m2 CPow fun i j => .int (i ^ j.toNat)) := ⟨o_pow⟩
theorem addS : XOp X (binaryOp .Add) mAddS := ⟨o_addS⟩
theorem lt : XOp X (compareOp .Lt) (m20 fun i j => .bl (decide (i < j))) := ⟨o_lt⟩
theorem le : XOp X (compareOp .LtE) (m20 fun i j => .bl (decide (i <= j))) := ⟨o_le⟩
theorem gt : XOp X (compareOp .Gt) (m20 fun i j => .bl (decide (j < i))) := ⟨o_gt⟩
theorem eq : XOp X (compareOp .Eq) mEq := ⟨o_eq⟩
theorem ne : XOp X (compareOp .NotEq) mNe := ⟨o_ne⟩
theorem inS : XOp X (compareOp .In) (mInS false) := ⟨o_inS⟩
theorem notInS : XOp X (compareOp .NotIn) (mInS true) := ⟨o_notInS⟩
theorem inQ : XOp X (compareOp .In) (rIn X.K false) := ⟨op_in_seq⟩
theorem notInQ : XOp X (compareOp .NotIn) (rIn X.K true) := ⟨op_notIn_seq⟩
theorem eqNil (hu : X.A.units < cLine) : XOp X (compareOp .Eq) (rEqNil X.K false) := ⟨op_eqNil hu⟩
theorem neNil (hu : X.A.units < cLine) : XOp X (compareOp .NotEq) (rEqNil X.K true) := ⟨op_neNil hu⟩
theorem cmp {op : CmpOp} (ho : XOp X (compareOp op) r) (ha : XE X a ta) (hb : XE X b tb) (hm : behindInMarks op b = false := by first | exact nomark _ | rfl) : XE X (.Compare a [op] [b] pos) (tOp r ta tb) := ⟨x_cmp ho.h ha.h hb.h hm⟩
theorem tcmp {op : CmpOp} (ho : XOp X (compareOp op) r) (ha : XE X a ta) (hb : XE X b tb) (hm : behindInMarks op b = false := by first | exact nomark _ | rfl) : XT X (.Compare a [op] [b] pos) (mT (tOp r ta tb)) := ⟨t_cmp ho.h ha.h hb.h hm⟩
theorem chain {op op' : CmpOp} (ho : XOp X (compareOp op) r) (ho' : XOp X (compareOp op') r') (ha : XE X a ta) (hb : XE X b tb) (hc : XE X c tc) (hm : lastMarks [op, op'] [b, c] = false := by with_unfolding_all rfl) : XE X (.Compare a [op, op'] [b, c] pos) (mChain r r' ta tb tc) := ⟨x_chain ho.h ho'.h ha.h hb.h hc.h hm⟩
theorem tchain {op op' : CmpOp} (ho : XOp X (compareOp op) r) (ho' : XOp X (compareOp op') r') (ha : XE X a ta) (hb : XE X b tb) (hc : XE X c tc) (hm : lastMarks [op, op'] [b, c] = false := by with_unfolding_all rfl) : XT X (.Compare a [op, op'] [b, c] pos) (mT (mChain r r' ta tb tc)) := ⟨t_chain ho.h ho'.h ha.h hb.h hc.h hm⟩
theorem neg (ha : XE X a ta) : XE X (.UnaryOp .USub a pos) (tUn (fun x H Q => mI x fun i => Q (.int (-i)) H) ta) := ⟨x_neg ha.h⟩
theorem val {t : TE} (h : XE X e t) (he : ∀ whole, isTrue e X.env whole = (do let v ← whole; standAt e.pos; holding [v] (truthy v)) := by intro _; rfl) : XT X e (mT t) := ⟨t_val h.h he⟩
theorem tnot (ha : XT X a tA) : XT X (.UnaryOp .Not a pos) (tNot tA) := ⟨pt_not ha.h⟩
theorem wand1 (ha : XT X a tA) : XW X (.BoolOp .And [a] pos) tA := ⟨pw_and1 ha.h⟩
theorem wor1 (ha : XT X a tA) : XW X (.BoolOp .Or [a] pos) tA := ⟨pw_or1 ha.h⟩
theorem wand (ha : XT X a tA) (hb : XW X (.BoolOp .And (b :: rest) pos) tB') : XW X (.BoolOp .And (a :: b :: rest) pos) (tAnd tA tB') := ⟨pw_and ha.h hb.h⟩
theorem wor (ha : XT X a tA) (hb : XW X (.BoolOp .Or (b :: rest) pos) tB') : XW X (.BoolOp .Or (a :: b :: rest) pos) (tOr tA tB') := ⟨pw_or ha.h hb.h⟩
theorem tw (h : XW X e tA) : XT X e tA := ⟨h.h.pt⟩
theorem one {op} (h : XE X a ta) : XE X (.BoolOp op [a] pos) ta := ⟨pe_one h.h⟩
theorem and (ha : XE X a ta) (hb : XE X (.BoolOp .And (b :: rest) pos) tb) : XE X (.BoolOp .And (a :: b :: rest) pos) (mAndV ta tb) := ⟨x_and ha.h hb.h⟩
theorem or (ha : XE X a ta) (hb : XE X (.BoolOp .Or (b :: rest) pos) tb) : XE X (.BoolOp .Or (a :: b :: rest) pos) (mOrV ta tb) := ⟨x_or ha.h hb.h⟩
theorem not (ha : XE X a ta) : XE X (.UnaryOp .Not a pos) (mNotV ta) := ⟨x_not ha.h⟩
theorem ix (hr : XIx X r) (ha : XE X a ta) (hb : XE X b tb) (hs : PlainIx b := by exact fun _ _ => rfl) : XE X (.Subscript a b pos) (tOp r ta tb) := ⟨x_ix hr.h ha.h hb.h hs⟩
theorem iL : XIx X (mIxL X.K) := ⟨i_list⟩
theorem iT : XIx X (mIxT X.K) := ⟨i_tup⟩
theorem iS : XIx X mIxS := ⟨i_str⟩
theorem pn : XO X none tNoPart := ⟨po_none⟩
theorem ps (h : XE X e te) : XO X (some e) (mPart te) := ⟨p_some h.h⟩
theorem sl {r : V -> Option Int -> Option Int -> Hp -> VK -> Prop} {lo hi : Option Expr} {tl th : TO} (hr : XSl X r) (he : XE X e te) (hl : XO X lo tl) (hu : XO X hi th) : XE X (.Subscript e (.Slice lo hi none p2) pos) (tSl r te tl th) := ⟨pe_slice hr.h he.h hl.h hu.h⟩
theorem sL : XSl X (mSlL X.K) := ⟨s_list⟩
theorem nil : XA X [] tNil := ⟨pa_nil⟩
theorem cons (ha : XE X e te) (hr : XA X es t) (h : notStar e = true := by rfl) : XA X (e :: es) (tCons te t) := ⟨a_cons ha.h hr.h h⟩
theorem lst (h : XA X es t) : XE X (.List es pos) (tLst t) := ⟨pe_lst h.h⟩
theorem callB {id : String} {r : List V -> Hp -> VK -> Prop} (hc : XC X (.builtin id) r) (hg : Gl X x) (hm : X.mg x = none) (hv : bootBuiltins x = some (.builtin id)) (ha : XA X (e :: es) t) (hn : x ≠ "__name__" := by decide) (hdb : (x == ("__debug__" : Str)) = false := by decide)
    (h1 : notStar e = true := by rfl) (h2 : es.all notStar = true := by rfl) : XE X (.Call (.Name x p) (e :: es) [] pos) (tCB r t) := ⟨x_callB hc.h hg hm hv ha.h hn hdb h1 h2⟩
theorem callTy {T : String} {r : List V -> Hp -> VK -> Prop} (hc : XC X (.type T) r) (hg : Gl X x) (hm : X.mg x = none) (hv : bootBuiltins x = some (.type T)) (ha : XA X (e :: es) t) (hn : x ≠ "__name__" := by decide) (hdb : (x == ("__debug__" : Str)) = false := by decide)
    (h1 : notStar e = true := by rfl) (h2 : es.all notStar = true := by rfl) : XE X (.Call (.Name x p) (e :: es) [] pos) (tCB r t) := ⟨x_callTy hc.h hg hm hv ha.h hn hdb h1 h2⟩
theorem lenS : XC X (.builtin "len") (fun vs H Q => match vs with | [.str z] => z.length <= sizeLine /\ Q (.int z.length) H | _ => False) := ⟨c_lenS⟩
theorem lenL : XC X (.builtin "len") (fun vs H Q => match vs with | [.ref p] => ∃ ys, (SqL X.K H p ys ∨ SqT X.K H p ys) /\ Q (.int ys.length) H | _ => False) := ⟨c_lenL⟩
theorem toInt : XC X (.type "int") (fun vs H Q => match vs with | [.bl k] => Q (.int (if k then 1 else 0)) H | _ => False) := ⟨c_int⟩
theorem all (hc : X.calm = true) : XC X (.builtin "all") (rAll X.K) := ⟨call_all hc⟩
theorem any (hc : X.calm = true) : XC X (.builtin "any") (rAny X.K) := ⟨call_any hc⟩
theorem fn {n : Nat} {ps : List Str} {sp : Sp} (c : Callee X.prog X.w X.K X.mg X.base n x ps sp) (hr : Room n X.A) (hg : Gl X x) (ha : XA X (e :: es) t) (hdb : (x == ("__debug__" : Str)) = false := by decide)
    (h1 : notStar e = true := by rfl) (h2 : es.all notStar = true := by rfl) : XE X (.Call (.Name x p) (e :: es) [] pos) (tFn sp t) := ⟨x_fnc c hr hg ha.h hdb h1 h2⟩
theorem bm {T id : String} {name : Str} {r : V -> List V -> Hp -> VK -> Prop} (pa : PlainAttrs T) (slot : Slot T name id) (hty : typeOf (.builtin id) = pure (.type "method_descriptor")) (hm : XM X id r) (ho : XE X o to) (ha : XA X (e :: es) t)
    (hbase : attributeBase o name X.env (eval o X.env) = eval o X.env := by rfl) (hline : (apos.endLine == cpos.line) = true := by rfl) (h1 : notStar e = true := by rfl) (h2 : es.all notStar = true := by rfl) (hn : es.length + 1 < 30 := by decide) :
    XE X (.Call (.Attribute o name apos) (e :: es) [] cpos) (tBM X.K T r to t) := ⟨x_bm pa slot hty hm.h ho.h ha.h hbase hline h1 h2 hn⟩
theorem append : XM X "list.append" rAppend := ⟨mt_append⟩
theorem join : XM X "str.join" (rJoin X.K) := ⟨mt_join⟩
theorem isi {T : Str} (want : Kd) (he : XE X e te) (hg : Gl X "isinstance") (hm : X.mg "isinstance" = none) (hgT : Gl X T) (hmT : X.mg T = none) (hT : bootBuiltins T = some (.type (kdT want)))
    (hn : T ≠ "__name__" := by decide) (hd : (T == ("__debug__" : Str)) = false := by decide) (h1 : notStar e = true := by rfl) : XE X (.Call (.Name "isinstance" p) [e, .Name T p2] [] pos) (tIsi want te) := ⟨x_isin want he.h hg hm hgT hmT hT hn hd h1⟩
theorem dnew : XE X (.Dict [] [] pos) (tDNewK) := ⟨pe_dnewK⟩
variable {tg : Expr}
theorem wL (hl : XE X e te) : XI X tg e (iList X.K te) := ⟨pi_list hl.h⟩
theorem wT (hl : XE X e te) : XI X tg e (iTup X.K te) := ⟨pi_tup hl.h⟩
theorem wS (hl : XE X e te) : XI X tg e (iStr te) := ⟨pi_str hl.h⟩
theorem range1 (hg : Gl X "range") (hm : X.mg "range" = none) (ha : XA X [a] t) (h1 : notStar a = true := by rfl) : XI X tg (.Call (.Name "range" p) [a] [] pos) (iRng1 t) := ⟨pi_range1 hg hm ha.h (star_cons h1)⟩
theorem gn {i : Nat} (hN : X.N.Nodup) (hi : X.N[i]? = some x := by rfl) (hx : Loc X.env.scope x := by first | exact Or.inl rfl | exact Or.inr rfl) (hf : X.fn x = true ∨ X.env.scope.names.lookup x = some .local := by first | exact .inl rfl | exact .inr rfl | assumption) : XG X (.Name x pos) (gName i) := ⟨pg_name hN hi hx hf⟩
theorem gsn : XGs X [] gNil := ⟨pgs_nil⟩
theorem gsc {tg1 : TG} {tgs : TGs} (h1 : XG X e tg1) (h2 : XGs X es tgs) (hs : (assignEach (e :: es) X.env).map (·.2) = assign e X.env :: (assignEach es X.env).map (·.2) := by rfl) : XGs X (e :: es) (gCons tg1 tgs) := ⟨pgs_cons h1.h h2.h hs⟩
theorem gt' {k : Nat} {tgs : TGs} (hc : X.calm = true) (h : XGs X es tgs) (hn : (assignEach es X.env).length = n := by rfl) (hst : (assignEach es X.env).findIdx? (·.1) = none := by rfl) : XG X (.Tuple es k pos) (gTup X.K n tgs) := ⟨pg_tup hc h.h hn hst⟩
theorem setL : XSet X rSetL := ⟨set_list⟩
theorem gsub {ts : TSet} (ho : XE X o to) (hi : XE X i ti) (hs : XSet X ts) (ha : ∀ v, assign (.Subscript o i pos) X.env v = (do
      let ov ← holding [v] (eval o X.env)
      let iv ← holding [v, ov] (eval i X.env)
      standAt pos
      holding [v, ov, iv] (setItem ov iv v)
      release [v, ov, iv] []) := by intro _; rfl) : XG X (.Subscript o i pos) (gSub to ti ts) := ⟨pg_sub ho.h hi.h hs.h ha⟩
end
section
variable {X : Cx} {c e tg iter elt : Expr} {ifs : List Expr} {te : TE} {tc tt : TT} {g : TG} {wi : TI} {st : Stmt} {ss sa sb : List Stmt} {t u : TS} {pos pos' spos py : Pos} {x y : Str} {scope : Scope} {N : List Str} {js : List (Option Nat)}
theorem ts0 : XTs X [] tTrue := ⟨pts_nil⟩
theorem ts1 (h : XT X c tt) (hx : X.xe = fun _ _ => False := by rfl) : XTs X [c] tt := ⟨pts_one h.h hx⟩
theorem comp (hc : X.calm = true) (S : CompScope X scope N js) (go : GOwn js g) (hi : XI X tg iter wi)
    (hb : ∀ (C : Addr) (s₂ : Shared) (H₂ : Hp) (fp : List Addr), XG (cxC X scope C N s₂ H₂ fp) tg g /\ XTs (cxC X scope C N s₂ H₂ fp) ifs tt /\ XE (cxC X scope C N s₂ H₂ fp) elt te)
    (hs : ∀ x, foldedSetIterable iter X.env x = pure x := by intro _; rfl) : XE X (.ListComp elt [⟨tg, iter, ifs, 0⟩] scope pos) (tComp wi js g tt te) :=
  ⟨pe_comp hc S go hi.h (fun C s₂ H₂ fp => let ⟨a, b, c⟩ := hb C s₂ H₂ fp; ⟨a.h, b.h, c.h⟩) hs⟩
theorem scomp {i : Nat} (hN : X.N.Nodup) (hy : X.N[i]? = some y) (hx : Loc X.env.scope y) (hc : X.calm = true) (S : CompScope X scope N js) (go : GOwn js g) (hi : XI X tg iter wi)
    (hb : ∀ (C : Addr) (s₂ : Shared) (H₂ : Hp) (fp : List Addr), XG (cxC X scope C N s₂ H₂ fp) tg g /\ XTs (cxC X scope C N s₂ H₂ fp) ifs tt /\ XE (cxC X scope C N s₂ H₂ fp) elt te)
    (hsw : swapsWith (.ListComp elt [⟨tg, iter, ifs, 0⟩] scope pos) (some (.Name y py)) spos.line X.env = pure true)
    (hs : ∀ x, foldedSetIterable iter X.env x = pure x := by intro _; rfl) (hf : X.fn y = true ∨ X.env.scope.names.lookup y = some .local := by first | exact .inl rfl | exact .inr rfl | assumption) :
    XS X (.Assign [.Name y py] (.ListComp elt [⟨tg, iter, ifs, 0⟩] scope pos) spos) (sComp i wi js g tt te) :=
  ⟨ps_comp hN hy hx hc S go hi.h (fun C s₂ H₂ fp => let ⟨a, b, c⟩ := hb C s₂ H₂ fp; ⟨a.h, b.h, c.h⟩) hsw hs hf⟩
theorem snil : XB X [] tNext := ⟨pss_nil⟩
theorem sone (h1 : XS X st t) : XB X [st] t := ⟨pss_one h1.h⟩
theorem scons (h1 : XS X st t) (h2 : XB X ss u) : XB X (st :: ss) (tSeq t u) := ⟨pss_cons h1.h h2.h⟩
theorem ret (he : XE X e te) : XS X (.Return (some e) pos) (tRet te) := ⟨ps_ret he.h⟩
theorem expr (he : XE X e te) (hs : swapsWith e none pos.line X.env = pure false := by rfl) : XS X (.Expr e pos) (tDrop te) := ⟨ps_expr he.h hs⟩
theorem ife (hc : XT X c tc) (ha : XB X sa t) (hb : XB X sb u) : XS X (.If c sa sb pos) (tIfS tc t u) := ⟨ps_if hc.h ha.h hb.h⟩
theorem set {i : Nat} (hN : X.N.Nodup) (he : XE X e te) (hi : X.N[i]? = some x := by rfl) (hx : Loc X.env.scope x := by first | exact Or.inl rfl | exact Or.inr rfl) (hs : swapsWith e (some (.Name x pos')) pos.line X.env = pure false := by rfl)
    (hf : X.fn x = true ∨ X.env.scope.names.lookup x = some .local := by first | exact .inl rfl | exact .inr rfl | assumption) : XS X (.Assign [.Name x pos'] e pos) (tAsg te (gName i)) := ⟨ps_set hN hi hx he.h hs hf⟩
theorem asg (he : XE X e te) (hg : XG X tg g) (hs : swapsWithSole [tg] e pos.line X.env = pure false := by rfl) (hw : swappedStores [tg] e X.env = pure none := by rfl) (h1 : (assignEach [tg] X.env).map (·.2) = [assign tg X.env] := by rfl) :
    XS X (.Assign [tg] e pos) (tAsg te g) := ⟨ps_asg he.h hg.h hs hw h1⟩
theorem for_ (hp : PassesOwn (model X.prog X.w) X.A X.env X.xe) (hc : X.calm = true) (hi : XI X tg iter wi) (hg : XG X tg g) (hb : XB X ss t) (hs : ∀ x, foldedSetIterable iter X.env x = pure x := by intro _; rfl) : XS X (.For tg iter ss [] pos) (tFor wi g t) := ⟨ps_for hp hc hi.h hg.h hb.h hs⟩
end
end R
theorem DefAt.go {P : Program} {w : World} {K : W.Frag} {mg : Str -> Option Value} {base : Heap} {x : Str} {st : Stmt} {N ps : List Str} {k : Nat} {sp : Sp} (D : DefAt K mg x st ps) (S : FnScope N ps (defScope st)) (len : ∀ vs H Q E, sp vs H Q E -> vs.length = ps.length)
    (hbody : ∀ (f : Addr) (cdv : Value) (A : Around) (outer : List Env) (s : Shared) (H : Hp) (vs : List V) (Q : VK) (E : XK), Room k (A.deeper (envOfC x (defScope st) s.heap.objs.size f cdv)) -> sp vs H Q E →
      ∃ t, XB (cxOf CX0 P w K mg base N x (defScope st) f cdv A outer s H E).nox (defBody st) t /\ t { nx := fun _ H' => Q .non H', rt := Q } (start N vs) H) : Callee P w K mg base (k + 1) x ps sp :=
  D.ok S len fun f cdv A outer s H vs Q E hr h => let ⟨t, h1, h2⟩ := hbody f cdv A outer s H vs Q E hr h; ⟨t, h1.h, h2⟩
theorem Fun.go {P : Program} {w : World} {K : W.Frag} {mg : Str -> Option Value} {base : Heap} {x qual : Str} {st : Stmt} {f : Addr} {fd : FuncData} {N ps : List Str} {k : Nat} {sp : Sp} (F : Fun K x qual st f fd) (S : FnScope N ps (defScope st)) (len : ∀ vs H Q E, sp vs H Q E -> vs.length = ps.length)
    (hbody : ∀ (cdv : Value) (A : Around) (outer : List Env) (s : Shared) (H : Hp) (vs : List V) (Q : VK) (E : XK), Room k (A.deeper (envOfC qual (defScope st) s.heap.objs.size f cdv)) -> sp vs H Q E →
      ∃ t, XB (cxOf CX0 P w K mg base N qual (defScope st) f cdv A outer s H E).nox (defBody st) t /\ t { nx := fun _ H' => Q .non H', rt := Q } (start N vs) H) : FnOk P w K mg base CX0 (k + 1) f fd ps sp :=
  F.ok S len fun cdv A outer s H vs Q E hr h => let ⟨t, h1, h2⟩ := hbody cdv A outer s H vs Q E hr h; ⟨t, h1.h, h2⟩
theorem def_at {K : W.Frag} {h : Heap} {mg : Str -> Option Value} {x : Str} {st : Stmt} {ps : List Str} {f : Addr} {od an : Option Addr} {sl : Array (Option Value)} {oc kV dc pm cd ct : Value} (X : K.In h) (G : h.Ns mainGlobals mg)
    (a : W.nsIn K mainGlobals x = some (some (.ref f))) (l : K.lookup f = some ⟨oc, od, .func (W.fnOf x x (defArgs st) (defBody st) (defScope st) .none kV dc pm an cd ct), sl⟩) (c : W.codeIn K cd x = true) (k : W.keepIn K (.ref f) = true)
    (hb : ∀ (kV doc pm : Value) (an : Option Addr) (cdv ct : Value) (us : List Value), us.length = ps.length -> bindArgs (W.fnOf x x (defArgs st) (defBody st) (defScope st) .none kV doc pm an cdv ct) ⟨us, []⟩ = pure (ps.zip us)) : DefAt K mg x st ps :=
  ⟨f, _, fun_mk l c k, W.mg_of X G a, (fun_mk (st := st) l c k).binds hb⟩
namespace R
section
variable {X : Cx} {K : W.Frag} {a b c e o i tg : Expr} {es rest : List Expr} {te to : TE} {t : TA} {pos p p2 apos cpos : Pos} {x : Str} {n : Nat}
theorem kiL (hK : X.K = K := by rfl) : XIx X (mIxL K) := hK ▸ iL
theorem kiT (hK : X.K = K := by rfl) : XIx X (mIxT K) := hK ▸ iT
theorem ksL (hK : X.K = K := by rfl) : XSl X (mSlL K) := hK ▸ sL
theorem kinQ (hK : X.K = K := by rfl) : XOp X (compareOp .In) (rIn K false) := hK ▸ inQ
theorem knotInQ (hK : X.K = K := by rfl) : XOp X (compareOp .NotIn) (rIn K true) := hK ▸ notInQ
theorem keqNil (hu : X.A.units < cLine) (hK : X.K = K := by rfl) : XOp X (compareOp .Eq) (rEqNil K false) := hK ▸ eqNil hu
theorem kneNil (hu : X.A.units < cLine) (hK : X.K = K := by rfl) : XOp X (compareOp .NotEq) (rEqNil K true) := hK ▸ neNil hu
theorem klenL (hK : X.K = K := by rfl) : XC X (.builtin "len") (fun vs H Q => match vs with | [.ref p] => ∃ ys, (SqL K H p ys ∨ SqT K H p ys) /\ Q (.int ys.length) H | _ => False) := hK ▸ lenL
theorem kall (hc : X.calm = true) (hK : X.K = K := by rfl) : XC X (.builtin "all") (rAll K) := hK ▸ all hc
theorem kany (hc : X.calm = true) (hK : X.K = K := by rfl) : XC X (.builtin "any") (rAny K) := hK ▸ any hc
theorem kjoin (hK : X.K = K := by rfl) : XM X "str.join" (rJoin K) := hK ▸ join
theorem kbm {T id : String} {name : Str} {r : V -> List V -> Hp -> VK -> Prop} (pa : PlainAttrs T) (slot : Slot T name id) (hty : typeOf (.builtin id) = pure (.type "method_descriptor")) (hm : XM X id r) (ho : XE X o to) (ha : XA X (e :: es) t) (hK : X.K = K := by rfl)
    (hbase : attributeBase o name X.env (eval o X.env) = eval o X.env := by rfl) (hline : (apos.endLine == cpos.line) = true := by rfl) (h1 : notStar e = true := by rfl) (h2 : es.all notStar = true := by rfl) (hn : es.length + 1 < 30 := by decide) :
    XE X (.Call (.Attribute o name apos) (e :: es) [] cpos) (tBM K T r to t) := hK ▸ bm pa slot hty hm ho ha hbase hline h1 h2 hn
theorem kwL (hl : XE X e te) (hK : X.K = K := by rfl) : XI X tg e (iList K te) := hK ▸ wL hl
theorem kwT (hl : XE X e te) (hK : X.K = K := by rfl) : XI X tg e (iTup K te) := hK ▸ wT hl
theorem kgt {k : Nat} {tgs : TGs} (hc : X.calm = true) (h : XGs X es tgs) (hK : X.K = K := by rfl) (hn : (assignEach es X.env).length = n := by rfl) (hst : (assignEach es X.env).findIdx? (·.1) = none := by rfl) : XG X (.Tuple es k pos) (gTup K n tgs) := hK ▸ gt' hc h hn hst
end
end R
end L2
namespace L2
open PySem PySem.Spec PyProof.Rows
section
variable {X : Cx}
def rToStr : List V -> Hp -> VK -> Prop := fun vs H Q => match vs with
  | [.int i] => (0 <= i /\ i < 10 ^ 40) /\ Q (.str (Str.ofString (toString i))) H
  | [.str z] => Q (.str z) H
  | _ => False
def rIntS : List V -> Hp -> VK -> Prop := fun vs H Q => match vs with
  | [.str z] => NumText.AllDigits z.cps.toList /\ z.cps.toList ≠ [] /\ z.length <= 640 /\ Q (.int (NumText.digitsVal z.cps.toList : Nat)) H
  | _ => False
end
def LET : List Nat := [97, 98, 99, 100, 101, 102, 103, 104, 105, 106, 107, 108, 109, 110, 111, 112, 113, 114, 115, 116, 117, 118, 119, 120, 121, 122]
def FIG : List Nat := [48, 49, 50, 51, 52, 53, 54, 55, 56, 57]
theorem let_eq : (("abcdefghijklmnopqrstuvwxyz" : Str)).cps.toList = LET := by decide +kernel
theorem fig_eq : (("0123456789" : Str)).cps.toList = FIG := by decide +kernel
def madeOf (x : V) (cs : List Nat) (n : Int) : Bool := match x with | .str z => decide (1 <= (z.length : Int)) && decide ((z.length : Int) <= n) && z.cps.toList.all (fun c => decide (c ∈ cs)) | _ => false
theorem madeOf_str (z : Str) (cs : List Nat) (n : Int) : madeOf (.str z) cs n = (decide (1 <= (z.length : Int)) && decide ((z.length : Int) <= n) && z.cps.toList.all (fun c => decide (c ∈ cs))) := rfl
def spMade : Sp := fun vs H Q _ => ∃ x sg n k, vs = [x, .str sg, .int n] /\ Kof H x k /\ (∀ z, x = .str z -> z.length <= 1000) /\ ∀ H', Same H H' -> Q (.bl (madeOf x sg.cps.toList n)) H'
def spTell (cs : List Nat) (n : Int) : Sp := fun vs H Q _ => ∃ x k, vs = [x] /\ Kof H x k /\ (∀ z, x = .str z -> z.length <= 1000) /\ ∀ H', Same H H' -> Q (.bl (madeOf x cs n)) H'
end L2
namespace L2
open PySem PySem.Spec PyProof.Rows
def isNm (z : Str) : Prop := 1 <= z.length /\ z.length <= 8 /\ ∀ c ∈ z.cps.toList, c ∈ LET
theorem inV_str (z : Str) (ns : List Str) : inV (.str z) (ns.map V.str) = decide (z ∈ ns) := by
  unfold inV; rw [List.any_map, Bool.eq_iff_iff, List.any_eq_true, decide_eq_true_iff]; constructor
  . rintro ⟨y, hy, e⟩
    have : y = z := by simpa [eqV] using e
    rw [<- this]; exact hy
  . intro h; exact ⟨z, h, by simp [eqV]⟩
theorem flat_strs (ns : List Str) : (ns.map V.str).all flatV = true := by
  rw [List.all_map]; exact List.all_eq_true.mpr fun _ _ => rfl
theorem six {r : Int} (h0 : 0 <= r) (h1 : r < 6) : r = 0 ∨ r = 1 ∨ r = 2 ∨ r = 3 ∨ r = 4 ∨ r = 5 := by omega
namespace R
variable {X : Cx}
theorem max (hc : X.calm = true) : XC X (.builtin "max") (fun vs H Q => match vs with | [.int i, .int j] => Q (.int (if j > i then j else i)) H | _ => False) := ⟨(call_max2 hc).imp fun vs H Q h => by
  split at h
  . rename_i i j
    exact ⟨i, j, rfl, h⟩
  . exact h.elim⟩
end R
end L2
namespace L2
open PySem PySem.Spec PyProof.Rows
section
variable {prog : Program} {w : World} {A : Around} {E : Value -> Shared -> Prop} {s : Shared}
theorem tupExact_ {t : Addr} {items : Array Value} {Q : Bool -> Shared -> Prop} (ht : IsTup s.heap t items) (h : Q true s) : wpAny (model prog w) A (Builtin.Tuple.tupleIsExact (.ref t)) Q E s := by
  unfold Builtin.Tuple.tupleIsExact; refine wpAny_bind (wpAny_typeOf ht.typeIs ?_)
  exact wpAny_pure h
theorem getItem_tuple_whole {t sl : Addr} {items : Array Value} {vl vu : Value} {lo hi : Option Int} {Q : Value -> Shared -> Prop} (ht : IsTup s.heap t items) (hs : s.heap.IsSliceOf sl vl vu .none) (pl : IsPart vl lo) (pu : IsPart vu hi)
    (hw : HT.sIx items.size 0 lo = 0 /\ HT.sIx items.size items.size hi = items.size) (h : Q (.ref t) s) : wpAny (model prog w) A (getItem (.ref t) (.ref sl)) Q E s := by
  obtain ⟨os, hos, hcs, hds⟩ := id hs
  have hTs : s.TypeIs (.ref sl) "slice" := ⟨os, hos, hcs⟩
  unfold getItem; try with_reducible refine wpAny_holding ?_
  first | refine wpAny_bind (wpAny_pure ?_) | skip
  refine wpAny_bind (wpAny_sequenceKey ht.typeIs (by decide) ?_)
  refine wpAny_bind (wpAny_callSpecial?_slot (name := Str.ofString "__getitem__") ht.typeIs PyProof.Rows.slot_tuple_getitem
    (wpAny_call_entry PyProof.Rows.slot_tuple_getitem ht.typeIs entry_tuple_getitem ?_ (args_tuple_getitem _ _)))
  show wpAny _ _ (Builtin.Tuple.tupleItemsOf (.ref t) >>= _) _ _ s
  refine wpAny_bind (tupleItemsOf_ ht ?_)
  refine wpAny_bind (wpAny_typeOf hTs ?_)
  rw [if_pos (by decide)]
  refine wpAny_bind (HT.sliceApplied_gen hs pl pu ?_)
  have hyes : (((HT.sIx items.size 0 lo : Nat) : Int) == 0 && (1 : Int) == 1 && (HT.sIx items.size items.size hi - HT.sIx items.size 0 lo) == items.size) = true := by
    rw [hw.1, hw.2]; simp
  show wpAny _ _ (if (((HT.sIx items.size 0 lo : Nat) : Int) == 0 && (1 : Int) == 1 && (HT.sIx items.size items.size hi - HT.sIx items.size 0 lo) == items.size) = true then _ else _) _ _ s
  rw [if_pos hyes]; refine wpAny_bind (tupExact_ ht ?_)
  rw [if_pos rfl]; exact wpAny_bind (wpAny_rule (wpAny_pure ⟨_, rfl, wpAny_pure h⟩))
theorem cat_tup0 {t b : Addr} {ws : List Value} {Q : Value -> Shared -> Prop} (ht : IsTup s.heap t ([] : List Value).toArray) (hb : IsTup s.heap b ws.toArray) (h1 : Q (.ref b) s) : wpAny (model prog w) A (binaryOp .Add (.ref t) (.ref b)) Q E s := by
  obtain ⟨⟨cls, dd, data, sl⟩, ho, hc, n, hd⟩ := id ht
  obtain ⟨⟨cls2, dd2, data2, sl2⟩, ho2, hc2, n2, hd2⟩ := id hb
  simp only at hc hd hc2 hd2
  subst hc hd hc2 hd2; exact concat_meets ⟨_, ho, rfl⟩ ⟨_, ho2, rfl⟩ noFill_tuple_add seq_tuple_add PySem.F.slot_tuple_add PySem.F.entry_tuple_add (PySem.F.args_tuple_add_2 _ _)
      (tuple_addW0 t b _ ws.toArray n n2 dd dd2 sl sl2 (by simp)) ⟨ho, ho2, h1⟩
end
section
variable {X : Cx} {e o e1 e2 : Expr} {te : TE} {pos p2 p3 : Pos}
def mSlT : V -> Option Int -> Option Int -> Hp -> VK -> Prop := fun x lo hi H Q => mR x fun a => ∃ xs, H a = some (.tup xs) /\ ∀ p H', Same H H' -> H' p = some (.tup (cut xs lo hi)) -> Q (.ref p) H'
theorem s_tup : SlR X mSlT := by
  intro pins s σ H x v vl vu lo hi sl Q I rx hs pl pu h; unfold mSlT at h; rw [mR_eq] at h; obtain ⟨a, rfl, xs, hx, q⟩ := h
  by_cases hw : HT.sIx xs.length 0 lo = 0 /\ HT.sIx xs.length xs.length hi = xs.length
  . cases rx
    obtain ⟨its, r, ht, hz⟩ := I.tuple (SqT.of hx)
    have hlen : its.toArray.size = xs.length := by rw [Zst]; exact r.length.symm
    refine ⟨"tuple", _, PyProof.Rows.slot_tuple_getitem.lookup, ht.typeIs, ?_⟩
    refine getItem_tuple_whole ht hs pl pu (by rw [hlen]; exact hw) ⟨.ref a, H, I, rfl, q a H (Same.refl H) ?_⟩
    rw [hx]; unfold cut; rw [hw.1, hw.2, List.drop_zero, Nat.sub_zero, Ztl (Znr _)]
  . exact sl_tup pins s σ H (.ref a) v vl vu lo hi sl Q I rx hs pl pu ⟨a, xs, rfl, SqT.of hx, hw, fun p hp => q p _ (same_upd hp) upd_same⟩
def mCatT : R2 := fun x y H Q => mR x fun a => mR y fun b => ∃ xs ys, H a = some (.tup xs) /\ H b = some (.tup ys) /\ xs.length + ys.length <= 1000 /\ ∀ p H', Same H H' -> H' p = some (.tup (xs ++ ys)) -> Q (.ref p) H'
theorem o_catT : OpR X (binaryOp .Add) mCatT := by
  intro pins s σ H x y v u Q I rx ry h; unfold mCatT at h; rw [mR_eq] at h; obtain ⟨a, rfl, h⟩ := h
  rw [mR_eq] at h; obtain ⟨b, rfl, xs, ys, ha, hb, hz, q⟩ := h
  by_cases h0 : xs = []
  . subst h0; cases rx
    cases ry
    obtain ⟨its, r1, p1, _⟩ := I.tuple (SqT.of ha)
    obtain ⟨its2, r2, p2, _⟩ := I.tuple (SqT.of hb)
    cases r1
    exact cat_tup0 p1 p2 ⟨.ref b, H, I, rfl, q b H (Same.refl H) (by rw [hb]; rfl)⟩
  . exact op_catT pins s σ H _ _ v u Q I rx ry ⟨a, b, xs, ys, rfl, rfl, SqT.of ha, SqT.of hb, h0, Znt hz (by decide), (fun h1 => q a H (Same.refl H) (by rw [ha, h1, List.append_nil])), fun _ p hp => q p _ (same_upd hp) upd_same⟩
end
def Tab (P : Params) : List DictEntry -> List (Str × Int) -> Prop
  | [], [] => True
  | e :: r, (x, i) :: q => (∃ t, e.key = .str x t) /\ e.hash = PyData.keyHash P x /\ (∃ t, e.val = .int i t) /\ Tab P r q
  | _, _ => False
theorem Tab.keys {P : Params} : ∀ {es : List DictEntry} {ws : List (Str × Int)}, Tab P es ws -> W.KeysLit P es
  | [], [], _ => trivial
  | e :: r, (x, i) :: q, h => ⟨let ⟨t, ht⟩ := h.1; ⟨x, t, ht, h.2.1⟩, Tab.keys h.2.2.2⟩
  | [], _ :: _, h => h.elim
  | _ :: _, [], h => h.elim
theorem Tab.find {P : Params} (z : Str) : ∀ {es : List DictEntry} {ws : List (Str × Int)}, Tab P es ws -> (match ws.lookup z with | some i => ∃ t, (es.find? fun e => Value.isStrOf z e.key).map (·.val) = some (.int i t) | none => (es.find? fun e => Value.isStrOf z e.key).map (·.val) = none)
  | [], [], _ => rfl
  | [], _ :: _, h => h.elim
  | _ :: _, [], h => h.elim
  | e :: r, (x, i) :: q, h => by
    obtain ⟨⟨t, ht⟩, h2, ⟨t', hv⟩, h4⟩ := h
    have ih := Tab.find z h4
    rw [List.lookup_cons, List.find?_cons]; have e1 : Value.isStrOf z e.key = (z == x) := by
      rw [ht]; show (x == z) = (z == x)
      exact Bool.beq_comm
    rw [e1]; cases hz : z == x with
    | true => exact ⟨t', by rw [<- hv]; rfl⟩
    | false => exact ih
structure KTab (K : W.Frag) (P : Params) (a : Addr) (ws : List (Str × Int)) : Prop where
  ex : ∃ es n, K.lookup a = some ⟨.type "dict", none, .dict (List.toArray es) n, #[]⟩ /\ Tab P es ws /\ (a == sysModules) = false
theorem KTab.map {K : W.Frag} {prog : Program} {w : World} {a : Addr} {ws : List (Str × Int)} {h : Heap} (T : KTab K w.params a ws) (X : K.In h) :
    ∃ f : Str -> Option Value, h.MapOf (strKind prog w) a f /\ (a == sysModules) = false /\ ∀ z, (match ws.lookup z with | some i => ∃ t, f z = some (.int i t) | none => f z = none) := by
  obtain ⟨es, n, hl, ht, lo⟩ := T.ex
  refine ⟨_, W.mapOf_K (prog := prog) X hl ht.keys, lo, fun z => ?_⟩
  have := ht.find z
  unfold findBy; rw [List.find?_toArray]; exact this
section
variable {X : Cx}
def mInK (K : W.Frag) (P : Params) (neg : Bool) : R2 := fun x y H Q => mS x fun z => mR y fun a => ∃ ws, KTab K P a ws /\ Q (.bl (if neg then !(ws.lookup z).isSome else (ws.lookup z).isSome)) H
theorem look_some {f : Option Value} {o : Option Int} (h : match o with | some i => ∃ t, f = some (.int i t) | none => f = none) : f.isSome = o.isSome := by
  cases o with
  | none => rw [h]; rfl
  | some i => obtain ⟨t, h⟩ := h; rw [h]; rfl
theorem o_notInK : OpR X (compareOp .NotIn) (mInK X.K X.w.params true) := by
  intro pins s σ H x y v u Q I rx ry h; unfold mInK at h; rw [mS_eq] at h; obtain ⟨z, rfl, h⟩ := h
  rw [mR_eq] at h; obtain ⟨a, rfl, ws, T, h⟩ := h
  obtain ⟨t, rfl⟩ := rx
  cases ry
  obtain ⟨f, hm, lo, hf⟩ := T.map (prog := X.prog) I.kIn
  exact wpAny_notIn_of (strKind_is X.prog X.w z t) lo hm ⟨.bl (!(ws.lookup z).isSome), H, I.tok _, by rw [look_some (hf z)]; rfl, h⟩
def mIxK (K : W.Frag) (P : Params) : R2 := fun x y H Q => mR x fun a => mS y fun z => ∃ ws i, KTab K P a ws /\ ws.lookup z = some i /\ Q (.int i) H
theorem i_K : IxR X (mIxK X.K X.w.params) := by
  intro value slice pins s σ H x y v u Q I rx ry h hs; unfold mIxK at h; rw [mR_eq] at h; obtain ⟨a, rfl, h⟩ := h
  rw [mS_eq] at h; obtain ⟨z, rfl, ws, i, T, hi, h⟩ := h
  obtain ⟨t, rfl⟩ := ry
  cases rx
  obtain ⟨f, hm, lo, hf⟩ := T.map (prog := X.prog) I.kIn
  have hz := hf z
  rw [hi] at hz; obtain ⟨t', hz⟩ := hz
  exact tail_any hm.typeIs slot_dict_getitem.lookup (wpAny_getItem_of (strKind_is X.prog X.w z t) hm hz ⟨.int i, H, I.tok _, ⟨t', rfl⟩, h⟩) hs
end
structure XPs (X : Cx) (pos : Pos) (keys : List (Option Expr)) (values : List Expr) (trs : List (TE × TE)) : Prop where
  h : PPs X pos keys values trs
namespace R
section
variable {X : Cx} {K : W.Frag} {P : Params} {e e1 k v o f : Expr} {te t1 tk tv td ty tx' : TE} {pos p2 apos cpos : Pos} {ks : List (Option Expr)} {vs : List Expr} {trs : List (TE × TE)}
theorem sT : XSl X mSlT := ⟨s_tup⟩
theorem catT : XOp X (binaryOp .Add) mCatT := ⟨o_catT⟩
theorem knotInK (hK : X.K = K := by rfl) (hP : X.w.params = P := by rfl) : XOp X (compareOp .NotIn) (mInK K P true) := hK ▸ hP ▸ ⟨o_notInK⟩
theorem kiK (hK : X.K = K := by rfl) (hP : X.w.params = P := by rfl) : XIx X (mIxK K P) := hK ▸ hP ▸ ⟨i_K⟩
theorem ktoList (hK : X.K = K := by rfl) : XC X (.type "list") (fun vs H Q => match vs with | [.ref p] => ∃ ys, (SqL K H p ys ∨ SqT K H p ys) /\ ∀ l, H l = none -> Q (.ref l) (upd H l (.lst ys)) | _ => False) := hK ▸ ⟨call_list_of.imp fun vs H Q h => by
  split at h
  . rename_i p
    obtain ⟨ys, hq, h⟩ := h
    exact ⟨p, ys, rfl, hq, h⟩
  . exact h.elim⟩
theorem ppn : XPs X pos [] [] [] := ⟨pps_nil⟩
theorem ppc (hk : XE X k tk) (hv : XE X v tv) (hr : XPs X pos ks vs trs) : XPs X pos (some k :: ks) (v :: vs) ((tk, tv) :: trs) := ⟨pps_cons hk.h hv.h hr.h⟩
theorem disp (h : XPs X pos ks vs trs) (hall : ks.all (·.isSome) = true := by rfl) (hl : ks.length = vs.length := by rfl) (h0 : ks ≠ [] := by simp) (h15 : ks.length <= 15 := by decide) : XE X (.Dict ks vs pos) (tDisp trs) := ⟨pe_disp h.h hall hl h0 h15⟩
theorem dget2 (hu : X.A.units + 1 < cLine) (ho : XE X o td) (he : XE X e ty) (hf : XE X f tx') (h1 : attributeBase o "get" X.env (eval o X.env) = eval o X.env := by rfl) (h3 : (apos.endLine == cpos.line) = true := by rfl)
    (h2 : ((backTo cpos (starEach [e, f] X.env)).all (fun x => !x.1) && (backToKw cpos (keywordEach [] X.env)).all (fun x => x.1.isSome)
    && decide (([e, f] : List Expr).length + ([] : List Keyword).length + (if ([] : List Keyword).isEmpty then 0 else 1) < 30)) = true := by rfl)
    (h4 : backTo cpos (starEach [e, f] X.env) = [(false, eval e X.env), (false, eval f X.env)] := by rfl) : XE X (.Call (.Attribute o "get" apos) [e, f] [] cpos) (tDGet2 td ty tx') := ⟨pe_dget2 hu ho.h he.h hf.h ⟨h1, h2, h3, h4⟩⟩
end
end R
end L2
namespace L2
open PySem PySem.Spec PyProof.Rows
def WS : List (Str × Int) := [("add", 1), ("take", 1), ("move", 2), ("send", 2), ("fetch", 2), ("pass", 3)]
def UW : List V := [.str "move", .str "pass"]
def nmV (x : V) : Bool := madeOf x LET 8
def numV (lo hi : Int) (x : V) : Bool := match x with | .int n => decide (lo <= n) && decide (n <= hi) | _ => false
def fitsB (x : V) (ns : List V) : Bool := match x with
  | .str z => (match WS.lookup z with
    | some i => decide ((ns.length : Int) = i) && ns.all nmV && (!inV (.str z) UW || !decide (atI ns 0 = atI ns 1))
    | none => false)
  | _ => false
def midV (xs : List V) : List V := cut xs (some 1) (some (-1))
def deedB (xs : List V) : Bool := decide (3 <= xs.length) && fitsB ((atI xs 0).getD .non) (midV xs) && numV 1 1000000000000 ((atI xs (-1)).getD .non)
def Pt (H : Hp) (x : V) : Prop := ∃ k, Kof H x k /\ ∀ z, x = .str z -> z.length <= 1000
theorem Pt.same {H H' : Hp} {x : V} (s : Same H H') (h : Pt H x) : Pt H' x := let ⟨k, h1, h2⟩ := h; ⟨k, h1.same s, h2⟩
def deedV (H : Hp) (x : V) : Bool := match x with | .ref a => (match H a with | some (.tup xs) => deedB xs | _ => false) | _ => false
def Th (H : Hp) (x : V) : Prop := Pt H x /\ ∀ a xs, x = .ref a -> H a = some (.tup xs) -> ∀ y ∈ xs, Pt H y
def spWhole : Sp := fun vs H Q _ => ∃ x lo hi, vs = [x, .int lo, .int hi] /\ Pt H x /\ ∀ H', Same H H' -> Q (.bl (numV lo hi x)) H'
def spFits : Sp := fun vs H Q _ => ∃ x a ns, vs = [x, .ref a] /\ Pt H x /\ H a = some (.tup ns) /\ ns.length <= 1000 /\ (∀ y ∈ ns, Pt H y) /\ ∀ H', Same H H' -> Q (.bl (fitsB x ns)) H'
def spIsDeed : Sp := fun vs H Q _ => ∃ x, vs = [x] /\ Th H x /\ (∀ a xs, x = .ref a -> H a = some (.tup xs) -> xs.length <= 1000) /\ ∀ H', Same H H' -> Q (.bl (deedV H x)) H'
theorem WS_pos {z : Str} {i : Int} (h : WS.lookup z = some i) : 1 <= i /\ i <= 3 := by
  have key : ∀ (l : List (Str × Int)), l.lookup z = some i -> (z, i) ∈ l := by
    intro l; induction l with
    | nil => intro h; cases h
    | cons p l ih =>
      obtain ⟨x, j⟩ := p
      intro h; rw [List.lookup_cons] at h; cases e : z == x with
      | true => rw [e] at h; injection h with h; rw [<- h, eq_of_beq e]; exact Zcs
      | false => rw [e] at h; exact Zmc _ (ih h)
  have m := key _ h
  have all : ∀ p ∈ WS, 1 <= p.2 /\ p.2 <= 3 := by decide +kernel
  exact all _ m
theorem WS_uw {z : Str} {i : Int} (h : WS.lookup z = some i) (u : inV (.str z) UW = true) : 2 <= i := by
  have e : z = "move" ∨ z = "pass" := by
    unfold inV UW at u; simp only [List.any_cons, List.any_nil, Bool.or_false, Bool.or_eq_true, eqV, beq_iff_eq, decide_eq_true_iff] at u
    rcases u with u | u
    . exact .inl u.symm
    . exact .inr u.symm
  rcases e with rfl | rfl
  . have : WS.lookup ("move" : Str) = some 2 := by decide +kernel
    rw [this] at h; injection h with h; omega
  . have : WS.lookup ("pass" : Str) = some 3 := by decide +kernel
    rw [this] at h; injection h with h; omega
theorem cut_mid {xs : List V} (h : 3 <= xs.length) : midV xs = (xs.drop 1).take (xs.length - 2) := by
  unfold midV cut HT.sIx; simp only [Int.reduceNeg, Int.reduceLT, if_true, if_false]
  have e1 : min (Int.toNat 1) xs.length = 1 := by
    show min 1 xs.length = 1
    omega
  have e2 : ((-1 : Int) + (xs.length : Int)).toNat = xs.length - 1 := by omega
  rw [e2]; show ((xs.drop (min (Int.toNat 1) xs.length)).take (xs.length - 1 - min (Int.toNat 1) xs.length)) = _
  rw [e1]; congr 1
theorem mid_len {xs : List V} (h : 3 <= xs.length) : (midV xs).length = xs.length - 2 := by
  rw [cut_mid h, Zlk, List.length_drop]; omega
theorem mid_mem {xs : List V} {y : V} (h : 3 <= xs.length) (m : y ∈ midV xs) : y ∈ xs := by
  rw [cut_mid h] at m; exact List.mem_of_mem_drop (List.mem_of_mem_take m)
end L2
namespace L2
open PySem PySem.Spec PyProof.Rows
def mCat : R2 := fun x y H Q => mR x fun l => mR y fun b => ∃ xs zs, H l = some (.lst xs) /\ H b = some (.lst zs) /\ xs.length + zs.length <= sizeLine /\ ∀ p, H p = none -> Q (.ref p) (upd H p (.lst (xs ++ zs)))
theorem R.cat {X : Cx} : XOp X (binaryOp .Add) mCat := ⟨op_cat.imp fun x y H Q h => by
  unfold mCat at h; rw [mR_eq] at h; obtain ⟨a, rfl, h⟩ := h
  rw [mR_eq] at h; obtain ⟨b, rfl, xs, zs, h⟩ := h
  exact ⟨a, b, xs, zs, rfl, rfl, h⟩⟩
end L2
namespace L2
open PySem PySem.Spec PyProof.Rows
inductive DeedIs : List V -> Prop
  | one (z a : Str) (n : Int) : (z = "add" ∨ z = "take") -> isNm a -> 1 <= n -> n <= 1000000000000 -> DeedIs [.str z, .str a, .int n]
  | two (z a b : Str) (n : Int) : (z = "move" ∨ z = "send" ∨ z = "fetch") -> isNm a -> isNm b -> a ≠ b -> 1 <= n -> n <= 1000000000000 -> DeedIs [.str z, .str a, .str b, .int n]
  | three (a b c : Str) (n : Int) : isNm a -> isNm b -> isNm c -> a ≠ b -> 1 <= n -> n <= 1000000000000 -> DeedIs [.str "pass", .str a, .str b, .str c, .int n]
theorem nmV_of {z : Str} (h : isNm z) : nmV (.str z) = true := by
  unfold nmV; rw [madeOf_str, decide_eq_true (by have := h.1; omega), decide_eq_true (by have := h.2.1; omega), List.all_eq_true.mpr fun c hc => decide_eq_true (h.2.2 c hc)]
  rfl
theorem DeedIs.ok {xs : List V} (h : DeedIs xs) : deedB xs = true := by
  cases h with
  | one z a n hz ha h1 h2 =>
    show (fitsB (.str z) [.str a] && numV 1 1000000000000 (.int n)) = true
    have e : fitsB (.str z) [.str a] = true := by
      rcases hz with rfl | rfl
      . show (true && (nmV (.str a) && true) && _) = true
        rw [nmV_of ha]; rfl
      . show (true && (nmV (.str a) && true) && _) = true
        rw [nmV_of ha]; rfl
    rw [e]; show (decide (1 <= n) && decide (n <= 1000000000000)) = true
    rw [decide_eq_true h1, decide_eq_true h2]; rfl
  | two z a b n hz ha hb hn h1 h2 =>
    show (fitsB (.str z) [.str a, .str b] && numV 1 1000000000000 (.int n)) = true
    have ne : decide (some (V.str a) = some (V.str b)) = false := decide_eq_false fun e => hn (by injection e with e; injection e)
    have e : fitsB (.str z) [.str a, .str b] = true := by
      rcases hz with rfl | rfl | rfl
      all_goals
        show (true && (nmV (.str a) && (nmV (.str b) && true)) && (_ || !decide (some (V.str a) = some (V.str b)))) = true
        rw [nmV_of ha, nmV_of hb, ne, Bool.not_false, Bool.or_true]; rfl
    rw [e]; show (decide (1 <= n) && decide (n <= 1000000000000)) = true
    rw [decide_eq_true h1, decide_eq_true h2]; rfl
  | three a b c n ha hb hc hn h1 h2 =>
    show (fitsB (.str "pass") [.str a, .str b, .str c] && numV 1 1000000000000 (.int n)) = true
    have ne : decide (some (V.str a) = some (V.str b)) = false := decide_eq_false fun e => hn (by injection e with e; injection e)
    have e : fitsB (.str "pass") [.str a, .str b, .str c] = true := by
      show (true && (nmV (.str a) && (nmV (.str b) && (nmV (.str c) && true))) && (_ || !decide (some (V.str a) = some (V.str b)))) = true
      rw [nmV_of ha, nmV_of hb, nmV_of hc, ne, Bool.not_false, Bool.or_true]; rfl
    rw [e]; show (decide (1 <= n) && decide (n <= 1000000000000)) = true
    rw [decide_eq_true h1, decide_eq_true h2]; rfl
theorem isNm.len {z : Str} (h : isNm z) : z.length <= 1000 := Znt h.2.1 (by decide)
theorem cut_mem {xs : List V} {lo hi : Option Int} {y : V} (h : y ∈ cut xs lo hi) : y ∈ xs := by
  unfold cut at h; exact List.mem_of_mem_drop (List.mem_of_mem_take h)
def PARTS : List (Key × V) := mergeK [] [(.inr "add", .int 3), (.inr "take", .int 3), (.inr "move", .int 4), (.inr "send", .int 4), (.inr "fetch", .int 4), (.inr "pass", .int 5)]
theorem PARTS_eq : PARTS = [(.inr "add", .int 3), (.inr "take", .int 3), (.inr "move", .int 4), (.inr "send", .int 4), (.inr "fetch", .int 4), (.inr "pass", .int 5)] := by decide +kernel
theorem parts_val (z : Str) : valV PARTS (.inr z) = (WS.lookup z).map fun i => V.int (i + 2) := by
  rw [PARTS_eq]; unfold valV WS; have e : ∀ x : Str, (decide ((Sum.inr x : Key) = .inr z)) = (z == x) := fun x => by
    rw [Bool.eq_iff_iff, decide_eq_true_iff, beq_iff_eq]; constructor
    . intro h; injection h with h; exact h.symm
    . intro h; rw [h]
  simp only [List.find?_cons, List.lookup_cons, List.find?_nil, List.lookup_nil, e]
  repeat' split
  all_goals first | rfl | simp_all
end L2
namespace L2
open PySem PySem.Spec PyProof.Rows
theorem Paired.map' {α β : Type} {R S : α -> β -> Prop} (f : ∀ a b, R a b -> S a b) {xs : List α} {ys : List β} (h : Paired R xs ys) : Paired S xs ys := by
  induction h with
  | nil => exact .nil
  | cons h t ih => exact .cons (f _ _ h) ih
theorem Paired.get' {α β : Type} {R : α -> β -> Prop} : ∀ {xs : List α} {ys : List β} {j : Nat}, Paired R xs ys -> ∀ (h : j < ys.length), ∃ h' : j < xs.length, R xs[j] ys[j]
  | _, _, 0, .cons h t, _ => ⟨Nat.succ_pos _, h⟩
  | _, _, j + 1, .cons h t, hj => let ⟨h', r⟩ := Paired.get' (j := j) t (by simpa using hj); ⟨by simpa using h', by simpa using r⟩
end L2
namespace L2
open PySem PySem.Spec PyProof.Rows
structure Shape (xs : List V) (ns : List Str) (m : Nat) : Prop where
  eq : xs = ns.map V.str ++ [.int (m : Int)]
  two : 2 <= ns.length
  four : ns.length <= 4
  len : ∀ z ∈ ns, z.length <= 8
  free : ∀ z ∈ ns, 32 ∉ z.cps.toList
  pos : 1 <= m
  most : m <= 1000000000000
end L2
namespace L2
open PySem PySem.Spec PyProof.Rows
section
variable {X : Cx} {es : List Expr} {t : TA} {pos : Pos}
def tTupW (t : TA) : TE := fun σ H Q => t σ H fun xs H1 => xs.length <= 1000 /\ ∀ p H', Same H1 H' -> H' p = some (.tup xs) -> Q (.ref p) H'
theorem pe_tupW {x1} (h : PA X es t) : PE X (.Tuple es x1 pos) (tTupW t) := by
  intro pins s σ H Q I hq; refine wpAny_Tuple_spliced (thn (h pos pins s σ H _ I hq) fun us s1 ⟨xs, H1, I1, r, z, q⟩ => ⟨by rw [<- r.length]; exact szl' z, ?_⟩)
  have hf : H1 s1.heap.objs.size = none := I1.hok.fresh (Znr _)
  refine ⟨.ref s1.heap.objs.size, upd H1 s1.heap.objs.size (.tup xs), I1.laid (t' := s1.toks) (fun b u e => Zpu _ e) (Znr _) ?_, rfl, q _ _ (same_upd hf) upd_same⟩
  exact ⟨szl' z, us, r, ⟨_, Heap.get?_push_size _ rfl, rfl, _, rfl⟩⟩
theorem R.wtup {x1} (h : XA X es t) : XE X (.Tuple es x1 pos) (tTupW t) := ⟨pe_tupW h.h⟩
end
end L2
namespace L2
open PySem PySem.Spec PyProof.Rows
namespace R
section
variable {X : Cx} {e o i value : Expr} {es : List Expr} {m x f : Str} {p pos pos' apos : Pos} {te ta tv td ty : TE} {t : TA} {C : Addr} {n : Nat} {ps : List Str} {sp : Sp} {dvs : List V} {K : W.Frag} {tg : Expr}
theorem dix (hu : X.A.units + 1 < cLine) (ho : XE X o td) (hi : XE X i ty) (hs : NoSl i := by exact fun _ _ => rfl) : XE X (.Subscript o i pos) (tDGet td ty) := ⟨pe_dget hu ho.h hi.h hs⟩
end
end R
end L2
namespace L2
open PySem PySem.Spec PyProof.Rows
theorem merge_new : ∀ (more kvs : List (Key × V)), (more.map (·.1)).Nodup -> (∀ k ∈ more.map (·.1), valV kvs k = none) -> mergeK kvs more = kvs ++ more
  | [], kvs, _, _ => (List.append_nil _).symm
  | p :: r, kvs, hn, h => by
    obtain ⟨h1, h2⟩ := List.nodup_cons.mp hn
    show mergeK (putK kvs p.1 p.2) r = _
    have e0 : valV kvs p.1 = none := h p.1 (by simp)
    rw [merge_new r _ h2 fun k hk => ?_, putK_new _ e0]
    . simp
    . rw [valV_put, if_neg (fun (z : k = p.1) => h1 (by dsimp only; rw [<- z]; exact hk))]
      exact h k (Zmc _ hk)
end L2
namespace L2
open PySem PySem.Spec PyProof.Rows
section
variable {X : Cx}
theorem R.min (hc : X.calm = true) : XC X (.builtin "min") (fun vs H Q => match vs with | [.int i, .int j] => Q (.int (if j < i then j else i)) H | _ => False) := ⟨(call_min2 hc).imp fun vs H Q h => by
  split at h
  . exact ⟨_, _, rfl, h⟩
  . exact h.elim⟩
end
inductive DW (one other nm : Str) (n : Int) : Str -> List V -> List (Str × Int) -> List (Str × List V) -> Prop
  | add : DW one other nm n "add" [.str "add", .str nm, .int n] [(nm, n)] []
  | take : DW one other nm n "take" [.str "take", .str nm, .int n] [(nm, -n)] []
  | move : DW one other nm n "move" [.str "move", .str one, .str other, .int n] [(one, -n), (other, n)] []
  | send : DW one other nm n "send" [.str "send", .str one, .str nm, .int n] [(nm, -n)] [(one, [.str "add", .str nm, .int n])]
  | fetch : DW one other nm n "fetch" [.str "fetch", .str one, .str nm, .int n] [(nm, n)] [(one, [.str "take", .str nm, .int n])]
  | pass : DW one other nm n "pass" [.str "pass", .str one, .str other, .str nm, .int n] [] [(one, [.str "take", .str nm, .int n]), (other, [.str "add", .str nm, .int n])]
structure DWX (wd : Str) (xs : List V) (cs : List (Str × Int)) (as : List (Str × List V)) : Prop where
  ex : ∃ one other nm n, DW one other nm n wd xs cs as
def AskAt (H : Hp) (q : Str × List V) (v : V) : Prop := ∃ a d, v = .ref a /\ H a = some (.tup [.str q.1, .ref d]) /\ H d = some (.tup q.2)
def spAsks : Sp := fun vs H Q _ => ∃ p wd xs cs as, vs = [.ref p] /\ H p = some (.tup xs) /\ DWX wd xs cs as /\ ∀ t us H', Same H H' -> H' t = some (.tup us) -> Paired (AskAt H') as us -> Q (.ref t) H'
end L2
namespace L2
open PySem PySem.Spec PyProof.Rows
def itName : Bool -> String | true => "list_iterator" | false => "tuple_iterator"
def itObj (k : Bool) (a : Addr) : Obj := { cls := .type (itName k), data := .fields #[.ref a, .int 0 0] }
def ItAt (k : Bool) (h : Heap) (it a : Addr) (i : Nat) : Prop := ∃ o, h.get? it = some o /\ o.cls = .type (itName k) /\ o.data = .fields #[.ref a, .int i 0]
def SeqIn (k : Bool) (h : Heap) (a : Addr) (vs : Array Value) : Prop := match k with | true => h.IsList a vs | false => h.IsTuple a vs
theorem ItAt.by {k : Bool} {h h' : Heap} {it a : Addr} {i : Nat} (x : ItAt k h it a i) (g : ∀ o, h.get? it = some o -> h'.get? it = some o) : ItAt k h' it a i := let ⟨o, e, r⟩ := x; ⟨o, g o e, r⟩
theorem SeqIn.by {k : Bool} {h h' : Heap} {a : Addr} {vs : Array Value} (x : SeqIn k h a vs) (g : ∀ o, h.get? a = some o -> h'.get? a = some o) : SeqIn k h' a vs := by
  cases k
  . obtain ⟨o, e, r⟩ := x; exact ⟨o, g o e, r⟩
  . obtain ⟨o, e, r⟩ := x; exact ⟨o, g o e, r⟩
theorem SeqIn.lt {k : Bool} {h : Heap} {a : Addr} {vs : Array Value} (x : SeqIn k h a vs) : a < h.objs.size := by
  cases k
  . obtain ⟨o, e, r⟩ := x; exact Heap.lt_size e
  . obtain ⟨o, e, r⟩ := x; exact Heap.lt_size e
section
variable {prog : Program} {w : World} {A : Around} {E : Value -> Shared -> Prop} {s : Shared}
theorem it_new {k : Bool} {a : Addr} {vs : Array Value} {Q : Value -> Shared -> Prop} (h : SeqIn k s.heap a vs) (q : Q (.ref s.heap.objs.size) { s with heap := s.heap.push (itObj k a) }) : wpAny (model prog w) A (pyIter (.ref a)) Q E s := by
  cases k
  . exact wpAny_pyIter_tuple (show s.heap.IsTuple a vs from h) q
  . exact wpAny_pyIter_list (show s.heap.IsList a vs from h) q
theorem nx_item {k : Bool} {it a : Addr} {i : Nat} {vs : Array Value} {x : Value} {Q : Value -> Shared -> Prop} (hit : ItAt k s.heap it a i) (hs : SeqIn k s.heap a vs) (hx : vs[i]? = some x)
    (q : ∀ h', ItAt k h' it a (i + 1) -> Heap.SameBut it s.heap h' -> Q x { s with heap := h' }) : wpAny (model prog w) A (Builtin.SmallTypes.nextOf (.ref it)) Q E s := by
  cases k with
  | true => exact wpAny_nextOf_list_item (show s.heap.IsListIter it a i from hit) (show s.heap.IsList a vs from hs) hx q
  | false =>
    have hit' : s.heap.IsTupleIter it a i := hit
    obtain ⟨o, ho, hc, hd⟩ := hit
    obtain ⟨ol, hol, _, nl, hdl⟩ := hs
    unfold Builtin.SmallTypes.nextOf; refine wpAny_bind (wpAny_callSpecial?_slot (name := Str.ofString "__next__") hit'.typeIs F.slot_tuple_iterator_next (wpAny_call_entry F.slot_tuple_iterator_next hit'.typeIs F.entry_tuple_iterator_next ?_ (F.args_tuple_iterator_next_1 _)))
    show wpAny (model prog w) _ (field (.ref it) 0 >>= _) _ _ s
    refine wpAny_bind (wpAny_field ho hd (x := .ref a) rfl ?_)
    show wpAny (model prog w) _ (if (Value.ref a == Value.none) = true then _ else _) _ _ s
    rw [if_neg (show ¬ ((Value.ref a == Value.none) = true) from Bool.false_ne_true)]; show wpAny (model prog w) _ (field (.ref it) 1 >>= _) _ _ s
    refine wpAny_bind (wpAny_field (x := .int i 0) ho hd rfl ?_)
    show wpAny (model prog w) _ (seqItems? (.ref a) >>= _) _ _ s
    refine wpAny_bind (wpAny_seqItems (hol) hdl ?_)
    simp only [hx, Int.toNat_natCast]
    refine wpAny_bind (wpAny_setField ho hd (by simp) (wpAny_pure ⟨x, rfl, wpAny_pure (q _ ?_ (Heap.SameBut.update ..))⟩))
    exact ⟨_, Heap.get?_update_self _ ho (Obj.isFreed_of_fields (Obj.data_mapFields hd _)), (Obj.cls_mapFields ..).trans hc, by rw [Obj.data_mapFields hd]; simp [rawInt]⟩
theorem nx_end {k : Bool} {it a : Addr} {i : Nat} {vs : Array Value} {Q : Value -> Shared -> Prop} (hh : A.handled = none) (hit : ItAt k s.heap it a i) (hs : SeqIn k s.heap a vs) (hx : vs[i]? = none)
    (hE : ∀ h' e, Heap.ExtBut it s.heap h' -> (∃ o, h'.get? e = some o /\ o.cls = .type "StopIteration") -> E (.ref e) { s with heap := h' }) : wpAny (model prog w) A (Builtin.SmallTypes.nextOf (.ref it)) Q E s := by
  cases k with
  | true => exact wpAny_nextOf_list_end hh (show s.heap.IsListIter it a i from hit) (show s.heap.IsList a vs from hs) hx hE
  | false =>
    have hit' : s.heap.IsTupleIter it a i := hit
    obtain ⟨o, ho, hc, hd⟩ := hit
    obtain ⟨ol, hol, _, nl, hdl⟩ := hs
    unfold Builtin.SmallTypes.nextOf; refine wpAny_bind (wpAny_callSpecial?_slot (name := Str.ofString "__next__") hit'.typeIs F.slot_tuple_iterator_next (wpAny_call_entry F.slot_tuple_iterator_next hit'.typeIs F.entry_tuple_iterator_next ?_ (F.args_tuple_iterator_next_1 _)))
    show wpAny (model prog w) _ (field (.ref it) 0 >>= _) _ _ s
    refine wpAny_bind (wpAny_field ho hd (x := .ref a) rfl ?_)
    show wpAny (model prog w) _ (if (Value.ref a == Value.none) = true then _ else _) _ _ s
    rw [if_neg (show ¬ ((Value.ref a == Value.none) = true) from Bool.false_ne_true)]; show wpAny (model prog w) _ (field (.ref it) 1 >>= _) _ _ s
    refine wpAny_bind (wpAny_field (x := .int i 0) ho hd rfl ?_)
    show wpAny (model prog w) _ (seqItems? (.ref a) >>= _) _ _ s
    refine wpAny_bind (wpAny_seqItems (hol) hdl ?_)
    simp only [hx, Int.toNat_natCast]
    refine wpAny_bind (wpAny_rule (wpAny_bind (wpAny_setField (ho) hd (by simp) ?_)))
    show wpAny (model prog w) _ (newExc (.type "StopIteration") [] >>= _) _ _ _
    refine wpAny_bind ?_
    simp only [newTuple, newExc]
    refine wpAny_bind (wpAny_newObj_type ?_ (by size_fits))
    refine wpAny_bind (m := firstArgMember _ _) (wpAny_of_eq (a := Value.none) (by first | rfl | (simp only [firstArgMember] ; rfl)) ?_)
    refine wpAny_newObj_type ?_ (by size_fits)
    simp only [raiseNew]
    refine wpAny_bind (wpAny_handled ?_)
    first | rw [show A.in1.handled = none from (hh)] | rw [hh]
    refine wpAny_bind (wpAny_pure (wpAny_throw ?_))
    exact hE _ _ (((Heap.SameBut.update ..).extBut.push _).push _) ⟨_, Heap.get?_push_size _ rfl, rfl⟩
structure ZOff (z ti to j1 j2 a1 a2 : Addr) : Prop where
  i : ti ≠ z
  o : to ≠ z
  p : j1 ≠ z
  q : j2 ≠ z
  io : ti ≠ to
  ip : ti ≠ j1
  iq : ti ≠ j2
  op : to ≠ j1
  oq : to ≠ j2
  pq : j1 ≠ j2
  a : ∀ b, b = a1 ∨ b = a2 -> b ≠ z /\ b ≠ to /\ b ≠ j1 /\ b ≠ j2
structure ZSt (k1 k2 : Bool) (h : Heap) (z ti to j1 j2 a1 a2 : Addr) (f0 : Value) (n1 n2 : Nat) : Prop where
  z : IsZip h z ti to f0
  i : IsPair h ti (.ref j1) (.ref j2)
  o : ∃ a b, IsPair h to a b
  x : ItAt k1 h j1 a1 n1
  y : ItAt k2 h j2 a2 n2
theorem zp_item {k1 k2 : Bool} {z ti to j1 j2 a1 a2 : Addr} {n : Nat} {xs ys : Array Value} {x y : Value} {Q : Value -> Shared -> Prop} (D : ZOff z ti to j1 j2 a1 a2) (S : ZSt k1 k2 s.heap z ti to j1 j2 a1 a2 .none n n)
    (hl1 : SeqIn k1 s.heap a1 xs) (hl2 : SeqIn k2 s.heap a2 ys) (hx : xs[n]? = some x) (hy : ys[n]? = some y)
    (hQ : ∀ h', ZSt k1 k2 h' z ti to j1 j2 a1 a2 (rawInt s.heap.objs.size) (n + 1) (n + 1) -> IsPair h' s.heap.objs.size x y -> h'.objs.size = s.heap.objs.size + 1 →
      (∀ c o, c ≠ z -> c ≠ to -> c ≠ j1 -> c ≠ j2 -> s.heap.get? c = some o -> h'.get? c = some o) -> Q (.ref s.heap.objs.size) { s with heap := h' }) :
    wpAny (model prog w) A (Builtin.«zip.__next__» ⟨[.ref z], []⟩) (fun fin s' => ∃ v, fin = .done (.ret v) /\ Q v s') E s := by
  obtain ⟨hz, hI, ⟨u1, u2, hO⟩, h1, h2⟩ := S
  obtain ⟨c1z, c1o, c1p, c1q⟩ := D.a a1 (.inl rfl)
  obtain ⟨c2z, c2o, c2p, c2q⟩ := D.a a2 (.inr rfl)
  show wpAny (model prog w) _ (field (.ref z) 2 >>= _) _ _ _
  refine wpAny_bind (wpAny_field (x := .bool false) hz rfl rfl ?_)
  show wpAny (model prog w) _ (field (.ref z) 3 >>= _) _ _ _
  refine wpAny_bind (wpAny_field (x := .ref ti) hz rfl rfl ?_)
  refine wpAny_bind (wpAny_seqItems hI rfl ?_)
  show wpAny (model prog w) _ (Builtin.SmallTypes.ownedTupleIsFree (.ref z) >>= _) _ _ _
  refine wpAny_bind ?_
  unfold Builtin.SmallTypes.ownedTupleIsFree; refine wpAny_bind (wpAny_field (x := .none) hz rfl rfl (wpAny_pure ?_))
  simp only [if_true]
  refine wpAny_bind (wpAny_rule ?_)
  refine wpAny_bind (wpAny_field (x := .ref to) hz rfl rfl ?_)
  refine wpAny_bind (wpAny_setField_rec hz (by simp) fun g1 z1 b1 => ?_)
  have z1 : IsZip g1 z ti to .ellipsis := z1
  refine wpAny_bind ?_
  simp only [List.zipIdx_nil, List.zipIdx_cons, List.forIn_nil, List.forIn_cons]
  refine wpAny_bind (wpAny_bind (wpAny_onRaise ?_))
  show wpAny (model prog w) _ (Builtin.SmallTypes.nextOf (.ref j1) >>= _) _ _ _
  refine wpAny_bind (nx_item (h1.by fun o e => b1.extBut _ _ D.p e) (hl1.by fun o e => b1.extBut _ _ c1z e) hx fun g2 i2 b2 => wpAny_pure ?_)
  have o2 : IsPair g2 to u1 u2 := b2.extBut _ _ D.op (b1.extBut _ _ D.o hO)
  refine wpAny_bind (wpAny_seqItems o2 rfl ?_)
  refine wpAny_bind (wpAny_updateSeq_pair o2 fun g3 o3 b3 => ?_)
  have o3 : IsPair g3 to x u2 := o3
  refine wpAny_bind (wpAny_letGo (wpAny_pure ?_))
  refine wpAny_bind (wpAny_bind (wpAny_onRaise ?_))
  show wpAny (model prog w) _ (Builtin.SmallTypes.nextOf (.ref j2) >>= _) _ _ _
  refine wpAny_bind (nx_item (h2.by fun o e => b3.extBut _ _ D.oq.symm (b2.extBut _ _ D.pq.symm (b1.extBut _ _ D.q e))) (hl2.by fun o e => b3.extBut _ _ c2o (b2.extBut _ _ c2p (b1.extBut _ _ c2z e))) hy fun g4 i4 b4 => wpAny_pure ?_)
  have o4 : IsPair g4 to x u2 := b4.extBut _ _ D.oq o3
  refine wpAny_bind (wpAny_seqItems o4 rfl ?_)
  refine wpAny_bind (wpAny_updateSeq_pair o4 fun g5 o5 b5 => ?_)
  have o5 : IsPair g5 to x y := o5
  refine wpAny_bind (wpAny_letGo (wpAny_pure (wpAny_pure ?_)))
  refine wpAny_bind (wpAny_seqItems o5 rfl ?_)
  refine wpAny_bind (wpAny_newTuple ?_)
  have hsz : g5.objs.size = s.heap.objs.size := by rw [b5.1, b4.1, b3.1, b2.1, b1.1]
  have z5 : IsZip g5 z ti to .ellipsis := b5.extBut _ _ D.o.symm (b4.extBut _ _ D.q.symm (b3.extBut _ _ D.o.symm (b2.extBut _ _ D.p.symm z1)))
  have hk5 : ∀ c o, c ≠ z -> c ≠ to -> c ≠ j1 -> c ≠ j2 -> s.heap.get? c = some o -> g5.get? c = some o := fun c o n1 n2 n3 n4 e => b5.extBut _ _ n2 (b4.extBut _ _ n4 (b3.extBut _ _ n2 (b2.extBut _ _ n3 (b1.extBut _ _ n1 e))))
  have i5 : ItAt k1 g5 j1 a1 (n + 1) := i2.by fun o e => b5.extBut _ _ D.op.symm (b4.extBut _ _ D.pq (b3.extBut _ _ D.op.symm e))
  have j5 : ItAt k2 g5 j2 a2 (n + 1) := i4.by fun o e => b5.extBut _ _ D.oq.symm e
  have zlt : z < g5.objs.size := Heap.lt_size z5
  show wpAny (model prog w) _ (Builtin.SmallTypes.ownedTupleHandOut (.ref z) (.ref g5.objs.size) >>= _) _ _ _
  refine wpAny_bind ?_
  unfold Builtin.SmallTypes.ownedTupleHandOut; have z6 : IsZip (g5.push { cls := .type "tuple", data := .seq #[x, y] }) z ti to .ellipsis := Zpu _ z5
  refine wpAny_bind (wpAny_setField_rec z6 (by simp) fun g7 z7 b7 => ?_)
  have z7 : IsZip g7 z ti to (rawInt g5.objs.size) := z7
  refine wpAny_setField_rec z7 (by simp) fun g8 z8 b8 => ?_
  have z8 : IsZip g8 z ti to (rawInt g5.objs.size) := z8
  have up : ∀ c o, c ≠ z -> g5.get? c = some o -> g8.get? c = some o := fun c o n1 e => b8.extBut _ _ n1 (b7.extBut _ _ n1 (Zpu _ e))
  have t8 : IsPair g8 g5.objs.size x y := b8.extBut _ _ (Nat.ne_of_gt zlt) (b7.extBut _ _ (Nat.ne_of_gt zlt) (Heap.get?_push_size _ rfl))
  have s8 : g8.objs.size = g5.objs.size + 1 := by rw [b8.1, b7.1, Heap.size_push]
  rw [hsz] at z8 t8 s8; refine wpAny_pure ⟨_, rfl, ?_⟩
  show Q (.ref g5.objs.size) _
  rw [hsz]; exact hQ g8 ⟨z8, up _ _ D.i (hk5 _ _ D.i D.io D.ip D.iq hI), ⟨_, _, up _ _ D.o o5⟩, i5.by fun o e => up _ o D.p e, j5.by fun o e => up _ o D.q e⟩ t8 s8 fun c o n1 n2 n3 n4 e => up c o n1 (hk5 c o n1 n2 n3 n4 e)
theorem zp_end {k1 k2 : Bool} {z ti to j1 j2 a1 a2 : Addr} {n : Nat} {xs ys : Array Value} {Q : Fin -> Shared -> Prop} (hh : A.handled = none) (D : ZOff z ti to j1 j2 a1 a2) (S : ZSt k1 k2 s.heap z ti to j1 j2 a1 a2 .none n n)
    (hl1 : SeqIn k1 s.heap a1 xs) (hl2 : SeqIn k2 s.heap a2 ys) (hend : xs[n]? = none ∨ ys[n]? = none)
    (hE : ∀ h' e, (∀ c o, c ≠ z -> c ≠ to -> c ≠ j1 -> c ≠ j2 -> s.heap.get? c = some o -> h'.get? c = some o) -> (∃ o, h'.get? e = some o /\ o.cls = .type "StopIteration") -> E (.ref e) { s with heap := h' }) :
    wpAny (model prog w) A (Builtin.«zip.__next__» ⟨[.ref z], []⟩) Q E s := by
  obtain ⟨hz, hI, ⟨u1, u2, hO⟩, h1, h2⟩ := S
  obtain ⟨c1z, c1o, c1p, c1q⟩ := D.a a1 (.inl rfl)
  obtain ⟨c2z, c2o, c2p, c2q⟩ := D.a a2 (.inr rfl)
  show wpAny (model prog w) _ (field (.ref z) 2 >>= _) _ _ _
  refine wpAny_bind (wpAny_field (x := .bool false) hz rfl rfl ?_)
  show wpAny (model prog w) _ (field (.ref z) 3 >>= _) _ _ _
  refine wpAny_bind (wpAny_field (x := .ref ti) hz rfl rfl ?_)
  refine wpAny_bind (wpAny_seqItems hI rfl ?_)
  show wpAny (model prog w) _ (Builtin.SmallTypes.ownedTupleIsFree (.ref z) >>= _) _ _ _
  refine wpAny_bind ?_
  unfold Builtin.SmallTypes.ownedTupleIsFree; refine wpAny_bind (wpAny_field (x := .none) hz rfl rfl (wpAny_pure ?_))
  simp only [if_true]
  refine wpAny_bind (wpAny_rule ?_)
  refine wpAny_bind (wpAny_field (x := .ref to) hz rfl rfl ?_)
  refine wpAny_bind (wpAny_setField_rec hz (by simp) fun g1 z1 b1 => ?_)
  have z1 : IsZip g1 z ti to .ellipsis := z1
  refine wpAny_bind ?_
  simp only [List.zipIdx_nil, List.zipIdx_cons, List.forIn_nil, List.forIn_cons]
  refine wpAny_bind (wpAny_bind (wpAny_onRaise ?_))
  show wpAny (model prog w) _ (Builtin.SmallTypes.nextOf (.ref j1) >>= _) _ _ _
  cases hx : xs[n]? with
  | none =>
    refine wpAny_bind (nx_end hh (h1.by fun o e => b1.extBut _ _ D.p e) (hl1.by fun o e => b1.extBut _ _ c1z e) hx fun g2 e b2 he => ?_)
    obtain ⟨oe, hoe, hce⟩ := he
    have z2 : IsZip g2 z ti to .ellipsis := b2 _ _ D.p.symm z1
    have ne : e ≠ z := fun (q : e = z) => by subst q; rw [z2] at hoe; cases hoe; simp at hce
    exact wpAny_setField_rec z2 (by simp) fun g3 _ b3 => hE g3 e (fun c o n1 _ n3 _ q => b3.extBut _ _ n1 (b2 _ _ n3 (b1.extBut _ _ n1 q))) ⟨oe, b3.extBut _ _ ne hoe, hce⟩
  | some x =>
    have hy : ys[n]? = none := hend.resolve_left (by rw [hx]; exact fun q => nomatch q)
    refine wpAny_bind (nx_item (h1.by fun o e => b1.extBut _ _ D.p e) (hl1.by fun o e => b1.extBut _ _ c1z e) hx fun g2 i2 b2 => wpAny_pure ?_)
    have o2 : IsPair g2 to u1 u2 := b2.extBut _ _ D.op (b1.extBut _ _ D.o hO)
    refine wpAny_bind (wpAny_seqItems o2 rfl ?_)
    refine wpAny_bind (wpAny_updateSeq_pair o2 fun g3 o3 b3 => ?_)
    refine wpAny_bind (wpAny_letGo (wpAny_pure ?_))
    refine wpAny_bind (wpAny_bind (wpAny_onRaise ?_))
    show wpAny (model prog w) _ (Builtin.SmallTypes.nextOf (.ref j2) >>= _) _ _ _
    refine wpAny_bind (nx_end hh (h2.by fun o e => b3.extBut _ _ D.oq.symm (b2.extBut _ _ D.pq.symm (b1.extBut _ _ D.q e))) (hl2.by fun o e => b3.extBut _ _ c2o (b2.extBut _ _ c2p (b1.extBut _ _ c2z e))) hy fun g4 e b4 he => ?_)
    obtain ⟨oe, hoe, hce⟩ := he
    have z4 : IsZip g4 z ti to .ellipsis := b4 _ _ D.q.symm (b3.extBut _ _ D.o.symm (b2.extBut _ _ D.p.symm z1))
    have ne : e ≠ z := fun (q : e = z) => by subst q; rw [z4] at hoe; cases hoe; simp at hce
    exact wpAny_setField_rec z4 (by simp) fun g5 _ b5 => hE g5 e (fun c o n1 n2 n3 n4 q => b5.extBut _ _ n1 (b4 _ _ n4 (b3.extBut _ _ n2 (b2.extBut _ _ n3 (b1.extBut _ _ n1 q))))) ⟨oe, b5.extBut _ _ ne hoe, hce⟩
end
section
variable {X : Cx} {pins : List (Addr × Obj)} {σ : List (Option V)} {H : Hp} {s : Shared} {h' : Heap}
theorem Inv.turnLaid {t' : Nat} {ch : List Addr} {a : Addr} {o : HO} (I : Inv X pins σ H s) (hf : ∀ b ∈ ch, FpOk X pins H b) (k : ∀ b u, b ∉ ch -> s.heap.get? b = some u -> h'.get? b = some u) (hp : s.heap.objs.size <= a) (new : ObjOk X.prog X.w (upd H a o) h' a o) :
    Inv X pins σ (upd H a o) { s with heap := h', toks := t' } := by
  have hn := I.hok.fresh hp
  have nch : ∀ b u, H b = some u -> b ∉ ch := fun b u e z => by rw [(hf b z).1] at e; cases e
  refine I.step (g' := s.gens) (d' := s.drawn) (ch := ch) (fun b hb => ⟨(hf b hb).2.2.2.1, (hf b hb).2.1, (hf b hb).2.2.2.2.1, (hf b hb).2.2.2.2.2⟩) (fun b u _ _ hc e _ => k b u hc e) (fun b u _ _ hc e _ => ⟨u.slots, k b u hc e⟩)
    (fun b u _ e n => by rw [upd_ne (Nat.ne_of_lt (Nat.lt_of_lt_of_le (Heap.lt_size e) hp))]; exact n) (fun b u hc e => ⟨u, k b u hc e⟩) (fun b xs e => by rw [upd_ne (ne_of_none e hn)]; exact e) (fun b v u e => by rw [upd_ne (ne_of_none e hn)]; exact e)
    (fun b ps e => ⟨#[], by rw [upd_ne (ne_of_none e hn), e]; simp⟩) (fun m hm => ?_) (fun b u e => ?_) I.bare
  . obtain ⟨u, es, ep, ho, r⟩ := hm
    exact ⟨u, es, ep, k _ u (fun z => (hf _ z).2.1 rfl) ho, r⟩
  . by_cases hb : b = a
    . subst hb; rw [upd_same] at e; cases e; exact new
    . rw [upd_ne hb] at e; refine (I.hok b u e).stay (fun c v hc q => k c v ?_ q) (fun c q => by rw [upd_ne (ne_of_none q hn)]; exact q) fun c xs q => by rw [upd_ne (ne_of_none q hn)]; exact q
      rcases hc with z | z
      . rw [z]; exact nch b u e
      . exact nch c _ z
theorem Inv.turnL {t' : Nat} {ch : List Addr} (I : Inv X pins σ H s) (hf : ∀ b ∈ ch, FpOk X pins H b) (k : ∀ b u, b ∉ ch -> s.heap.get? b = some u -> h'.get? b = some u) : Inv X pins σ H { s with heap := h', toks := t' } := by
  have nch : ∀ b u, H b = some u -> b ∉ ch := fun b u e z => by rw [(hf b z).1] at e; cases e
  refine I.step (g' := s.gens) (d' := s.drawn) (ch := ch) (fun b hb => ⟨(hf b hb).2.2.2.1, (hf b hb).2.1, (hf b hb).2.2.2.2.1, (hf b hb).2.2.2.2.2⟩) (fun b u _ _ hc e _ => k b u hc e) (fun b u _ _ hc e _ => ⟨u.slots, k b u hc e⟩)
    (fun _ _ _ _ n => n) (fun b u hc e => ⟨u, k b u hc e⟩) (fun _ _ e => e) (fun _ _ _ e => e) (fun b ps e => ⟨#[], by rw [e]; simp⟩) (fun m hm => ?_) (fun b u e => ?_) I.bare
  . obtain ⟨u, es, ep, ho, r⟩ := hm
    exact ⟨u, es, ep, k _ u (fun z => (hf _ z).2.1 rfl) ho, r⟩
  . refine (I.hok b u e).stay (fun c v hc q => k c v ?_ q) (fun _ q => q) fun _ _ q => q
    rcases hc with z | z
    . rw [z]; exact nch b u e
    . exact nch c _ z
end
def SqK (K : W.Frag) (k : Bool) (H : Hp) (a : Addr) (xs : List V) : Prop := match k with | true => SqL K H a xs | false => SqT K H a xs
def Itz (K : W.Frag) (k1 k2 : Bool) (a1 a2 : Addr) : It :=
  ⟨fun i H => ∃ xs ys x y, SqK K k1 H a1 xs /\ SqK K k2 H a2 ys /\ xs[i]? = some x /\ ys[i]? = some y,
   fun i H v H' => ∃ t x y, H t = none /\ v = .ref t /\ H' = upd H t (.tup [x, y]) /\ (∀ xs, SqK K k1 H a1 xs -> xs[i]? = some x) /\ ∀ ys, SqK K k2 H a2 ys -> ys[i]? = some y,
   fun i H => ∃ xs ys, SqK K k1 H a1 xs /\ SqK K k2 H a2 ys /\ (xs.length <= i ∨ ys.length <= i)⟩
theorem Inv.sqk {X : Cx} {pins : List (Addr × Obj)} {σ : St} {H : Hp} {s : Shared} (I : Inv X pins σ H s) {k : Bool} {a : Addr} {xs : List V} (h : SqK X.K k H a xs) : ∃ its, Vals xs its /\ SeqIn k s.heap a its.toArray := by
  cases k
  . obtain ⟨its, r, p, _⟩ := I.tuple h
    exact ⟨its, r, p⟩
  . obtain ⟨its, r, p, _⟩ := I.list h
    exact ⟨its, r, p.isList⟩
theorem Inv.sqk_inj {X : Cx} {pins : List (Addr × Obj)} {σ : St} {H : Hp} {s : Shared} (I : Inv X pins σ H s) {k : Bool} {a : Addr} {xs ys : List V} (h : SqK X.K k H a xs) (h2 : SqK X.K k H a ys) : xs = ys := by
  cases k
  . exact I.tuple_inj h h2
  . exact I.list_inj h h2
theorem turn_zip {P : Program} {w : World} {K : W.Frag} {es : List Expr} {n : Nat} {pos : Pos} {k1 k2 : Bool} {z ti to j1 j2 a1 a2 : Addr} (D : ZOff z ti to j1 j2 a1 a2) :
    Turn P w K (.Tuple es n pos) (Itz K k1 k2 a1 a2) [z, ti, to, j1, j2] z (fun i h => ZSt k1 k2 h z ti to j1 j2 a1 a2 .none i i) where
  mem := by simp
  obj := fun i h st b hb => by
    obtain ⟨u1, u2, hO⟩ := st.o
    obtain ⟨o1, e1, _, d1⟩ := st.x
    obtain ⟨o2, e2, _, d2⟩ := st.y
    simp only [List.mem_cons, List.not_mem_nil, or_false] at hb
    rcases hb with rfl | rfl | rfl | rfl | rfl
    . exact ⟨_, st.z, fun v q => by have q' : Data.fields _ = Data.cell v := q; cases q'⟩
    . exact ⟨_, st.i, fun v q => by have q' : Data.seq _ _ = Data.cell v := q; cases q'⟩
    . exact ⟨_, hO, fun v q => by have q' : Data.seq _ _ = Data.cell v := q; cases q'⟩
    . exact ⟨_, e1, fun v q => by rw [d1] at q; cases q⟩
    . exact ⟨_, e2, fun v q => by rw [d2] at q; cases q⟩
  keep := fun i h h' st g => by
    obtain ⟨u1, u2, hO⟩ := st.o
    exact ⟨g z (by simp) _ st.z, g ti (by simp) _ st.i, ⟨u1, u2, g to (by simp) _ hO⟩, st.x.by fun o e => g j1 (by simp) o e, st.y.by fun o e => g j2 (by simp) o e⟩
  item := by
    intro X hP hw hK hc i pins s σ H E I hf st hg; subst hP hw hK; obtain ⟨xs, ys, x, y, hx, hy, ex, ey⟩ := hg
    obtain ⟨its, rv, p⟩ := I.sqk hx
    obtain ⟨jts, rw', p'⟩ := I.sqk hy
    obtain ⟨u, hu, ru⟩ := rv.get ex
    obtain ⟨v, hv, rv'⟩ := rw'.get ey
    have hT : s.TypeIs (.ref z) "zip" := ⟨_, st.z, rfl⟩
    unfold pyNext; refine wpAny_bind (wpAny_attempt (wpAny_callSpecial?_slot (name := Str.ofString "__next__") hT F.slot_zip_next (wpAny_call_entry F.slot_zip_next hT F.entry_zip_next (zp_item D st p p' (by simpa using hu) (by simpa using hv) fun h1 st1 t1 z1 k1' => wpAny_pure ?_) (F.args_zip_next_1 _))))
    refine ⟨_, rfl, ?_⟩
    refine wpAny_letOwnedTupleGo_zip st1.z fun h2 z2 b2 => ?_
    obtain ⟨w1, w2, hO⟩ := st1.o
    have zlt : z < s.heap.objs.size := Heap.lt_size st.z
    have t2 : IsPair h2 s.heap.objs.size u v := b2.extBut _ _ (Nat.ne_of_gt zlt) t1
    refine ⟨.ref s.heap.objs.size, upd H s.heap.objs.size (.tup [x, y]), I.turnLaid (t' := s.toks) hf (fun b o hb e => ?_) (Znr _) ⟨by show 2 <= sizeLine; decide, [u, v], .cons ru (.cons rv' .nil), ⟨_, t2, rfl, _, rfl⟩⟩, rfl, ?_, ?_, fun b hb => ?_⟩
    . have hb' : b ≠ z /\ b ≠ ti /\ b ≠ to /\ b ≠ j1 /\ b ≠ j2 := by simpa using hb
      exact b2.extBut _ _ hb'.1 (k1' b o hb'.1 hb'.2.2.1 hb'.2.2.2.1 hb'.2.2.2.2 e)
    . exact ⟨s.heap.objs.size, x, y, I.hok.fresh (Znr _), rfl, rfl, fun zs hz => by rw [I.sqk_inj hz hx]; exact ex, fun zs hz => by rw [I.sqk_inj hz hy]; exact ey⟩
    . exact ⟨z2, b2.extBut _ _ D.i st1.i, ⟨_, _, b2.extBut _ _ D.o hO⟩, st1.x.by fun o e => b2.extBut _ _ D.p e, st1.y.by fun o e => b2.extBut _ _ D.q e⟩
    . have hlt : b < s.heap.objs.size := by
        obtain ⟨u1, u2, hO'⟩ := st.o
        obtain ⟨o1, e1, _⟩ := st.x
        obtain ⟨o2, e2, _⟩ := st.y
        simp only [List.mem_cons, List.not_mem_nil, or_false] at hb
        rcases hb with rfl | rfl | rfl | rfl | rfl
        . exact zlt
        . exact Heap.lt_size st.i
        . exact Heap.lt_size hO'
        . exact Heap.lt_size e1
        . exact Heap.lt_size e2
      rw [upd_ne (Nat.ne_of_lt hlt)]; exact (hf b hb).1
  done := by
    intro X hP hw hK hc i pins s σ H E I hf st hg; subst hP hw hK; obtain ⟨xs, ys, hx, hy, he⟩ := hg
    obtain ⟨its, rv, p⟩ := I.sqk hx
    obtain ⟨jts, rw', p'⟩ := I.sqk hy
    have hT : s.TypeIs (.ref z) "zip" := ⟨_, st.z, rfl⟩
    have l1 := rv.length
    have l2 := rw'.length
    unfold pyNext; refine wpAny_bind (wpAny_attempt (wpAny_callSpecial?_slot (name := Str.ofString "__next__") hT F.slot_zip_next (wpAny_call_entry F.slot_zip_next hT F.entry_zip_next (zp_end (I.ok.hd hc) D st p p' (he.imp (fun h => by simp; omega) (fun h => by simp; omega)) fun h1 e k1' hx' => ?_) (F.args_zip_next_1 _))))
    obtain ⟨o, ho, hcl⟩ := hx'
    refine wpAny_bind (wpAny_isInstance (T := "StopIteration") (b := true) ⟨o, ho, hcl⟩ isSubtype_stop ?_)
    refine wpAny_pure ⟨rfl, I.turnL (t' := s.toks) hf fun b u hb e' => ?_⟩
    have hb' : b ≠ z /\ b ≠ ti /\ b ≠ to /\ b ≠ j1 /\ b ≠ j2 := by simpa using hb
    exact k1' b u hb'.1 hb'.2.2.1 hb'.2.2.2.1 hb'.2.2.2.2 e'
  self := fun _ _ _ _ _ st h => wpAny_pyIter_zip st.z h
def zpH (k1 k2 : Bool) (h : Heap) (a1 a2 : Addr) : Heap :=
  ((((h.push (itObj k1 a1)).push (itObj k2 a2)).push { cls := .type "tuple", data := .seq #[.ref h.objs.size, .ref (h.objs.size + 1)] }).push { cls := .type "tuple", data := .seq #[.none, .none] }).push { cls := .type "zip", data := .fields #[.none, .bool false, .bool false, .ref (h.objs.size + 2), .ref (h.objs.size + 3)] }
theorem zp_new (k1 k2 : Bool) (a1 a2 : Addr) (xs ys : Array Value) :
    Meets (Builtin.«zip.__new__» ⟨[.type "zip", .ref a1, .ref a2], []⟩) (fun _ R s => SeqIn k1 s.heap a1 xs /\ SeqIn k2 s.heap a2 ys /\ R (.ok (.ret (.ref (s.heap.objs.size + 4)))) { s with heap := zpH k1 k2 s.heap a1 a2 }) :=
  .of_wp fun prog w A R s h => by
    obtain ⟨hp, g, d, tk, os⟩ := s; obtain ⟨hl1, hl2, h⟩ := h
    have hsub := sub_zip
    have L1 : SeqIn k1 (Shared.heap ⟨hp, g, d, tk, os⟩) a1 xs := hl1
    have L2 : SeqIn k2 (Shared.heap ⟨hp.push (itObj k1 a1), g, d, tk, os⟩) a2 ys := SeqIn.by hl2 fun o e => Zpu _ e
    wp_walk using it_new L1, it_new L2
    refine ⟨_, rfl, ?_⟩
    simp only [Heap.size_push]
    exact h
theorem zp_off {n a1 a2 : Addr} (h1 : a1 < n) (h2 : a2 < n) : ZOff (n + 4) (n + 2) (n + 3) n (n + 1) a1 a2 where
  i := Nat.ne_of_lt (Nat.add_lt_add_left (by decide) n)
  o := Nat.ne_of_lt (Nat.add_lt_add_left (by decide) n)
  p := Nat.ne_of_lt (Nat.lt_add_of_pos_right (by decide))
  q := Nat.ne_of_lt (Nat.add_lt_add_left (by decide) n)
  io := Nat.ne_of_lt (Nat.add_lt_add_left (by decide) n)
  ip := Nat.ne_of_gt (Nat.lt_add_of_pos_right (by decide))
  iq := Nat.ne_of_gt (Nat.add_lt_add_left (by decide) n)
  op := Nat.ne_of_gt (Nat.lt_add_of_pos_right (by decide))
  oq := Nat.ne_of_gt (Nat.add_lt_add_left (by decide) n)
  pq := Nat.ne_of_lt (Nat.lt_add_of_pos_right (by decide))
  a := fun b hb => by
    have hlt : b < n := by rcases hb with rfl | rfl <;> assumption
    exact ⟨Nat.ne_of_lt (Nat.lt_of_lt_of_le hlt (Nat.le_add_right n 4)), Nat.ne_of_lt (Nat.lt_of_lt_of_le hlt (Nat.le_add_right n 3)), Nat.ne_of_lt hlt, Nat.ne_of_lt (Nat.lt_of_lt_of_le hlt (Nat.le_add_right n 1))⟩
section
variable {prog : Program} {w : World} {A : Around} {E : Value -> Shared -> Prop} {s : Shared}
theorem zp_call {k1 k2 : Bool} {a1 a2 : Addr} {xs ys : Array Value} {Q : Value -> Shared -> Prop} (hl1 : SeqIn k1 s.heap a1 xs) (hl2 : SeqIn k2 s.heap a2 ys)
    (h : ∀ h', ZSt k1 k2 h' (s.heap.objs.size + 4) (s.heap.objs.size + 2) (s.heap.objs.size + 3) s.heap.objs.size (s.heap.objs.size + 1) a1 a2 .none 0 0 -> (∀ c o, s.heap.get? c = some o -> h'.get? c = some o) -> Q (.ref (s.heap.objs.size + 4)) { s with heap := h' }) :
    wpAny (model prog w) A (call (.type "zip") [.ref a1, .ref a2]) Q E s := by
  refine callType_new F.called_zip (by decide) (F.typeCall_zip_2 _ _) (F.newCall_zip_2 _ _) (fun obj => F.args_object_init_3 obj _ _) F.entry_zip_new (zp_new k1 k2 a1 a2 xs ys) ⟨hl1, hl2, ?_⟩
  have n1 : (s.heap.push (itObj k1 a1)).objs.size = s.heap.objs.size + 1 := Heap.size_push ..
  have n2 : ((s.heap.push (itObj k1 a1)).push (itObj k2 a2)).objs.size = s.heap.objs.size + 2 := by rw [Heap.size_push, n1]
  have up : ∀ {o1 o2 o3 o4 o5 : Obj} {b : Addr} {o : Obj}, s.heap.get? b = some o -> (((((s.heap.push o1).push o2).push o3).push o4).push o5).get? b = some o := fun e => Zpu _ (Zpu _ (Zpu _ (Zpu _ (Zpu _ e))))
  have at5 : ∀ {h0 : Heap} {o : Obj} {n : Nat}, h0.objs.size = n -> o.isFreed = false -> (h0.push o).get? n = some o := fun e f => by subst e; exact Heap.get?_push_size _ f
  have g1 : (zpH k1 k2 s.heap a1 a2).get? s.heap.objs.size = some (itObj k1 a1) := Zpu _ (Zpu _ (Zpu _ (Zpu _ (Heap.get?_push_size _ rfl))))
  have g2 : (zpH k1 k2 s.heap a1 a2).get? (s.heap.objs.size + 1) = some (itObj k2 a2) := Zpu _ (Zpu _ (Zpu _ (at5 n1 rfl)))
  have g3 : IsPair (zpH k1 k2 s.heap a1 a2) (s.heap.objs.size + 2) (.ref s.heap.objs.size) (.ref (s.heap.objs.size + 1)) := Zpu _ (Zpu _ (at5 n2 rfl))
  have g4 : IsPair (zpH k1 k2 s.heap a1 a2) (s.heap.objs.size + 3) .none .none := Zpu _ (at5 (by rw [Heap.size_push, n2]) rfl)
  have g5 : IsZip (zpH k1 k2 s.heap a1 a2) (s.heap.objs.size + 4) (s.heap.objs.size + 2) (s.heap.objs.size + 3) .none := at5 (by rw [Heap.size_push, Heap.size_push, n2]) rfl
  exact ⟨⟨_, g5, rfl⟩, h _ ⟨g5, g3, ⟨_, _, g4⟩, ⟨_, g1, rfl, rfl⟩, ⟨_, g2, rfl, rfl⟩⟩ fun c o e => up e⟩
end
section
variable {X : Cx} {a b : Expr} {ta tb : TE} {p pos tpos : Pos} {es : List Expr} {n : Nat}
def iZip (K : W.Frag) (ta tb : TE) : TI := fun σ H R => ta σ H fun x H1 => tb σ H1 fun y H2 => mR x fun a1 => mR y fun a2 => ∃ k1 k2 xs ys, SqK K k1 H2 a1 xs /\ SqK K k2 H2 a2 ys /\ R (Itz K k1 k2 a1 a2) H2
theorem boot_zip : bootBuiltins "zip" = some (.type "zip") := by decide +kernel
theorem pi_zip (hg : Gl X "zip") (hm : X.mg "zip" = none) (ha : PE X a ta) (hb : PE X b tb) (h1 : notStar a = true) (h2 : notStar b = true) : PI X (.Tuple es n tpos) (.Call (.Name "zip" p) [a, b] [] pos) (iZip X.K ta tb) := by
  intro pins s σ H R I h; have hs : starEach [a, b] X.env = [(false, eval a X.env), (false, eval b X.env)] := by rw [star_cons h1, star_cons h2]; rfl
  have hs2 : starEach [b] X.env = [(false, eval b X.env)] := by rw [star_cons h2]; rfl
  have hA : PA X [a, b] (tCons ta (tCons tb tNil)) := a_cons ha (a_cons hb pa_nil h2) h1
  refine Call_ (ld_blt I hg hm boot_zip (PyProof.Rows.callWith_type1 (thn (hA pos pins s σ H (fun vs H2 => match vs with | [x, y] => (mR x fun a1 => mR y fun a2 => ∃ k1 k2 xs ys, SqK X.K k1 H2 a1 xs /\ SqK X.K k2 H2 a2 ys /\ R (Itz X.K k1 k2 a1 a2) H2) | _ => False) I ?_) fun us s1 ⟨vs, H1, I1, r1, q1⟩ => ?_) (by rw [hs, hs2]) (by rw [hs2]; rfl)))
  . exact h
  . dsimp only at q1
    split at q1
    rotate_left
    . exact q1.elim
    rename_i x y
    rw [mR_eq] at q1; obtain ⟨a1, rfl, q1⟩ := q1
    rw [mR_eq] at q1; obtain ⟨a2, rfl, k1, k2, xs, ys, q2, q3, q⟩ := q1
    cases r1 with
    | cons r rr =>
      cases rr with
      | cons r' rr =>
        cases rr
        cases r
        cases r'
        obtain ⟨its, rv, p1⟩ := I1.sqk q2
        obtain ⟨jts, rw', p2⟩ := I1.sqk q3
        refine zp_call p1 p2 fun h' S k => ?_
        have I2 : Inv X pins σ H1 { s1 with heap := h' } := I1.kept (t' := s1.toks) k
        refine wpAny_pyIter_zip (s := { s1 with heap := h' }) S.z ?_
        refine ⟨s1.heap.objs.size + 4, _, _, _, H1, rfl, I2, turn_zip (zp_off p1.lt p2.lt), S, fun b hb => ?_, q⟩
        have hb' : s1.heap.objs.size <= b := by
          simp only [List.mem_cons, List.not_mem_nil, or_false] at hb
          rcases hb with rfl | rfl | rfl | rfl | rfl
          . exact Nat.le_add_right _ 4
          . exact Nat.le_add_right _ 2
          . exact Nat.le_add_right _ 3
          . exact Znr _
          . exact Nat.le_add_right _ 1
        exact I1.fpOk hb' (I1.hok.fresh hb')
theorem R.zip {K : W.Frag} (hg : Gl X "zip") (hm : X.mg "zip" = none) (ha : XE X a ta) (hb : XE X b tb) (hK : X.K = K := by rfl) (h1 : notStar a = true := by rfl) (h2 : notStar b = true := by rfl) : XI X (.Tuple es n tpos) (.Call (.Name "zip" p) [a, b] [] pos) (iZip K ta tb) :=
  hK ▸ ⟨pi_zip hg hm ha.h hb.h h1 h2⟩
end
theorem comp_zip {K : W.Frag} {k1 k2 : Bool} {a1 a2 : Addr} {xs ys : List V} {js : List (Option Nat)} {g : TG} {tt : TT} {te : TE} {σ : St} {H : Hp} {Q : List V -> Hp -> Prop} (hz : xs.length <= 100000) (Pv : Nat -> List V -> Hp -> Prop) (hA : ∀ i zs H, Pv i zs H -> SqK K k1 H a1 xs /\ SqK K k2 H a2 ys /\ zs.length <= i) (h0 : Pv 0 [] H)
    (hs : ∀ i x y zs H t, xs[i]? = some x -> ys[i]? = some y -> Pv i zs H -> H t = none -> g (.ref t) (stC js σ) (upd H t (.tup [x, y])) fun σ2 H2 => tt σ2 H2 fun b H3 => if b = true then te σ2 H3 fun v H4 => Pv (i + 1) (zs ++ [v]) H4 else Pv (i + 1) zs H3)
    (hd : ∀ zs H, Pv (min xs.length ys.length) zs H -> Q zs H) : wComp js g tt te σ (Itz K k1 k2 a1 a2) H Q := by
  refine ⟨fun i m zs H => m = min xs.length ys.length - i /\ i <= min xs.length ys.length /\ Pv i zs H, ⟨_, rfl, Nat.zero_le _, h0⟩, ?_⟩
  rintro i m zs H ⟨rfl, hi, p⟩
  obtain ⟨q1, q2, q3⟩ := hA i zs H p
  by_cases hlt : i < min xs.length ys.length
  . have l1 : i < xs.length := Nat.lt_of_lt_of_le hlt (Nat.min_le_left _ _)
    have l2 : i < ys.length := Nat.lt_of_lt_of_le hlt (Nat.min_le_right _ _)
    refine .inr ⟨⟨xs, ys, xs[i], ys[i], q1, q2, by simp [l1], by simp [l2]⟩, Znl (m := 100000) (by omega) (by decide), Pv (i + 1), fun zs' H' p' => ⟨_, by omega, rfl, hlt, p'⟩, fun v H' y => ?_⟩
    obtain ⟨t, x, y, ht, rfl, rfl, e1, e2⟩ := y
    exact hs i x y zs H t (e1 xs q1) (e2 ys q2) p ht
  . have e : i = min xs.length ys.length := by omega
    subst e; exact .inl ⟨⟨xs, ys, q1, q2, by omega⟩, hd zs H p⟩
end L2
namespace L2
open PySem PySem.Spec PyProof.Rows
def memS (x : V) (zs : List Str) : Bool := match x with | .str z => decide (z ∈ zs) | _ => false
section
variable {X : Cx}
theorem in1_units (A : Around) : A.in1.units = A.units + 1 := rfl
def eqTup (xs ys : List V) : Bool := (List.range (min xs.length ys.length)).all (fun j => eqV (xs.getD j .non) (ys.getD j .non)) && xs.length == ys.length
def mEqF (neg : Bool) : R2 := fun x y H Q => mR x fun a => mR y fun b => ∃ xs ys, H a = some (.tup xs) /\ H b = some (.tup ys) /\ (∀ (j : Nat) (u v : V), xs[j]? = some u -> ys[j]? = some v -> flatV u = true /\ flatV v = true) /\ Q (.bl (if neg then !eqTup xs ys else eqTup xs ys)) H
theorem op_eqF (neg : Bool) (hu : X.A.units + 64 < cLine) : OpR X (compareOp (if neg then .NotEq else .Eq)) (mEqF neg) := by
  intro pins s σ H x y v u Q I rx ry h; unfold mEqF at h; rw [mR_eq] at h; obtain ⟨a, rfl, h⟩ := h
  rw [mR_eq] at h; obtain ⟨b, rfl, xs, ys, g1, g2, fl, q⟩ := h
  cases rx
  cases ry
  obtain ⟨its, ri, ti, _⟩ := I.tuple (SqT.of g1)
  obtain ⟨its2, ri2, ti2, _⟩ := I.tuple (SqT.of g2)
  have el1 : its.length = xs.length := ri.length.symm
  have el2 : its2.length = ys.length := ri2.length.symm
  have each : ∀ j (h1 : j < its.toArray.size) (h2 : j < its2.toArray.size), SeqAt.EqAt X.A.in1 s its.toArray[j] its2.toArray[j] (eqV (xs.getD j .non) (ys.getD j .non)) := fun j h1 h2 => by
    rw [Zst] at h1 h2; obtain ⟨h1', q1⟩ := Paired.get' (j := j) ri h1
    obtain ⟨h2', q2⟩ := Paired.get' (j := j) ri2 h2
    obtain ⟨f1, f2⟩ := fl j xs[j] ys[j] (Zge h1') (Zge h2')
    have e1 : xs.getD j .non = xs[j] := by simp [List.getD, h1']
    have e2 : ys.getD j .non = ys[j] := by simp [List.getD, h2']
    rw [e1, e2]; simpa using eqAt_V q1 q2 f1 f2
  have e : ((List.range (min its.toArray.size its2.toArray.size)).all (fun j => eqV (xs.getD j .non) (ys.getD j .non)) && its.toArray.size == its2.toArray.size) = eqTup xs ys := by
    rw [Zst, Zst, el1, el2]; rfl
  cases neg with
  | true =>
    have key := SeqAt.RcNeAt.tuples (A := X.A) (s := s) ti ti2 (by omega) each
    rw [e] at key; exact key _ _ _ _ ⟨.bl _, H, I, rfl, q⟩
  | false =>
    have key := SeqAt.RcAt.tuples (A := X.A) (s := s) ti ti2 (by omega) each
    rw [e] at key; exact key _ _ _ _ ⟨.bl _, H, I, rfl, q⟩
theorem R.eqF (hu : X.A.units + 64 < cLine) : XOp X (compareOp .Eq) (mEqF false) := ⟨op_eqF false hu⟩
end
def nIs : Option Key -> Value -> Bool
  | none, .none => true
  | none, _ => false
  | some k, v => keyIs k v
theorem nIs_shape : ∀ {k : Option Key} {v : Value}, nIs k v = true -> (k = none /\ v = .none) ∨ ∃ j, k = some j /\ keyIs j v = true
  | none, v, h => by cases v <;> first | exact .inl ⟨rfl, rfl⟩ | exact absurd (show false = true from h) Bool.false_ne_true
  | some j, v, h => .inr ⟨j, rfl, h⟩
theorem key_none {j : Key} : keyIs j .none = false := by cases j <;> rfl
def noneH : Int := 4238894112
section
variable {prog : Program} {w : World} {A : Around} {E : Value -> Shared -> Prop} {s : Shared}
theorem hash_none {Q : Int -> Shared -> Prop} (h : Q noneH { s with toks := s.toks + 1 }) : wpAny (model prog w) A (PySem.pyHash .none) Q E s := by
  have hT : s.TypeIs Value.none "NoneType" := rfl
  unfold PySem.pyHash; refine wpAny_bind ?_
  rw [cRoomFor, if_neg (show ¬ ([Value.none].any Value.onHeap = true) from Bool.false_ne_true)]; refine wpAny_pure ?_
  refine wpAny_bind (wpAny_specialOf hT PySem.F.slot_NoneType_hash.lookup ?_)
  show wpAny (model prog w) A (if (some (Value.builtin "NoneType.__hash__") == some Value.none) = true then _ else _) Q E s
  rw [if_neg (show ¬ ((some (Value.builtin "NoneType.__hash__") == some Value.none) = true) from Bool.false_ne_true)]; refine wpAny_bind (wpAny_specialOf hT PySem.F.slot_NoneType_hash.lookup ?_)
  show wpAny (model prog w) A (callSpecialIfBoundUnlessNone? Value.none "__hash__" _ >>= _) Q E s
  refine wpAny_bind (wpAny_callSpecialIfBoundUnlessNone?_slot hT PySem.F.slot_NoneType_hash (wpAny_call_entry PySem.F.slot_NoneType_hash hT PySem.F.entry_NoneType_hash (show wpAny (model prog w) _ (do ret (← mkInt noneH)) _ _ s from wpAny_ret_mkInt ?_) (PySem.F.args_NoneType_hash_1 _)))
  show wpAny (model prog w) A (if (decide (-(2 : Int) ^ 63 <= noneH) && decide (noneH < 2 ^ 63)) = true then _ else _) Q E _
  rw [if_pos (by decide)]
  exact wpAny_pure h
end
def nKind (prog : Program) (w : World) : PySem.KeyKind prog w (Option Key) where
  is := nIs
  hash := fun k => match k with | none => noneH | some j => keyH w j
  inj := fun v a b ha hb => by
    rcases nIs_shape ha with ⟨rfl, rfl⟩ | ⟨i, rfl, h1⟩
    . rcases nIs_shape hb with ⟨rfl, _⟩ | ⟨j, rfl, h2⟩
      . rfl
      . rw [key_none] at h2; cases h2
    . rcases nIs_shape hb with ⟨rfl, rfl⟩ | ⟨j, rfl, h2⟩
      . rw [key_none] at h1; cases h1
      . rw [(mixKind prog w).inj v i j h1 h2]
  byValue := fun k v h => by
    rcases nIs_shape h with ⟨rfl, rfl⟩ | ⟨i, rfl, h1⟩
    . rfl
    . exact (mixKind prog w).byValue i v h1
  pyHash := fun {A E s k v Q} hv h => by
    rcases nIs_shape hv with ⟨rfl, rfl⟩ | ⟨i, rfl, h1⟩
    . exact hash_none h
    . exact (mixKind prog w).pyHash h1 h
  eqBool := fun {A E s a b u v Q} hu hv h => by
    rcases nIs_shape hu with ⟨rfl, rfl⟩ | ⟨i, rfl, h1⟩
    . rcases nIs_shape hv with ⟨rfl, rfl⟩ | ⟨j, rfl, h2⟩
      . exact SeqAt.EqAt.same _ _ _ _ _ (by simpa using h)
      . have h' : Q false s := by simpa using h
        rcases keyIs_shape h2 with ⟨n, t, rfl, rfl⟩ | ⟨x, t, rfl, rfl⟩
        . exact SeqAt.EqAt.none_int n t _ _ _ _ h'
        . exact SeqAt.EqAt.none_str x t _ _ _ _ h'
    . rcases nIs_shape hv with ⟨rfl, rfl⟩ | ⟨j, rfl, h2⟩
      . have h' : Q false s := by simpa using h
        rcases keyIs_shape h1 with ⟨n, t, rfl, rfl⟩ | ⟨x, t, rfl, rfl⟩
        . exact SeqAt.EqAt.int_none n t _ _ _ _ h'
        . exact SeqAt.EqAt.str_none x t _ _ _ _ h'
      . refine (mixKind prog w).eqBool h1 h2 ?_
        have e : decide (some i = some j) = decide (i = j) := by simp
        rw [<- e]; exact h
  «strs» := fun k x t v h => by
    rcases nIs_shape h with ⟨rfl, e⟩ | ⟨i, rfl, h1⟩
    . cases e
    . exact (mixKind prog w).strs i x t v h1
theorem map_none {prog : Program} {w : World} {h : Heap} {a : Addr} {f : Key -> Option Value} (m : h.MapOf (mixKind prog w) a f) : ∃ g : Option Key -> Option Value, h.MapOf (nKind prog w) a g /\ g none = none := by
  obtain ⟨o, es, ep, ho, hx, hd, hk, hf⟩ := m
  refine ⟨_, ⟨o, es, ep, ho, hx, hd, fun e he => ?_, fun k => rfl⟩, ?_⟩
  . obtain ⟨k, h1, h2⟩ := hk e he
    exact ⟨some k, h1, h2⟩
  . show findBy nIs es none = none
    unfold findBy; have : es.find? (fun e => nIs none e.key) = none := by
      rw [Array.find?_eq_none]; intro e he z; obtain ⟨k, h1, h2⟩ := hk e he
      rcases nIs_shape z with ⟨_, e1⟩ | ⟨_, e1, _⟩
      . rw [e1] at h1; have h1' : keyIs k .none = true := h1
        rw [key_none] at h1'; cases h1'
      . cases e1
    rw [this]; rfl
section
variable {X : Cx}
def mInD (neg : Bool) : R2 := fun x y H Q => mR y fun a => match x with
  | .non => (∃ kvs, H a = some (.dK kvs)) /\ Q (.bl neg) H
  | .str z => ∃ kvs, H a = some (.dK kvs) /\ Q (.bl (if neg then !(valV kvs (Sum.inr z)).isSome else (valV kvs (Sum.inr z)).isSome)) H
  | _ => False
theorem op_inD (neg : Bool) (hu : X.A.units + 1 < cLine) : OpR X (compareOp (if neg then .NotIn else .In)) (mInD neg) := by
  intro pins s σ H x y v u Q I rx ry h; unfold mInD at h; rw [mR_eq] at h; obtain ⟨a, rfl, h⟩ := h
  cases ry
  cases x with
  | non =>
    obtain ⟨⟨kvs, e⟩, q⟩ := h
    cases rx
    obtain ⟨z, hd, vs, rel, dd⟩ := dk_of I.hok e
    obtain ⟨g, hm, hg⟩ := map_none dd.mapOf
    cases neg
    . refine wpAny_in_of (knd := nKind X.prog X.w) (k := none) rfl hd hm ⟨.bl _, H, I.tok _, rfl, ?_⟩
      rw [hg]; exact q
    . refine wpAny_notIn_of (knd := nKind X.prog X.w) (k := none) rfl hd hm ⟨.bl _, H, I.tok _, rfl, ?_⟩
      rw [hg]; exact q
  | str z =>
    obtain ⟨kvs, e, q⟩ := h
    cases neg
    . exact d_in hu I (DGet.k (k := Sum.inr z) e) rx fun s' I' => ⟨.bl _, H, I', rfl, q⟩
    . exact d_notIn hu I (DGet.k (k := Sum.inr z) e) rx fun s' I' => ⟨.bl _, H, I', rfl, q⟩
  | _ => exact h.elim
theorem R.inD (hu : X.A.units + 1 < cLine) : XOp X (compareOp .In) (mInD false) := ⟨op_inD false hu⟩
end
end L2
namespace L2
open PySem PySem.Spec PyProof.Rows
def Pc (H : Hp) (y : V) : Prop := (flatV y = true /\ ∀ z, y = .str z -> z.length <= 1000) ∨ (∃ a ys, y = .ref a /\ (H a = some (.lst ys) ∨ H a = some (.tup ys))) ∨ ∃ a kvs, y = .ref a /\ H a = some (.dK kvs)
def Tg (H : Hp) (x : V) : Prop := Pc H x /\ ∀ a xs, x = .ref a -> H a = some (.tup xs) -> xs.length <= 1000 /\ ∀ y ∈ xs, Pc H y
theorem Pc.same {H H' : Hp} {y : V} (s : Same H H') (h : Pc H y) : Pc H' y := by
  rcases h with h | ⟨a, ys, e, h⟩ | ⟨a, kvs, e, h⟩
  . exact .inl h
  . exact .inr (.inl ⟨a, ys, e, h.imp (s _ _) (s _ _)⟩)
  . exact .inr (.inr ⟨a, kvs, e, s _ _ h⟩)
theorem Tg.same {H H' : Hp} {x : V} (s : Same H H') (h : Tg H x) : Tg H' x := by
  refine ⟨h.1.same s, fun a xs e g => ?_⟩
  subst e; rcases h.1 with ⟨hf, _⟩ | ⟨a', ys, e, hh⟩ | ⟨a', kvs, e, hh⟩
  . cases hf
  . cases e
    rcases hh with hh | hh
    . have := s _ _ hh; rw [g] at this; cases this
    . have := s _ _ hh
      rw [g] at this; cases this
      obtain ⟨h1, h2⟩ := h.2 a _ rfl hh
      exact ⟨h1, fun y hy => (h2 y hy).same s⟩
  . cases e
    have := s _ _ hh; rw [g] at this; cases this
theorem Pc.kd {H : Hp} {y : V} (h : Pc H y) : ∃ k, Kof H y k := by
  rcases h with ⟨h, _⟩ | ⟨a, ys, rfl, h | h⟩ | ⟨a, kvs, rfl, h⟩
  . cases y with
    | non => exact ⟨.non, trivial⟩
    | bl _ => exact ⟨.bl, trivial⟩
    | int _ => exact ⟨.int, trivial⟩
    | str _ => exact ⟨.str, trivial⟩
    | _ => exact absurd (show false = true from h) Bool.false_ne_true
  . exact ⟨.lst, .inl ⟨ys, h⟩⟩
  . exact ⟨.tup, ⟨ys, h⟩⟩
  . exact ⟨.dct, ⟨kvs, h⟩⟩
theorem Pc.pt {H : Hp} {y : V} (h : Pc H y) : Pt H y := by
  obtain ⟨k, hk⟩ := h.kd
  refine ⟨k, hk, fun z e => ?_⟩
  subst e; rcases h with ⟨_, h⟩ | ⟨_, _, e, _⟩ | ⟨_, _, e, _⟩
  . exact h z rfl
  . cases e
  . cases e
theorem Pc.int {H : Hp} {n : Int} : Pc H (.int n) := .inl ⟨rfl, fun _ e => nomatch e⟩
theorem Pc.non {H : Hp} : Pc H .non := .inl ⟨rfl, fun _ e => nomatch e⟩
theorem Pc.str {H : Hp} {z : Str} (h : z.length <= 1000) : Pc H (.str z) := .inl ⟨rfl, fun _ e => by injection e with e; rw [<- e]; exact h⟩
theorem Pc.tup {H : Hp} {a : Addr} {ys : List V} (h : H a = some (.tup ys)) : Pc H (.ref a) := .inr (.inl ⟨a, ys, rfl, .inr h⟩)
theorem Pc.lst {H : Hp} {a : Addr} {ys : List V} (h : H a = some (.lst ys)) : Pc H (.ref a) := .inr (.inl ⟨a, ys, rfl, .inl h⟩)
theorem Pc.dct {H : Hp} {a : Addr} {kvs : List (Key × V)} (h : H a = some (.dK kvs)) : Pc H (.ref a) := .inr (.inr ⟨a, kvs, rfl, h⟩)
theorem Tg.flat {H : Hp} {x : V} (h : Pc H x) (no : ∀ a xs, x = .ref a -> H a = some (.tup xs) -> False) : Tg H x := ⟨h, fun a xs e g => (no a xs e g).elim⟩
theorem Tg.tup {H : Hp} {a : Addr} {xs : List V} (h : H a = some (.tup xs)) (hl : xs.length <= 1000) (hx : ∀ y ∈ xs, Pc H y) : Tg H (.ref a) :=
  ⟨.tup h, fun b ys e g => by cases e; rw [h] at g; cases g; exact ⟨hl, hx⟩⟩
def partsV (H : Hp) (x : V) : Option (List V) := match x with | .ref a => (match H a with | some (.tup xs) => some xs | _ => none) | _ => none
def headV (xs : List V) : V := match xs with | .str u :: _ => .str u | _ => .non
def wordV (H : Hp) (x : V) : V := match partsV H x with | some xs => headV xs | none => .non
theorem partsV_tup {H : Hp} {a : Addr} {xs : List V} (h : H a = some (.tup xs)) : partsV H (.ref a) = some xs := by unfold partsV; dsimp only; rw [h]
def bndL (wd : Str) (n : Int) : List (Str × List (Int × Int)) :=
  if wd = "pass" then [] else if wd = "move" then [("is", [(0, 1000000000000 - n), (n, 1000000000000)]), ("short", [(0, n - 1)]), ("full", [(1000000000000 - n + 1, 1000000000000)])]
  else if wd = "take" ∨ wd = "send" then [("is", [(0, 1000000000000 - n)]), ("short", [(0, n - 1)])] else [("is", [(n, 1000000000000)]), ("full", [(1000000000000 - n + 1, 1000000000000)])]
def withinB (xs : List V) (bs : List (Int × Int)) : Bool := decide (xs.length = bs.length) && (xs.zip bs).all fun q => numV q.2.1 q.2.2 q.1
def ansB (wd : Str) (hs : List Str) (n : Int) (xs : List V) : Bool := match xs with
  | .str u :: r =>
    if u = "no" then (match r with | [y] => memS y hs | _ => false)
    else if u = "ok" then decide (wd = "pass") && r.isEmpty
    else match (bndL wd n).lookup u with | some bs => withinB r bs | none => false
  | _ => false
def ansV (H : Hp) (wd : Str) (hs : List Str) (n : Int) (x : V) : Bool := match partsV H x with | some xs => ansB wd hs n xs | none => false
abbrev B2 := Addr × Int × Int
def BAt (H : Hp) (bs : List B2) : Prop := ∀ z ∈ bs, H z.1 = some (.tup [.int z.2.1, .int z.2.2])
def bref (bs : List B2) : List V := bs.map fun z => V.ref z.1
def BndAt (H : Hp) (o : Option (List (Int × Int))) (v : Option V) : Prop := match o with
  | some bs => ∃ t zs, v = some (.ref t) /\ H t = some (.tup (bref zs)) /\ BAt H zs /\ zs.map (·.2) = bs
  | none => v = none
theorem BAt.same {H H' : Hp} {bs : List B2} (s : Same H H') (h : BAt H bs) : BAt H' bs := fun z hz => s _ _ (h z hz)
structure DWN (wd : Str) (n : Int) (xs : List V) (as : List (Str × List V)) : Prop where
  ex : ∃ one other nm cs, DW one other nm n wd xs cs as
  nm : ∀ q ∈ as, isNm q.1
theorem DWN.dwx {wd : Str} {n : Int} {xs : List V} {as : List (Str × List V)} (h : DWN wd n xs as) : ∃ cs, DWX wd xs cs as := by
  obtain ⟨one, other, nm, cs, hd⟩ := h.ex
  exact ⟨cs, one, other, nm, n, hd⟩
def spWordOf : Sp := fun vs H Q _ => ∃ x, vs = [x] /\ Tg H x /\ Q (wordV H x) H
def isNoB (xs : List V) : Bool := match xs with | [_, y] => nmV y | _ => false
def spIsNo : Sp := fun vs H Q _ => ∃ a xs, vs = [.ref a] /\ H a = some (.tup xs) /\ (∀ y ∈ xs, Pc H y) /\ ∀ H', Same H H' -> Q (.bl (isNoB xs)) H'
def spBounds : Sp := fun vs H Q _ => ∃ p wd n xs as, vs = [.ref p] /\ H p = some (.tup xs) /\ DWN wd n xs as /\ ∀ d kvs H', Same H H' -> H' d = some (.dK kvs) -> (∀ u : Str, BndAt H' ((bndL wd n).lookup u) (valV kvs (Sum.inr u))) -> Q (.ref d) H'
def spWithin : Sp := fun vs H Q _ => ∃ a t xs bs, vs = [.ref a, .ref t] /\ H a = some (.tup xs) /\ xs.length <= 1000 /\ (∀ y ∈ xs, Pc H y) /\ H t = some (.tup (bref bs)) /\ BAt H bs /\ ∀ H', Same H H' -> Q (.bl (withinB xs (bs.map (·.2)))) H'
def spIsAns : Sp := fun vs H Q _ => ∃ p wd n xs as x, vs = [.ref p, x] /\ H p = some (.tup xs) /\ DWN wd n xs as /\ Tg H x /\ ∀ H', Same H H' -> Q (.bl (ansV H wd (as.map (·.1)) n x)) H'
end L2
namespace L2
open PySem PySem.Spec PyProof.Rows
section
variable {X : Cx}
def CDivL (i j : Int) : Prop := 0 < j /\ j < 2 ^ 64
theorem o_fdivL : OpR X (binaryOp .FloorDiv) (m2 CDivL fun i j => .int (i / j)) := (opI (C := CDivL) (g := fun i j => i / j) fun i j _ _ s Q E hc q => by
  have h1 : i.fdiv j = i / j := Int.fdiv_eq_ediv_of_nonneg _ (by have := hc.1; omega)
  refine floordiv_int (by have := hc.1; omega) (by rw [h1]; exact q) (.inl (PyProof.noPylong_of_log2 ?_))
  have h2 : j.natAbs < 2 ^ 64 := by have := hc.1; have := hc.2; omega
  exact Nat.lt_of_lt_of_le (Nat.log2_lt (by have := hc.1; omega) |>.mpr h2) (by decide)).imp m2_imp
theorem R.fdivL : XOp X (binaryOp .FloorDiv) (m2 CDivL fun i j => .int (i / j)) := ⟨o_fdivL⟩
end
def PenAt (H : Hp) (p : Addr) : Prop := ∃ i j : Int, H p = some (.lst [.int i, .int j]) /\ 0 <= i /\ 0 <= j /\ j < 2147483629
def K1 (p : Addr) (H H' : Hp) : Prop := ∀ c o, H c = some o -> c ≠ p -> H' c = some o
theorem K1.trans {p : Addr} {H H1 H2 : Hp} (a : K1 p H H1) (b : K1 p H1 H2) : K1 p H H2 := fun c o e n => b c o (a c o e n) n
theorem K1.of {p : Addr} {H H1 : Hp} (a : Same H H1) : K1 p H H1 := fun c o e _ => a c o e
theorem PenAt.same {H H' : Hp} {p : Addr} (s : Same H H') (h : PenAt H p) : PenAt H' p := by
  obtain ⟨i, j, g, r⟩ := h
  exact ⟨i, j, s _ _ g, r⟩
theorem PenAt.ne {H : Hp} {p l : Addr} (h : PenAt H p) (hl : H l = none) : l ≠ p := fun z => by
  obtain ⟨i, j, g, r⟩ := h
  rw [z, g] at hl; cases hl
def spPen : Sp := fun vs H Q _ => ∃ c k : Int, vs = [.int c, .int k] /\ ∀ p H', H p = none -> Same H H' -> PenAt H' p -> Q (.ref p) H'
def spTake : Sp := fun vs H Q _ => ∃ (p : Addr) (m : Int), vs = [.ref p, .int m] /\ PenAt H p /\ 0 < m /\ m <= 10000000000000 /\ ∀ r H', 0 <= r -> r < m -> PenAt H' p -> K1 p H H' -> Q (.int r) H'
def spCell (K : W.Frag) : Sp := fun vs H Q _ => ∃ (a : Addr) (ns : List Int) (k : Nat), vs = [.ref a, .int k] /\ SqL K H a (ns.map V.int) /\ ∀ c : Int, Q (.int c) H
def spNumber20 : Sp := fun vs H Q _ => ∃ (p : Addr) (lo hi : Int), vs = [.ref p, .int lo, .int hi] /\ PenAt H p /\ lo <= hi /\ hi - lo < 10000000000000 /\ ∀ n H', lo <= n -> n <= hi -> PenAt H' p -> K1 p H H' -> Q (.int n) H'
theorem K1.free {p l : Addr} {H H' : Hp} (k : K1 p H H') (pn : PenAt H' p) (h : H' l = none) : H l = none := by
  cases e : H l with
  | none => rfl
  | some o => rw [k _ _ e (pn.ne h)] at h; cases h
def sgn (cs : List Nat) (i : Int) : Nat := cs.getD i.toNat 0
theorem sgn_at {cs : List Nat} {i : Int} (h0 : 0 <= i) (h1 : i < cs.length) : atI cs i = some (sgn cs i) /\ sgn cs i ∈ cs := by
  obtain ⟨j, rfl⟩ := Zio h0
  have hj : j < cs.length := by omega
  have e : sgn cs (j : Int) = cs[j] := by unfold sgn; simp [hj]
  rw [e]; exact ⟨atI_nat (Zge hj), List.getElem_mem hj⟩
theorem nd_at {zs : List Str} (a : Nat) (c : Nat -> Nat) (h : ∀ j z, zs[j]? = some z -> z.cps.toList[a]? = some (c j)) (inj : ∀ j j', j < j' -> j' < zs.length -> c j ≠ c j') : zs.Nodup := by
  refine List.pairwise_iff_getElem.mpr fun i j hi hj hij e => ?_
  have e1 := h i _ (Zge hi)
  have e2 := h j _ (Zge hj)
  rw [e, e2] at e1; exact inj i j hij hj (Option.some.inj e1).symm
theorem cps_tx (l : List Nat) : (tx l).cps.toList = l := by simp
def spNames20 : Sp := fun vs H Q _ => ∃ (p : Addr) (m : Nat), vs = [.ref p, .int m] /\ PenAt H p /\ m <= 6 /\ ∀ (l : Addr) (zs : List Str) (H' : Hp), zs.length = m -> (∀ z ∈ zs, isNm z) -> zs.Nodup -> H l = none -> H' l = some (.lst (zs.map V.str)) -> PenAt H' p -> K1 p H H' -> Q (.ref l) H'
theorem let_at : ∀ i, i < 26 -> LET.getD i 0 = 97 + i := by decide +kernel
def stepOk (s : Int) : Prop := s = 1 ∨ s = 3 ∨ s = 5 ∨ s = 7 ∨ s = 9 ∨ s = 11
theorem let_inj {b s : Int} (hs : stepOk s) {j j' : Nat} (h : j < j') (h' : j' < 10) : sgn LET ((b + s * (j : Int)) % 26) ≠ sgn LET ((b + s * (j' : Int)) % 26) := fun e => by
  unfold sgn at e; have a1 := Int.emod_nonneg (b + s * (j : Int)) (show (26 : Int) ≠ 0 by decide)
  have a2 := Int.emod_lt_of_pos (b + s * (j : Int)) (show (0 : Int) < 26 by decide)
  have b1 := Int.emod_nonneg (b + s * (j' : Int)) (show (26 : Int) ≠ 0 by decide)
  have b2 := Int.emod_lt_of_pos (b + s * (j' : Int)) (show (0 : Int) < 26 by decide)
  rw [let_at _ (by omega), let_at _ (by omega)] at e
  rcases hs with rfl | rfl | rfl | rfl | rfl | rfl <;> omega
def KLET : List Nat := LET ++ FIG
theorem klet_eq : (("abcdefghijklmnopqrstuvwxyz0123456789" : Str)).cps.toList = KLET := by decide +kernel
def isKy (z : Str) : Prop := 1 <= z.length /\ z.length <= 12 /\ ∀ c ∈ z.cps.toList, c ∈ KLET
def spKeys20 : Sp := fun vs H Q _ => ∃ (p : Addr) (m : Nat), vs = [.ref p, .int m] /\ PenAt H p /\ m <= 10 /\ ∀ (l : Addr) (zs : List Str) (H' : Hp), zs.length = m -> (∀ z ∈ zs, isKy z) -> zs.Nodup -> H l = none -> H' l = some (.lst (zs.map V.str)) -> PenAt H' p -> K1 p H H' -> Q (.ref l) H'
theorem klet_at : ∀ i, i < 36 -> ∀ j, j < 36 -> KLET.getD i 0 = KLET.getD j 0 -> i = j := by decide +kernel
def stepOk2 (s : Int) : Prop := s = 1 ∨ s = 5 ∨ s = 7 ∨ s = 11 ∨ s = 13 ∨ s = 17
theorem klet_inj {b s : Int} (hs : stepOk2 s) {j j' : Nat} (h : j < j') (h' : j' < 12) : sgn KLET ((b + s * (j : Int)) % 36) ≠ sgn KLET ((b + s * (j' : Int)) % 36) := fun e => by
  unfold sgn at e; have a1 := Int.emod_nonneg (b + s * (j : Int)) (show (36 : Int) ≠ 0 by decide)
  have a2 := Int.emod_lt_of_pos (b + s * (j : Int)) (show (0 : Int) < 36 by decide)
  have b1 := Int.emod_nonneg (b + s * (j' : Int)) (show (36 : Int) ≠ 0 by decide)
  have b2 := Int.emod_lt_of_pos (b + s * (j' : Int)) (show (0 : Int) < 36 by decide)
  have := klet_at _ (by omega) _ (by omega) e
  rcases hs with rfl | rfl | rfl | rfl | rfl | rfl <;> omega
def RowsOk (H : Hp) (rs : List (Addr × List Int)) : Prop := ∀ q ∈ rs, H q.1 = some (.lst (q.2.map V.int)) /\ 1 <= q.2.length /\ q.2.length <= 12 /\ ∀ x ∈ q.2, 0 <= x /\ x < 36
def kword (q : Addr × List Int) : Str := tx (q.2.map (sgn KLET))
theorem RowsOk.same {H H' : Hp} {rs : List (Addr × List Int)} (h : RowsOk H rs) (s : Same H H') : RowsOk H' rs := fun q hq => ⟨s _ _ (h q hq).1, (h q hq).2⟩
theorem RowsOk.k1 {H H' : Hp} {p : Addr} {rs : List (Addr × List Int)} (h : RowsOk H rs) (k : K1 p H H') (hp : ∀ q ∈ rs, q.1 ≠ p) : RowsOk H' rs := fun q hq => ⟨k _ _ (h q hq).1 (hp q hq), (h q hq).2⟩
theorem RowsOk.ky {H : Hp} {rs : List (Addr × List Int)} (h : RowsOk H rs) : ∀ q ∈ rs, isKy (kword q) := fun q hq => by
  obtain ⟨_, h1, h2, h3⟩ := h q hq
  unfold kword; refine ⟨by rw [tx_len, Zlm]; exact h1, by rw [tx_len, Zlm]; exact h2, fun c hc => ?_⟩
  rw [cps_tx] at hc; obtain ⟨i, hi, rfl⟩ := Zmm.mp hc
  exact (sgn_at (cs := KLET) (h3 i hi).1 (show i < 36 from (h3 i hi).2)).2
end L2
namespace L2
open PySem PySem.Spec PyProof.Rows
def Ite (K : W.Frag) (a : Addr) : It :=
  ⟨fun i H => ∃ xs x, SqL K H a xs /\ xs[i]? = some x,
   fun i H v H' => ∃ t x, H t = none /\ v = .ref t /\ H' = upd H t (.tup [.int i, x]) /\ ∀ xs, SqL K H a xs -> xs[i]? = some x,
   fun i H => ∃ xs, SqL K H a xs /\ xs.length <= i⟩
structure ESt (h : Heap) (e it a : Addr) (i : Nat) : Prop where
  e : ∃ old, IsEnum h e it i old
  i : h.IsListIter it a i
theorem turn_enum {P : Program} {w : World} {K : W.Frag} {es : List Expr} {n : Nat} {pos : Pos} {e it a : Addr} (hne : e ≠ it) (hea : a ≠ e) (hia : a ≠ it) :
    Turn P w K (.Tuple es n pos) (Ite K a) [e, it] e (fun i h => ESt h e it a i) where
  mem := by simp
  obj := fun i h st b hb => by
    obtain ⟨old, he⟩ := st.e
    obtain ⟨o1, e1, _, d1⟩ := st.i
    simp only [List.mem_cons, List.not_mem_nil, or_false] at hb
    rcases hb with rfl | rfl
    . exact ⟨_, he, fun v q => by have q' : Data.fields _ = Data.cell v := q; cases q'⟩
    . exact ⟨_, e1, fun v q => by rw [d1] at q; cases q⟩
  keep := fun i h h' st g => by
    obtain ⟨old, he⟩ := st.e
    obtain ⟨o1, e1, r⟩ := st.i
    exact ⟨⟨old, g e (by simp) _ he⟩, ⟨o1, g it (by simp) _ e1, r⟩⟩
  item := by
    intro X hP hw hK hc i pins s σ H E I hf st hg; subst hP hw hK; obtain ⟨xs, x, hx, ex⟩ := hg
    obtain ⟨its, rv, p, _⟩ := I.list hx
    obtain ⟨u, hu, ru⟩ := rv.get ex
    obtain ⟨old, he⟩ := st.e
    refine wpAny_pyNext_enum_item he st.i p.isList (by simpa using hu) hne fun h1 e1 i1 t1 z1 k1 => ?_
    refine ⟨_, rfl, ?_⟩
    refine wpAny_letOwnedTupleGo_enum e1 fun h2 e2 b2 => ?_
    have elt : e < s.heap.objs.size := Heap.lt_size he
    have t2 : h2.get? s.heap.objs.size = some { cls := .type "tuple", data := .seq #[.int i s.toks, u] } := b2.extBut _ _ (Nat.ne_of_gt elt) t1
    refine ⟨.ref s.heap.objs.size, upd H s.heap.objs.size (.tup [.int i, x]), I.turnLaid (t' := s.toks + 1) hf (fun b o hb e' => ?_) (Znr _) ⟨by show 2 <= sizeLine; decide, [.int i s.toks, u], .cons ⟨_, rfl⟩ (.cons ru .nil), ⟨_, t2, rfl, _, rfl⟩⟩, rfl, ?_, ?_, fun b hb => ?_⟩
    . have hb' : b ≠ e /\ b ≠ it := by simpa using hb
      exact b2.extBut _ _ hb'.1 (k1 b o hb'.1 hb'.2 e')
    . exact ⟨s.heap.objs.size, x, I.hok.fresh (Znr _), rfl, rfl, fun zs hz => by rw [I.list_inj hz hx]; exact ex⟩
    . obtain ⟨o1, q1, r1⟩ := i1
      exact ⟨⟨_, by simpa using e2⟩, ⟨o1, b2.extBut _ _ hne.symm q1, r1⟩⟩
    . have hlt : b < s.heap.objs.size := by
        obtain ⟨o1, q1, r1⟩ := st.i
        simp only [List.mem_cons, List.not_mem_nil, or_false] at hb
        rcases hb with rfl | rfl
        . exact elt
        . exact Heap.lt_size q1
      rw [upd_ne (Nat.ne_of_lt hlt)]; exact (hf b hb).1
  done := by
    intro X hP hw hK hc i pins s σ H E I hf st hg; subst hP hw hK; obtain ⟨xs, hx, hl⟩ := hg
    obtain ⟨its, rv, p, _⟩ := I.list hx
    obtain ⟨old, he⟩ := st.e
    have l1 := rv.length
    refine wpAny_pyNext_enum_end (I.ok.hd hc) he st.i p.isList (by simp; omega) fun h1 k1 => ?_
    refine ⟨rfl, I.turnL (t' := s.toks) hf fun b u hb e' => ?_⟩
    have hb' : b ≠ e /\ b ≠ it := by simpa using hb
    exact k1 b u hb'.2 e'
  self := fun _ _ _ _ _ st h => by
    obtain ⟨old, he⟩ := st.e
    exact wpAny_pyIter_enum he h
section
variable {X : Cx} {a b : Expr} {ta tb : TE} {p pos tpos : Pos} {es : List Expr} {n : Nat}
def iEnum (K : W.Frag) (ta : TE) : TI := fun σ H R => ta σ H fun x H1 => mR x fun a => ∃ xs, SqL K H1 a xs /\ R (Ite K a) H1
theorem pi_enum (hg : Gl X "enumerate") (hm : X.mg "enumerate" = none) (ha : PE X a ta) (h1 : notStar a = true) : PI X (.Tuple es n tpos) (.Call (.Name "enumerate" p) [a] [] pos) (iEnum X.K ta) := by
  intro pins s σ H R I h; have hs : starEach [a] X.env = [(false, eval a X.env)] := by rw [star_cons h1]; rfl
  have hA : PA X [a] (tCons ta tNil) := a_cons ha pa_nil h1
  refine Call_ (ld_blt I hg hm boot_enumerate (PyProof.Rows.callWith_type1 (thn (hA pos pins s σ H (fun vs H2 => match vs with | [x] => (mR x fun a1 => ∃ xs, SqL X.K H2 a1 xs /\ R (Ite X.K a1) H2) | _ => False) I ?_) fun us s1 ⟨vs, H1, I1, r1, q1⟩ => ?_) (by rw [hs]; rfl) rfl))
  . exact h
  . dsimp only at q1
    split at q1
    rotate_left
    . exact q1.elim
    rename_i x
    rw [mR_eq] at q1; obtain ⟨a1, rfl, xs, q2, q⟩ := q1
    cases r1 with
    | cons r rr =>
      cases rr
      cases r
      obtain ⟨its, rv, p1, _⟩ := I1.list q2
      refine call_enumerate_list p1.isList fun h' he hi hz k => ?_
      have I2 : Inv X pins σ H1 { s1 with heap := h' } := I1.kept (t' := s1.toks) k
      have la : a1 < s1.heap.objs.size := by
        obtain ⟨o, e', _⟩ := p1.isList
        exact Heap.lt_size e'
      refine wpAny_pyIter_enum (s := { s1 with heap := h' }) he ?_
      refine ⟨s1.heap.objs.size + 1, _, _, _, H1, rfl, I2, turn_enum (Nat.ne_of_gt (Nat.lt_succ_self _)) (Nat.ne_of_lt (Nat.lt_succ_of_lt la)) (Nat.ne_of_lt la), ⟨⟨_, he⟩, hi⟩, fun b hb => ?_, q⟩
      have hb' : s1.heap.objs.size <= b := by
        simp only [List.mem_cons, List.not_mem_nil, or_false] at hb
        rcases hb with rfl | rfl
        . exact Nat.le_add_right _ 1
        . exact Znr _
      exact I1.fpOk hb' (I1.hok.fresh hb')
theorem R.enum {K : W.Frag} (hg : Gl X "enumerate") (hm : X.mg "enumerate" = none) (ha : XE X a ta) (hK : X.K = K := by rfl) (h1 : notStar a = true := by rfl) : XI X (.Tuple es n tpos) (.Call (.Name "enumerate" p) [a] [] pos) (iEnum K ta) :=
  hK ▸ ⟨pi_enum hg hm ha.h h1⟩
end
theorem for_enum {K : W.Frag} {a : Addr} {xs : List V} {g : TG} {tb : TS} {D : Ends} {σ : St} {H : Hp} (Pv : Nat -> St -> Hp -> Prop) (hA : ∀ i σ H, Pv i σ H -> SqL K H a xs) (h0 : Pv 0 σ H)
    (hs : ∀ (i : Nat) (x : V) σ H t, xs[i]? = some x -> Pv i σ H -> H t = none -> g (.ref t) σ (upd H t (.tup [.int i, x])) fun σ2 H2 => tb { D with nx := Pv (i + 1), ct := Pv (i + 1), bk := D.nx } σ2 H2) (hd : ∀ σ H, Pv xs.length σ H -> D.nx σ H) :
    ∃ W : Nat -> Nat -> St -> Hp -> Prop, (∃ m, W 0 m σ H) /\ ∀ i m σ H, W i m σ H →
      ((Ite K a).stop i H /\ D.nx σ H) ∨ ((Ite K a).go i H /\ ∃ N : St -> Hp -> Prop, (∀ σ' H', N σ' H' -> ∃ m', m' < m /\ W (i + 1) m' σ' H') /\ ∀ x H', (Ite K a).yld i H x H' -> g x σ H' fun σ2 H2 => tb { D with nx := N, ct := N, bk := D.nx } σ2 H2) := by
  refine ⟨fun i m σ H => m = xs.length - i /\ i <= xs.length /\ Pv i σ H, ⟨_, rfl, Nat.zero_le _, h0⟩, ?_⟩
  rintro i m σ H ⟨rfl, hi, p⟩
  have q1 := hA i σ H p
  by_cases hlt : i < xs.length
  . refine .inr ⟨⟨xs, xs[i], q1, Zge hlt⟩, Pv (i + 1), fun σ' H' n => ⟨xs.length - (i + 1), by omega, rfl, hlt, n⟩, ?_⟩
    rintro v H' ⟨t, x, ht, rfl, rfl, e1⟩
    exact hs i x σ H t (e1 xs q1) p ht
  . have : i = xs.length := by omega
    subst this; exact .inl ⟨⟨xs, q1, Znr _⟩, hd σ H p⟩
end L2
namespace L2
open PySem PySem.Spec PyProof.Rows
theorem sq_keep {K : W.Frag} {H H' : Hp} {a : Addr} {xs : List V} (h : SqL K H a xs) (k : ∀ o, H a = some o -> H' a = some o) : SqL K H' a xs := by
  rcases h with h | h
  . rcases h with h | ⟨ob, h⟩
    . exact .inl (.inl (k _ h))
    . exact .inl (.inr ⟨ob, k _ h⟩)
  . exact .inr h
end L2
namespace L2
open PySem PySem.Spec PyProof.Rows
theorem noFill_tuple_mul : fillsNumberSlot (.type "tuple") "mul" = pure false :=
  PySem.fillsNumberSlot_seq (id := "tuple.__mul__") (r := some (.builtin "tuple.__rmul__")) PySem.F.slot_tuple_mul.lookup (by decide +kernel) PySem.F.slot_tuple_rmul.lookup (by decide +kernel)
theorem repeat_tup : seqRepeat? (.type "tuple") = pure (some (.builtin "tuple.__mul__")) := by
  unfold seqRepeat?
  rw [PySem.seqSlot_of (T := "tuple") (name := "__mul__") (id := "tuple.__mul__") PySem.F.slot_tuple_mul.lookup (by decide +kernel), PySem.seqSlot_of (T := "tuple") (name := "__rmul__") (id := "tuple.__rmul__") PySem.F.slot_tuple_rmul.lookup (by decide +kernel)]
  rfl
theorem rmul_tup (a : Int) (t : Tok) (l : Addr) (items : Array Value) (n : Nat) (dd : Option Addr) (sl : Array (Option Value)) :
    Meets (Builtin.«int.__rmul__» ⟨[.int a t, .ref l], []⟩) (fun _ R s => s.heap.get? l = some { cls := .type "tuple", dict := dd, data := .seq items n, slots := sl } /\ R (.ok (.ret Value.notImplemented)) s) :=
  .of_wp fun prog w A R s h => by obtain ⟨hp, g, d, tk, os⟩ := s; obtain ⟨hl, h⟩ := h; wp_walk; exact ⟨_, rfl, h⟩
theorem mul_tup1 (t : Tok) (l : Addr) (items : Array Value) (n : Nat) (dd : Option Addr) (sl : Array (Option Value)) :
    Meets (Builtin.«tuple.__mul__» ⟨[.ref l, .int 1 t], []⟩) (fun _ R s => s.heap.get? l = some { cls := .type "tuple", dict := dd, data := .seq items n, slots := sl } /\ R (.ok (.ret (Value.ref l))) s) :=
  .of_wp fun prog w A R s h => by
    obtain ⟨hp, g, d, tk, os⟩ := s; obtain ⟨hl, h⟩ := h
    have f1 := AutoSeq1.idx_int; have f2 := AutoSeq1.sub_tuple_tuple
    have hc0 : (items.isEmpty || (1 : Int) == 1) = true := by simp
    wp_walk using wpAny_loadPart' hl
    exact ⟨_, rfl, h⟩
theorem mul_tup0 (t : Tok) (l : Addr) (items : Array Value) (n : Nat) (dd : Option Addr) (sl : Array (Option Value)) (he : items.isEmpty = false) :
    Meets (Builtin.«tuple.__mul__» ⟨[.ref l, .int 0 t], []⟩) (fun _ R s => s.heap.get? l = some { cls := .type "tuple", dict := dd, data := .seq items n, slots := sl } /\ R (.ok (.ret (Value.ref s.heap.objs.size))) { s with heap := s.heap.push { cls := Value.type "tuple", data := Data.seq #[] }, toks := s.toks }) :=
  .of_wp fun prog w A R s h => by
    obtain ⟨hp, g, d, tk, os⟩ := s; obtain ⟨hl, h⟩ := h
    have f1 := AutoSeq1.idx_int; have f2 := AutoSeq1.sub_tuple_tuple
    have hc0 : ¬ (items.isEmpty || (0 : Int) == 1) = true := by simp [he]
    wp_walk using wpAny_loadPart' hl
    exact ⟨_, rfl, h⟩
section
variable {X : Cx}
def mMulT : R2 := fun x y H Q => mR x fun a => mI y fun k => ∃ xs, H a = some (.tup xs) /\ xs ≠ [] /\ (k = 0 ∨ k = 1) /\ ∀ p H', Same H H' -> H' p = some (.tup (if k = 1 then xs else [])) -> Q (.ref p) H'
theorem op_mulT : OpR X (binaryOp .Mult) mMulT := by
  intro pins s σ H x y v u Q I rx ry h; unfold mMulT at h; rw [mR_eq] at h; obtain ⟨a, rfl, h⟩ := h
  rw [mI_eq] at h; obtain ⟨k, rfl, xs, hx, hne, hk, q⟩ := h
  cases rx
  obtain ⟨t, rfl⟩ := ry
  obtain ⟨its, ri, ti, _⟩ := I.tuple (SqT.of hx)
  obtain ⟨⟨cls, dd, data, sl⟩, ho, hc, n, hd⟩ := id ti
  simp only at hc hd
  subst hc hd; have hem : its.toArray.isEmpty = false := by
    cases its with
    | nil => have := ri.length; cases xs with | nil => exact absurd rfl hne | cons _ _ => simp at this
    | cons b r => simp
  refine wpAny_binaryOp_repeat_ref (T := "tuple") (U := "int") (by decide) ⟨_, ho, rfl⟩ (fun s' => typeIs_int s' k t) noFill_tuple_mul PySem.F.fills_int_mul PySem.F.slot_int_rmul repeat_tup PySem.F.slot_int_index.lookup
    (call_meets PySem.F.slot_int_rmul (typeIs_int s k t) PySem.F.entry_int_rmul (PySem.F.args_int_rmul_2 _ _) (rmul_tup k t a its.toArray n dd sl)
      ⟨ho, rfl, ⟨_, ho, rfl⟩, ?_⟩)
  rcases hk with rfl | rfl
  . refine call_meets PySem.F.slot_tuple_mul ⟨_, ho, rfl⟩ PySem.F.entry_tuple_mul (PySem.F.args_tuple_mul_2 _ _) (mul_tup0 t a its.toArray n dd sl hem) ⟨ho, ?_⟩
    exact ⟨.ref _, _, I.laid (t' := s.toks) (o := .tup []) (fun b ob q => Zpu _ q) (Znr _) ⟨Nat.zero_le _, [], .nil, IsTup.new _ _⟩, rfl, q _ _ (same_upd I.fresh) upd_same⟩
  . refine call_meets PySem.F.slot_tuple_mul ⟨_, ho, rfl⟩ PySem.F.entry_tuple_mul (PySem.F.args_tuple_mul_2 _ _) (mul_tup1 t a its.toArray n dd sl) ⟨ho, ?_⟩
    exact ⟨.ref a, H, I, rfl, q a H (Same.refl H) hx⟩
theorem R.mulT : XOp X (binaryOp .Mult) mMulT := ⟨op_mulT⟩
end
def TabT (K : W.Frag) (P : Params) : List DictEntry -> List (Str × List V) -> Prop
  | [], [] => True
  | e :: r, (x, xs) :: q => (∃ t, e.key = .str x t) /\ e.hash = PyData.keyHash P x /\ (∃ (b : Addr) (dd : Option Addr) (its : List Value) (n : Nat) (sl : Array (Option Value)), e.val = .ref b /\ K.lookup b = some ⟨.type "tuple", dd, .seq (List.toArray its) n, sl⟩ /\ Vals xs its) /\ xs.length <= 1000 /\ TabT K P r q
  | _, _ => False
theorem TabT.keys {K : W.Frag} {P : Params} : ∀ {es : List DictEntry} {ws : List (Str × List V)}, TabT K P es ws -> W.KeysLit P es
  | [], [], _ => trivial
  | e :: r, (x, i) :: q, h => ⟨let ⟨t, ht⟩ := h.1; ⟨x, t, ht, h.2.1⟩, TabT.keys h.2.2.2.2⟩
  | [], _ :: _, h => h.elim
  | _ :: _, [], h => h.elim
def LookT (K : W.Frag) (o : Option (List V)) (f : Option Value) : Prop := match o with | some xs => ∃ b, f = some (.ref b) /\ ∀ H, SqT K H b xs | none => f = none
theorem TabT.find {K : W.Frag} {P : Params} (z : Str) : ∀ {es : List DictEntry} {ws : List (Str × List V)}, TabT K P es ws -> LookT K (ws.lookup z) ((es.find? fun e => Value.isStrOf z e.key).map (·.val))
  | [], [], _ => rfl
  | [], _ :: _, h => h.elim
  | _ :: _, [], h => h.elim
  | e :: r, (x, xs) :: q, h => by
    obtain ⟨⟨t, ht⟩, h2, ⟨b, dd, its, n, sl, hv, hb, hx⟩, h1, h4⟩ := h
    have ih := TabT.find z h4
    rw [List.lookup_cons, List.find?_cons]; have e1 : Value.isStrOf z e.key = (z == x) := by
      rw [ht]; show (x == z) = (z == x)
      exact Bool.beq_comm
    rw [e1]; cases hz : z == x with
    | true => exact ⟨b, by rw [<- hv]; rfl, fun H => .inr ⟨_, _, _, hb, rfl, rfl, by rw [Zst, <- hx.length]; exact szl' h1, hx⟩⟩
    | false => exact ih
structure KTabT (K : W.Frag) (P : Params) (a : Addr) (ws : List (Str × List V)) : Prop where
  ex : ∃ es n, K.lookup a = some ⟨.type "dict", none, .dict (List.toArray es) n, #[]⟩ /\ TabT K P es ws /\ (a == sysModules) = false
theorem KTabT.map {K : W.Frag} {prog : Program} {w : World} {a : Addr} {ws : List (Str × List V)} {h : Heap} (T : KTabT K w.params a ws) (X : K.In h) :
    ∃ f : Str -> Option Value, h.MapOf (strKind prog w) a f /\ (a == sysModules) = false /\ ∀ z, LookT K (ws.lookup z) (f z) := by
  obtain ⟨es, n, hl, ht, lo⟩ := T.ex
  refine ⟨_, W.mapOf_K (prog := prog) X hl ht.keys, lo, fun z => ?_⟩
  have := ht.find z
  unfold findBy; rw [List.find?_toArray]; exact this
theorem LookT.some {K : W.Frag} {f : Option Value} {o : Option (List V)} (h : LookT K o f) : f.isSome = o.isSome := by
  cases o with
  | none => rw [show f = none from h]; rfl
  | some i => obtain ⟨t, h, _⟩ := h; rw [h]; rfl
section
variable {X : Cx}
def mInKT (K : W.Frag) (P : Params) (neg : Bool) : R2 := fun x y H Q => mS x fun z => mR y fun a => ∃ ws, KTabT K P a ws /\ Q (.bl (if neg then !(ws.lookup z).isSome else (ws.lookup z).isSome)) H
theorem o_inKT : OpR X (compareOp .In) (mInKT X.K X.w.params false) := by
  intro pins s σ H x y v u Q I rx ry h; unfold mInKT at h; rw [mS_eq] at h; obtain ⟨z, rfl, h⟩ := h
  rw [mR_eq] at h; obtain ⟨a, rfl, ws, T, h⟩ := h
  obtain ⟨t, rfl⟩ := rx
  cases ry
  obtain ⟨f, hm, lo, hf⟩ := T.map (prog := X.prog) I.kIn
  exact wpAny_in_of (strKind_is X.prog X.w z t) lo hm ⟨.bl (ws.lookup z).isSome, H, I.tok _, by rw [(hf z).some]; rfl, h⟩
theorem o_notInKT : OpR X (compareOp .NotIn) (mInKT X.K X.w.params true) := by
  intro pins s σ H x y v u Q I rx ry h; unfold mInKT at h; rw [mS_eq] at h; obtain ⟨z, rfl, h⟩ := h
  rw [mR_eq] at h; obtain ⟨a, rfl, ws, T, h⟩ := h
  obtain ⟨t, rfl⟩ := rx
  cases ry
  obtain ⟨f, hm, lo, hf⟩ := T.map (prog := X.prog) I.kIn
  exact wpAny_notIn_of (strKind_is X.prog X.w z t) lo hm ⟨.bl (!(ws.lookup z).isSome), H, I.tok _, by rw [(hf z).some]; rfl, h⟩
def mIxKT (K : W.Frag) (P : Params) : R2 := fun x y H Q => mR x fun a => mS y fun z => ∃ ws xs, KTabT K P a ws /\ ws.lookup z = some xs /\ ∀ b, (∀ H, SqT K H b xs) -> Q (.ref b) H
theorem i_KT : IxR X (mIxKT X.K X.w.params) := by
  intro value slice pins s σ H x y v u Q I rx ry h hs; unfold mIxKT at h; rw [mR_eq] at h; obtain ⟨a, rfl, h⟩ := h
  rw [mS_eq] at h; obtain ⟨z, rfl, ws, xs, T, hi, h⟩ := h
  obtain ⟨t, rfl⟩ := ry
  cases rx
  obtain ⟨f, hm, lo, hf⟩ := T.map (prog := X.prog) I.kIn
  have hz := hf z
  rw [hi] at hz; obtain ⟨b, hz, hb⟩ := hz
  exact tail_any hm.typeIs slot_dict_getitem.lookup (wpAny_getItem_of (strKind_is X.prog X.w z t) hm hz ⟨.ref b, H, I.tok _, rfl, h b hb⟩) hs
theorem R.kinKT {K : W.Frag} {P : Params} (hK : X.K = K := by rfl) (hP : X.w.params = P := by rfl) : XOp X (compareOp .In) (mInKT K P false) := hK ▸ hP ▸ ⟨o_inKT⟩
theorem R.kiKT {K : W.Frag} {P : Params} (hK : X.K = K := by rfl) (hP : X.w.params = P := by rfl) : XIx X (mIxKT K P) := hK ▸ hP ▸ ⟨i_KT⟩
end
end L2
namespace L2
open PySem PySem.Spec PyProof.Rows
def PTS : List (Str × List V) := [("next", [.str "next", .str "turn"]), ("has", [.str "name", .str "amount"]), ("kept", [.str "number", .str "turn", .str "name", .str "key", .str "deed", .str "answer"]), ("came", [.str "number", .str "turn", .str "name", .str "key", .str "deed"]), ("asked", [.str "number"]), ("done", [.str "number", .str "turn", .str "answer"])]
def BDS : List (Str × List V) := [("next", [.int 1, .int 1000000]), ("number", [.int 1, .int 999999]), ("turn", [.int 0, .int 1000000000000]), ("amount", [.int 1, .int 1000000000000])]
inductive RP where
  | sc (v : V)
  | tp (xs : List V)
def PAt (H : Hp) : RP -> V -> Prop
  | .sc v, x => x = v
  | .tp xs, x => ∃ b, x = .ref b /\ H b = some (.tup xs)
theorem PAt.same {H H' : Hp} (s : Same H H') : ∀ {p : RP} {x : V}, PAt H p x -> PAt H' p x
  | .sc _, _, h => h
  | .tp _, _, ⟨b, e, g⟩ => ⟨b, e, s _ _ g⟩
def RowAt (H : Hp) (a : Addr) (ps : List RP) : Prop := ∃ vs, H a = some (.tup vs) /\ Paired (PAt H) ps vs
theorem RowAt.same {H H' : Hp} {a : Addr} {ps : List RP} (s : Same H H') (h : RowAt H a ps) : RowAt H' a ps := let ⟨vs, e, p⟩ := h; ⟨vs, s _ _ e, Paired.map' (fun _ _ => PAt.same s) p⟩
def FlatW (v : V) : Prop := (∃ z, v = .str z /\ z.length <= 12 /\ 32 ∉ z.cps.toList /\ 61 ∉ z.cps.toList /\ 10 ∉ z.cps.toList) ∨ ∃ m : Nat, v = .int (m : Int) /\ m <= 1000000000000
structure DeedG (xs : List V) : Prop where
  ok : deedB xs = true
  shape : ∃ ns m, Shape xs ns m
  dwn : ∃ wd n as, DWN wd n xs as
  flat : ∀ y ∈ xs, FlatW y
  len : 3 <= xs.length /\ xs.length <= 5
inductive AnsIs : List V -> Prop
  | no (h : Str) : isNm h -> AnsIs [.str "no", .str h]
  | nums (u : Str) (ms : List Nat) : (u = "ok" ∨ u = "is" ∨ u = "short" ∨ u = "full") -> ms.length <= 2 -> (∀ m ∈ ms, m <= 1000000000000) -> AnsIs (.str u :: ms.map fun m : Nat => V.int (m : Int))
def WID : List (Str × Int × List V) := [("add", 1, [.str "add", .str "a", .int 1]), ("take", 1, [.str "take", .str "a", .int 1]), ("move", 1, [.str "move", .str "a", .str "b", .int 1]), ("move", 1000000000000, [.str "move", .str "a", .str "b", .int 1000000000000]), ("pass", 1, [.str "pass", .str "a", .str "b", .str "c", .int 1])]
def WHS (w : Str) : List Str := if w = "pass" then ["a", "b"] else []
def someB (xs : List V) : Bool := if headV xs = .str "no" then isNoB xs else WID.any fun q => ansB q.1 (WHS q.1) q.2.1 xs
def someV (H : Hp) (x : V) : Bool := match partsV H x with | some xs => someB xs | none => false
structure AnsG (xs ys : List V) : Prop where
  is : AnsIs ys
  some : someB ys = true
  of : ∃ wd n as, DWN wd n xs as /\ ansB wd (as.map (·.1)) n ys = true
inductive RowIs : List RP -> Prop
  | next (n t : Nat) : 1 <= n -> n <= 1000000 -> t <= 1000000000000 -> RowIs [.sc (.str "next"), .sc (.int n), .sc (.int t)]
  | has (a : Str) (m : Nat) : isNm a -> 1 <= m -> m <= 1000000000000 -> RowIs [.sc (.str "has"), .sc (.str a), .sc (.int m)]
  | asked (n : Nat) : 1 <= n -> n <= 999999 -> RowIs [.sc (.str "asked"), .sc (.int n)]
  | done (n t : Nat) (xs ys : List V) : 1 <= n -> n <= 999999 -> t <= 1000000000000 -> AnsG xs ys -> RowIs [.sc (.str "done"), .sc (.int n), .sc (.int t), .tp ys]
  | came (n t : Nat) (a k : Str) (xs : List V) : 1 <= n -> n <= 999999 -> t <= 1000000000000 -> isNm a -> isKy k -> DeedG xs -> RowIs [.sc (.str "came"), .sc (.int n), .sc (.int t), .sc (.str a), .sc (.str k), .tp xs]
  | kept (n t : Nat) (a k : Str) (xs ys : List V) : 1 <= n -> n <= 999999 -> t <= 1000000000000 -> isNm a -> isKy k -> DeedG xs -> AnsG xs ys -> RowIs [.sc (.str "kept"), .sc (.int n), .sc (.int t), .sc (.str a), .sc (.str k), .tp xs, .tp ys]
theorem partsV_same {H H' : Hp} {x : V} (s : Same H H') (h : Pc H x) : partsV H' x = partsV H x := by
  rcases h with ⟨h, _⟩ | ⟨a, ys, rfl, h | h⟩ | ⟨a, kvs, rfl, h⟩
  . cases x <;> first | rfl | cases h
  . unfold partsV; dsimp only; rw [h, s _ _ h]
  . unfold partsV; dsimp only; rw [h, s _ _ h]
  . unfold partsV; dsimp only; rw [h, s _ _ h]
theorem deedV_same {H H' : Hp} {x : V} (s : Same H H') (h : Pc H x) : deedV H' x = deedV H x := by
  rcases h with ⟨h, _⟩ | ⟨a, ys, rfl, h | h⟩ | ⟨a, kvs, rfl, h⟩
  . cases x <;> first | rfl | cases h
  . unfold deedV; dsimp only; rw [h, s _ _ h]
  . unfold deedV; dsimp only; rw [h, s _ _ h]
  . unfold deedV; dsimp only; rw [h, s _ _ h]
theorem someV_same {H H' : Hp} {x : V} (s : Same H H') (h : Pc H x) : someV H' x = someV H x := by unfold someV; rw [partsV_same s h]
theorem ansV_same {H H' : Hp} {x : V} {wd : Str} {hs : List Str} {n : Int} (s : Same H H') (h : Pc H x) : ansV H' wd hs n x = ansV H wd hs n x := by unfold ansV; rw [partsV_same s h]
theorem Tg.th {H : Hp} {x : V} (h : Tg H x) : Th H x /\ ∀ a xs, x = .ref a -> H a = some (.tup xs) -> xs.length <= 1000 := ⟨⟨h.1.pt, fun a xs e g y hy => ((h.2 a xs e g).2 y hy).pt⟩, fun a xs e g => (h.2 a xs e g).1⟩
def partB (H : Hp) (kd : Str) (x : V) : Bool := match BDS.lookup kd with
  | some [.int lo, .int hi] => numV lo hi x
  | some _ => false
  | none => if kd = "name" then nmV x else if kd = "key" then madeOf x (LET ++ FIG) 12 else if kd = "deed" then deedV H x else someV H x
theorem look_mem {α : Type} {z : Str} : ∀ {l : List (Str × α)} {i : α}, l.lookup z = some i -> (z, i) ∈ l
  | [], i, h => by cases h
  | (x, j) :: l, i, h => by
    rw [List.lookup_cons] at h; cases e : z == x with
    | true => rw [e] at h; injection h with h; rw [<- h, eq_of_beq e]; exact Zcs
    | false => rw [e] at h; exact Zmc _ (look_mem h)
theorem BDS_two {kd : Str} {xs : List V} (h : BDS.lookup kd = some xs) : ∃ lo hi : Int, xs = [.int lo, .int hi] := by
  have m := look_mem h
  unfold BDS at m; simp only [List.mem_cons, List.not_mem_nil, or_false, Prod.mk.injEq] at m
  rcases m with ⟨_, rfl⟩ | ⟨_, rfl⟩ | ⟨_, rfl⟩ | ⟨_, rfl⟩ <;> exact ⟨_, _, rfl⟩
def spSome : Sp := fun vs H Q _ => ∃ x, vs = [x] /\ Tg H x /\ ∀ H', Same H H' -> Q (.bl (someV H x)) H'
def spPart : Sp := fun vs H Q _ => ∃ kd x, vs = [.str kd, x] /\ Tg H x /\ ∀ H', Same H H' -> Q (.bl (partB H kd x)) H'
theorem WID_ok : ∀ q ∈ WID, ∃ as, DWN q.1 q.2.1 q.2.2 as /\ as.map (·.1) = WHS q.1 := by
  have na : isNm "a" := ⟨by decide +kernel, by decide +kernel, by decide +kernel⟩
  have nb : isNm "b" := ⟨by decide +kernel, by decide +kernel, by decide +kernel⟩
  intro q hq; unfold WID at hq; simp only [List.mem_cons, List.not_mem_nil, or_false] at hq
  rcases hq with rfl | rfl | rfl | rfl | rfl
  . exact ⟨[], ⟨⟨"a", "a", "a", _, .add⟩, fun _ h => nomatch h⟩, by decide +kernel⟩
  . exact ⟨[], ⟨⟨"a", "a", "a", _, .take⟩, fun _ h => nomatch h⟩, by decide +kernel⟩
  . exact ⟨[], ⟨⟨"a", "b", "a", _, .move⟩, fun _ h => nomatch h⟩, by decide +kernel⟩
  . exact ⟨[], ⟨⟨"a", "b", "a", _, .move⟩, fun _ h => nomatch h⟩, by decide +kernel⟩
  . exact ⟨_, ⟨⟨"a", "b", "c", _, .pass⟩, Zfm.mpr ⟨na, Zfm.mpr ⟨nb, fun _ h => nomatch h⟩⟩⟩, by decide +kernel⟩
theorem someV_eq (H : Hp) (x : V) : someV H x = if wordV H x = .str "no" then (match partsV H x with | some xs => isNoB xs | none => false) else WID.any fun q => ansV H q.1 (WHS q.1) q.2.1 x := by
  unfold someV wordV ansV; cases partsV H x with
  | none =>
    rw [if_neg (fun e => nomatch e)]
    symm
    rw [List.any_eq_false]; intro q _; exact Bool.false_ne_true
  | some xs => rfl
def PartOk (kd : Str) (p : RP) : Prop := ∀ H x, PAt H p x -> Tg H x /\ partB H kd x = true
theorem Tg.int {H : Hp} {n : Int} : Tg H (.int n) := .flat .int fun _ _ e => nomatch e
theorem Tg.str {H : Hp} {z : Str} (h : z.length <= 1000) : Tg H (.str z) := .flat (.str h) fun _ _ e => nomatch e
theorem PartOk.num {kd : Str} {lo hi : Int} {m : Nat} (h : BDS.lookup kd = some [.int lo, .int hi]) (h1 : lo <= m) (h2 : (m : Int) <= hi) : PartOk kd (.sc (.int (m : Int))) := fun H x e => by
  cases e
  refine ⟨.int, ?_⟩
  unfold partB; rw [h]; show (decide (lo <= (m : Int)) && decide ((m : Int) <= hi)) = true
  rw [decide_eq_true h1, decide_eq_true h2]; rfl
theorem PartOk.name {a : Str} (h : isNm a) : PartOk "name" (.sc (.str a)) := fun H x e => by
  cases e
  refine ⟨.str h.len, ?_⟩
  unfold partB; rw [show BDS.lookup ("name" : Str) = none by decide +kernel]
  dsimp only; rw [if_pos rfl]; exact nmV_of h
theorem isKy.len {z : Str} (h : isKy z) : z.length <= 1000 := Znt h.2.1 (by decide)
theorem kyV_of {z : Str} (h : isKy z) : madeOf (.str z) (LET ++ FIG) 12 = true := by
  rw [madeOf_str, decide_eq_true (by have := h.1; omega), decide_eq_true (by have := h.2.1; omega)]
  have e : (z.cps.toList.all fun c => decide (c ∈ LET ++ FIG)) = true := List.all_eq_true.mpr fun c hc => decide_eq_true (h.2.2 c hc)
  rw [e]; rfl
theorem PartOk.key {a : Str} (h : isKy a) : PartOk "key" (.sc (.str a)) := fun H x e => by
  cases e
  refine ⟨.str h.len, ?_⟩
  unfold partB; rw [show BDS.lookup ("key" : Str) = none by decide +kernel]
  dsimp only; rw [if_neg (by decide +kernel), if_pos rfl]
  exact kyV_of h
theorem FlatW.pc {H : Hp} {y : V} (h : FlatW y) : Pc H y := by
  rcases h with ⟨z, rfl, h, _⟩ | ⟨m, rfl, _⟩
  . exact .str (Znt h (by decide))
  . exact .int
theorem PartOk.deed {xs : List V} (h : DeedG xs) : PartOk "deed" (.tp xs) := fun H x e => by
  obtain ⟨b, rfl, g⟩ := e
  refine ⟨.tup g (Znt h.len.2 (by decide)) fun y hy => (h.flat y hy).pc, ?_⟩
  unfold partB; rw [show BDS.lookup ("deed" : Str) = none by decide +kernel]
  dsimp only; rw [if_neg (by decide +kernel), if_neg (by decide +kernel), if_pos rfl]
  unfold deedV; dsimp only; rw [g]; exact h.ok
theorem nm_free {z : Str} (h : isNm z) : 32 ∉ z.cps.toList /\ 61 ∉ z.cps.toList /\ 10 ∉ z.cps.toList := ⟨fun m => absurd (h.2.2 32 m) (by decide), fun m => absurd (h.2.2 61 m) (by decide), fun m => absurd (h.2.2 10 m) (by decide)⟩
theorem ky_free {z : Str} (h : isKy z) : 32 ∉ z.cps.toList /\ 61 ∉ z.cps.toList /\ 10 ∉ z.cps.toList := ⟨fun m => absurd (h.2.2 32 m) (by decide), fun m => absurd (h.2.2 61 m) (by decide), fun m => absurd (h.2.2 10 m) (by decide)⟩
theorem FlatW.nm {z : Str} (h : isNm z) : FlatW (.str z) := .inl ⟨z, rfl, Znt h.2.1 (by decide), nm_free h⟩
theorem FlatW.ky {z : Str} (h : isKy z) : FlatW (.str z) := .inl ⟨z, rfl, h.2.1, ky_free h⟩
theorem FlatW.num {m : Nat} (h : m <= 1000000000000) : FlatW (.int (m : Int)) := .inr ⟨m, rfl, h⟩
def ROWW : List Str := ["next", "has", "kept", "came", "asked", "done", "no", "ok", "is", "short", "full", "="]
theorem roww_nm : ∀ z ∈ ROWW, z ≠ "=" -> isNm z := by
  intro z hz hne; unfold ROWW at hz; simp only [List.mem_cons, List.not_mem_nil, or_false] at hz
  rcases hz with rfl | rfl | rfl | rfl | rfl | rfl | rfl | rfl | rfl | rfl | rfl | rfl <;> first | exact ⟨by decide +kernel, by decide +kernel, by decide +kernel⟩ | exact absurd rfl hne
theorem FlatW.wd {z : Str} (h : z ∈ ROWW) (hne : z ≠ "=") : FlatW (.str z) := .nm (roww_nm z h hne)
theorem AnsIs.flat {ys : List V} (h : AnsIs ys) : (1 <= ys.length /\ ys.length <= 3) /\ ∀ y ∈ ys, FlatW y := by
  cases h with
  | no h hn => exact ⟨by simp, Zfm.mpr ⟨.wd (by decide +kernel) (by decide +kernel), Zfm.mpr ⟨.nm hn, fun _ h => nomatch h⟩⟩⟩
  | nums u ms hu h2 hm =>
    refine ⟨by simp; omega, Zfm.mpr ⟨?_, fun y hy => ?_⟩⟩
    . rcases hu with rfl | rfl | rfl | rfl <;> exact .wd (by decide +kernel) (by decide +kernel)
    . obtain ⟨m, hm', rfl⟩ := Zmm.mp hy
      exact .num (hm m hm')
theorem PartOk.ans {ys : List V} (h : AnsIs ys) (hs : someB ys = true) : PartOk "answer" (.tp ys) := fun H x e => by
  obtain ⟨b, rfl, g⟩ := e
  refine ⟨.tup g (Znt h.flat.1.2 (by decide)) fun y hy => (h.flat.2 y hy).pc, ?_⟩
  unfold partB; rw [show BDS.lookup ("answer" : Str) = none by decide +kernel]
  dsimp only; rw [if_neg (by decide +kernel), if_neg (by decide +kernel), if_neg (by decide +kernel)]
  unfold someV; rw [partsV_tup g]; exact hs
theorem RowIs.kinds {ps : List RP} (h : RowIs ps) : ∃ wd ks rest, ps = .sc (.str wd) :: rest /\ PTS.lookup wd = some (ks.map V.str) /\ Paired PartOk ks rest := by
  have b1 : BDS.lookup ("next" : Str) = some [.int 1, .int 1000000] := rfl
  have b2 : BDS.lookup ("number" : Str) = some [.int 1, .int 999999] := rfl
  have b3 : BDS.lookup ("turn" : Str) = some [.int 0, .int 1000000000000] := rfl
  have b4 : BDS.lookup ("amount" : Str) = some [.int 1, .int 1000000000000] := rfl
  cases h with
  | next n t h1 h2 h3 => exact ⟨"next", ["next", "turn"], _, rfl, rfl, .cons (.num b1 (by omega) (by omega)) (.cons (.num b3 (by omega) (by omega)) .nil)⟩
  | has a m h1 h2 h3 => exact ⟨"has", ["name", "amount"], _, rfl, rfl, .cons (.name h1) (.cons (.num b4 (by omega) (by omega)) .nil)⟩
  | asked n h1 h2 => exact ⟨"asked", ["number"], _, rfl, rfl, .cons (.num b2 (by omega) (by omega)) .nil⟩
  | done n t xs ys h1 h2 h3 h4 => exact ⟨"done", ["number", "turn", "answer"], _, rfl, rfl, .cons (.num b2 (by omega) (by omega)) (.cons (.num b3 (by omega) (by omega)) (.cons (.ans h4.is h4.some) .nil))⟩
  | came n t a k xs h1 h2 h3 h4 h5 h6 => exact ⟨"came", ["number", "turn", "name", "key", "deed"], _, rfl, rfl, .cons (.num b2 (by omega) (by omega)) (.cons (.num b3 (by omega) (by omega)) (.cons (.name h4) (.cons (.key h5) (.cons (.deed h6) .nil))))⟩
  | kept n t a k xs ys h1 h2 h3 h4 h5 h6 h7 => exact ⟨"kept", ["number", "turn", "name", "key", "deed", "answer"], _, rfl, rfl, .cons (.num b2 (by omega) (by omega)) (.cons (.num b3 (by omega) (by omega)) (.cons (.name h4) (.cons (.key h5) (.cons (.deed h6) (.cons (.ans h7.is h7.some) .nil)))))⟩
theorem RowAt.tg {H : Hp} {a : Addr} {ps : List RP} (h : RowAt H a ps) (hr : RowIs ps) : ∃ wd ks rest x vs, ps = .sc (.str wd) :: rest /\ PTS.lookup wd = some (ks.map V.str) /\ H a = some (.tup (.str wd :: vs)) /\ x = V.str wd /\ Paired (PAt H) rest vs /\ Paired PartOk ks rest /\ ks.length = vs.length /\ vs.length <= 6 /\ Tg H (.ref a) /\ wordV H (.ref a) = .str wd := by
  obtain ⟨wd, ks, rest, rfl, hl, hk⟩ := hr.kinds
  obtain ⟨vs, e, p⟩ := h
  cases p with
  | cons h1 p =>
    rename_i y vs
    have : y = V.str wd := h1
    subst this; have l1 : ks.length = rest.length := hk.length
    have l2 : rest.length = vs.length := p.length
    have l3 : ks.length <= 6 /\ wd.length <= 1000 := by
      have m := look_mem hl
      unfold PTS at m; simp only [List.mem_cons, List.not_mem_nil, or_false, Prod.mk.injEq] at m
      have : (ks.map V.str).length = ks.length := Zlm _
      rcases m with ⟨rfl, e5⟩ | ⟨rfl, e5⟩ | ⟨rfl, e5⟩ | ⟨rfl, e5⟩ | ⟨rfl, e5⟩ | ⟨rfl, e5⟩ <;> rw [e5] at this <;> refine ⟨by simp at this; omega, by decide +kernel⟩
    have tp : ∀ y ∈ vs, Pc H y := fun y hy => by
      obtain ⟨j, hj, e⟩ := List.mem_iff_getElem.mp hy
      obtain ⟨h1, q1⟩ := Paired.get' (j := j) p hj
      obtain ⟨h2, q2⟩ := Paired.get' (j := j) hk h1
      rw [<- e]; exact (q2 H _ q1).1.1
    refine ⟨wd, ks, rest, _, vs, rfl, hl, e, rfl, p, hk, by omega, by omega, .tup e (by simp; omega) (Zfm.mpr ⟨.str l3.2, tp⟩), ?_⟩
    unfold wordV; rw [partsV_tup e]; rfl
theorem RowIs.kept_of {ps rest : List RP} {wd : Str} (h : RowIs ps) (e : ps = .sc (.str wd) :: rest) (hw : wd = "kept") : ∃ (n t : Nat) (a k : Str) (xs ys : List V), rest = [.sc (.int n), .sc (.int t), .sc (.str a), .sc (.str k), .tp xs, .tp ys] /\ DeedG xs /\ AnsG xs ys := by
  cases h with
  | kept n t a k xs ys h1 h2 h3 h4 h5 h6 h7 => exact ⟨n, t, a, k, xs, ys, (List.cons.inj e).2.symm, h6, h7⟩
  | _ =>
    have h0 := (List.cons.inj e).1
    injection h0 with h0
    injection h0 with h0
    rw [hw] at h0; exact absurd h0 (by decide +kernel)
end L2
namespace L2
open PySem PySem.Spec PyProof.Rows
theorem map_noneS {prog : Program} {w : World} {h : Heap} {a : Addr} {f : Str -> Option Value} (m : h.MapOf (strKind prog w) a f) : ∃ g : Option Key -> Option Value, h.MapOf (nKind prog w) a g /\ g none = none := by
  obtain ⟨o, es, ep, ho, hx, hd, hk, hf⟩ := m
  refine ⟨_, ⟨o, es, ep, ho, hx, hd, fun e he => ?_, fun k => rfl⟩, ?_⟩
  . obtain ⟨k, h1, h2⟩ := hk e he
    exact ⟨some (Sum.inr k), h1, h2⟩
  . show findBy nIs es none = none
    unfold findBy; have : es.find? (fun e => nIs none e.key) = none := by
      rw [Array.find?_eq_none]; intro e he z; obtain ⟨k, h1, h2⟩ := hk e he
      rcases nIs_shape z with ⟨_, e1⟩ | ⟨_, e1, _⟩
      . rw [e1] at h1; have h1' : keyIs (Sum.inr k) .none = true := h1
        rw [key_none] at h1'; cases h1'
      . cases e1
    rw [this]; rfl
section
variable {X : Cx}
def mInKN (K : W.Frag) (P : Params) (neg : Bool) : R2 := fun x y H Q => mR y fun a => ∃ ws, KTabT K P a ws /\ match x with
  | .non => Q (.bl neg) H
  | .str z => Q (.bl (if neg then !(ws.lookup z).isSome else (ws.lookup z).isSome)) H
  | _ => False
theorem op_inKN (neg : Bool) : OpR X (compareOp (if neg then .NotIn else .In)) (mInKN X.K X.w.params neg) := by
  intro pins s σ H x y v u Q I rx ry h; unfold mInKN at h; rw [mR_eq] at h; obtain ⟨a, rfl, ws, T, h⟩ := h
  cases x with
  | non =>
    cases rx
    cases ry
    obtain ⟨f, hm, lo, hf⟩ := T.map (prog := X.prog) I.kIn
    obtain ⟨g, hm', hg⟩ := map_noneS hm
    cases neg
    . refine wpAny_in_of (knd := nKind X.prog X.w) (k := none) rfl lo hm' ⟨.bl _, H, I.tok _, rfl, ?_⟩
      rw [hg]; exact h
    . refine wpAny_notIn_of (knd := nKind X.prog X.w) (k := none) rfl lo hm' ⟨.bl _, H, I.tok _, rfl, ?_⟩
      rw [hg]; exact h
  | str z =>
    cases neg
    . exact o_inKT pins s σ H (.str z) (.ref a) v u Q I rx ry ⟨ws, T, h⟩
    . exact o_notInKT pins s σ H (.str z) (.ref a) v u Q I rx ry ⟨ws, T, h⟩
  | _ => exact h.elim
theorem R.knotInKN {K : W.Frag} {P : Params} (hK : X.K = K := by rfl) (hP : X.w.params = P := by rfl) : XOp X (compareOp .NotIn) (mInKN K P true) := hK ▸ hP ▸ ⟨op_inKN true⟩
end
theorem WS_mem {z : Str} {i : Int} (h : WS.lookup z = some i) : (z = "add" /\ i = 1) ∨ (z = "take" /\ i = 1) ∨ (z = "move" /\ i = 2) ∨ (z = "send" /\ i = 2) ∨ (z = "fetch" /\ i = 2) ∨ (z = "pass" /\ i = 3) := by
  have m := look_mem h
  unfold WS at m; simp only [List.mem_cons, List.not_mem_nil, or_false, Prod.mk.injEq] at m
  exact m
end L2
namespace L2
open PySem PySem.Spec PyProof.Rows
theorem nmV_inv {x : V} (h : nmV x = true) : ∃ z, x = .str z /\ isNm z := by
  unfold nmV at h; cases x with
  | str z =>
    rw [madeOf_str, Bool.and_eq_true, Bool.and_eq_true] at h; obtain ⟨⟨h1, h2⟩, h3⟩ := h
    have h1 := of_decide_eq_true h1
    have h2 := of_decide_eq_true h2
    exact ⟨z, rfl, by omega, by omega, fun c hc => of_decide_eq_true (List.all_eq_true.mp h3 c hc)⟩
  | _ => cases h
theorem numV_inv {lo hi : Int} {x : V} (h : numV lo hi x = true) : ∃ n, x = .int n /\ lo <= n /\ n <= hi := by
  cases x with
  | int n =>
    have h' : (decide (lo <= n) && decide (n <= hi)) = true := h
    rw [Bool.and_eq_true] at h'; exact ⟨n, rfl, of_decide_eq_true h'.1, of_decide_eq_true h'.2⟩
  | _ => cases h
theorem fitsB_inv {x : V} {ns : List V} (h : fitsB x ns = true) : ∃ z i, x = .str z /\ WS.lookup z = some i /\ (ns.length : Int) = i /\ (∀ y ∈ ns, nmV y = true) /\ (inV (.str z) UW = true -> atI ns 0 ≠ atI ns 1) := by
  cases x with
  | str z =>
    unfold fitsB at h; dsimp only at h
    cases hl : WS.lookup z with
    | none => rw [hl] at h; cases h
    | some i =>
      rw [hl] at h; dsimp only at h
      rw [Bool.and_eq_true, Bool.and_eq_true] at h; refine ⟨z, i, rfl, hl, of_decide_eq_true h.1.1, List.all_eq_true.mp h.1.2, fun hu e => ?_⟩
      have h2 := h.2
      rw [hu, decide_eq_true e] at h2; cases h2
  | _ => cases h
theorem deedB_dwn {xs : List V} (h : deedB xs = true) : ∃ wd n as, DWN wd n xs as := by
  unfold deedB at h; rw [Bool.and_eq_true, Bool.and_eq_true] at h; obtain ⟨⟨h3, hf⟩, hn⟩ := h
  have h3 := of_decide_eq_true h3
  obtain ⟨z, i, hx0, hl, hlen, hnm, _⟩ := fitsB_inv hf
  obtain ⟨n, hn', _, _⟩ := numV_inv hn
  have ml := mid_len h3
  match xs, h3 with
  | [x0, x1, x2], _ =>
    have e0 : x0 = .str z := hx0
    have e2 : x2 = .int n := hn'
    obtain ⟨a, e1, na⟩ := nmV_inv (hnm x1 (by show x1 ∈ [x1]; simp))
    subst e0 e1 e2; have hi : i = 1 := by rw [<- hlen, ml]; rfl
    rcases WS_mem hl with ⟨rfl, _⟩ | ⟨rfl, _⟩ | ⟨_, e⟩ | ⟨_, e⟩ | ⟨_, e⟩ | ⟨_, e⟩
    . exact ⟨_, _, _, ⟨⟨a, a, a, _, .add⟩, fun _ h => nomatch h⟩⟩
    . exact ⟨_, _, _, ⟨⟨a, a, a, _, .take⟩, fun _ h => nomatch h⟩⟩
    all_goals (rw [hi] at e; exact absurd e (by decide))
  | [x0, x1, x2, x3], _ =>
    have e0 : x0 = .str z := hx0
    have e3 : x3 = .int n := hn'
    obtain ⟨a, e1, na⟩ := nmV_inv (hnm x1 (by show x1 ∈ [x1, x2]; simp))
    obtain ⟨b, e2, nb⟩ := nmV_inv (hnm x2 (by show x2 ∈ [x1, x2]; simp))
    subst e0 e1 e2 e3; have hi : i = 2 := by rw [<- hlen, ml]; rfl
    rcases WS_mem hl with ⟨_, e⟩ | ⟨_, e⟩ | ⟨rfl, _⟩ | ⟨rfl, _⟩ | ⟨rfl, _⟩ | ⟨_, e⟩
    . rw [hi] at e; exact absurd e (by decide)
    . rw [hi] at e; exact absurd e (by decide)
    . exact ⟨_, _, _, ⟨⟨a, b, a, _, .move⟩, fun _ h => nomatch h⟩⟩
    . exact ⟨_, _, _, ⟨⟨a, a, b, _, .send⟩, Zfm.mpr ⟨na, fun _ h => nomatch h⟩⟩⟩
    . exact ⟨_, _, _, ⟨⟨a, a, b, _, .fetch⟩, Zfm.mpr ⟨na, fun _ h => nomatch h⟩⟩⟩
    . rw [hi] at e; exact absurd e (by decide)
  | [x0, x1, x2, x3, x4], _ =>
    have e0 : x0 = .str z := hx0
    have e4 : x4 = .int n := hn'
    obtain ⟨a, e1, na⟩ := nmV_inv (hnm x1 (by show x1 ∈ [x1, x2, x3]; simp))
    obtain ⟨b, e2, nb⟩ := nmV_inv (hnm x2 (by show x2 ∈ [x1, x2, x3]; simp))
    obtain ⟨c, e3, nc⟩ := nmV_inv (hnm x3 (by show x3 ∈ [x1, x2, x3]; simp))
    subst e0 e1 e2 e3 e4; have hi : i = 3 := by rw [<- hlen, ml]; rfl
    rcases WS_mem hl with ⟨_, e⟩ | ⟨_, e⟩ | ⟨_, e⟩ | ⟨_, e⟩ | ⟨_, e⟩ | ⟨rfl, _⟩
    . rw [hi] at e; exact absurd e (by decide)
    . rw [hi] at e; exact absurd e (by decide)
    . rw [hi] at e; exact absurd e (by decide)
    . rw [hi] at e; exact absurd e (by decide)
    . rw [hi] at e; exact absurd e (by decide)
    . exact ⟨_, _, _, ⟨⟨a, b, c, _, .pass⟩, Zfm.mpr ⟨na, Zfm.mpr ⟨nb, fun _ h => nomatch h⟩⟩⟩⟩
  | _ :: _ :: _ :: _ :: _ :: _ :: r, _ =>
    have := WS_pos hl
    rw [ml] at hlen; simp at hlen
    omega
end L2
namespace L2
open PySem PySem.Spec PyProof.Rows
section
open AutoSeq1 (wpAny_loadPart')
open MeetsSeq SeqAt
theorem str_declines_dict (b : Str) (u : Tok) (l : Addr) (es : Array DictEntry) (n : Nat) (dd : Option Addr) (sl : Array (Option Value)) :
    Meets (Builtin.«str.__eq__» ⟨[.str b u, .ref l], []⟩) (fun _ R s => s.heap.get? l = some { cls := .type "dict", dict := dd, data := .dict es n, slots := sl } /\ R (.ok (.ret .notImplemented)) s) :=
  .of_wp fun prog w A R s h => by obtain ⟨hp, g, d, tk, os⟩ := s; obtain ⟨hl, h⟩ := h; wp_walk using wpAny_loadPart' hl, wpAny_load hl; exact ⟨_, rfl, h⟩
theorem tuple_declines_dict (l b : Addr) (items : Array Value) (es : Array DictEntry) (n n2 : Nat) (dd dd2 : Option Addr) (sl sl2 : Array (Option Value)) :
    Meets (Builtin.«tuple.__eq__» ⟨[.ref l, .ref b], []⟩) (fun _ R s => s.heap.get? l = some { cls := .type "tuple", dict := dd, data := .seq items n, slots := sl } /\ s.heap.get? b = some { cls := .type "dict", dict := dd2, data := .dict es n2, slots := sl2 } /\ R (.ok (.ret .notImplemented)) s) :=
  .of_wp fun prog w A R s h => by obtain ⟨hp, g, d, tk, os⟩ := s; obtain ⟨hl, hb, h⟩ := h; have f1 := F.sub_dict_tuple; wp_walk using wpAny_loadPart' hl, wpAny_loadPart' hb; exact ⟨_, rfl, h⟩
variable {prog : Program} {w : World} {A : Around} {E : Value -> Shared -> Prop} {s : Shared}
theorem dict_declines {a : Addr} {y : Value} {T : String} {r : Str} (sl : Slot "dict" r "dict.__eq__") (da : s.TypeIs (.ref a) "dict") (hy : s.TypeIs y T) (hs : isSubtype (.type T) (.type "dict") = pure false) (Q : Value -> Shared -> Prop) (h : Q .notImplemented s) : wpAny (model prog w) A (call (.builtin "dict.__eq__") [.ref a, y]) Q E s := by
  refine wpAny_call_entry sl da PySem.F.entry_dict_eq ?_ (PySem.F.args_dict_eq_2 _ _)
  show wpAny _ _ (Builtin.Dict.dictSlotArgs "__eq__" ⟨[.ref a, y], []⟩ >>= _) _ _ s
  refine wpAny_bind ?_
  unfold Builtin.Dict.dictSlotArgs; refine wpAny_bind (wpAny_notOrdered_dict da ?_)
  show wpAny _ _ (pure (Value.ref a, y)) _ _ s
  refine wpAny_pure ?_
  refine wpAny_bind (wpAny_isInstance (T := T) hy hs ?_)
  simp only [Bool.not_false, if_true]
  refine wpAny_bind (wpAny_rule ?_)
  exact wpAny_pure ⟨_, rfl, h⟩
def DObj (s : Shared) (a : Addr) : Prop := ∃ es n dd sl, s.heap.get? a = some { cls := .type "dict", dict := dd, data := .dict es n, slots := sl }
theorem rc_dict_str {a : Addr} (b : Str) (u : Tok) (h : DObj s a) (hu : A.units < cLine) : RcAt A s (.ref a) (.str b u) false := fun prog w E Q hq => by
  obtain ⟨es, n, dd, sl, ho⟩ := h
  have tD : s.TypeIs (.ref a) "dict" := ⟨_, ho, rfl⟩
  exact rc_eq_decline_or (k := false) tD (typeIs_str s b u) (by decide) F.sub_str_dict F.slot_dict_eq F.slot_str_eq_refl
    (fun _ hq => dict_declines F.slot_dict_eq tD (typeIs_str s b u) F.sub_str_dict _ hq)
    (fun _ hq => call_meets F.slot_str_eq_refl (typeIs_str s b u) F.entry_str_eq (F.args_str_eq_2 _ _) (str_declines_dict b u a es n dd sl) ⟨ho, hq⟩)
    (fun _ hq => wpAny_of_eq (rfl : isSame (.ref a) (.str b u) = pure false) hq) (.inr hu) hq
theorem eq_dict_str {a : Addr} (b : Str) (u : Tok) (h : DObj s a) (hu : A.units < cLine) : EqAt A s (.ref a) (.str b u) false := fun prog w E Q hq => by
  unfold eqBool; refine wpAny_holding ?_
  refine wpAny_ite_split (fun hab => absurd (eq_of_beq hab) nofun) (fun _ => ?_)
  exact wpAny_bind (rc_dict_str b u h hu prog w E _ (wpAny_truthy_bool hq))
theorem rc_str_dict {a : Addr} (b : Str) (u : Tok) (h : DObj s a) (hu : A.units < cLine) : RcAt A s (.str b u) (.ref a) false := fun prog w E Q hq => by
  obtain ⟨es, n, dd, sl, ho⟩ := h
  have tD : s.TypeIs (.ref a) "dict" := ⟨_, ho, rfl⟩
  exact rc_eq_decline_or (k := false) (typeIs_str s b u) tD (by decide) F.sub_dict_str F.slot_str_eq F.slot_dict_eq_refl
    (fun _ hq => call_meets F.slot_str_eq (typeIs_str s b u) F.entry_str_eq (F.args_str_eq_2 _ _) (str_declines_dict b u a es n dd sl) ⟨ho, hq⟩)
    (fun _ hq => dict_declines F.slot_dict_eq_refl tD (typeIs_str s b u) F.sub_str_dict _ hq)
    (fun _ hq => wpAny_of_eq (rfl : isSame (.str b u) (.ref a) = pure false) hq) (.inr hu) hq
theorem eq_str_dict {a : Addr} (b : Str) (u : Tok) (h : DObj s a) (hu : A.units < cLine) : EqAt A s (.str b u) (.ref a) false := fun prog w E Q hq => by
  unfold eqBool; refine wpAny_holding ?_
  refine wpAny_ite_split (fun hab => absurd (eq_of_beq hab) nofun) (fun _ => ?_)
  exact wpAny_bind (rc_str_dict b u h hu prog w E _ (wpAny_truthy_bool hq))
theorem ne_tuple_dict {l b : Addr} {items : Array Value} (hl : s.heap.IsTuple l items) (hb : DObj s b) : l ≠ b := fun e => by
  subst e; obtain ⟨o, ho, hc, _⟩ := hl
  obtain ⟨es, n, dd, sl, ho2⟩ := hb
  rw [ho] at ho2; cases ho2
  exact absurd hc (by simp)
theorem rc_tuple_dict {l b : Addr} {items : Array Value} (hl : s.heap.IsTuple l items) (hb : DObj s b) (hu : A.units < cLine) : RcAt A s (.ref l) (.ref b) false := fun prog w E Q h => by
  have hne : l ≠ b := ne_tuple_dict hl hb
  obtain ⟨⟨cls, dd, data, sl⟩, ho, hc, n, hd⟩ := id hl
  obtain ⟨es, n2, dd2, sl2, ho2⟩ := id hb
  simp only at hc hd
  subst hc hd; have tD : s.TypeIs (.ref b) "dict" := ⟨_, ho2, rfl⟩
  exact (rc_eq_decline_or (k := false) ⟨_, ho, rfl⟩ tD (by decide) F.sub_dict_tuple F.slot_tuple_eq F.slot_dict_eq_refl
    (fun _ hq => call_meets F.slot_tuple_eq ⟨_, ho, rfl⟩ F.entry_tuple_eq (F.args_tuple_eq_2 _ _) (tuple_declines_dict l b items es n n2 dd dd2 sl sl2) ⟨ho, ho2, hq⟩)
    (fun _ hq => dict_declines F.slot_dict_eq_refl tD (T := "tuple") (show s.TypeIs (.ref l) "tuple" from ⟨_, ho, rfl⟩) F.sub_tuple_dict _ hq)
    (fun _ hq => wpAny_isSame_ref_other' hne ho ho2 (by simp) hq) (.inr hu) h)
theorem eq_tuple_dict {l b : Addr} {items : Array Value} (hl : s.heap.IsTuple l items) (hb : DObj s b) (hu : A.units < cLine) : EqAt A s (.ref l) (.ref b) false := .of_refs (ne_tuple_dict hl hb) (rc_tuple_dict hl hb hu)
end
def eqS : V -> V -> Bool
  | .str u, .str z => decide (u = z)
  | _, _ => false
def eqTT : List V -> List V -> Bool
  | [], [] => true
  | x :: xs, y :: ys => eqS x y && eqTT xs ys
  | _, _ => false
def eqXT (H : Hp) (x : V) (ys : List V) : Bool := match partsV H x with | some xs => eqTT xs ys | none => false
def TxtL (ys : List V) : Prop := ∀ y ∈ ys, ∃ z, y = V.str z
theorem eqS_flat {x : V} {z : Str} (h : flatV x = true) : eqV x (.str z) = eqS x (.str z) := by
  cases x with
  | str u => show (u == z) = decide (u = z); rw [Bool.eq_iff_iff]; simp
  | _ => first | rfl | cases h
theorem eqS_comm (x y : V) : eqS x y = eqS y x := by
  cases x with
  | str u => cases y with
    | str z => show decide (u = z) = decide (z = u); rw [decide_eq_decide]; exact ⟨Eq.symm, Eq.symm⟩
    | _ => rfl
  | _ => cases y <;> rfl
theorem eqTT_range : ∀ xs ys : List V, ((List.range (min xs.length ys.length)).all (fun j => eqS (xs.getD j .non) (ys.getD j .non)) && xs.length == ys.length) = eqTT xs ys
  | [], [] => rfl
  | [], _ :: _ => rfl
  | _ :: _, [] => rfl
  | x :: xs, y :: ys => by
    have ih := eqTT_range xs ys
    show _ = (eqS x y && eqTT xs ys)
    rw [<- ih, Zlc, Zlc, Nat.succ_min_succ, List.range_succ_eq_map, List.all_cons, List.all_map]; have e : (xs.length + 1 == ys.length + 1) = (xs.length == ys.length) := by rw [Bool.eq_iff_iff]; simp
    rw [e, Bool.and_assoc]; rfl
theorem eqTT_comm : ∀ xs ys : List V, eqTT xs ys = eqTT ys xs
  | [], [] => rfl
  | [], _ :: _ => rfl
  | _ :: _, [] => rfl
  | x :: xs, y :: ys => by show (_ && _) = (_ && _); rw [eqS_comm x y, eqTT_comm xs ys]
theorem eqTT_refl : ∀ {ys : List V}, TxtL ys -> eqTT ys ys = true
  | [], _ => rfl
  | y :: ys, h => by
    obtain ⟨z, rfl⟩ := h y Zcs
    show (decide (z = z) && eqTT ys ys) = true
    rw [eqTT_refl fun y hy => h y (Zmc _ hy), decide_eq_true rfl]; rfl
section
variable {X : Cx}
theorem dobj_of {pins : List (Addr × Obj)} {s : Shared} {σ : St} {H : Hp} {a : Addr} {kvs : List (Key × V)} (I : Inv X pins σ H s) (h : H a = some (.dK kvs)) : DObj s a := by
  obtain ⟨z, hd, vs, rel, dd⟩ := dk_of I.hok h
  obtain ⟨⟨cls, d, data, sl⟩, es, ep, ho, hx, hd, _⟩ := dd.mapOf
  obtain ⟨h1, h2, h3⟩ := hx
  simp only at h1 h2 h3 hd
  subst h1 h2 h3 hd; exact ⟨_, _, _, _, ho⟩
theorem pc_eqS {pins : List (Addr × Obj)} {s : Shared} {σ : St} {H : Hp} {x : V} {v : Value} {z : Str} {t : Tok} {A : Around} (I : Inv X pins σ H s) (hu : A.units < cLine) (h : Pc H x) (rx : RelV x v) : SeqAt.EqAt A s v (.str z t) (eqS x (.str z)) := by
  rcases h with ⟨hf, _⟩ | ⟨a, ys, rfl, h | h⟩ | ⟨a, kvs, rfl, h⟩
  . rw [<- eqS_flat hf]; exact eqAt_V rx ⟨t, rfl⟩ hf rfl
  . cases rx
    obtain ⟨its, _, pl, _⟩ := I.list (SqL.of h)
    exact SeqAt.EqAt.list_str z t pl.isList hu
  . cases rx
    obtain ⟨its, _, pl, _⟩ := I.tuple (SqT.of h)
    exact SeqAt.EqAt.tuple_str z t pl hu
  . cases rx
    exact eq_dict_str z t (dobj_of I h) hu
theorem pc_eqS' {pins : List (Addr × Obj)} {s : Shared} {σ : St} {H : Hp} {x : V} {v : Value} {z : Str} {t : Tok} {A : Around} (I : Inv X pins σ H s) (hu : A.units < cLine) (h : Pc H x) (rx : RelV x v) : SeqAt.EqAt A s (.str z t) v (eqS (.str z) x) := by
  rcases h with ⟨hf, _⟩ | ⟨a, ys, rfl, h | h⟩ | ⟨a, kvs, rfl, h⟩
  . have e : eqS (.str z) x = eqV (.str z) x := by
      cases x with
      | str u => show decide (z = u) = (z == u); rw [Bool.eq_iff_iff]; simp
      | _ => first | rfl | cases hf
    rw [e]; exact eqAt_V ⟨t, rfl⟩ rx rfl hf
  . cases rx
    obtain ⟨its, _, pl, _⟩ := I.list (SqL.of h)
    exact SeqAt.EqAt.str_list z t pl.isList hu
  . cases rx
    obtain ⟨its, _, pl, _⟩ := I.tuple (SqT.of h)
    exact SeqAt.EqAt.str_tuple z t pl hu
  . cases rx
    exact eq_str_dict z t (dobj_of I h) hu
def mEqPS : R2 := fun x y H Q => mS y fun z => Pc H x /\ Q (.bl (eqS x (.str z))) H
theorem op_eqPS (hu : X.A.units + 64 < cLine) : OpR X (compareOp .Eq) mEqPS := by
  intro pins s σ H x y v u Q I rx ry h; unfold mEqPS at h; rw [mS_eq] at h; obtain ⟨z, rfl, hp, q⟩ := h
  rcases hp with ⟨hf, _⟩ | ⟨a, ys, rfl, hp | hp⟩ | ⟨a, kvs, rfl, hp⟩
  . refine o_eq pins s σ H x (.str z) v u Q I rx ry ?_
    cases x <;> first | exact q | cases hf
  . cases rx
    obtain ⟨t, rfl⟩ := ry
    obtain ⟨its, _, pl, _⟩ := I.list (SqL.of hp)
    exact SeqAt.RcAt.list_str z t pl.isList (by omega) _ _ _ _ ⟨.bl _, H, I, rfl, q⟩
  . cases rx
    obtain ⟨t, rfl⟩ := ry
    obtain ⟨its, _, pl, _⟩ := I.tuple (SqT.of hp)
    exact SeqAt.RcAt.tuple_str z t pl (by omega) _ _ _ _ ⟨.bl _, H, I, rfl, q⟩
  . cases rx
    obtain ⟨t, rfl⟩ := ry
    exact rc_dict_str z t (dobj_of I hp) (by omega) _ _ _ _ ⟨.bl _, H, I, rfl, q⟩
theorem R.eqPS (hu : X.A.units + 64 < cLine) : XOp X (compareOp .Eq) mEqPS := ⟨op_eqPS hu⟩
def mEqPT : R2 := fun x y H Q => mR x fun a => mR y fun b => ∃ xs ys, H a = some (.tup xs) /\ H b = some (.tup ys) /\ TxtL ys /\ (∀ y ∈ xs, Pc H y) /\ Q (.bl (eqTT xs ys)) H
theorem op_eqPT (hu : X.A.units + 64 < cLine) : OpR X (compareOp .Eq) mEqPT := by
  intro pins s σ H x y v u Q I rx ry h; unfold mEqPT at h; rw [mR_eq] at h; obtain ⟨a, rfl, h⟩ := h
  rw [mR_eq] at h; obtain ⟨b, rfl, xs, ys, g1, g2, ht, hp, q⟩ := h
  cases rx
  cases ry
  obtain ⟨its, ri, ti, _⟩ := I.tuple (SqT.of g1)
  obtain ⟨its2, ri2, ti2, _⟩ := I.tuple (SqT.of g2)
  have el1 : its.length = xs.length := ri.length.symm
  have el2 : its2.length = ys.length := ri2.length.symm
  have each : ∀ j (h1 : j < its.toArray.size) (h2 : j < its2.toArray.size), SeqAt.EqAt X.A.in1 s its.toArray[j] its2.toArray[j] (eqS (xs.getD j .non) (ys.getD j .non)) := fun j h1 h2 => by
    rw [Zst] at h1 h2; obtain ⟨h1', q1⟩ := Paired.get' (j := j) ri h1
    obtain ⟨h2', q2⟩ := Paired.get' (j := j) ri2 h2
    have e1 : xs.getD j .non = xs[j] := by simp [List.getD, h1']
    have e2 : ys.getD j .non = ys[j] := by simp [List.getD, h2']
    rw [e1, e2]; obtain ⟨z, ez⟩ := ht ys[j] (List.getElem_mem h2')
    rw [ez] at q2 ⊢; obtain ⟨t, et⟩ := q2
    rw [show its2.toArray[j] = its2[j] by simp, et]
    simpa using pc_eqS (z := z) (t := t) (A := X.A.in1) I (by rw [in1_units]; omega) (hp _ (List.getElem_mem h1')) q1
  have e : ((List.range (min its.toArray.size its2.toArray.size)).all (fun j => eqS (xs.getD j .non) (ys.getD j .non)) && its.toArray.size == its2.toArray.size) = eqTT xs ys := by
    rw [Zst, Zst, el1, el2]; exact eqTT_range xs ys
  have key := SeqAt.RcAt.tuples (A := X.A) (s := s) ti ti2 (by omega) each
  rw [e] at key; exact key _ _ _ _ ⟨.bl _, H, I, rfl, q⟩
theorem R.eqPT (hu : X.A.units + 64 < cLine) : XOp X (compareOp .Eq) mEqPT := ⟨op_eqPT hu⟩
def mInPT : R2 := fun x y H Q => mR y fun p => ∃ qs : List (Addr × List V), H p = some (.lst (qs.map fun q => V.ref q.1)) /\ (∀ q ∈ qs, H q.1 = some (.tup q.2) /\ TxtL q.2) /\ Tg H x /\ Q (.bl (qs.any fun q => eqXT H x q.2)) H
def eIn (H : Hp) (x : V) : Value -> Bool
  | .ref b => (match H b with | some (.tup ys) => eqXT H x ys | _ => false)
  | _ => false
theorem eIn_eq {pins : List (Addr × Obj)} {s : Shared} {σ : St} {H : Hp} {x : V} {v : Value} {A : Around} (I : Inv X pins σ H s) (hu : A.units + 8 < cLine) (tg : Tg H x) (rx : RelV x v) {b : Addr} {ys : List V} (g : H b = some (.tup ys)) (ht : TxtL ys) : SeqAt.EqAt A s (.ref b) v (eIn H x (.ref b)) := by
  have e0 : eIn H x (.ref b) = eqXT H x ys := by unfold eIn; dsimp only; rw [g]
  rw [e0]; obtain ⟨its2, ri2, ti2, _⟩ := I.tuple (SqT.of g)
  rcases tg.1 with ⟨hf, _⟩ | ⟨a, xs, rfl, h | h⟩ | ⟨a, kvs, rfl, h⟩
  . have e : eqXT H x ys = false := by cases x <;> first | rfl | cases hf
    rw [e]; cases x with
    | non => cases rx; exact SeqAt.EqAt.tuple_none ti2 (by omega)
    | bl n => cases rx; exact SeqAt.EqAt.tuple_bool n ti2 (by omega)
    | int n => obtain ⟨t, rfl⟩ := rx; exact SeqAt.EqAt.tuple_int n t ti2 (by omega)
    | str n => obtain ⟨t, rfl⟩ := rx; exact SeqAt.EqAt.tuple_str n t ti2 (by omega)
    | _ => cases hf
  . cases rx
    have e : eqXT H (.ref a) ys = false := by unfold eqXT partsV; dsimp only; rw [h]
    rw [e]; obtain ⟨its, _, pl, _⟩ := I.list (SqL.of h)
    exact SeqAt.EqAt.tuple_list ti2 pl.isList (by omega)
  . cases rx
    have e : eqXT H (.ref a) ys = eqTT ys xs := by unfold eqXT; rw [partsV_tup h]; exact eqTT_comm xs ys
    rw [e]; have hp := (tg.2 a xs rfl h).2
    by_cases hab : b = a
    . subst hab; rw [g] at h; cases h
      rw [eqTT_refl ht]; exact SeqAt.EqAt.same _
    obtain ⟨its, ri, ti, _⟩ := I.tuple (SqT.of h)
    have el1 : its.length = xs.length := ri.length.symm
    have el2 : its2.length = ys.length := ri2.length.symm
    have each : ∀ j (h1 : j < its2.toArray.size) (h2 : j < its.toArray.size), SeqAt.EqAt A.in1 s its2.toArray[j] its.toArray[j] (eqS (ys.getD j .non) (xs.getD j .non)) := fun j h1 h2 => by
      rw [Zst] at h1 h2; obtain ⟨h1', q1⟩ := Paired.get' (j := j) ri2 h1
      obtain ⟨h2', q2⟩ := Paired.get' (j := j) ri h2
      have e1 : ys.getD j .non = ys[j] := by simp [List.getD, h1']
      have e2 : xs.getD j .non = xs[j] := by simp [List.getD, h2']
      rw [e1, e2]; obtain ⟨z, ez⟩ := ht ys[j] (List.getElem_mem h1')
      rw [ez] at q1 ⊢; obtain ⟨t, et⟩ := q1
      rw [show its2.toArray[j] = its2[j] by simp, et]
      simpa using pc_eqS' (z := z) (t := t) (A := A.in1) I (by rw [in1_units]; omega) (hp _ (List.getElem_mem h2')) q2
    have e : ((List.range (min its2.toArray.size its.toArray.size)).all (fun j => eqS (ys.getD j .non) (xs.getD j .non)) && its2.toArray.size == its.toArray.size) = eqTT ys xs := by
      rw [Zst, Zst, el1, el2]; exact eqTT_range ys xs
    have key := SeqAt.RcAt.tuples (A := A) (s := s) ti2 ti (by omega) each
    rw [e] at key; exact SeqAt.EqAt.of_refs hab key
  . cases rx
    have e : eqXT H (.ref a) ys = false := by unfold eqXT partsV; dsimp only; rw [h]
    rw [e]; exact eq_tuple_dict ti2 (dobj_of I h) (by omega)
theorem op_inPT (hu : X.A.units + 64 < cLine) : OpR X (compareOp .In) mInPT := by
  intro pins s σ H x y v u Q I rx ry h; unfold mInPT at h; rw [mR_eq] at h; obtain ⟨p, rfl, qs, g, gq, tg, q⟩ := h
  cases ry
  obtain ⟨its, r, pl, hz⟩ := I.list (SqL.of g)
  have ei : its = qs.map fun q => Value.ref q.1 := by
    clear q gq g pl hz; induction qs generalizing its with
    | nil => cases r; rfl
    | cons z qs ih => cases r with
      | cons r t => cases r; rw [ih _ t]; rfl
  refine SeqAt.in_listAt (eIn H x) pl.isList (fun w hw => ?_) ⟨.bl _, H, I, rfl, ?_⟩
  . rw [ei] at hw; have hw' : w ∈ qs.map fun q => Value.ref q.1 := by simpa using hw
    obtain ⟨z, mz, rfl⟩ := Zmm.mp hw'
    obtain ⟨gz, tz⟩ := gq z mz
    exact eIn_eq I (by rw [in1_units]; omega) tg rx gz tz
  . have e : its.toArray.any (eIn H x) = qs.any fun q => eqXT H x q.2 := by
      rw [ei, List.any_toArray, List.any_map]; clear q ei r pl hz g; induction qs with
      | nil => rfl
      | cons z qs ih =>
        rw [List.any_cons, List.any_cons, ih fun q hq => gq q (Zmc _ hq)]
        congr 1
        show (match H z.1 with | some (.tup ys) => eqXT H x ys | _ => false) = _
        rw [(gq z Zcs).1]
    rw [e]; exact q
theorem R.inPT (hu : X.A.units + 64 < cLine) : XOp X (compareOp .In) mInPT := ⟨op_inPT hu⟩
end
end L2
namespace L2
open PySem PySem.Spec PyProof.Rows
def Tz (H : Hp) (x : V) : Prop := Pc H x /\ ∀ a xs, x = .ref a -> H a = some (.tup xs) -> xs.length <= 1000 /\ ∀ y ∈ xs, Tg H y
theorem Tz.tg {H : Hp} {x : V} (h : Tz H x) : Tg H x := ⟨h.1, fun a xs e g => ⟨(h.2 a xs e g).1, fun y hy => ((h.2 a xs e g).2 y hy).1⟩⟩
theorem Tz.same {H H' : Hp} {x : V} (s : Same H H') (h : Tz H x) : Tz H' x := by
  refine ⟨h.1.same s, fun a xs e g => ?_⟩
  subst e; rcases h.1 with ⟨hf, _⟩ | ⟨a', ys, e, hh⟩ | ⟨a', kvs, e, hh⟩
  . cases hf
  . cases e
    rcases hh with hh | hh
    . have := s _ _ hh; rw [g] at this; cases this
    . have := s _ _ hh
      rw [g] at this; cases this
      obtain ⟨h1, h2⟩ := h.2 a _ rfl hh
      exact ⟨h1, fun y hy => (h2 y hy).same s⟩
  . cases e
    have := s _ _ hh; rw [g] at this; cases this
def dnW (xs : List V) : Str := match xs with | .str u :: _ => u | _ => ""
def dnN (xs : List V) : Int := match atI xs (-1) with | some (.int n) => n | _ => 0
def dnH (xs : List V) : List Str := match xs with
  | [.str u, .str h, .str _, .int _] => if u = "move" then [] else [h]
  | [.str _, .str h, .str g, .str _, .int _] => [h, g]
  | _ => []
theorem DWN.dn {wd : Str} {n : Int} {xs : List V} {as : List (Str × List V)} (h : DWN wd n xs as) : dnW xs = wd /\ dnN xs = n /\ dnH xs = as.map (·.1) := by
  obtain ⟨one, other, nm, cs, hd⟩ := h.ex
  cases hd with
  | add => exact ⟨rfl, rfl, rfl⟩
  | take => exact ⟨rfl, rfl, rfl⟩
  | move => exact ⟨rfl, rfl, show (if ("move" : Str) = "move" then ([] : List Str) else [one]) = [] from if_pos rfl⟩
  | send => exact ⟨rfl, rfl, show (if ("send" : Str) = "move" then ([] : List Str) else [one]) = [one] from if_neg (by decide +kernel)⟩
  | fetch => exact ⟨rfl, rfl, show (if ("fetch" : Str) = "move" then ([] : List Str) else [one]) = [one] from if_neg (by decide +kernel)⟩
  | pass => exact ⟨rfl, rfl, rfl⟩
def ansD (H : Hp) (x y : V) : Bool := match partsV H x with | some xs => ansV H (dnW xs) (dnH xs) (dnN xs) y | none => false
def partV (H : Hp) (k x : V) : Bool := match k with | .str kd => partB H kd x | _ => false
def rowB (H : Hp) (xs : List V) : Bool := match xs with
  | .str wd :: r => (match PTS.lookup wd with
    | some ks => decide (r.length = ks.length) && (ks.zip r).all (fun q => partV H q.1 q.2) && (!decide (wd = "kept") || ansD H (r.getD 4 .non) (r.getD 5 .non))
    | none => false)
  | _ => false
def rowV (H : Hp) (x : V) : Bool := match partsV H x with | some xs => rowB H xs | none => false
def spRowAny : Sp := fun vs H Q _ => ∃ x, vs = [x] /\ Tz H x /\ ∀ H', Same H H' -> Q (.bl (rowV H x)) H'
theorem partB_same {H H' : Hp} {kd : Str} {x : V} (s : Same H H') (h : Pc H x) : partB H' kd x = partB H kd x := by unfold partB; rw [deedV_same s h, someV_same s h]
theorem partV_same {H H' : Hp} {k x : V} (s : Same H H') (h : Pc H x) : partV H' k x = partV H k x := by
  cases k with
  | str kd => exact partB_same s h
  | _ => rfl
theorem parts_of {H : Hp} {x : V} {xs : List V} (hp : partsV H x = some xs) : ∃ a, x = .ref a /\ H a = some (.tup xs) := by
  unfold partsV at hp; split at hp
  . rename_i a
    refine ⟨a, rfl, ?_⟩
    split at hp
    . rename_i ys e; rw [e, Option.some.inj hp]
    . cases hp
  . cases hp
theorem word_cases (H : Hp) (x : V) : (wordV H x = .non /\ rowV H x = false) ∨ ∃ u r a, wordV H x = .str u /\ partsV H x = some (.str u :: r) /\ x = .ref a /\ H a = some (.tup (.str u :: r)) := by
  cases hp : partsV H x with
  | none => left; unfold wordV rowV; rw [hp]; exact ⟨rfl, rfl⟩
  | some xs =>
    obtain ⟨a, rfl, g⟩ := parts_of hp
    cases xs with
    | nil => left; unfold wordV rowV; rw [hp]; exact ⟨rfl, rfl⟩
    | cons y r =>
      cases y with
      | str u => exact .inr ⟨u, r, a, by unfold wordV; rw [hp]; rfl, rfl, rfl, g⟩
      | _ => left; unfold wordV rowV; rw [hp]; exact ⟨rfl, rfl⟩
theorem PTS_kinds {wd : Str} {ks : List V} (h : PTS.lookup wd = some ks) : TxtL ks /\ 1 <= ks.length /\ ks.length <= 6 /\ (wd = "kept" -> ks = [.str "number", .str "turn", .str "name", .str "key", .str "deed", .str "answer"]) := by
  have m := look_mem h
  unfold PTS at m; simp only [List.mem_cons, List.not_mem_nil, or_false, Prod.mk.injEq] at m
  have ht : ∀ zs : List Str, TxtL (zs.map V.str) := fun zs y hy => by obtain ⟨z, _, e⟩ := Zmm.mp hy; exact ⟨z, e.symm⟩
  rcases m with ⟨rfl, rfl⟩ | ⟨rfl, rfl⟩ | ⟨rfl, rfl⟩ | ⟨rfl, rfl⟩ | ⟨rfl, rfl⟩ | ⟨rfl, rfl⟩
  . exact ⟨ht ["next", "turn"], by simp, by simp, fun e => absurd e (by decide +kernel)⟩
  . exact ⟨ht ["name", "amount"], by simp, by simp, fun e => absurd e (by decide +kernel)⟩
  . exact ⟨ht ["number", "turn", "name", "key", "deed", "answer"], by simp, by simp, fun _ => rfl⟩
  . exact ⟨ht ["number", "turn", "name", "key", "deed"], by simp, by simp, fun e => absurd e (by decide +kernel)⟩
  . exact ⟨ht ["number"], by simp, by simp, fun e => absurd e (by decide +kernel)⟩
  . exact ⟨ht ["number", "turn", "answer"], by simp, by simp, fun e => absurd e (by decide +kernel)⟩
theorem partB_deed (H : Hp) (x : V) : partB H "deed" x = deedV H x := by
  unfold partB; rw [show BDS.lookup ("deed" : Str) = none by decide +kernel]
  dsimp only; rw [if_neg (by decide +kernel), if_neg (by decide +kernel), if_pos rfl]
theorem partB_answer (H : Hp) (x : V) : partB H "answer" x = someV H x := by
  unfold partB; rw [show BDS.lookup ("answer" : Str) = none by decide +kernel]
  dsimp only; rw [if_neg (by decide +kernel), if_neg (by decide +kernel), if_neg (by decide +kernel)]
theorem partB_name (H : Hp) (x : V) : partB H "name" x = nmV x := by
  unfold partB; rw [show BDS.lookup ("name" : Str) = none by decide +kernel]
  dsimp only; rw [if_pos rfl]
theorem partB_key (H : Hp) (x : V) : partB H "key" x = madeOf x (LET ++ FIG) 12 := by
  unfold partB; rw [show BDS.lookup ("key" : Str) = none by decide +kernel]
  dsimp only; rw [if_neg (by decide +kernel), if_pos rfl]
theorem partB_number (H : Hp) (x : V) : partB H "number" x = numV 1 999999 x := rfl
theorem partB_next (H : Hp) (x : V) : partB H "next" x = numV 1 1000000 x := rfl
theorem partB_turn (H : Hp) (x : V) : partB H "turn" x = numV 0 1000000000000 x := rfl
theorem partB_amount (H : Hp) (x : V) : partB H "amount" x = numV 1 1000000000000 x := rfl
theorem deedV_of {H : Hp} {x : V} (h : deedV H x = true) : ∃ a xs wd n as, x = .ref a /\ H a = some (.tup xs) /\ deedB xs = true /\ DWN wd n xs as := by
  unfold deedV at h; split at h
  . rename_i a
    split at h
    . rename_i xs e
      obtain ⟨wd, n, as, hd⟩ := deedB_dwn h
      exact ⟨a, xs, wd, n, as, rfl, e, h, hd⟩
    . cases h
  . cases h
theorem ansD_of {H : Hp} {a : Addr} {xs : List V} {wd : Str} {n : Int} {as : List (Str × List V)} {y : V} (g : H a = some (.tup xs)) (h : DWN wd n xs as) : ansD H (.ref a) y = ansV H wd (as.map (·.1)) n y := by
  unfold ansD; rw [partsV_tup g]; obtain ⟨e1, e2, e3⟩ := h.dn
  show ansV H (dnW xs) (dnH xs) (dnN xs) y = _
  rw [e1, e2, e3]
theorem RowAt.rowV {H : Hp} {a : Addr} {ps : List RP} (h : RowAt H a ps) (hr : RowIs ps) : rowV H (.ref a) = true := by
  obtain ⟨wd, ks, rest, x, vs, eps, hl, ga, _, pv, pk, lk, l6, tg, hw⟩ := RowAt.tg h hr
  unfold L2.rowV; rw [partsV_tup ga]; show (match PTS.lookup wd with | some ks => decide (vs.length = ks.length) && (ks.zip vs).all (fun q => partV H q.1 q.2) && (!decide (wd = "kept") || ansD H (vs.getD 4 .non) (vs.getD 5 .non)) | none => false) = true
  rw [hl]; dsimp only; rw [decide_eq_true (by rw [Zlm]; omega), Bool.true_and, Bool.and_eq_true]
  constructor
  . rw [List.all_eq_true]; intro q hq; obtain ⟨j, hj, e⟩ := List.mem_iff_getElem.mp hq
    rw [List.length_zip, Zlm] at hj; have hj1 : j < vs.length := by omega
    obtain ⟨h1, q1⟩ := Paired.get' (j := j) pv hj1
    obtain ⟨h2, q2⟩ := Paired.get' (j := j) pk h1
    rw [<- e, List.getElem_zip]; simp only [List.getElem_map]
    exact (q2 H _ q1).2
  . cases hk : decide (wd = "kept") with
    | false => rfl
    | true =>
      obtain ⟨n, t, a', k', xs, ys', er, hd, ha⟩ := hr.kept_of eps (of_decide_eq_true hk)
      subst er; cases pv with
      | cons p1' pv => cases pv with
        | cons p2 pv => cases pv with
          | cons p3 pv => cases pv with
            | cons p4 pv => cases pv with
              | cons p5 pv => cases pv with
                | cons p6 pv => cases pv with
                  | nil =>
                    obtain ⟨b5, rfl, g5⟩ := p5
                    obtain ⟨b6, rfl, g6⟩ := p6
                    obtain ⟨wd', n', as, hdw, han⟩ := ha.of
                    show ansD H (.ref b5) (.ref b6) = true
                    rw [ansD_of g5 hdw]; unfold ansV; rw [partsV_tup g6]; exact han
theorem ansD_same {H H' : Hp} {x y : V} (s : Same H H') (h : Pc H x) (h' : Pc H y) : ansD H' x y = ansD H x y := by
  unfold ansD; rw [partsV_same s h]; cases partsV H x with
  | none => rfl
  | some xs => exact ansV_same s h'
theorem rowB_same {H H' : Hp} {xs : List V} (s : Same H H') (h : ∀ y ∈ xs, Tg H y) : rowB H' xs = rowB H xs := by
  unfold rowB; split
  . rename_i wd r
    have hr : ∀ y ∈ r, Pc H y := fun y hy => (h y (Zmc _ hy)).1
    have hg : ∀ i, Pc H (r.getD i .non) := fun i => by
      rw [List.getD_eq_getElem?_getD]; cases e : r[i]? with
      | none => exact .non
      | some y => exact hr y (Zmg e)
    cases PTS.lookup wd with
    | none => rfl
    | some ks =>
      dsimp only; rw [ansD_same s (hg 4) (hg 5)]; congr 2
      have : ∀ l : List (V × V), (∀ q ∈ l, Pc H q.2) -> (l.all fun q => partV H' q.1 q.2) = l.all fun q => partV H q.1 q.2 := fun l => by
        induction l with
        | nil => intro _; rfl
        | cons q l ih =>
          intro hl; rw [List.all_cons, List.all_cons, ih fun q hq => hl q (Zmc _ hq), partV_same s (hl q Zcs)]
      exact this _ fun q hq => hr _ (List.of_mem_zip hq).2
  . rfl
end L2
namespace KL
open PySem L2
def top (i : Nat) : Stmt := PySem.Challenge.pw_oncedoor_k30_what_is_a_row.main.body.getD i (.Pass ⟨0, 0, 0, 0⟩)
abbrev s_is_name : Stmt := top 6
abbrev s_is_key : Stmt := top 7
abbrev s_is_whole : Stmt := top 8
abbrev s_is_made_of : Stmt := top 9
abbrev s_is_deed : Stmt := top 13
abbrev s_fits_word : Stmt := top 14
abbrev s_asks_of : Stmt := top 15
abbrev s_is_answer : Stmt := top 17
abbrev s_is_some_answer : Stmt := top 18
abbrev s_word_of : Stmt := top 19
abbrev s_is_no : Stmt := top 20
abbrev s_bounds_of : Stmt := top 21
abbrev s_are_within : Stmt := top 22
abbrev s_is_row : Stmt := top 26
abbrev s_is_part : Stmt := top 27
abbrev s_law_pen : Stmt := top 29
abbrev s_law_take : Stmt := top 30
abbrev s_law_cell_at : Stmt := top 31
abbrev s_law_names : Stmt := top 32
abbrev s_law_keys : Stmt := top 33
abbrev s_law_number : Stmt := top 34
abbrev s_law_deed : Stmt := top 35
abbrev s_law_answer : Stmt := top 36
abbrev s_law_row : Stmt := top 37
abbrev s_law_whole : Stmt := top 38
abbrev s_law_is_word : Stmt := top 39
abbrev s_law_is_name : Stmt := top 40
abbrev s_law_is_deed : Stmt := top 41
abbrev s_law_is_answer : Stmt := top 42
abbrev s_law_is_some_answer : Stmt := top 43
abbrev s_law_is_row : Stmt := top 44
abbrev s_law_odd : Stmt := top 45
abbrev s_law_spoiled : Stmt := top 46
abbrev s_law_right : Stmt := top 47
abbrev s_law : Stmt := top 48
theorem Zsc {N P : List Str} {sc : Scope} (a : sc.kind = .function := by rfl) (b : sc.isCoroutine = false := by rfl) (c : sc.isGenerator = false := by rfl) (d : N.Nodup := by decide +kernel) (e : N.take P.length = P := by rfl) (f : ∀ x ∈ P, sc.names.lookup x = some .local ∨ sc.names.lookup x = some .cell := by decide +kernel) (g : ∀ y ∈ sc.names, y.2 ≠ .free := by decide +kernel) : FnScope N P sc := ⟨a, b, c, d, e, f, g⟩
theorem sc_is_name : FnScope ["thing"] ["thing"] (defScope s_is_name) := Zsc
theorem sc_is_key : FnScope ["thing"] ["thing"] (defScope s_is_key) := Zsc
theorem sc_is_whole : FnScope ["thing", "least", "most"] ["thing", "least", "most"] (defScope s_is_whole) := Zsc
theorem sc_is_made_of : FnScope ["thing", "signs", "longest"] ["thing", "signs", "longest"] (defScope s_is_made_of) := Zsc
theorem sc_is_deed : FnScope ["thing"] ["thing"] (defScope s_is_deed) := Zsc
theorem sc_fits_word : FnScope ["word", "names"] ["word", "names"] (defScope s_fits_word) := Zsc
theorem sc_asks_of : FnScope ["deed", "add", "take"] ["deed"] (defScope s_asks_of) := Zsc
theorem sc_is_answer : FnScope ["deed", "thing", "word", "bounds"] ["deed", "thing"] (defScope s_is_answer) := Zsc
theorem sc_is_some_answer : FnScope ["thing", "widest"] ["thing"] (defScope s_is_some_answer) := Zsc
theorem sc_word_of : FnScope ["thing"] ["thing"] (defScope s_word_of) := Zsc
theorem sc_is_no : FnScope ["answer"] ["answer"] (defScope s_is_no) := Zsc
theorem sc_bounds_of : FnScope ["deed", "n", "left", "come", "short", "full"] ["deed"] (defScope s_bounds_of) := Zsc
theorem sc_are_within : FnScope ["things", "bounds"] ["things", "bounds"] (defScope s_are_within) := Zsc
theorem sc_is_row : FnScope ["thing", "word"] ["thing"] (defScope s_is_row) := Zsc
theorem sc_is_part : FnScope ["kind", "thing"] ["kind", "thing"] (defScope s_is_part) := Zsc
theorem sc_law_pen : FnScope ["_law_cell", "_law_k"] ["_law_cell", "_law_k"] (defScope s_law_pen) := Zsc
theorem sc_law_take : FnScope ["_law_pen_here", "_law_most", "_law_found", "_law_turn", "_law_mixed"] ["_law_pen_here", "_law_most"] (defScope s_law_take) := Zsc
theorem sc_law_cell_at : FnScope ["_law_script", "_law_k"] ["_law_script", "_law_k"] (defScope s_law_cell_at) := Zsc
theorem sc_law_names : FnScope ["_law_pen_here", "_law_many", "_law_letters", "_law_size", "_law_at", "_law_step", "_law_base", "_law_names_here", "_law_k", "_law_long", "_law_signs"] ["_law_pen_here", "_law_many"] (defScope s_law_names) := Zsc
theorem sc_law_keys : FnScope ["_law_pen_here", "_law_many", "_law_signs", "_law_size", "_law_at", "_law_step", "_law_base", "_law_rows", "_law_k", "_law_row_here"] ["_law_pen_here", "_law_many"] (defScope s_law_keys) := Zsc
theorem sc_law_number : FnScope ["_law_pen_here", "_law_least", "_law_most", "_law_way"] ["_law_pen_here", "_law_least", "_law_most"] (defScope s_law_number) := Zsc
theorem sc_law_deed : FnScope ["_law_pen_here", "_law_names_here", "_law_word", "_law_one", "_law_other", "_law_name", "_law_n"] ["_law_pen_here", "_law_names_here"] (defScope s_law_deed) := Zsc
theorem sc_law_answer : FnScope ["_law_pen_here", "_law_deed_here", "_law_word", "_law_n", "_law_short", "_law_full", "_law_less", "_law_more", "_law_some"] ["_law_pen_here", "_law_deed_here"] (defScope s_law_answer) := Zsc
theorem sc_law_row : FnScope ["_law_pen_here", "_law_names_here", "_law_keys_here", "_law_word", "_law_number_here", "_law_turn", "_law_deed_here", "_law_answer_here", "_law_asker", "_law_key"] ["_law_pen_here", "_law_names_here", "_law_keys_here"] (defScope s_law_row) := Zsc
theorem sc_law_whole : FnScope ["_law_thing", "_law_least", "_law_most"] ["_law_thing", "_law_least", "_law_most"] (defScope s_law_whole) := Zsc
theorem sc_law_is_word : FnScope ["_law_thing", "_law_signs", "_law_most"] ["_law_thing", "_law_signs", "_law_most"] (defScope s_law_is_word) := Zsc
theorem sc_law_is_name : FnScope ["_law_thing"] ["_law_thing"] (defScope s_law_is_name) := Zsc
theorem sc_law_is_deed : FnScope ["_law_thing", "_law_size"] ["_law_thing"] (defScope s_law_is_deed) := Zsc
theorem sc_law_is_answer : FnScope ["_law_deed_here", "_law_thing", "_law_word", "_law_n", "_law_most"] ["_law_deed_here", "_law_thing"] (defScope s_law_is_answer) := Zsc
theorem sc_law_is_some_answer : FnScope ["_law_thing", "_law_word"] ["_law_thing"] (defScope s_law_is_some_answer) := Zsc
theorem sc_law_is_row : FnScope ["_law_thing", "_law_word"] ["_law_thing"] (defScope s_law_is_row) := Zsc
theorem sc_law_odd : FnScope ["_law_pen_here", "_law_thing", "_law_some"] ["_law_pen_here", "_law_thing"] (defScope s_law_odd) := Zsc
theorem sc_law_spoiled : FnScope ["_law_pen_here", "_law_thing", "_law_at", "_law_way"] ["_law_pen_here", "_law_thing"] (defScope s_law_spoiled) := Zsc
theorem sc_law_right : FnScope ["_law_thing", "_law_due", "_law_found"] ["_law_thing", "_law_due"] (defScope s_law_right) := Zsc
theorem sc_law : FnScope ["_law_script", "_law_pen_here", "_law_names_here", "_law_keys_here", "_law_k", "_law_cell", "_law_row_here", "_law_turn", "_law_thing"] ["_law_script"] (defScope s_law) := Zsc
structure Txt (K : W.Frag) (mg : Str -> Option Value) : Prop where
  b_isinstance : mg "isinstance" = none
  b_int : mg "int" = none
  b_bool : mg "bool" = none
  b_all : mg "all" = none
  b_any : mg "any" = none
  b_str : mg "str" = none
  b_len : mg "len" = none
  b_tuple : mg "tuple" = none
  b_zip : mg "zip" = none
  b_list : mg "list" = none
  b_range : mg "range" = none
  b_min : mg "min" = none
  b_max : mg "max" = none
  b_enumerate : mg "enumerate" = none
  g_LETTERS : ∃ t, mg "LETTERS" = some (.str ("abcdefghijklmnopqrstuvwxyz") t)
  g_FIGURES : ∃ t, mg "FIGURES" = some (.str ("0123456789") t)
  g_LONGEST_NAME : ∃ t, mg "LONGEST_NAME" = some (.int (8) t)
  g_LONGEST_KEY : ∃ t, mg "LONGEST_KEY" = some (.int (12) t)
  g_MOST : ∃ t, mg "MOST" = some (.int (1000000000000) t)
structure Top (Pm : Params) (K : W.Frag) (mg : Str -> Option Value) : Prop where
  g_NAME_COUNTS : ∃ a, mg "NAME_COUNTS" = some (.ref a) /\ KTab K Pm a (WS)
  g_UNLIKE_WORDS : ∃ a, mg "UNLIKE_WORDS" = some (.ref a) /\ ∀ H, SqT K H a (UW)
  g_PARTS : ∃ a, mg "PARTS" = some (.ref a) /\ KTabT K Pm a (PTS)
  g_BOUNDS : ∃ a, mg "BOUNDS" = some (.ref a) /\ KTabT K Pm a (BDS)
section
variable {P : Program} {w : World} {K : W.Frag} {mg : Str -> Option Value} {base : Heap}
theorem ok_pen (T : Txt K mg) (D : DefAt K mg "_law_pen" s_law_pen ["_law_cell", "_law_k"]) : Callee P w K mg base 1 "_law_pen" ["_law_cell", "_law_k"] spPen := by
  refine D.go sc_law_pen (fun vs H Q E h => ?_) (fun f cdv A outer s H vs Q E hr h => ?_)
  . obtain ⟨c, k, rfl, _⟩ := h; rfl
  . obtain ⟨c, k, rfl, q⟩ := h
    refine ⟨_, (R.sone (R.ret (R.lst (R.cons (R.callB (R.max rfl) rfl T.b_max bb_max (R.cons R.int (R.cons (R.op R.sub (R.v 0) (R.op R.pow R.int R.int)) R.nil))) (R.cons (R.op R.mod (R.op R.add (R.op R.add (R.op R.mul (R.op R.mod (R.v 0) R.int) R.int) (R.op R.mul R.int (R.v 1))) R.int) R.int) R.nil))))), ?_⟩
    refine ⟨⟨by decide, by decide, by decide⟩, ?_⟩
    refine ⟨by show (0 : Int) < _; decide, .inr ⟨by decide, by decide⟩, .inl ⟨by decide, by decide⟩, by show (0 : Int) < _; decide, szl rfl, fun p hp => ?_⟩
    refine q p _ hp (same_upd hp) ⟨_, _, upd_same, ?_, Int.emod_nonneg _ (by decide), Int.emod_lt_of_pos _ (by decide)⟩
    split <;> omega
theorem ok_take (T : Txt K mg) (D : DefAt K mg "_law_take" s_law_take ["_law_pen_here", "_law_most"]) : Callee P w K mg base 1 "_law_take" ["_law_pen_here", "_law_most"] spTake := by
  refine D.go sc_law_take (fun vs H Q E h => ?_) (fun f cdv A outer s H vs Q E hr h => ?_)
  . obtain ⟨p, m, rfl, _⟩ := h; rfl
  . obtain ⟨p, m, rfl, ⟨i, j, g, i0, j0, j1⟩, m0, m1, q⟩ := h
    refine ⟨_, (R.scons (R.ife (R.tcmp R.gt (R.ix (R.kiL (K := K)) (R.v 0) R.int) R.int) (R.scons (R.set (i := 2) sc_law_take.nd (R.op R.mod (R.ix (R.kiL (K := K)) (R.v 0) R.int) (R.v 1))) (R.scons (R.asg (R.op R.fdivL (R.ix (R.kiL (K := K)) (R.v 0) R.int) (R.v 1)) (R.gsub (R.v 0) R.int R.setL)) (R.sone (R.ret (R.v 2))))) R.snil) (R.scons (R.set (i := 2) sc_law_take.nd R.int) (R.scons (R.for_ PassesOwn.never rfl (R.range1 rfl T.b_range (R.cons (R.op R.add R.int (R.callTy R.toInt rfl T.b_int bb_int (R.cons (R.cmp R.gt (R.v 1) (R.op R.pow R.int R.int)) R.nil))) R.nil)) (R.gn (i := 3) sc_law_take.nd) (R.scons (R.asg (R.op R.mod (R.op R.add (R.op R.add (R.op R.mul (R.ix (R.kiL (K := K)) (R.v 0) R.int) (R.ix (R.kiL (K := K)) (R.v 0) R.int)) (R.op R.mul R.int (R.ix (R.kiL (K := K)) (R.v 0) R.int))) R.int) R.int) (R.gsub (R.v 0) R.int R.setL)) (R.scons (R.set (i := 4) sc_law_take.nd (R.op R.mod (R.op R.add (R.op R.mul (R.ix (R.kiL (K := K)) (R.v 0) R.int) R.int) R.int) R.int)) (R.sone (R.set (i := 2) sc_law_take.nd (R.op R.add (R.op R.mul (R.v 2) R.int) (R.op R.mod (R.op R.mul (R.v 4) (R.v 4)) R.int))))))) (R.sone (R.ret (R.op R.mod (R.op R.fdivL (R.v 2) R.int) (R.v 1))))))), ?_⟩
    refine ⟨_, SqL.of g, _, rfl, ?_⟩
    refine if_b (fun h => ?_) (fun h => ?_)
    . have hi : 0 < i := of_decide_eq_true h
      refine ⟨_, SqL.of g, _, rfl, m0, _, SqL.of g, _, rfl, ⟨m0, by omega⟩, p, _, _, _, rfl, rfl, g, rfl, ?_⟩
      exact q _ _ (Int.emod_nonneg _ (by omega)) (Int.emod_lt_of_pos _ m0) ⟨_, _, upd_same, Int.ediv_nonneg i0 (by omega), j0, j1⟩ fun c o e n => by rw [upd_ne n]; exact e
    . dsimp only [tNext]; refine ⟨⟨by decide, by decide, by decide⟩, ?_⟩
      refine ⟨_, rfl, by split <;> decide, by split <;> decide, ?_⟩
      refine for_seq (seq_range 0 _) (fun _ σ H' => ∃ (f : Int) (o3 o4 : Option V), σ = [some (.ref p), some (.int m), some (.int f), o3, o4] /\ 0 <= f /\ PenAt H' p /\ K1 p H H') (fun _ _ _ _ => trivial) ⟨0, _, _, rfl, by decide, ⟨i, j, g, i0, j0, j1⟩, fun c o e _ => e⟩ ?_ ?_
      . rintro _ v σ H' hv ⟨f, o3, o4, rfl, f0, ⟨i', j', g', i0', j0', j1'⟩, k'⟩
        dsimp only [gName]; refine ⟨_, SqL.of g', _, rfl, _, SqL.of g', _, rfl, .inl ⟨by omega, by omega⟩, _, SqL.of g', _, rfl, .inl ⟨by decide, by decide⟩, by show (0 : Int) < _; decide, p, _, _, _, rfl, rfl, g', rfl, ?_⟩
        have h0 := Int.emod_nonneg (j' * j' + 48271 * j' + 11) (show (2147483629 : Int) ≠ 0 by decide)
        have h1 := Int.emod_lt_of_pos (j' * j' + 48271 * j' + 11) (show (0 : Int) < 2147483629 by decide)
        refine ⟨_, SqL.of upd_same, _, rfl, .inr ⟨by decide, by decide⟩, by show (0 : Int) < _; decide, ?_⟩
        dsimp only [gName]; generalize hx : ((j' * j' + 48271 * j' + 11) % 2147483629 * 40692 + 5) % 2147483399 = x; have x0 : 0 <= x := by rw [<- hx]; exact Int.emod_nonneg _ (by decide)
        have x1 : x < 2147483399 := by rw [<- hx]; exact Int.emod_lt_of_pos _ (by decide)
        refine ⟨.inr ⟨by decide, by decide⟩, .inl ⟨by omega, by omega⟩, by show (0 : Int) < _; decide, _, _, _, rfl, ?_, ⟨_, _, upd_same, i0', h0, h1⟩, fun c o e n => by rw [upd_ne n]; exact k' c o e n⟩
        have := Int.emod_nonneg (x * x) (show (998244353 : Int) ≠ 0 by decide)
        omega
      . rintro σ H' ⟨f, o3, o4, rfl, f0, pn, k'⟩
        exact ⟨⟨by decide, by decide⟩, m0, q _ _ (Int.emod_nonneg _ (by omega)) (Int.emod_lt_of_pos _ m0) pn k'⟩
theorem ok_cell (T : Txt K mg) (D : DefAt K mg "_law_cell_at" s_law_cell_at ["_law_script", "_law_k"]) : Callee P w K mg base 1 "_law_cell_at" ["_law_script", "_law_k"] (spCell K) := by
  refine D.go sc_law_cell_at (fun vs H Q E h => ?_) (fun f cdv A outer s H vs Q E hr h => ?_)
  . obtain ⟨a, ns, k, rfl, _⟩ := h; rfl
  . obtain ⟨a, ns, k, rfl, hS, q⟩ := h
    refine ⟨_, (R.scons (R.ife (R.tcmp R.lt (R.v 1) (R.callB (R.klenL (K := K)) rfl T.b_len bb_len (R.cons (R.v 0) R.nil))) (R.sone (R.ret (R.ix (R.kiL (K := K)) (R.v 0) (R.v 1)))) R.snil) (R.sone (R.ret R.int))), ?_⟩
    refine ⟨_, .inl hS, ?_⟩
    refine if_b (fun h => ?_) (fun h => q 0)
    have hk : k < ns.length := by
      have := of_decide_eq_true h
      rw [Zlm] at this; omega
    exact ⟨_, hS, _, atI_nat (by rw [Zgm, Zge hk]; rfl), q _⟩
theorem ok_number20 (T : Txt K mg) (cLtake : Callee P w K mg base 1 "_law_take" ["_law_pen_here", "_law_most"] spTake) (D : DefAt K mg "_law_number" s_law_number ["_law_pen_here", "_law_least", "_law_most"]) : Callee P w K mg base 2 "_law_number" ["_law_pen_here", "_law_least", "_law_most"] spNumber20 := by
  refine D.go sc_law_number (fun vs H Q E h => ?_) (fun f cdv A outer s H vs Q E hr h => ?_)
  . obtain ⟨p, lo, hi, rfl, _⟩ := h; rfl
  . obtain ⟨p, lo, hi, rfl, pn, hlh, hd, q⟩ := h
    have hLtake := hr
    refine ⟨_, (R.scons (R.set (i := 3) sc_law_number.nd (R.fn cLtake hLtake rfl (R.cons (R.v 0) (R.cons R.int R.nil)))) (R.scons (R.ife (R.tcmp R.lt (R.v 3) R.int) (R.sone (R.ret (R.ix (R.kiL (K := K)) (R.lst (R.cons (R.v 1) (R.cons (R.v 2) R.nil))) (R.v 3)))) R.snil) (R.scons (R.ife (R.tcmp R.eq (R.v 3) R.int) (R.sone (R.ret (R.callB (R.min rfl) rfl T.b_min bb_min (R.cons (R.v 2) (R.cons (R.op R.add (R.v 1) (R.fn cLtake hLtake rfl (R.cons (R.v 0) (R.cons R.int R.nil)))) R.nil))))) R.snil) (R.scons (R.ife (R.tcmp R.eq (R.v 3) R.int) (R.sone (R.ret (R.callB (R.max rfl) rfl T.b_max bb_max (R.cons (R.v 1) (R.cons (R.op R.sub (R.v 2) (R.fn cLtake hLtake rfl (R.cons (R.v 0) (R.cons R.int R.nil)))) R.nil))))) R.snil) (R.sone (R.ret (R.op R.add (R.v 1) (R.fn cLtake hLtake rfl (R.cons (R.v 0) (R.cons (R.op R.add (R.op R.sub (R.v 2) (R.v 1)) R.int) R.nil)))))))))), ?_⟩
    refine ⟨p, 5, rfl, pn, by decide, by decide, fun r H1 a0 a1 p1 k1 => ?_⟩
    dsimp only [gName]; rcases (by omega : r = 0 ∨ r = 1 ∨ r = 2 ∨ r = 3 ∨ r = 4) with rfl | rfl | rfl | rfl | rfl
    . refine ⟨szl rfl, fun l hl => ⟨_, SqL.of upd_same, _, rfl, q _ _ (Int.le_refl _) hlh (p1.same (same_upd hl)) (k1.trans (.of (same_upd hl)))⟩⟩
    . refine ⟨szl rfl, fun l hl => ⟨_, SqL.of upd_same, _, rfl, q _ _ hlh (Int.le_refl _) (p1.same (same_upd hl)) (k1.trans (.of (same_upd hl)))⟩⟩
    . refine ⟨p, 9, rfl, p1, by decide, by decide, fun r2 H2 b0 b1 p2 k2 => q _ _ ?_ ?_ p2 (k1.trans k2)⟩ <;> split <;> omega
    . refine ⟨p, 9, rfl, p1, by decide, by decide, fun r2 H2 b0 b1 p2 k2 => q _ _ ?_ ?_ p2 (k1.trans k2)⟩ <;> split <;> omega
    . exact ⟨p, _, rfl, p1, by omega, by omega, fun r2 H2 b0 b1 p2 k2 => q _ _ (by omega) (by omega) p2 (k1.trans k2)⟩
theorem ok_made (T : Txt K mg) (D : DefAt K mg "is_made_of" s_is_made_of ["thing", "signs", "longest"]) : Callee P w K mg base 1 "is_made_of" ["thing", "signs", "longest"] spMade := by
  refine D.go sc_is_made_of (fun vs H Q E h => ?_) (fun f cdv A outer s H vs Q E hr h => ?_)
  . obtain ⟨x, sg, n, k, rfl, _⟩ := h; rfl
  . obtain ⟨x, sg, n, k, rfl, hk, hz, q⟩ := h
    refine ⟨_, (R.scons (R.ife (R.tw (R.wor (R.tnot (R.val (R.isi .str (R.v 0) rfl T.b_isinstance rfl T.b_str bb_str))) (R.wor1 (R.tnot (R.tchain R.le R.le R.int (R.callB R.lenS rfl T.b_len bb_len (R.cons (R.v 0) R.nil)) (R.v 2)))))) (R.sone (R.ret R.bl)) R.snil) (R.sone (R.ret (R.callB (R.kall (K := K) rfl) rfl T.b_all bb_all (R.cons (R.comp rfl (js := [none, some 1]) (N := ["sign", "signs"]) (CompScope.by (defScope s_is_made_of) ["thing", "signs", "longest"] rfl rfl (by decide +kernel)) (gown_name rfl) (R.wS (R.v 0)) (fun C s₂ H₂ fp => ⟨(R.gn (i := 0) (show (["sign", "signs"] : List Str).Nodup by decide +kernel)), R.ts0, (R.cmp R.inS (R.v 0) (R.v 1))⟩)) R.nil))))), ?_⟩
    have no : isK .str k = false -> madeOf x sg.cps.toList n = false := fun e => by
      cases x <;> first | rfl | (cases k <;> first | exact hk.elim | cases e)
    refine ⟨k, hk, ?_⟩
    cases x with
    | str z =>
      cases k <;> first | exact hk.elim | skip
      have hz1 := hz z rfl
      refine ⟨szl' hz1, ?_⟩
      refine if_b (fun h1 => ?_) (fun h1 => ?_)
      . refine if_b (fun h2 => ?_) (fun h2 => ?_)
        . have e : madeOf (.str z) sg.cps.toList n = false := by
            rw [madeOf_str]; have h2' : decide ((z.length : Int) <= n) = false := by simpa using h2
            rw [h2']; simp
          have h := q H (Same.refl H)
          rw [e] at h; exact h
        . refine ⟨z, rfl, comp_pure (seq_str z) (by simp [signs, Str.length] at hz1 ⊢; omega) (fun _ => true) (fun v => match v with | .str y => .bl (decide (y.cps.toList.headD 0 ∈ sg.cps.toList)) | _ => .non) trivial (fun v ys N hv ht hf => ?_) ?_⟩
          . obtain ⟨c, hc, rfl⟩ := Zmm.mp hv
            exact ⟨c, rfl, ht rfl⟩
          . intro p hp; refine ⟨p, z.cps.toList.map (fun c => decide (c ∈ sg.cps.toList)), rfl, SqL.of (by rw [upd_same, List.filter_eq_self.mpr (fun _ _ => rfl)]; unfold signs; rw [List.map_map, List.map_map]; rfl), ?_⟩
            have e : madeOf (.str z) sg.cps.toList n = List.all (z.cps.toList.map (fun c => decide (c ∈ sg.cps.toList))) id := by
              rw [madeOf_str]; have h2' : decide ((z.length : Int) <= n) = true := by simpa using h2
              have h1' : decide (1 <= (z.length : Int)) = true := h1
              rw [h2', h1', List.all_map]; simp [Function.comp_def]
            rw [<- e]; exact q _ (fun c o e => by rw [upd_ne (ne_of_none e hp)]; exact e)
      . have e : madeOf (.str z) sg.cps.toList n = false := by
          rw [madeOf_str]; have h1' : decide (1 <= (z.length : Int)) = false := h1
          rw [h1']; simp
        have h := q H (Same.refl H)
        rw [e] at h; exact h
    | _ =>
      cases k <;> first | exact hk.elim | exact q H (Same.refl H)
theorem ok_is_name (T : Txt K mg) (c_is_made_of : Callee P w K mg base 1 "is_made_of" ["thing", "signs", "longest"] spMade) (D : DefAt K mg "is_name" s_is_name ["thing"]) : Callee P w K mg base 2 "is_name" ["thing"] (spTell LET 8) := by
  refine D.go sc_is_name (fun vs H Q E h => ?_) (fun f cdv A outer s H vs Q E hr h => ?_)
  . obtain ⟨x, k, rfl, _⟩ := h; rfl
  . obtain ⟨x, k, rfl, hk, hz, q⟩ := h
    have hr_is_made_of := hr
    refine ⟨_, (R.sone (R.ret (R.fn c_is_made_of hr_is_made_of rfl (R.cons (R.v 0) (R.cons (R.gS rfl T.g_LETTERS) (R.cons (R.gI rfl T.g_LONGEST_NAME) R.nil)))))), ?_⟩
    refine ⟨x, _, 8, k, rfl, hk, hz, fun H' s' => ?_⟩
    rw [let_eq]; exact q H' s'
theorem ok_is_key (T : Txt K mg) (c_is_made_of : Callee P w K mg base 1 "is_made_of" ["thing", "signs", "longest"] spMade) (D : DefAt K mg "is_key" s_is_key ["thing"]) : Callee P w K mg base 2 "is_key" ["thing"] (spTell (LET ++ FIG) 12) := by
  refine D.go sc_is_key (fun vs H Q E h => ?_) (fun f cdv A outer s H vs Q E hr h => ?_)
  . obtain ⟨x, k, rfl, _⟩ := h; rfl
  . obtain ⟨x, k, rfl, hk, hz, q⟩ := h
    have hr_is_made_of := hr
    refine ⟨_, (R.sone (R.ret (R.fn c_is_made_of hr_is_made_of rfl (R.cons (R.v 0) (R.cons (R.op R.addS (R.gS rfl T.g_LETTERS) (R.gS rfl T.g_FIGURES)) (R.cons (R.gI rfl T.g_LONGEST_KEY) R.nil)))))), ?_⟩
    refine ⟨by decide +kernel, x, _, 12, k, rfl, hk, hz, fun H' s' => ?_⟩
    rw [app_cps, let_eq, fig_eq]; exact q H' s'
theorem ok_whole (T : Txt K mg) (D : DefAt K mg "is_whole" s_is_whole ["thing", "least", "most"]) : Callee P w K mg base 1 "is_whole" ["thing", "least", "most"] spWhole := by
  refine D.go sc_is_whole (fun vs H Q E h => ?_) (fun f cdv A outer s H vs Q E hr h => ?_)
  . obtain ⟨x, lo, hi, rfl, _⟩ := h; rfl
  . obtain ⟨x, lo, hi, rfl, ⟨k, hk, hz⟩, q⟩ := h
    refine ⟨_, (R.scons (R.ife (R.tw (R.wor (R.tnot (R.val (R.isi .int (R.v 0) rfl T.b_isinstance rfl T.b_int bb_int))) (R.wor1 (R.val (R.isi .bl (R.v 0) rfl T.b_isinstance rfl T.b_bool bb_bool))))) (R.sone (R.ret R.bl)) R.snil) (R.sone (R.ret (R.chain R.le R.le (R.v 1) (R.v 0) (R.v 2))))), ?_⟩
    have h := q H (Same.refl H)
    refine ⟨k, hk, ?_⟩
    cases x with
    | int n =>
      cases k <;> first | exact hk.elim | skip
      refine ⟨.int, trivial, ?_⟩
      show if decide (lo <= n) = true then _ else _
      have e : numV lo hi (.int n) = (decide (lo <= n) && decide (n <= hi)) := rfl
      refine if_b (fun h1 => ?_) (fun h1 => ?_)
      . rw [e, h1, Bool.true_and] at h; exact h
      . rw [e, h1, Bool.false_and] at h; exact h
    | bl b =>
      cases k <;> first | exact hk.elim | skip
      exact ⟨.bl, trivial, h⟩
    | _ => cases k <;> first | exact hk.elim | exact h
theorem ok_fits (T : Txt K mg) (U : Top w.params K mg) (c_is_name : Callee P w K mg base 2 "is_name" ["thing"] (spTell LET 8)) (D : DefAt K mg "fits_word" s_fits_word ["word", "names"]) : Callee P w K mg base 3 "fits_word" ["word", "names"] spFits := by
  refine D.go sc_fits_word (fun vs H Q E h => ?_) (fun f cdv A outer s H vs Q E hr h => ?_)
  . obtain ⟨x, a, ns, rfl, _⟩ := h; rfl
  . obtain ⟨x, a, ns, rfl, ⟨k, hk, hz⟩, ha, hns, hp, q⟩ := h
    have hr_is_name := hr
    obtain ⟨aN, m_NAME_COUNTS, tN⟩ := U.g_NAME_COUNTS
    obtain ⟨aU, m_UNLIKE_WORDS, tU⟩ := U.g_UNLIKE_WORDS
    refine ⟨_, (R.scons (R.ife (R.tw (R.wor (R.tnot (R.val (R.isi .str (R.v 0) rfl T.b_isinstance rfl T.b_str bb_str))) (R.wor1 (R.tcmp (R.knotInK (K := K) (P := w.params)) (R.v 0) (R.gR rfl m_NAME_COUNTS))))) (R.sone (R.ret R.bl)) R.snil) (R.scons (R.ife (R.tw (R.wor (R.tcmp R.ne (R.callB (R.klenL (K := K)) rfl T.b_len bb_len (R.cons (R.v 1) R.nil)) (R.ix (R.kiK (K := K) (P := w.params)) (R.gR rfl m_NAME_COUNTS) (R.v 0))) (R.wor1 (R.tnot (R.val (R.callB (R.kall (K := K) rfl) rfl T.b_all bb_all (R.cons (R.comp rfl (js := [none]) (N := ["name"]) (CompScope.by (defScope s_fits_word) ["word", "names"] rfl rfl (by decide +kernel)) (gown_name rfl) (R.kwT (K := K) (R.v 1)) (fun C s₂ H₂ fp => ⟨(R.gn (i := 0) (show (["name"] : List Str).Nodup by decide +kernel)), R.ts0, (R.fn c_is_name hr_is_name rfl (R.cons (R.v 0) R.nil))⟩)) R.nil))))))) (R.sone (R.ret R.bl)) R.snil) (R.sone (R.ret (R.or (R.cmp (R.knotInQ (K := K)) (R.v 0) (R.gR rfl m_UNLIKE_WORDS)) (R.one (R.cmp R.ne (R.ix (R.kiT (K := K)) (R.v 1) R.int) (R.ix (R.kiT (K := K)) (R.v 1) R.int)))))))), ?_⟩
    have h := q H (Same.refl H)
    refine ⟨k, hk, ?_⟩
    cases x with
    | str z =>
      cases k <;> first | exact hk.elim | skip
      refine ⟨WS, tN, ?_⟩
      show if (!(WS.lookup z).isSome) = true then _ else _
      cases e : WS.lookup z with
      | none =>
        have e2 : fitsB (.str z) ns = false := by unfold fitsB; simp only [e]
        rw [e2] at h; exact h
      | some i =>
        have e2 : fitsB (.str z) ns = (decide ((ns.length : Int) = i) && ns.all nmV && (!inV (.str z) UW || !decide (atI ns 0 = atI ns 1))) := by unfold fitsB; simp only [e]
        refine ⟨ns, .inr (SqT.of ha), WS, i, tN, e, ?_⟩
        refine if_b (fun h1 => ?_) (fun h1 => ?_)
        . have h1' : decide ((ns.length : Int) = i) = false := by simpa using h1
          rw [e2, h1'] at h; exact h
        . have h1' : decide ((ns.length : Int) = i) = true := by simpa using h1
          refine ⟨a, rfl, ⟨_, SqT.of ha⟩, ?_⟩
          refine comp_seq (seq_tup K a ns) (by omega) (fun j ys H' => ys = (ns.take j).map (fun y => V.bl (nmV y)) /\ Same H H') (fun j ys H' ⟨e3, s3⟩ => ⟨SqT.of (s3 _ _ ha), by rw [e3, Zlm, Zlk]; omega⟩) ⟨rfl, Same.refl H⟩ (fun j y ys H' hy ⟨e3, s3⟩ => ?_) (fun ys H' ⟨e3, s3⟩ => ?_)
          . obtain ⟨ky, hky, hzy⟩ := (hp y (Zmg hy)).same s3
            refine ⟨y, ky, rfl, hky, hzy, fun H'' s'' => ⟨?_, s3.trans s''⟩⟩
            rw [List.take_add_one, hy, Zap, e3]; rfl
          . intro p hpn; rw [Ztl (Znr _)] at e3; have hs : Same H (upd H' p (.lst ys)) := s3.trans (same_upd hpn)
            refine ⟨p, ns.map nmV, rfl, SqL.of (by rw [upd_same, e3, List.map_map]; rfl), ?_⟩
            have e4 : List.all (ns.map nmV) id = ns.all nmV := by rw [List.all_map]; rfl
            have h5 := q _ hs
            dsimp only; rw [e4]; cases e5 : ns.all nmV with
            | false =>
              rw [e2, h1', e5] at h5; exact h5
            | true =>
              rw [e2, h1', e5] at h5; refine ⟨aU, UW, rfl, .inr (tU _), rfl, rfl, ?_⟩
              show if (!inV (.str z) UW) = true then _ else _
              cases e6 : inV (.str z) UW with
              | false =>
                rw [e6] at h5; exact h5
              | true =>
                rw [e6] at h5; have i2 := WS_uw e e6
                have hl : (ns.length : Int) = i := of_decide_eq_true h1'
                obtain ⟨y0, hy0, m0⟩ := atI_some (xs := ns) (i := 0) (by decide) (by omega)
                obtain ⟨y1, hy1, m1⟩ := atI_some (xs := ns) (i := 1) (by decide) (by omega)
                have n0 := List.all_eq_true.mp e5 y0 m0
                have n1 := List.all_eq_true.mp e5 y1 m1
                refine ⟨ns, SqT.of (hs _ _ ha), y0, hy0, ns, SqT.of (hs _ _ ha), y1, hy1, ?_⟩
                rw [hy0, hy1] at h5; cases y0 <;> first | (unfold nmV madeOf at n0; exact absurd n0 Bool.false_ne_true) | skip
                cases y1 <;> first | (unfold nmV madeOf at n1; exact absurd n1 Bool.false_ne_true) | skip
                rename_i z0 z1
                have e7 : decide (some (V.str z0) = some (V.str z1)) = decide (z0 = z1) := by
                  rw [decide_eq_decide]; constructor
                  . intro e8; injection e8 with e8; injection e8
                  . intro e8; rw [e8]
                rw [e7] at h5; exact h5
    | _ => cases k <;> first | exact hk.elim | exact h
theorem ok_is_deed (T : Txt K mg) (c_fits_word : Callee P w K mg base 3 "fits_word" ["word", "names"] spFits) (c_is_whole : Callee P w K mg base 1 "is_whole" ["thing", "least", "most"] spWhole) (D : DefAt K mg "is_deed" s_is_deed ["thing"]) : Callee P w K mg base 4 "is_deed" ["thing"] spIsDeed := by
  refine D.go sc_is_deed (fun vs H Q E h => ?_) (fun f cdv A outer s H vs Q E hr h => ?_)
  . obtain ⟨x, rfl, _⟩ := h; rfl
  . obtain ⟨x, rfl, ⟨⟨k, hk, hz⟩, hp⟩, hlen, q⟩ := h
    have hr_fits_word := hr
    have hr_is_whole : Room 1 _ := hr.mono (by decide)
    refine ⟨_, (R.scons (R.ife (R.tw (R.wor (R.tnot (R.val (R.isi .tup (R.v 0) rfl T.b_isinstance rfl T.b_tuple bb_tuple))) (R.wor1 (R.tcmp R.lt (R.callB (R.klenL (K := K)) rfl T.b_len bb_len (R.cons (R.v 0) R.nil)) R.int)))) (R.sone (R.ret R.bl)) R.snil) (R.sone (R.ret (R.and (R.fn c_fits_word hr_fits_word rfl (R.cons (R.ix (R.kiT (K := K)) (R.v 0) R.int) (R.cons (R.sl R.sT (R.v 0) (R.ps R.int) (R.ps (R.neg R.int))) R.nil))) (R.one (R.fn c_is_whole hr_is_whole rfl (R.cons (R.ix (R.kiT (K := K)) (R.v 0) (R.neg R.int)) (R.cons R.int (R.cons (R.gI rfl T.g_MOST) R.nil))))))))), ?_⟩
    have h := q H (Same.refl H)
    refine ⟨k, hk, ?_⟩
    cases x with
    | ref a =>
      cases k <;> first | exact hk.elim | skip
      case tup =>
        obtain ⟨xs, hx⟩ := hk
        have hpx := hp a xs rfl hx
        have hlx := hlen a xs rfl hx
        have eV : deedV H (.ref a) = deedB xs := by unfold deedV; simp only [hx]
        refine ⟨xs, .inr (SqT.of hx), ?_⟩
        refine if_b (fun h1 => ?_) (fun h1 => ?_)
        . have h1' : ((xs.length : Int) < 3) := of_decide_eq_true h1
          have e1 : deedB xs = false := by
            unfold deedB; rw [decide_eq_false (by omega)]; rfl
          rw [eV, e1] at h; exact h
        . have h1' : ¬ ((xs.length : Int) < 3) := of_decide_eq_false h1
          have h3 : 3 <= xs.length := by omega
          obtain ⟨y0, hy0, m0⟩ := atI_some (xs := xs) (i := 0) (by decide) (by omega)
          refine ⟨xs, SqT.of hx, y0, hy0, xs, hx, fun p H1 s1 g1 => ?_⟩
          refine ⟨y0, p, _, rfl, (hpx y0 m0).same s1, g1, ?_, fun y hy => (hpx y (mid_mem h3 hy)).same s1, fun H2 s2 => ?_⟩
          . have := mid_len h3
            unfold midV at this; omega
          have e2 : deedB xs = (fitsB y0 (midV xs) && numV 1 1000000000000 ((atI xs (-1)).getD .non)) := by
            unfold deedB; rw [decide_eq_true h3, hy0]; rfl
          have hs := s1.trans s2
          have h5 := q H2 hs
          show if fitsB y0 (midV xs) = true then _ else _
          cases e3 : fitsB y0 (midV xs) with
          | false =>
            rw [eV, e2, e3] at h5; exact h5
          | true =>
            rw [eV, e2, e3] at h5; obtain ⟨yl, hyl, ml⟩ : ∃ v, atI xs (-1) = some v /\ v ∈ xs := by
              have hj : xs.length - 1 < xs.length := by omega
              refine ⟨xs[xs.length - 1], ?_, List.getElem_mem hj⟩
              unfold atI ixN; rw [if_neg (by decide), if_pos (by omega)]
              have : ((-1 : Int) + (xs.length : Int)).toNat = xs.length - 1 := by omega
              simp [this, hj]
            refine ⟨xs, SqT.of (hs _ _ hx), yl, hyl, ?_⟩
            refine ⟨yl, 1, 1000000000000, rfl, (hpx yl ml).same hs, fun H3 s3 => ?_⟩
            have h6 := q H3 (hs.trans s3)
            rw [eV, e2, e3, hyl] at h6; exact h6
      all_goals
        have e1 : deedV H (.ref a) = false := by
          unfold deedV; first
            | (rcases hk with ⟨xs, e⟩ | ⟨o, xs, e⟩ <;> simp only [e])
            | (obtain ⟨kvs, e⟩ := hk; simp only [e])
        rw [e1] at h; exact h
    | _ => cases k <;> first | exact hk.elim | exact h
inductive Deed6 (zs : List Str) : List V -> Prop
  | one (z a : Str) (n : Int) : (z = "add" ∨ z = "take") -> a ∈ zs -> 1 <= n -> n <= 1000000000000 -> Deed6 zs [.str z, .str a, .int n]
  | move (a b : Str) (n : Int) : a ∈ zs -> b ∈ zs -> a ≠ b -> 1 <= n -> n <= 1000000000000 -> Deed6 zs [.str "move", .str a, .str b, .int n]
  | two (z a b : Str) (n : Int) : (z = "send" ∨ z = "fetch") -> a ∈ zs -> b ∈ zs -> 1 <= n -> n <= 1000000000000 -> Deed6 zs [.str z, .str a, .str b, .int n]
  | pass (a b c : Str) (n : Int) : a ∈ zs -> b ∈ zs -> c ∈ zs -> a ≠ b -> 1 <= n -> n <= 1000000000000 -> Deed6 zs [.str "pass", .str a, .str b, .str c, .int n]
theorem PenAt.neS {H : Hp} {p l : Addr} {zs : List Str} (h : PenAt H p) (hl : H l = some (.lst (zs.map V.str))) (hz : zs ≠ []) : l ≠ p := fun e => by
  obtain ⟨i, j, g, _⟩ := h
  rw [e, g] at hl; cases zs with
  | nil => exact hz rfl
  | cons z r => cases hl
theorem PenAt.tup {H : Hp} {p t : Addr} {xs : List V} (h : PenAt H p) (e : H t = some (.tup xs)) : t ≠ p := fun z => by
  obtain ⟨i, j, g, _⟩ := h
  rw [z, g] at e; cases e
def spDeed40 : Sp := fun vs H Q _ => ∃ (p ln : Addr) (zs : List Str), vs = [.ref p, .ref ln] /\ PenAt H p /\ H ln = some (.lst (zs.map V.str)) /\ zs.Nodup /\ 2 <= zs.length /\ zs.length <= 100 /\ ∀ t xs H', Deed6 zs xs -> H' t = some (.tup xs) -> PenAt H' p -> K1 p H H' -> Q (.ref t) H'
theorem ok_deed40 (T : Txt K mg) (cLtake : Callee P w K mg base 1 "_law_take" ["_law_pen_here", "_law_most"] spTake) (cLnumber : Callee P w K mg base 2 "_law_number" ["_law_pen_here", "_law_least", "_law_most"] spNumber20) (D : DefAt K mg "_law_deed" s_law_deed ["_law_pen_here", "_law_names_here"]) : Callee P w K mg base 3 "_law_deed" ["_law_pen_here", "_law_names_here"] spDeed40 := by
  refine D.go sc_law_deed (fun vs H Q E h => ?_) (fun f cdv A outer s H vs Q E hr h => ?_)
  . obtain ⟨p, ln, zs, rfl, _⟩ := h; rfl
  . obtain ⟨p, ln, zs, rfl, pn, hln, hnd, h2, h100, q⟩ := h
    have hLtake : Room 1 _ := hr.mono (by decide)
    have hLnumber := hr
    refine ⟨_, (R.scons (R.set (i := 2) sc_law_deed.nd (R.ix (R.kiL (K := K)) (R.lst (R.cons R.str (R.cons R.str (R.cons R.str (R.cons R.str (R.cons R.str (R.cons R.str R.nil))))))) (R.fn cLtake hLtake rfl (R.cons (R.v 0) (R.cons R.int R.nil))))) (R.scons (R.set (i := 3) sc_law_deed.nd (R.fn cLtake hLtake rfl (R.cons (R.v 0) (R.cons (R.callB (R.klenL (K := K)) rfl T.b_len bb_len (R.cons (R.v 1) R.nil)) R.nil)))) (R.scons (R.set (i := 4) sc_law_deed.nd (R.ix (R.kiL (K := K)) (R.v 1) (R.op R.mod (R.op R.add (R.op R.add (R.v 3) R.int) (R.fn cLtake hLtake rfl (R.cons (R.v 0) (R.cons (R.op R.sub (R.callB (R.klenL (K := K)) rfl T.b_len bb_len (R.cons (R.v 1) R.nil)) R.int) R.nil)))) (R.callB (R.klenL (K := K)) rfl T.b_len bb_len (R.cons (R.v 1) R.nil))))) (R.scons (R.set (i := 5) sc_law_deed.nd (R.ix (R.kiL (K := K)) (R.v 1) (R.fn cLtake hLtake rfl (R.cons (R.v 0) (R.cons (R.callB (R.klenL (K := K)) rfl T.b_len bb_len (R.cons (R.v 1) R.nil)) R.nil))))) (R.scons (R.set (i := 6) sc_law_deed.nd (R.fn cLnumber hLnumber rfl (R.cons (R.v 0) (R.cons R.int (R.cons (R.op R.pow R.int R.int) R.nil))))) (R.scons (R.ife (R.tcmp (R.kinQ (K := K)) (R.v 2) (R.wtup (R.cons R.str (R.cons R.str R.nil)))) (R.sone (R.ret (R.wtup (R.cons (R.v 2) (R.cons (R.v 5) (R.cons (R.v 6) R.nil)))))) R.snil) (R.scons (R.ife (R.tcmp R.eq (R.v 2) R.str) (R.sone (R.ret (R.wtup (R.cons (R.v 2) (R.cons (R.ix (R.kiL (K := K)) (R.v 1) (R.v 3)) (R.cons (R.v 4) (R.cons (R.v 6) R.nil))))))) R.snil) (R.scons (R.ife (R.tcmp R.eq (R.v 2) R.str) (R.sone (R.ret (R.wtup (R.cons (R.v 2) (R.cons (R.ix (R.kiL (K := K)) (R.v 1) (R.v 3)) (R.cons (R.v 4) (R.cons (R.v 5) (R.cons (R.v 6) R.nil)))))))) R.snil) (R.sone (R.ret (R.wtup (R.cons (R.v 2) (R.cons (R.v 4) (R.cons (R.v 5) (R.cons (R.v 6) R.nil))))))))))))))), ?_⟩
    have hzn : zs ≠ [] := fun e => by rw [e] at h2; exact absurd h2 (by decide)
    have npl := PenAt.neS pn hln hzn
    have e12 : (10 : Int) ^ (12 : Int).toNat = 1000000000000 := by decide
    refine ⟨szl rfl, fun l0 h0 => ⟨p, 6, rfl, pn.same (same_upd h0), by decide, by decide, fun r G1 r0 r1 pn1 k1 => ⟨_, SqL.of (k1 _ _ upd_same (pn.ne h0)), ?_⟩⟩⟩
    obtain ⟨wd, hwd, hat⟩ : ∃ wd : Str, (wd = "add" ∨ wd = "take" ∨ wd = "move" ∨ wd = "send" ∨ wd = "fetch" ∨ wd = "pass") /\ atI [V.str "add", .str "take", .str "move", .str "send", .str "fetch", .str "pass"] r = some (.str wd) := by
      rcases six r0 r1 with rfl | rfl | rfl | rfl | rfl | rfl
      . exact ⟨_, .inl rfl, rfl⟩
      . exact ⟨_, .inr (.inl rfl), rfl⟩
      . exact ⟨_, .inr (.inr (.inl rfl)), rfl⟩
      . exact ⟨_, .inr (.inr (.inr (.inl rfl))), rfl⟩
      . exact ⟨_, .inr (.inr (.inr (.inr (.inl rfl)))), rfl⟩
      . exact ⟨_, .inr (.inr (.inr (.inr (.inr rfl)))), rfl⟩
    refine ⟨_, hat, ?_⟩
    dsimp only [gName]; have k01 : K1 p H G1 := (K1.of (same_upd h0)).trans k1
    have g1 := k01 _ _ hln npl
    refine ⟨_, .inl (SqL.of g1), p, _, rfl, pn1, by rw [Zlm]; omega, by rw [Zlm]; omega, fun r' G2 a0 a1 pn2 k2 => ?_⟩
    obtain ⟨j, rfl⟩ := Zio a0
    rw [Zlm] at a1; have hj : j < zs.length := by omega
    have k02 := k01.trans k2
    have g2 := k02 _ _ hln npl
    dsimp only [gName]; refine ⟨_, .inl (SqL.of g2), p, _, rfl, pn2, by rw [Zlm]; omega, by rw [Zlm]; omega, fun r2 G3 b0 b1 pn3 k3 => ?_⟩
    obtain ⟨m, rfl⟩ := Zio b0
    rw [Zlm] at b1; have k03 := k02.trans k3
    have g3 := k03 _ _ hln npl
    have hpos : 0 < zs.length := by omega
    obtain ⟨k, hk⟩ : ∃ k, k = (j + 1 + m) % zs.length := ⟨_, rfl⟩
    have hkl : k < zs.length := by rw [hk]; exact Nat.mod_lt _ hpos
    have ek : ((j : Int) + 1 + (m : Int)) % ((zs.map V.str).length : Int) = (k : Int) := by
      rw [Zlm, hk]; have e : (j : Int) + 1 + (m : Int) = ((j + 1 + m : Nat) : Int) := by omega
      rw [e]; exact (Int.natCast_emod _ _).symm
    have hne : zs[j] ≠ zs[k] := fun e => by
      have := nodup_ix hnd (Zge hj) (by rw [Zge hkl, e])
      rw [hk] at this; by_cases hb : j + 1 + m < zs.length
      . rw [Nat.mod_eq_of_lt hb] at this; omega
      . have h3 : (j + 1 + m) % zs.length = j + 1 + m - zs.length := by
          rw [Nat.mod_eq_sub_mod (by omega), Nat.mod_eq_of_lt (by omega)]
        rw [h3] at this; omega
    refine ⟨_, .inl (SqL.of g3), (show (0 : Int) < ((zs.map V.str).length : Int) by rw [Zlm]; omega), ?_⟩
    dsimp only; rw [ek]; refine ⟨_, SqL.of g3, .str zs[k], atI_nat (by rw [Zgm, Zge hkl]; rfl), ?_⟩
    dsimp only [gName]; refine ⟨_, .inl (SqL.of g3), p, _, rfl, pn3, by rw [Zlm]; omega, by rw [Zlm]; omega, fun r3 G4 c0 c1 pn4 k4 => ?_⟩
    obtain ⟨i3, rfl⟩ := Zio c0
    rw [Zlm] at c1; have hi3 : i3 < zs.length := by omega
    have k04 := k03.trans k4
    have g4 := k04 _ _ hln npl
    refine ⟨_, SqL.of g4, .str zs[i3], atI_nat (by rw [Zgm, Zge hi3]; rfl), ?_⟩
    dsimp only [gName]; refine ⟨⟨by decide, by decide, by decide⟩, p, 1, _, rfl, pn4, by decide, by decide, fun n G5 n0 n1 pn5 k5 => ?_⟩
    dsimp only [gName]; have n1' : n <= 1000000000000 := by rw [<- e12]; exact n1
    have k05 := k04.trans k5
    have g5 := k05 _ _ hln npl
    have mj : zs[j] ∈ zs := List.getElem_mem hj
    have mk : zs[k] ∈ zs := List.getElem_mem hkl
    have mi : zs[i3] ∈ zs := List.getElem_mem hi3
    have one : ∀ {f : V -> Hp -> Prop}, f (.str zs[j]) G5 -> ∃ xs, SqL K G5 ln xs /\ ∃ v, atI xs (j : Int) = some v /\ f v G5 := fun h => ⟨_, SqL.of g5, .str zs[j], atI_nat (by rw [Zgm, Zge hj]; rfl), h⟩
    have fin : ∀ {xs : List V}, Deed6 zs xs -> ∀ t H', Same G5 H' -> H' t = some (.tup xs) -> Q (.ref t) H' := fun h t H' s' g' => q t _ H' h g' (pn5.same s') (k05.trans (K1.of s'))
    rcases hwd with rfl | rfl | rfl | rfl | rfl | rfl
    . refine ⟨by simp, fun ta Ha sa ga => ⟨ta, _, rfl, .inr (SqT.of ga), rfl, rfl, ?_⟩⟩
      have h1 : inV (.str "add") [V.str "add", .str "take"] = true := rfl
      dsimp only; rw [h1]; exact ⟨by simp, fun t H' s' g' => fin (.one _ _ _ (.inl rfl) mi n0 n1') t H' (sa.trans s') g'⟩
    . refine ⟨by simp, fun ta Ha sa ga => ⟨ta, _, rfl, .inr (SqT.of ga), rfl, rfl, ?_⟩⟩
      have h1 : inV (.str "take") [V.str "add", .str "take"] = true := rfl
      dsimp only; rw [h1]; exact ⟨by simp, fun t H' s' g' => fin (.one _ _ _ (.inr rfl) mi n0 n1') t H' (sa.trans s') g'⟩
    . refine ⟨by simp, fun ta Ha sa ga => ⟨ta, _, rfl, .inr (SqT.of ga), rfl, rfl, ?_⟩⟩
      have h1 : inV (.str "move") [V.str "add", .str "take"] = false := rfl
      dsimp only; rw [h1]; exact ⟨_, SqL.of (sa _ _ g5), .str zs[j], atI_nat (by rw [Zgm, Zge hj]; rfl), by simp, fun t H' s' g' => fin (.move _ _ _ mj mk hne n0 n1') t H' (sa.trans s') g'⟩
    . refine ⟨by simp, fun ta Ha sa ga => ⟨ta, _, rfl, .inr (SqT.of ga), rfl, rfl, ?_⟩⟩
      have h1 : inV (.str "send") [V.str "add", .str "take"] = false := rfl
      dsimp only; rw [h1]; exact ⟨by simp, fun t H' s' g' => fin (.two _ _ _ _ (.inl rfl) mk mi n0 n1') t H' (sa.trans s') g'⟩
    . refine ⟨by simp, fun ta Ha sa ga => ⟨ta, _, rfl, .inr (SqT.of ga), rfl, rfl, ?_⟩⟩
      have h1 : inV (.str "fetch") [V.str "add", .str "take"] = false := rfl
      dsimp only; rw [h1]; exact ⟨by simp, fun t H' s' g' => fin (.two _ _ _ _ (.inr rfl) mk mi n0 n1') t H' (sa.trans s') g'⟩
    . refine ⟨by simp, fun ta Ha sa ga => ⟨ta, _, rfl, .inr (SqT.of ga), rfl, rfl, ?_⟩⟩
      have h1 : inV (.str "pass") [V.str "add", .str "take"] = false := rfl
      dsimp only; rw [h1]; exact ⟨_, SqL.of (sa _ _ g5), .str zs[j], atI_nat (by rw [Zgm, Zge hj]; rfl), by simp, fun t H' s' g' => fin (.pass _ _ _ _ mj mk mi hne n0 n1') t H' (sa.trans s') g'⟩
inductive Shape6 : List V -> Str -> Int -> List Str -> Prop
  | one (z a : Str) (n : Int) : (z = "add" ∨ z = "take") -> Shape6 [.str z, .str a, .int n] z n []
  | move (a b : Str) (n : Int) : Shape6 [.str "move", .str a, .str b, .int n] "move" n []
  | two (z a b : Str) (n : Int) : (z = "send" ∨ z = "fetch") -> Shape6 [.str z, .str a, .str b, .int n] z n [a]
  | pass (a b c : Str) (n : Int) : Shape6 [.str "pass", .str a, .str b, .str c, .int n] "pass" n [a, b]
inductive Ans6 (w : Str) (n : Int) (hs : List Str) : List V -> Prop
  | short (a : Int) : (w = "take" ∨ w = "send" ∨ w = "move") -> 0 <= a -> a <= n - 1 -> Ans6 w n hs [.str "short", .int a]
  | full (a : Int) : (w = "add" ∨ w = "fetch" ∨ w = "move") -> 1000000000000 - n + 1 <= a -> a <= 1000000000000 -> Ans6 w n hs [.str "full", .int a]
  | more (a : Int) : (w = "add" ∨ w = "fetch") -> n <= a -> a <= 1000000000000 -> Ans6 w n hs [.str "is", .int a]
  | less (a : Int) : (w = "take" ∨ w = "send") -> 0 <= a -> a <= 1000000000000 - n -> Ans6 w n hs [.str "is", .int a]
  | both (a b : Int) : w = "move" -> 0 <= a -> a <= 1000000000000 - n -> n <= b -> b <= 1000000000000 -> Ans6 w n hs [.str "is", .int a, .int b]
  | no (h : Str) : (w = "send" ∨ w = "fetch" ∨ w = "pass") -> h ∈ hs -> Ans6 w n hs [.str "no", .str h]
  | ok : w = "pass" -> Ans6 w n hs [.str "ok"]
def spAnswer40 : Sp := fun vs H Q _ => ∃ (p d : Addr) (zs : List Str) (xs : List V), vs = [.ref p, .ref d] /\ PenAt H p /\ H d = some (.tup xs) /\ Deed6 zs xs /\ ∀ t ys H' w n hs, Shape6 xs w n hs -> Ans6 w n hs ys -> H' t = some (.tup ys) -> PenAt H' p -> K1 p H H' -> Q (.ref t) H'
theorem ok_answer40 (T : Txt K mg) (cLtake : Callee P w K mg base 1 "_law_take" ["_law_pen_here", "_law_most"] spTake) (cLnumber : Callee P w K mg base 2 "_law_number" ["_law_pen_here", "_law_least", "_law_most"] spNumber20) (D : DefAt K mg "_law_answer" s_law_answer ["_law_pen_here", "_law_deed_here"]) : Callee P w K mg base 3 "_law_answer" ["_law_pen_here", "_law_deed_here"] spAnswer40 := by
  refine D.go sc_law_answer (fun vs H Q E h => ?_) (fun f cdv A outer s H vs Q E hr h => ?_)
  . obtain ⟨p, d, zs, xs, rfl, _⟩ := h; rfl
  . obtain ⟨p, d, zs, xs, rfl, pn, hd, hD, q⟩ := h
    have hLtake : Room 1 _ := hr.mono (by decide)
    have hLnumber := hr
    refine ⟨_, (R.scons (R.set (i := 2) sc_law_answer.nd (R.ix (R.kiT (K := K)) (R.v 1) R.int)) (R.scons (R.set (i := 3) sc_law_answer.nd (R.ix (R.kiT (K := K)) (R.v 1) (R.neg R.int))) (R.scons (R.set (i := 4) sc_law_answer.nd (R.wtup (R.cons R.str (R.cons (R.fn cLnumber hLnumber rfl (R.cons (R.v 0) (R.cons R.int (R.cons (R.op R.sub (R.v 3) R.int) R.nil)))) R.nil)))) (R.scons (R.set (i := 5) sc_law_answer.nd (R.wtup (R.cons R.str (R.cons (R.fn cLnumber hLnumber rfl (R.cons (R.v 0) (R.cons (R.op R.add (R.op R.sub (R.op R.pow R.int R.int) (R.v 3)) R.int) (R.cons (R.op R.pow R.int R.int) R.nil)))) R.nil)))) (R.scons (R.set (i := 6) sc_law_answer.nd (R.fn cLnumber hLnumber rfl (R.cons (R.v 0) (R.cons R.int (R.cons (R.op R.sub (R.op R.pow R.int R.int) (R.v 3)) R.nil))))) (R.scons (R.set (i := 7) sc_law_answer.nd (R.fn cLnumber hLnumber rfl (R.cons (R.v 0) (R.cons (R.v 3) (R.cons (R.op R.pow R.int R.int) R.nil))))) (R.scons (R.ife (R.tcmp R.eq (R.v 2) R.str) (R.sone (R.ret (R.ix (R.kiL (K := K)) (R.lst (R.cons (R.wtup (R.cons R.str R.nil)) (R.cons (R.wtup (R.cons R.str (R.cons (R.ix (R.kiT (K := K)) (R.v 1) R.int) R.nil))) (R.cons (R.wtup (R.cons R.str (R.cons (R.ix (R.kiT (K := K)) (R.v 1) R.int) R.nil))) R.nil)))) (R.fn cLtake hLtake rfl (R.cons (R.v 0) (R.cons R.int R.nil)))))) R.snil) (R.scons (R.ife (R.tcmp R.eq (R.v 2) R.str) (R.sone (R.ret (R.ix (R.kiL (K := K)) (R.lst (R.cons (R.v 4) (R.cons (R.v 5) (R.cons (R.wtup (R.cons R.str (R.cons (R.v 6) (R.cons (R.v 7) R.nil)))) R.nil)))) (R.fn cLtake hLtake rfl (R.cons (R.v 0) (R.cons R.int R.nil)))))) R.snil) (R.scons (R.set (i := 8) sc_law_answer.nd (R.lst (R.cons (R.wtup (R.cons R.str (R.cons (R.v 7) R.nil))) (R.cons (R.v 5) R.nil)))) (R.scons (R.ife (R.tcmp (R.kinQ (K := K)) (R.v 2) (R.wtup (R.cons R.str (R.cons R.str R.nil)))) (R.sone (R.set (i := 8) sc_law_answer.nd (R.lst (R.cons (R.wtup (R.cons R.str (R.cons (R.v 6) R.nil))) (R.cons (R.v 4) R.nil))))) R.snil) (R.scons (R.ife (R.tcmp (R.kinQ (K := K)) (R.v 2) (R.wtup (R.cons R.str (R.cons R.str R.nil)))) (R.sone (R.expr (R.kbm (K := K) PySem.F.plainAttrs_list PySem.F.slot_list_append PySem.F.type_list_append R.append (R.v 8) (R.cons (R.wtup (R.cons R.str (R.cons (R.ix (R.kiT (K := K)) (R.v 1) R.int) R.nil))) R.nil)))) R.snil) (R.sone (R.ret (R.ix (R.kiL (K := K)) (R.v 8) (R.fn cLtake hLtake rfl (R.cons (R.v 0) (R.cons (R.callB (R.klenL (K := K)) rfl T.b_len bb_len (R.cons (R.v 8) R.nil)) R.nil))))))))))))))))), ?_⟩
    have e12 : (10 : Int) ^ (12 : Int).toNat = 1000000000000 := by decide
    obtain ⟨wd, n, hs, hS, n0, n1, hw, hl⟩ : ∃ wd n hs, Shape6 xs wd n hs /\ 1 <= n /\ n <= 1000000000000 /\ atI xs 0 = some (.str wd) /\ atI xs (-1) = some (.int n) := by
      cases hD with
      | one z a n h _ h0 h1 => exact ⟨_, _, _, .one z a n h, h0, h1, rfl, rfl⟩
      | move a b n _ _ _ h0 h1 => exact ⟨_, _, _, .move a b n, h0, h1, rfl, rfl⟩
      | two z a b n h _ _ h0 h1 => exact ⟨_, _, _, .two z a b n h, h0, h1, rfl, rfl⟩
      | pass a b c n _ _ _ _ h0 h1 => exact ⟨_, _, _, .pass a b c n, h0, h1, rfl, rfl⟩
    have pw : ((0 : Int) <= 12 /\ (12 : Int) < 100) := ⟨by decide, by decide⟩
    refine ⟨_, SqT.of hd, _, hw, ?_⟩
    dsimp only [gName]; refine ⟨_, SqT.of hd, _, hl, ?_⟩
    dsimp only [gName]; refine ⟨p, 0, n - 1, rfl, pn, by omega, by omega, fun a1 G1 a10 a11 pn1 k1 => ⟨by simp, fun t1 G2 s2 g2 => ?_⟩⟩
    dsimp only [gName]; have pn2 := pn1.same s2
    refine ⟨⟨by decide, by decide, by decide⟩, ⟨by decide, by decide, by decide⟩, p, _, _, rfl, pn2, by omega, by omega, fun a2 G3 a20 a21 pn3 k3 => ⟨by simp, fun t2 G4 s4 g4 => ?_⟩⟩
    dsimp only [gName]; have pn4 := pn3.same s4
    refine ⟨⟨by decide, by decide, by decide⟩, p, 0, _, rfl, pn4, by omega, by omega, fun a3 G5 a30 a31 pn5 k5 => ?_⟩
    dsimp only [gName]; refine ⟨⟨by decide, by decide, by decide⟩, p, n, _, rfl, pn5, by omega, by omega, fun a4 G6 a40 a41 pn6 k6 => ?_⟩
    dsimp only [gName]; rw [e12] at a20 a21 a31 a41; have k06 : K1 p H G6 := (((k1.trans (K1.of s2)).trans k3).trans (K1.of s4)).trans (k5.trans k6)
    have hd6 := k06 _ _ hd (PenAt.tup pn hd)
    have g16 : G6 t1 = some (.tup [.str "short", .int a1]) := k6 _ _ (k5 _ _ (s4 _ _ (k3 _ _ g2 (PenAt.tup pn2 g2))) (PenAt.tup pn4 (s4 _ _ (k3 _ _ g2 (PenAt.tup pn2 g2))))) (PenAt.tup pn5 (k5 _ _ (s4 _ _ (k3 _ _ g2 (PenAt.tup pn2 g2))) (PenAt.tup pn4 (s4 _ _ (k3 _ _ g2 (PenAt.tup pn2 g2))))))
    have g26 : G6 t2 = some (.tup [.str "full", .int a2]) := k6 _ _ (k5 _ _ g4 (PenAt.tup pn4 g4)) (PenAt.tup pn5 (k5 _ _ g4 (PenAt.tup pn4 g4)))
    have fin : ∀ {G : Hp} {ys : List V} {t : Addr}, K1 p G6 G -> PenAt G p -> G t = some (.tup ys) -> Ans6 wd n hs ys -> Q (.ref t) G := fun k pn' g h => q _ _ _ _ _ _ hS h g pn' (k06.trans k)
    have tk : ∀ {G G' : Hp} {t : Addr} {ys : List V}, PenAt G p -> K1 p G G' -> G t = some (.tup ys) -> G' t = some (.tup ys) := fun pn' k g => k _ _ g (PenAt.tup pn' g)
    have last : ∀ {G : Hp} (l : Addr) (ts : List (Addr × List V)), K1 p G6 G -> PenAt G p -> l ≠ p -> G l = some (.lst (ts.map fun q => V.ref q.1)) -> (∀ q ∈ ts, G q.1 = some (.tup q.2) /\ Ans6 wd n hs q.2) -> 0 < ts.length -> ts.length <= 10 →
        ∃ ys, (SqL K G l ys ∨ SqT K G l ys) /\ spTake [.ref p, .int ys.length] G (fun r G' => mIxL K (.ref l) r G' Q) E0 := fun {G} l ts k pn' nl gl ht h0 h10 => by
      refine ⟨_, .inl (SqL.of gl), p, _, rfl, pn', by rw [Zlm]; omega, by rw [Zlm]; omega, fun r G' r0 r1 pnF kF => ?_⟩
      obtain ⟨v, hv, hm⟩ := atI_some r0 r1
      obtain ⟨qq, hq, rfl⟩ := Zmm.mp hm
      exact ⟨_, SqL.of (kF _ _ gl nl), _, hv, fin (k.trans kF) pnF (tk pn' kF (ht qq hq).1) (ht qq hq).2⟩
    have app : ∀ {G : Hp} {h : Str} (l : Addr) (x1 x2 : Addr × List V), G6 l = none -> Same G6 G -> l ≠ p -> G l = some (.lst [.ref x1.1, .ref x2.1]) -> (G x1.1 = some (.tup x1.2) /\ Ans6 wd n hs x1.2) -> (G x2.1 = some (.tup x2.2) /\ Ans6 wd n hs x2.2) -> Ans6 wd n hs [.str "no", .str h] →
        ∀ t G', Same G G' -> G' t = some (.tup [.str "no", .str h]) -> ∃ ys, (SqL K (upd G' l (.lst [.ref x1.1, .ref x2.1, .ref t])) l ys ∨ SqT K (upd G' l (.lst [.ref x1.1, .ref x2.1, .ref t])) l ys) /\ spTake [.ref p, .int ys.length] (upd G' l (.lst [.ref x1.1, .ref x2.1, .ref t])) (fun r G' => mIxL K (.ref l) r G' Q) E0 := fun {G h} l x1 x2 fr sG nl gl h1 h2 hz t G' s' g' => by
      have gl' := s' _ _ gl
      have kt : ∀ {c : Addr} {ys : List V}, G' c = some (.tup ys) -> (upd G' l (.lst [.ref x1.1, .ref x2.1, .ref t])) c = some (.tup ys) := fun e => by rw [upd_ne (ne_of e gl' (fun z => nomatch z))]; exact e
      have pn6' := pn6
      obtain ⟨i0, j0, gp, rp⟩ := pn6'
      have pnG : PenAt (upd G' l (.lst [.ref x1.1, .ref x2.1, .ref t])) p := ⟨i0, j0, by rw [upd_ne nl.symm]; exact s' _ _ (sG _ _ gp), rp⟩
      refine last l [x1, x2, (t, [.str "no", .str h])] (fun a o e _ => by rw [upd_ne (fun z => by rw [z, fr] at e; cases e)]; exact s' _ _ (sG _ _ e)) pnG nl upd_same (fun q hq => ?_) (by simp) (by simp)
      simp only [List.mem_cons, List.not_mem_nil, or_false] at hq
      rcases hq with rfl | rfl | rfl
      . exact ⟨kt (s' _ _ h1.1), h1.2⟩
      . exact ⟨kt (s' _ _ h2.1), h2.2⟩
      . exact ⟨kt g', hz⟩
    cases hS with
    | pass a b c n =>
      refine ⟨by simp, fun u1 F1 e1 f1 => ⟨_, SqT.of (e1 _ _ hd6), _, rfl, by simp, fun u2 F2 e2 f2 => ⟨_, SqT.of (e2 _ _ (e1 _ _ hd6)), _, rfl, by simp, fun u3 F3 e3 f3 => ⟨szl rfl, fun l hl => ⟨p, 3, rfl, ((((pn6.same e1).same e2).same e3).same (same_upd hl)), by decide, by decide, fun r F4 r0 r1 pnF kF => ⟨_, SqL.of (kF _ _ upd_same (((((pn6.same e1).same e2).same e3).ne hl))), ?_⟩⟩⟩⟩⟩⟩
      have pnL := ((((pn6.same e1).same e2).same e3).same (same_upd (o := .lst [.ref u1, .ref u2, .ref u3]) hl))
      have sL := ((e1.trans e2).trans e3).trans (same_upd (o := .lst [.ref u1, .ref u2, .ref u3]) hl)
      have k := (K1.of (p := p) sL).trans kF
      have h3 : r = 0 ∨ r = 1 ∨ r = 2 := by omega
      rcases h3 with rfl | rfl | rfl
      . exact ⟨_, rfl, fin k pnF (tk pnL kF (same_upd hl _ _ (e3 _ _ (e2 _ _ f1)))) (.ok rfl)⟩
      . exact ⟨_, rfl, fin k pnF (tk pnL kF (same_upd hl _ _ (e3 _ _ f2))) (.no _ (.inr (.inr rfl)) (by simp))⟩
      . exact ⟨_, rfl, fin k pnF (tk pnL kF (same_upd hl _ _ f3)) (.no _ (.inr (.inr rfl)) (by simp))⟩
    | move a b n =>
      refine ⟨by simp, fun u3 F3 e3 f3 => ⟨szl rfl, fun l hl => ⟨p, 3, rfl, ((pn6.same e3).same (same_upd hl)), by decide, by decide, fun r F4 r0 r1 pnF kF => ⟨_, SqL.of (kF _ _ upd_same ((pn6.same e3).ne hl)), ?_⟩⟩⟩⟩
      have pnL := ((pn6.same e3).same (same_upd (o := .lst [.ref t1, .ref t2, .ref u3]) hl))
      have k := (K1.of (p := p) (e3.trans (same_upd (o := .lst [.ref t1, .ref t2, .ref u3]) hl))).trans kF
      have h3 : r = 0 ∨ r = 1 ∨ r = 2 := by omega
      rcases h3 with rfl | rfl | rfl
      . exact ⟨_, rfl, fin k pnF (tk pnL kF (same_upd hl _ _ (e3 _ _ g16))) (.short _ (.inr (.inr rfl)) a10 a11)⟩
      . exact ⟨_, rfl, fin k pnF (tk pnL kF (same_upd hl _ _ (e3 _ _ g26))) (.full _ (.inr (.inr rfl)) a20 a21)⟩
      . exact ⟨_, rfl, fin k pnF (tk pnL kF (same_upd hl _ _ f3)) (.both _ _ rfl a30 a31 a40 a41)⟩
    | one z a n h =>
      rcases h with rfl | rfl
      . refine ⟨by simp, fun u1 F1 e1 f1 => ⟨szl rfl, fun l hl => ?_⟩⟩
        dsimp only [gName]; have pn1' := (pn6.same e1).same (same_upd (o := .lst [.ref u1, .ref t2]) hl)
        have sl := e1.trans (same_upd (o := .lst [.ref u1, .ref t2]) hl)
        have gl : (upd F1 l (.lst [.ref u1, .ref t2])) l = some (.lst [.ref u1, .ref t2]) := upd_same
        have nl : l ≠ p := (pn6.same e1).ne hl
        have fu : (upd F1 l (.lst [.ref u1, .ref t2])) u1 = some (.tup [.str "is", .int a4]) := same_upd hl _ _ f1
        generalize upd F1 l (.lst [.ref u1, .ref t2]) = F2 at pn1' sl gl fu ⊢; refine ⟨by simp, fun w1 F3 e3 f3 => ⟨w1, _, rfl, .inr (SqT.of f3), rfl, rfl, ?_⟩⟩
        have h1 : inV (.str "add") [V.str "take", .str "send"] = false := rfl
        dsimp only; rw [h1]; refine ⟨by simp, fun w2 F4 e4 f4 => ⟨w2, _, rfl, .inr (SqT.of f4), rfl, rfl, ?_⟩⟩
        have h2 : inV (.str "add") [V.str "send", .str "fetch"] = false := rfl
        dsimp only; rw [h2]; have s4' := (sl.trans e3).trans e4
        refine last l [(u1, [.str "is", .int a4]), (t2, [.str "full", .int a2])] (K1.of s4') (pn6.same s4') nl (e4 _ _ (e3 _ _ gl)) (fun q hq => ?_) (by simp) (by simp)
        simp only [List.mem_cons, List.not_mem_nil, or_false] at hq
        rcases hq with rfl | rfl
        . exact ⟨e4 _ _ (e3 _ _ fu), .more _ (.inl rfl) a40 a41⟩
        . exact ⟨s4' _ _ g26, .full _ (.inl rfl) a20 a21⟩
      . refine ⟨by simp, fun u1 F1 e1 f1 => ⟨szl rfl, fun l hl => ?_⟩⟩
        dsimp only [gName]; have pn1' := (pn6.same e1).same (same_upd (o := .lst [.ref u1, .ref t2]) hl)
        have sl := e1.trans (same_upd (o := .lst [.ref u1, .ref t2]) hl)
        have gl : (upd F1 l (.lst [.ref u1, .ref t2])) l = some (.lst [.ref u1, .ref t2]) := upd_same
        have nl : l ≠ p := (pn6.same e1).ne hl
        have fu : (upd F1 l (.lst [.ref u1, .ref t2])) u1 = some (.tup [.str "is", .int a4]) := same_upd hl _ _ f1
        generalize upd F1 l (.lst [.ref u1, .ref t2]) = F2 at pn1' sl gl fu ⊢; refine ⟨by simp, fun w1 F3 e3 f3 => ⟨w1, _, rfl, .inr (SqT.of f3), rfl, rfl, ?_⟩⟩
        have h1 : inV (.str "take") [V.str "take", .str "send"] = true := rfl
        dsimp only; rw [h1]; refine ⟨by simp, fun u2 F4 e4 f4 => ⟨szl rfl, fun l2 hl2 => ?_⟩⟩
        dsimp only [gName]; have s4' := (sl.trans e3).trans e4
        have s5' := s4'.trans (same_upd (o := .lst [.ref u2, .ref t1]) hl2)
        have gl2 : (upd F4 l2 (.lst [.ref u2, .ref t1])) l2 = some (.lst [.ref u2, .ref t1]) := upd_same
        have nl2 : l2 ≠ p := (pn6.same s4').ne hl2
        have fu2 : (upd F4 l2 (.lst [.ref u2, .ref t1])) u2 = some (.tup [.str "is", .int a3]) := same_upd hl2 _ _ f4
        generalize upd F4 l2 (.lst [.ref u2, .ref t1]) = F5 at s5' gl2 fu2 ⊢; refine ⟨by simp, fun w2 F6 e6 f6 => ⟨w2, _, rfl, .inr (SqT.of f6), rfl, rfl, ?_⟩⟩
        have h2 : inV (.str "take") [V.str "send", .str "fetch"] = false := rfl
        dsimp only; rw [h2]; have s6' := s5'.trans e6
        refine last l2 [(u2, [.str "is", .int a3]), (t1, [.str "short", .int a1])] (K1.of s6') (pn6.same s6') nl2 (e6 _ _ gl2) (fun q hq => ?_) (by simp) (by simp)
        simp only [List.mem_cons, List.not_mem_nil, or_false] at hq
        rcases hq with rfl | rfl
        . exact ⟨e6 _ _ fu2, .less _ (.inl rfl) a30 a31⟩
        . exact ⟨s6' _ _ g16, .short _ (.inl rfl) a10 a11⟩
    | two z a b n h =>
      rcases h with rfl | rfl
      . refine ⟨by simp, fun u1 F1 e1 f1 => ⟨szl rfl, fun l hl => ?_⟩⟩
        dsimp only [gName]; have sl := e1.trans (same_upd (o := .lst [.ref u1, .ref t2]) hl)
        have gl : (upd F1 l (.lst [.ref u1, .ref t2])) l = some (.lst [.ref u1, .ref t2]) := upd_same
        have nl : l ≠ p := (pn6.same e1).ne hl
        have fu : (upd F1 l (.lst [.ref u1, .ref t2])) u1 = some (.tup [.str "is", .int a4]) := same_upd hl _ _ f1
        generalize upd F1 l (.lst [.ref u1, .ref t2]) = F2 at sl gl fu ⊢; refine ⟨by simp, fun w1 F3 e3 f3 => ⟨w1, _, rfl, .inr (SqT.of f3), rfl, rfl, ?_⟩⟩
        have h1 : inV (.str "send") [V.str "take", .str "send"] = true := rfl
        dsimp only; rw [h1]; refine ⟨by simp, fun u2 F4 e4 f4 => ⟨szl rfl, fun l2 hl2 => ?_⟩⟩
        dsimp only [gName]; have s4' := (sl.trans e3).trans e4
        have s5' := s4'.trans (same_upd (o := .lst [.ref u2, .ref t1]) hl2)
        have gl2 : (upd F4 l2 (.lst [.ref u2, .ref t1])) l2 = some (.lst [.ref u2, .ref t1]) := upd_same
        have nl2 : l2 ≠ p := (pn6.same s4').ne hl2
        have fu2 : (upd F4 l2 (.lst [.ref u2, .ref t1])) u2 = some (.tup [.str "is", .int a3]) := same_upd hl2 _ _ f4
        generalize upd F4 l2 (.lst [.ref u2, .ref t1]) = F5 at s5' gl2 fu2 ⊢; refine ⟨by simp, fun w2 F6 e6 f6 => ⟨w2, _, rfl, .inr (SqT.of f6), rfl, rfl, ?_⟩⟩
        have h2 : inV (.str "send") [V.str "send", .str "fetch"] = true := rfl
        dsimp only; rw [h2]; have s6' := s5'.trans e6
        have gl6 := e6 _ _ gl2
        exact ⟨.inl ⟨rfl, _, SqL.of gl6⟩, _, SqT.of (s6' _ _ hd6), _, rfl, by simp, fun t F7 e7 f7 => ⟨l2, _, _, rfl, rfl, e7 _ _ gl6, by show 2 < sizeLine; decide, app l2 (u2, [.str "is", .int a3]) (t1, [.str "short", .int a1]) (by cases e : G6 l2 with | none => rfl | some o => (rw [s4' _ _ e] at hl2; cases hl2)) s6' nl2 gl6 ⟨e6 _ _ fu2, .less _ (.inr rfl) a30 a31⟩ ⟨s6' _ _ g16, .short _ (.inr (.inl rfl)) a10 a11⟩ (.no _ (.inl rfl) Zcs) t F7 e7 f7⟩⟩
      . refine ⟨by simp, fun u1 F1 e1 f1 => ⟨szl rfl, fun l hl => ?_⟩⟩
        dsimp only [gName]; have sl := e1.trans (same_upd (o := .lst [.ref u1, .ref t2]) hl)
        have gl : (upd F1 l (.lst [.ref u1, .ref t2])) l = some (.lst [.ref u1, .ref t2]) := upd_same
        have nl : l ≠ p := (pn6.same e1).ne hl
        have fu : (upd F1 l (.lst [.ref u1, .ref t2])) u1 = some (.tup [.str "is", .int a4]) := same_upd hl _ _ f1
        generalize upd F1 l (.lst [.ref u1, .ref t2]) = F2 at sl gl fu ⊢; refine ⟨by simp, fun w1 F3 e3 f3 => ⟨w1, _, rfl, .inr (SqT.of f3), rfl, rfl, ?_⟩⟩
        have h1 : inV (.str "fetch") [V.str "take", .str "send"] = false := rfl
        dsimp only; rw [h1]; refine ⟨by simp, fun w2 F6 e6 f6 => ⟨w2, _, rfl, .inr (SqT.of f6), rfl, rfl, ?_⟩⟩
        have h2 : inV (.str "fetch") [V.str "send", .str "fetch"] = true := rfl
        dsimp only; rw [h2]; have s6' := (sl.trans e3).trans e6
        have gl6 := e6 _ _ (e3 _ _ gl)
        exact ⟨.inl ⟨rfl, _, SqL.of gl6⟩, _, SqT.of (s6' _ _ hd6), _, rfl, by simp, fun t F7 e7 f7 => ⟨l, _, _, rfl, rfl, e7 _ _ gl6, by show 2 < sizeLine; decide, app l (u1, [.str "is", .int a4]) (t2, [.str "full", .int a2]) (by cases e : G6 l with | none => rfl | some o => (rw [e1 _ _ e] at hl; cases hl)) s6' nl gl6 ⟨e6 _ _ (e3 _ _ fu), .more _ (.inr rfl) a40 a41⟩ ⟨s6' _ _ g26, .full _ (.inr (.inl rfl)) a20 a21⟩ (.no _ (.inr (.inl rfl)) Zcs) t F7 e7 f7⟩⟩
theorem ok_names20 (T : Txt K mg) (cLtake : Callee P w K mg base 1 "_law_take" ["_law_pen_here", "_law_most"] spTake) (D : DefAt K mg "_law_names" s_law_names ["_law_pen_here", "_law_many"]) : Callee P w K mg base 2 "_law_names" ["_law_pen_here", "_law_many"] spNames20 := by
  refine D.go sc_law_names (fun vs H Q E h => ?_) (fun f cdv A outer s H vs Q E hr h => ?_)
  . obtain ⟨p, m, rfl, _⟩ := h; rfl
  . obtain ⟨p, m, rfl, pn, hm, q⟩ := h
    have hLtake := hr
    refine ⟨_, (R.scons (R.set (i := 2) sc_law_names.nd R.str) (R.scons (R.ife (R.tcmp R.eq (R.fn cLtake hLtake rfl (R.cons (R.v 0) (R.cons R.int R.nil))) R.int) (R.sone (R.ret (R.sl (R.ksL (K := K)) (R.lst (R.cons R.str (R.cons R.str (R.cons R.str (R.cons R.str (R.cons R.str (R.cons R.str R.nil))))))) R.pn (R.ps (R.v 1))))) R.snil) (R.scons (R.set (i := 3) sc_law_names.nd (R.op R.add R.int (R.fn cLtake hLtake rfl (R.cons (R.v 0) (R.cons R.int R.nil))))) (R.scons (R.set (i := 4) sc_law_names.nd (R.fn cLtake hLtake rfl (R.cons (R.v 0) (R.cons (R.v 3) R.nil)))) (R.scons (R.set (i := 5) sc_law_names.nd (R.ix (R.kiL (K := K)) (R.lst (R.cons R.int (R.cons R.int (R.cons R.int (R.cons R.int (R.cons R.int (R.cons R.int R.nil))))))) (R.fn cLtake hLtake rfl (R.cons (R.v 0) (R.cons R.int R.nil))))) (R.scons (R.scomp (i := 6) sc_law_names.nd rfl (Or.inl rfl) rfl (js := [none, some 0]) (N := ["_law_j", "_law_pen_here"]) (CompScope.by (defScope s_law_names) ["_law_pen_here", "_law_many", "_law_letters", "_law_size", "_law_at", "_law_step", "_law_base", "_law_names_here", "_law_k", "_law_long", "_law_signs"] rfl rfl (by decide +kernel)) (gown_name rfl) (R.range1 rfl T.b_range (R.cons (R.v 3) R.nil)) (fun C s₂ H₂ fp => ⟨(R.gn (i := 0) (show (["_law_j", "_law_pen_here"] : List Str).Nodup by decide +kernel)), R.ts0, (R.fn cLtake hLtake rfl (R.cons (R.v 1) (R.cons R.int R.nil)))⟩) rfl) (R.scons (R.set (i := 7) sc_law_names.nd (R.lst R.nil)) (R.scons (R.for_ PassesOwn.never rfl (R.range1 rfl T.b_range (R.cons (R.v 1) R.nil)) (R.gn (i := 8) sc_law_names.nd) (R.scons (R.set (i := 9) sc_law_names.nd (R.op R.add (R.op R.add (R.v 4) R.int) (R.fn cLtake hLtake rfl (R.cons (R.v 0) (R.cons (R.op R.sub (R.v 3) (R.v 4)) R.nil))))) (R.scons (R.set (i := 10) sc_law_names.nd (R.sl (R.ksL (K := K)) (R.v 6) R.pn (R.ps (R.v 9)))) (R.scons (R.asg (R.op R.mod (R.op R.add (R.ix (R.kiL (K := K)) (R.v 6) (R.v 4)) (R.op R.mul (R.v 5) (R.v 8))) R.int) (R.gsub (R.v 10) (R.v 4) R.setL)) (R.sone (R.expr (R.kbm (K := K) PySem.F.plainAttrs_list PySem.F.slot_list_append PySem.F.type_list_append R.append (R.v 7) (R.cons (R.kbm (K := K) PySem.F.plainAttrs_str PySem.F.slot_str_join PySem.F.type_str_join (R.kjoin (K := K)) R.str (R.cons (R.comp rfl (js := [none, some 2]) (N := ["_law_sign", "_law_letters"]) (CompScope.by (defScope s_law_names) ["_law_pen_here", "_law_many", "_law_letters", "_law_size", "_law_at", "_law_step", "_law_base", "_law_names_here", "_law_k", "_law_long", "_law_signs"] rfl rfl (by decide +kernel)) (gown_name rfl) (R.kwL (K := K) (R.v 10)) (fun C s₂ H₂ fp => ⟨(R.gn (i := 0) (show (["_law_sign", "_law_letters"] : List Str).Nodup by decide +kernel)), R.ts0, (R.ix R.iS (R.v 1) (R.v 0))⟩)) R.nil)) R.nil)))))))) (R.sone (R.ret (R.v 7))))))))))), ?_⟩
    refine ⟨p, 5, rfl, pn, by decide, by decide, fun r0 H1 a0 a1 p1 k1 => ?_⟩
    refine if_b (fun _ => ?_) (fun _ => ?_)
    . refine ⟨szl rfl, fun l hl => ⟨_, SqL.of upd_same, fun l2 hl2 => ?_⟩⟩
      rw [show ([V.str "add", .str "take", .str "move", .str "send", .str "is", .str "no"] : List V) = (["add", "take", "move", "send", "is", "no"] : List Str).map V.str from rfl, cut_to, <- List.map_take]; have p2 := p1.same (same_upd (o := .lst ((["add", "take", "move", "send", "is", "no"] : List Str).map V.str)) hl)
      have k2 : K1 p H _ := k1.trans (.of (same_upd (o := .lst ((["add", "take", "move", "send", "is", "no"] : List Str).map V.str)) hl))
      refine q l2 ((["add", "take", "move", "send", "is", "no"] : List Str).take m) _ ?_ ?_ ?_ (k2.free p2 hl2) upd_same (p2.same (same_upd hl2)) (k2.trans (.of (same_upd hl2)))
      . rw [Zlk]; show min m 6 = m; omega
      . intro z hz; have : ∀ z ∈ (["add", "take", "move", "send", "is", "no"] : List Str), isNm z := by
          intro z hz; simp only [List.mem_cons, List.not_mem_nil, or_false] at hz
          rcases hz with rfl | rfl | rfl | rfl | rfl | rfl <;> exact ⟨by decide +kernel, by decide +kernel, by decide +kernel⟩
        exact this z (List.mem_of_mem_take hz)
      . exact (show (["add", "take", "move", "send", "is", "no"] : List Str).Nodup by decide +kernel).sublist (List.take_sublist _ _)
    dsimp only [tNext]; refine ⟨p, 8, rfl, p1, by decide, by decide, fun r1 H2 b0 b1 p2 k2 => ?_⟩
    dsimp only [gName]; refine ⟨p, _, rfl, p2, by omega, by omega, fun a' H3 c0 c1 p3 k3 => ?_⟩
    dsimp only [gName]; obtain ⟨a, rfl⟩ := Zio c0
    refine ⟨szl rfl, fun ls hls => ⟨p, 6, rfl, p3.same (same_upd hls), by decide, by decide, fun r2 H4 d0 d1 p4 k4 => ⟨_, SqL.of (k4 _ _ upd_same (p3.ne hls)), ?_⟩⟩⟩
    have hst : ∃ s : Int, atI ([V.int 1, .int 3, .int 5, .int 7, .int 9, .int 11] : List V) r2 = some (.int s) /\ stepOk s := by
      rcases six d0 d1 with rfl | rfl | rfl | rfl | rfl | rfl
      . exact ⟨_, rfl, .inl rfl⟩
      . exact ⟨_, rfl, .inr (.inl rfl)⟩
      . exact ⟨_, rfl, .inr (.inr (.inl rfl))⟩
      . exact ⟨_, rfl, .inr (.inr (.inr (.inl rfl)))⟩
      . exact ⟨_, rfl, .inr (.inr (.inr (.inr (.inl rfl))))⟩
      . exact ⟨_, rfl, .inr (.inr (.inr (.inr (.inr rfl))))⟩
    obtain ⟨st, hst, hok⟩ := hst
    refine ⟨_, hst, ?_⟩
    dsimp only [gName]; have k14 : K1 p H H4 := ((k1.trans k2).trans (k3.trans (.of (same_upd hls)))).trans k4
    refine ⟨1 + r1, rfl, by omega, by omega, ?_⟩
    refine comp_seq (seq_range 0 (1 + r1).toNat) (by simp [rangeV]; omega) (fun i ys H' => ∃ bs : List Int, ys = bs.map V.int /\ bs.length = i /\ (∀ x ∈ bs, 0 <= x /\ x < 26) /\ PenAt H' p /\ K1 p H H') (fun i ys H' ⟨bs, e, e2, _⟩ => ⟨trivial, by rw [e, Zlm, e2]; exact Znr _⟩) ⟨[], rfl, rfl, (fun _ h => nomatch h), p4, k14⟩ (fun i x ys H' hx ⟨bs, e, e2, e3, pi, ki⟩ => ?_) (fun ys H' ⟨bs, e, e2, e3, pi, ki⟩ => ?_)
    . refine ⟨p, 26, rfl, pi, by decide, by decide, fun r H'' f0 f1 pj kj => ⟨bs ++ [r], by rw [e, Zap]; rfl, by rw [Zla, e2]; rfl, fun x hx => ?_, pj, ki.trans kj⟩⟩
      rcases Zma.mp hx with h | h
      . exact e3 x h
      . rw [Zms.mp h]; exact ⟨f0, f1⟩
    intro lb hlb; subst e; have hbl : bs.length = (1 + r1).toNat := by rw [e2]; simp [rangeV]
    have ha : a < bs.length := by omega
    have gb : (upd H' lb (.lst (bs.map V.int))) lb = some (.lst (bs.map V.int)) := upd_same
    have p5 := pi.same (same_upd (o := .lst (bs.map V.int)) hlb)
    have k5 : K1 p H (upd H' lb (.lst (bs.map V.int))) := ki.trans (.of (same_upd hlb))
    generalize upd H' lb (.lst (bs.map V.int)) = H5 at gb p5 k5 ⊢; refine ⟨szl rfl, fun l hl => ?_⟩
    dsimp only [gName]; have nlb : lb ≠ l := ne_of_none gb hl
    have npb : lb ≠ p := pi.ne hlb
    have npl : l ≠ p := p5.ne hl
    have hl0 : H l = none := k5.free p5 hl
    refine ⟨m, rfl, by omega, by omega, ?_⟩
    refine for_seq (seq_range 0 (m : Int).toNat) (fun i σ H' => ∃ (zs : List Str) (o8 o9 o10 : Option V), σ = [some (.ref p), some (.int m), some (.str "abcdefghijklmnopqrstuvwxyz"), some (.int (1 + r1)), some (.int a), some (.int st), some (.ref lb), some (.ref l), o8, o9, o10] /\ zs.length = i /\ (∀ z ∈ zs, isNm z) /\ (∀ (j : Nat) (z : Str), zs[j]? = some z -> z.cps.toList[a]? = some (sgn LET ((bs[a] + st * (j : Int)) % 26))) /\ H' l = some (.lst (zs.map V.str)) /\ H' lb = some (.lst (bs.map V.int)) /\ PenAt H' p /\ K1 p H H')
      (fun _ _ _ _ => trivial) ⟨[], _, _, _, rfl, rfl, (fun _ h => nomatch h), (fun _ _ h => by cases h), upd_same, same_upd hl _ _ gb, p5.same (same_upd hl), k5.trans (.of (same_upd hl))⟩ ?_ ?_
    . rintro i x σ G1 hx ⟨zs, o8, o9, o10, rfl, hzl, hnm, hat, gl, glb, q1, j1⟩
      have hi : i < m := by
        have := (Zgs.mp hx).1
        simp [rangeV] at this
        omega
      have ex : x = .int (i : Int) := by
        unfold rangeV at hx; rw [Zgm, List.getElem?_range (by omega)] at hx
        have := Option.some.inj hx
        rw [<- this]; show V.int (0 + (i : Int)) = _
        rw [Int.zero_add]
      subst ex; dsimp only [gName]; refine ⟨p, _, rfl, q1, by omega, by omega, fun t' G2 t0 t1 q2 j2 => ?_⟩
      dsimp only [gName]; obtain ⟨t, rfl⟩ := Zio t0
      have glb2 := j2 _ _ glb npb
      have gl2 := j2 _ _ gl npl
      refine ⟨_, SqL.of glb2, fun lg hlg => ?_⟩
      have ec : cut (bs.map V.int) none (some ((a : Int) + 1 + t)) = (bs.take (a + 1 + t)).map V.int := by
        rw [show ((a : Int) + 1 + t) = ((a + 1 + t : Nat) : Int) by omega, cut_to, List.map_take]
      rw [ec]; dsimp only [gName]; have htl : (bs.take (a + 1 + t)).length = a + 1 + t := by rw [Zlk]; omega
      refine ⟨_, SqL.of (same_upd hlg _ _ glb2), .int bs[a], atI_nat (by rw [Zgm, Zge ha]; rfl), .inl (by rcases hok with rfl | rfl | rfl | rfl | rfl | rfl <;> exact ⟨by decide, by decide⟩), by show (0 : Int) < _; decide, lg, _, _, a, rfl, rfl, upd_same, ?_, ?_⟩
      . unfold ixN; rw [Zlm, htl, if_pos (by omega), if_pos (by omega)]
        rfl
      dsimp only; generalize hv : (bs[a] + st * (i : Int)) % 26 = v; have v0 : 0 <= v := by rw [<- hv]; exact Int.emod_nonneg _ (by decide)
      have v1 : v < 26 := by rw [<- hv]; exact Int.emod_lt_of_pos _ (by decide)
      rw [show ((bs.take (a + 1 + t)).map V.int).set a (V.int v) = ((bs.take (a + 1 + t)).set a v).map V.int by rw [List.map_set]]
      generalize hss : (bs.take (a + 1 + t)).set a v = ss; have hsl : ss.length = a + 1 + t := by rw [<- hss, List.length_set, htl]
      have hsb : ∀ x ∈ ss, 0 <= x /\ x < 26 := fun x hx => by
        rw [<- hss] at hx; rcases List.mem_or_eq_of_mem_set hx with h | h
        . exact e3 x (List.mem_of_mem_take h)
        . rw [h]; exact ⟨v0, v1⟩
      have hsa : ss[a]? = some v := by rw [<- hss, List.getElem?_set_self (by omega)]
      have sg : Same G2 (upd (upd G2 lg (.lst ((bs.take (a + 1 + t)).map V.int))) lg (.lst (ss.map V.int))) := fun c o e => by
        rw [upd_ne (ne_of_none e hlg), upd_ne (ne_of_none e hlg)]; exact e
      have gg : (upd (upd G2 lg (.lst ((bs.take (a + 1 + t)).map V.int))) lg (.lst (ss.map V.int))) lg = some (.lst (ss.map V.int)) := upd_same
      generalize upd (upd G2 lg (.lst ((bs.take (a + 1 + t)).map V.int))) lg (.lst (ss.map V.int)) = G3 at sg gg ⊢; have el : (("abcdefghijklmnopqrstuvwxyz" : Str).cps.toList) = LET := let_eq
      refine ⟨.inl ⟨rfl, _, SqL.of (sg _ _ gl2)⟩, rfl, lg, rfl, ⟨_, SqL.of gg⟩, ?_⟩
      refine comp_pure (seq_list K lg (ss.map V.int)) (by rw [Zlm]; omega) (fun _ => true) (fun v => match v with | .int i => .str (tx [sgn LET i]) | _ => v) (SqL.of gg) (fun y ys N hy ht hf => ?_) ?_
      . obtain ⟨i', hi', rfl⟩ := Zmm.mp hy
        have hb := hsb i' hi'
        exact ⟨by decide +kernel, _, (by rw [el]; exact (sgn_at (cs := LET) hb.1 (show i' < 26 from hb.2)).1), ht rfl⟩
      intro l3 h3; have ef : ((ss.map V.int).filter (fun _ => true)).map (fun v => match v with | .int i => .str (tx [sgn LET i]) | _ => v) = ((ss.map (sgn LET)).map (fun c => tx [c])).map V.str := by
        rw [List.filter_eq_self.mpr (fun _ _ => rfl), List.map_map, List.map_map, List.map_map]
        rfl
      rw [ef]; have hz : isNm (tx (ss.map (sgn LET))) := ⟨by rw [tx_len, Zlm]; omega, by rw [tx_len, Zlm]; omega, fun c hc => by
        rw [cps_tx] at hc; obtain ⟨i', hi', rfl⟩ := Zmm.mp hc
        have hb := hsb i' hi'
        exact (sgn_at (cs := LET) hb.1 (show i' < 26 from hb.2)).2⟩
      have hza : (tx (ss.map (sgn LET))).cps.toList[a]? = some (sgn LET ((bs[a] + st * (i : Int)) % 26)) := by
        rw [cps_tx, Zgm, hsa, hv]; rfl
      refine ⟨_, l3, (ss.map (sgn LET)).map (fun c => tx [c]), rfl, rfl, SqL.of upd_same, ?_, ?_⟩
      . rw [sum_ones, Zlm, Zlm, emp_eq, tx_len]; simp; omega
      rw [emp_eq, join_signs]; have gl3 := same_upd (o := .lst (((ss.map (sgn LET)).map (fun c => tx [c])).map V.str)) h3 _ _ (sg _ _ gl2)
      refine ⟨l, _, _, rfl, rfl, gl3, Znl (m := 60) (by rw [Zlm]; omega) (by decide), ?_⟩
      have sz : K1 p G2 (upd G3 l3 (.lst (((ss.map (sgn LET)).map (fun c => tx [c])).map V.str))) := .of (sg.trans (same_upd h3))
      refine ⟨zs ++ [tx (ss.map (sgn LET))], _, _, _, rfl, by rw [Zla, hzl]; rfl, fun y hy => ?_, fun j z hj => ?_, by rw [upd_same, Zap]; rfl, ?_, ?_, fun c o e n => ?_⟩
      . rcases Zma.mp hy with h | h
        . exact hnm y h
        . rw [Zms.mp h]; exact hz
      . by_cases hji : j < zs.length
        . rw [List.getElem?_append_left hji] at hj; exact hat j z hj
        . have hj' := (Zgs.mp hj).1
          rw [Zla] at hj'; have : j = zs.length := by simp at hj'; omega
          subst this; rw [List.getElem?_append_right (Znr _), Nat.sub_self] at hj; cases hj
          rw [hzl]; exact hza
      . rw [upd_ne nlb]; exact sz _ _ glb2 npb
      . obtain ⟨i', j', g', r'⟩ := q2
        exact ⟨i', j', by rw [upd_ne npl.symm]; exact (sg.trans (same_upd h3)) _ _ g', r'⟩
      . rw [upd_ne (ne_of_none e hl0)]; exact (j1.trans (j2.trans sz)) c o e n
    . rintro σ G1 ⟨zs, o8, o9, o10, rfl, hzl, hnm, hat, gl, glb, q1, j1⟩
      have hzm : zs.length = m := by rw [hzl]; simp [rangeV]
      exact q l zs G1 hzm hnm (nd_at a (fun j => sgn LET ((bs[a] + st * (j : Int)) % 26)) hat fun j j' h h' => let_inj hok h (by omega)) hl0 gl q1 j1
theorem ok_keys20 (T : Txt K mg) (cLtake : Callee P w K mg base 1 "_law_take" ["_law_pen_here", "_law_most"] spTake) (D : DefAt K mg "_law_keys" s_law_keys ["_law_pen_here", "_law_many"]) : Callee P w K mg base 2 "_law_keys" ["_law_pen_here", "_law_many"] spKeys20 := by
  refine D.go sc_law_keys (fun vs H Q E h => ?_) (fun f cdv A outer s H vs Q E hr h => ?_)
  . obtain ⟨p, m, rfl, _⟩ := h; rfl
  . obtain ⟨p, m, rfl, pn, hm, q⟩ := h
    have hLtake := hr
    refine ⟨_, (R.scons (R.set (i := 2) sc_law_keys.nd R.str) (R.scons (R.set (i := 3) sc_law_keys.nd (R.op R.add R.int (R.fn cLtake hLtake rfl (R.cons (R.v 0) (R.cons R.int R.nil))))) (R.scons (R.set (i := 4) sc_law_keys.nd (R.fn cLtake hLtake rfl (R.cons (R.v 0) (R.cons (R.v 3) R.nil)))) (R.scons (R.set (i := 5) sc_law_keys.nd (R.ix (R.kiL (K := K)) (R.lst (R.cons R.int (R.cons R.int (R.cons R.int (R.cons R.int (R.cons R.int (R.cons R.int R.nil))))))) (R.fn cLtake hLtake rfl (R.cons (R.v 0) (R.cons R.int R.nil))))) (R.scons (R.set (i := 6) sc_law_keys.nd (R.comp rfl (js := [none, some 0]) (N := ["_law_j", "_law_pen_here"]) (CompScope.by (defScope s_law_keys) ["_law_pen_here", "_law_many", "_law_signs", "_law_size", "_law_at", "_law_step", "_law_base", "_law_rows", "_law_k", "_law_row_here"] rfl rfl (by decide +kernel)) (gown_name rfl) (R.range1 rfl T.b_range (R.cons R.int R.nil)) (fun C s₂ H₂ fp => ⟨(R.gn (i := 0) (show (["_law_j", "_law_pen_here"] : List Str).Nodup by decide +kernel)), R.ts0, (R.fn cLtake hLtake rfl (R.cons (R.v 1) (R.cons R.int R.nil)))⟩))) (R.scons (R.scomp (i := 7) sc_law_keys.nd rfl (Or.inl rfl) rfl (js := [none, some 6]) (N := ["_law_k", "_law_base"]) (CompScope.by (defScope s_law_keys) ["_law_pen_here", "_law_many", "_law_signs", "_law_size", "_law_at", "_law_step", "_law_base", "_law_rows", "_law_k", "_law_row_here"] rfl rfl (by decide +kernel)) (gown_name rfl) (R.range1 rfl T.b_range (R.cons (R.v 1) R.nil)) (fun C s₂ H₂ fp => ⟨(R.gn (i := 0) (show (["_law_k", "_law_base"] : List Str).Nodup by decide +kernel)), R.ts0, (R.sl (R.ksL (K := K)) (R.v 1) R.pn (R.ps (R.op R.sub R.int (R.v 0))))⟩) rfl) (R.scons (R.ife (R.tcmp R.gt (R.fn cLtake hLtake rfl (R.cons (R.v 0) (R.cons R.int R.nil))) R.int) (R.scons (R.set (i := 7) sc_law_keys.nd (R.lst R.nil)) (R.sone (R.for_ PassesOwn.never rfl (R.range1 rfl T.b_range (R.cons (R.v 1) R.nil)) (R.gn (i := 8) sc_law_keys.nd) (R.scons (R.set (i := 9) sc_law_keys.nd (R.sl (R.ksL (K := K)) (R.v 6) R.pn (R.ps (R.op R.add (R.op R.add (R.v 4) R.int) (R.fn cLtake hLtake rfl (R.cons (R.v 0) (R.cons (R.op R.sub (R.v 3) (R.v 4)) R.nil))))))) (R.scons (R.asg (R.op R.mod (R.op R.add (R.ix (R.kiL (K := K)) (R.v 6) (R.v 4)) (R.op R.mul (R.v 5) (R.v 8))) R.int) (R.gsub (R.v 9) (R.v 4) R.setL)) (R.sone (R.expr (R.kbm (K := K) PySem.F.plainAttrs_list PySem.F.slot_list_append PySem.F.type_list_append R.append (R.v 7) (R.cons (R.v 9) R.nil))))))))) R.snil) (R.sone (R.ret (R.comp rfl (js := [none, some 2]) (N := ["_law_row_here", "_law_signs"]) (CompScope.by (defScope s_law_keys) ["_law_pen_here", "_law_many", "_law_signs", "_law_size", "_law_at", "_law_step", "_law_base", "_law_rows", "_law_k", "_law_row_here"] rfl rfl (by decide +kernel)) (gown_name rfl) (R.kwL (K := K) (R.v 7)) (fun C s₂ H₂ fp => ⟨(R.gn (i := 0) (show (["_law_row_here", "_law_signs"] : List Str).Nodup by decide +kernel)), R.ts0, (R.kbm (K := K) PySem.F.plainAttrs_str PySem.F.slot_str_join PySem.F.type_str_join (R.kjoin (K := K)) R.str (R.cons (R.comp rfl (js := [none, some 1]) (N := ["_law_sign", "_law_signs"]) (CompScope.by ({ kind := ScopeKind.function, names := [(".0", NameKind.local), ("_law_row_here", NameKind.local), ("_law_signs", NameKind.cell)], isGenerator := false, isCoroutine := false } : Scope) ["_law_row_here", "_law_signs"] rfl rfl (by decide +kernel)) (gown_name rfl) (R.kwL (K := K) (R.v 0)) (fun C s₂ H₂ fp => ⟨(R.gn (i := 0) (show (["_law_sign", "_law_signs"] : List Str).Nodup by decide +kernel)), R.ts0, (R.ix R.iS (R.v 1) (R.v 0))⟩)) R.nil))⟩))))))))))), ?_⟩
    refine ⟨p, 12, rfl, pn, by decide, by decide, fun r1 H2 b0 b1 p2 k2 => ?_⟩
    dsimp only [gName]; refine ⟨p, _, rfl, p2, by omega, by omega, fun a' H3 c0 c1 p3 k3 => ?_⟩
    dsimp only [gName]; obtain ⟨a, rfl⟩ := Zio c0
    refine ⟨szl rfl, fun ls hls => ⟨p, 6, rfl, p3.same (same_upd hls), by decide, by decide, fun r2 H4 d0 d1 p4 k4 => ⟨_, SqL.of (k4 _ _ upd_same (p3.ne hls)), ?_⟩⟩⟩
    have hst : ∃ s : Int, atI ([V.int 1, .int 5, .int 7, .int 11, .int 13, .int 17] : List V) r2 = some (.int s) /\ stepOk2 s := by
      rcases six d0 d1 with rfl | rfl | rfl | rfl | rfl | rfl
      . exact ⟨_, rfl, .inl rfl⟩
      . exact ⟨_, rfl, .inr (.inl rfl)⟩
      . exact ⟨_, rfl, .inr (.inr (.inl rfl))⟩
      . exact ⟨_, rfl, .inr (.inr (.inr (.inl rfl)))⟩
      . exact ⟨_, rfl, .inr (.inr (.inr (.inr (.inl rfl))))⟩
      . exact ⟨_, rfl, .inr (.inr (.inr (.inr (.inr rfl))))⟩
    obtain ⟨st, hst, hok⟩ := hst
    refine ⟨_, hst, ?_⟩
    dsimp only [gName]; have k14 : K1 p H H4 := (k2.trans (k3.trans (.of (same_upd hls)))).trans k4
    refine ⟨12, rfl, by decide, by decide, ?_⟩
    refine comp_seq (seq_range 0 (12 : Int).toNat) (by decide) (fun i ys H' => ∃ bs : List Int, ys = bs.map V.int /\ bs.length = i /\ (∀ x ∈ bs, 0 <= x /\ x < 36) /\ PenAt H' p /\ K1 p H H') (fun i ys H' ⟨bs, e, e2, _⟩ => ⟨trivial, by rw [e, Zlm, e2]; exact Znr _⟩) ⟨[], rfl, rfl, (fun _ h => nomatch h), p4, k14⟩ (fun i x ys H' hx ⟨bs, e, e2, e3, pi, ki⟩ => ?_) (fun ys H' ⟨bs, e, e2, e3, pi, ki⟩ => ?_)
    . refine ⟨p, 36, rfl, pi, by decide, by decide, fun r H'' f0 f1 pj kj => ⟨bs ++ [r], by rw [e, Zap]; rfl, by rw [Zla, e2]; rfl, fun x hx => ?_, pj, ki.trans kj⟩⟩
      rcases Zma.mp hx with h | h
      . exact e3 x h
      . rw [Zms.mp h]; exact ⟨f0, f1⟩
    intro lb hlb; subst e; have hbl : bs.length = 12 := by rw [e2]; decide
    have ha : a < bs.length := by omega
    have gb : (upd H' lb (.lst (bs.map V.int))) lb = some (.lst (bs.map V.int)) := upd_same
    have p5 := pi.same (same_upd (o := .lst (bs.map V.int)) hlb)
    have k5 : K1 p H (upd H' lb (.lst (bs.map V.int))) := ki.trans (.of (same_upd hlb))
    have npb : lb ≠ p := pi.ne hlb
    dsimp only [gName]; generalize upd H' lb (.lst (bs.map V.int)) = H5 at gb p5 k5 ⊢; refine ⟨m, rfl, by omega, by omega, ?_⟩
    refine comp_seq (seq_range 0 (m : Int).toNat) (by simp [rangeV]; omega) (fun i ys H' => ∃ rs : List (Addr × List Int), ys = rs.map (fun q => V.ref q.1) /\ rs.length = i /\ (∀ (j : Nat) (q : Addr × List Int), rs[j]? = some q -> q.2 = bs.take (12 - j)) /\ RowsOk H' rs /\ (∀ q ∈ rs, q.1 ≠ p) /\ Same H5 H') (fun i ys H' ⟨rs, e, e2, _⟩ => ⟨trivial, by rw [e, Zlm, e2]; exact Znr _⟩) ⟨[], rfl, rfl, (fun _ _ h => by cases h), (fun _ h => nomatch h), (fun _ h => nomatch h), Same.refl _⟩ (fun i x ys G hx ⟨rs, e, e4, e5, ro, rp, sG⟩ => ?_) (fun ys G ⟨rs, e, e4, e5, ro, rp, sG⟩ => ?_)
    . have hi : i < m := by
        have := (Zgs.mp hx).1
        simp [rangeV] at this
        omega
      have ex : x = .int (i : Int) := by
        unfold rangeV at hx; rw [Zgm, List.getElem?_range (by omega)] at hx
        have := Option.some.inj hx
        rw [<- this]; show V.int (0 + (i : Int)) = _
        rw [Int.zero_add]
      subst ex; refine ⟨_, SqL.of (sG _ _ gb), fun lg hlg => ?_⟩
      have ec : cut (bs.map V.int) none (some ((12 : Int) - i)) = (bs.take (12 - i)).map V.int := by
        rw [show ((12 : Int) - i) = ((12 - i : Nat) : Int) by omega, cut_to, List.map_take]
      dsimp only; rw [ec]; refine ⟨rs ++ [(lg, bs.take (12 - i))], by rw [e, Zap]; rfl, by rw [Zla, e4]; rfl, fun j q' hj => ?_, fun q' hq' => ?_, fun q' hq' => ?_, sG.trans (same_upd hlg)⟩
      . by_cases hji : j < rs.length
        . rw [List.getElem?_append_left hji] at hj; exact e5 j q' hj
        . have hj' := (Zgs.mp hj).1
          rw [Zla] at hj'; have : j = rs.length := by simp at hj'; omega
          subst this; rw [List.getElem?_append_right (Znr _), Nat.sub_self] at hj; cases hj
          rw [e4]
      . rcases Zma.mp hq' with h | h
        . exact (ro.same (same_upd hlg)) q' h
        . rw [Zms.mp h]; exact ⟨upd_same, by rw [Zlk]; omega, by rw [Zlk]; omega, fun x hx => e3 x (List.mem_of_mem_take hx)⟩
      . rcases Zma.mp hq' with h | h
        . exact rp q' h
        . rw [Zms.mp h]; exact (p5.same sG).ne hlg
    intro lr hlr; subst e; have hrl : rs.length = m := by rw [e4]; simp [rangeV]
    dsimp only [gName]; have glr : (upd G lr (.lst (rs.map fun q => V.ref q.1))) lr = some (.lst (rs.map fun q => V.ref q.1)) := upd_same
    have s6 : Same H5 (upd G lr (.lst (rs.map fun q => V.ref q.1))) := sG.trans (same_upd hlr)
    have ro6 := ro.same (same_upd (o := .lst (rs.map fun q => V.ref q.1)) hlr)
    have nlr : lr ≠ p := (p5.same sG).ne hlr
    generalize upd G lr (.lst (rs.map fun q => V.ref q.1)) = H6 at glr s6 ro6 ⊢
    have p6 := p5.same s6
    have k6 : K1 p H H6 := k5.trans (.of s6)
    have gb6 := s6 _ _ gb
    refine cutS (t := tIfS _ _ _) (fun σ' H' => ∃ (lr : Addr) (rs : List (Addr × List Int)) (o8 o9 : Option V), σ' = [some (.ref p), some (.int m), some (.str "abcdefghijklmnopqrstuvwxyz0123456789"), some (.int (1 + r1)), some (.int a), some (.int st), some (.ref lb), some (.ref lr), o8, o9] /\ H' lr = some (.lst (rs.map fun q => V.ref q.1)) /\ rs.length = m /\ RowsOk H' rs /\ (rs.map kword).Nodup /\ PenAt H' p /\ K1 p H H') (fun nx hnx => ?_) ?_
    . refine ⟨p, 4, rfl, p6, by decide, by decide, fun r H7 f0 f1 p7 k7 => ?_⟩
      refine if_b (fun _ => ?_) (fun _ => ?_)
      rotate_left
      . refine hnx _ _ ⟨lr, rs, _, _, rfl, k7 _ _ glr nlr, hrl, ro6.k1 k7 rp, ?_, p7, k6.trans k7⟩
        refine List.pairwise_map.mpr (List.pairwise_iff_getElem.mpr fun i j hi hj hij e => ?_)
        have e1 := e5 i _ (Zge hi)
        have e6 := e5 j _ (Zge hj)
        have el := congrArg Str.length e
        unfold kword at el; rw [tx_len, tx_len, Zlm, Zlm, e1, e6, Zlk, Zlk] at el; omega
      have gb7 := k7 _ _ gb6 npb
      have k07 := k6.trans k7
      refine ⟨szl rfl, fun l hl => ?_⟩
      dsimp only [gName]; have nlb : lb ≠ l := ne_of_none gb7 hl
      have npl : l ≠ p := p7.ne hl
      have hl0 : H l = none := k07.free p7 hl
      refine ⟨m, rfl, by omega, by omega, ?_⟩
      refine for_seq (seq_range 0 (m : Int).toNat) (fun i σ H' => ∃ (zs : List (Addr × List Int)) (o8 o9 : Option V), σ = [some (.ref p), some (.int m), some (.str "abcdefghijklmnopqrstuvwxyz0123456789"), some (.int (1 + r1)), some (.int a), some (.int st), some (.ref lb), some (.ref l), o8, o9] /\ zs.length = i /\ RowsOk H' zs /\ (∀ q ∈ zs, q.1 ≠ p /\ q.1 ≠ l) /\ (∀ (j : Nat) (q : Addr × List Int), zs[j]? = some q -> (kword q).cps.toList[a]? = some (sgn KLET ((bs[a] + st * (j : Int)) % 36))) /\ H' l = some (.lst (zs.map fun q => V.ref q.1)) /\ H' lb = some (.lst (bs.map V.int)) /\ PenAt H' p /\ K1 p H H')
        (fun _ _ _ _ => trivial) ⟨[], _, _, rfl, rfl, (fun _ h => nomatch h), (fun _ h => nomatch h), (fun _ _ h => by cases h), upd_same, same_upd hl _ _ gb7, p7.same (same_upd hl), k07.trans (.of (same_upd hl))⟩ ?_ ?_
      . rintro i x σ G1 hx ⟨zs, o8, o9, rfl, hzl, hro, hrp, hat, gl, glb, q1, j1⟩
        have hi : i < m := by
          have := (Zgs.mp hx).1
          simp [rangeV] at this
          omega
        have ex : x = .int (i : Int) := by
          unfold rangeV at hx; rw [Zgm, List.getElem?_range (by omega)] at hx
          have := Option.some.inj hx
          rw [<- this]; show V.int (0 + (i : Int)) = _
          rw [Int.zero_add]
        subst ex; dsimp only [gName]; refine ⟨p, _, rfl, q1, by omega, by omega, fun t' G2 t0 t1 q2 j2 => ?_⟩
        obtain ⟨t, rfl⟩ := Zio t0
        have glb2 := j2 _ _ glb npb
        have gl2 := j2 _ _ gl npl
        refine ⟨_, SqL.of glb2, fun lg hlg => ?_⟩
        have ec : cut (bs.map V.int) none (some ((a : Int) + 1 + t)) = (bs.take (a + 1 + t)).map V.int := by
          rw [show ((a : Int) + 1 + t) = ((a + 1 + t : Nat) : Int) by omega, cut_to, List.map_take]
        dsimp only [gName]; rw [ec]; have htl : (bs.take (a + 1 + t)).length = a + 1 + t := by rw [Zlk]; omega
        refine ⟨_, SqL.of (same_upd hlg _ _ glb2), .int bs[a], atI_nat (by rw [Zgm, Zge ha]; rfl), .inl (by rcases hok with rfl | rfl | rfl | rfl | rfl | rfl <;> exact ⟨by decide, by decide⟩), by show (0 : Int) < _; decide, lg, _, _, a, rfl, rfl, upd_same, ?_, ?_⟩
        . unfold ixN; rw [Zlm, htl, if_pos (by omega), if_pos (by omega)]
          rfl
        dsimp only; generalize hv : (bs[a] + st * (i : Int)) % 36 = v; have v0 : 0 <= v := by rw [<- hv]; exact Int.emod_nonneg _ (by decide)
        have v1 : v < 36 := by rw [<- hv]; exact Int.emod_lt_of_pos _ (by decide)
        rw [show ((bs.take (a + 1 + t)).map V.int).set a (V.int v) = ((bs.take (a + 1 + t)).set a v).map V.int by rw [List.map_set]]
        generalize hss : (bs.take (a + 1 + t)).set a v = ss; have hsl : ss.length = a + 1 + t := by rw [<- hss, List.length_set, htl]
        have hsb : ∀ x ∈ ss, 0 <= x /\ x < 36 := fun x hx => by
          rw [<- hss] at hx; rcases List.mem_or_eq_of_mem_set hx with h | h
          . exact e3 x (List.mem_of_mem_take h)
          . rw [h]; exact ⟨v0, v1⟩
        have hsa : ss[a]? = some v := by rw [<- hss, List.getElem?_set_self (by omega)]
        have sg : Same G2 (upd (upd G2 lg (.lst ((bs.take (a + 1 + t)).map V.int))) lg (.lst (ss.map V.int))) := fun c o e => by
          rw [upd_ne (ne_of_none e hlg), upd_ne (ne_of_none e hlg)]; exact e
        have gg : (upd (upd G2 lg (.lst ((bs.take (a + 1 + t)).map V.int))) lg (.lst (ss.map V.int))) lg = some (.lst (ss.map V.int)) := upd_same
        generalize upd (upd G2 lg (.lst ((bs.take (a + 1 + t)).map V.int))) lg (.lst (ss.map V.int)) = G3 at sg gg ⊢; have gl3 := sg _ _ gl2
        have nlg : lg ≠ p /\ lg ≠ l := ⟨q2.ne hlg, (ne_of_none gl2 hlg).symm⟩
        refine ⟨.inl ⟨rfl, _, SqL.of gl3⟩, l, _, _, rfl, rfl, gl3, Znl (m := 60) (by rw [Zlm]; omega) (by decide), ?_⟩
        refine ⟨zs ++ [(lg, ss)], _, _, rfl, by rw [Zla, hzl]; rfl, fun y hy => ?_, fun y hy => ?_, fun j z hj => ?_, by rw [upd_same, Zap]; rfl, ?_, ?_, fun c o e n => ?_⟩
        . rcases Zma.mp hy with h | h
          . refine ⟨?_, (hro y h).2⟩
            rw [upd_ne (hrp y h).2]; exact sg _ _ (j2 _ _ (hro y h).1 (hrp y h).1)
          . rw [Zms.mp h]; exact ⟨by rw [upd_ne nlg.2]; exact gg, by rw [hsl]; omega, by rw [hsl]; omega, hsb⟩
        . rcases Zma.mp hy with h | h
          . exact hrp y h
          . rw [Zms.mp h]; exact nlg
        . by_cases hji : j < zs.length
          . rw [List.getElem?_append_left hji] at hj; exact hat j z hj
          . have hj' := (Zgs.mp hj).1
            rw [Zla] at hj'; have : j = zs.length := by simp at hj'; omega
            subst this; rw [List.getElem?_append_right (Znr _), Nat.sub_self] at hj; cases hj
            unfold kword; rw [hzl, cps_tx, Zgm, hsa, hv]; rfl
        . rw [upd_ne nlb]; exact sg _ _ glb2
        . obtain ⟨i', j', g', r'⟩ := q2
          exact ⟨i', j', by rw [upd_ne npl.symm]; exact sg _ _ g', r'⟩
        . rw [upd_ne (ne_of_none e hl0)]; exact sg _ _ ((j1.trans j2) c o e n)
      . rintro σ G1 ⟨zs, o8, o9, rfl, hzl, hro, hrp, hat, gl, glb, q1, j1⟩
        have hzm : zs.length = m := by rw [hzl]; simp [rangeV]
        refine hnx _ _ ⟨l, zs, _, _, rfl, gl, hzm, hro, nd_at a (fun j => sgn KLET ((bs[a] + st * (j : Int)) % 36)) (fun j z hj => ?_) (fun j j' h h' => klet_inj hok h (by rw [Zlm] at h'; omega)), q1, j1⟩
        rw [Zgm] at hj; cases hq : zs[j]? with
        | none => rw [hq] at hj; cases hj
        | some w' =>
          rw [hq] at hj; cases hj
          exact hat j w' hq
    rintro σ' H7 ⟨lr', rs', o8, o9, rfl, glr', hrl', ro', nd', p7, k7⟩
    have el : (("abcdefghijklmnopqrstuvwxyz0123456789" : Str).cps.toList) = KLET := klet_eq
    refine ⟨lr', rfl, ⟨_, SqL.of glr'⟩, ?_⟩
    refine comp_seq (seq_list K lr' (rs'.map fun q => V.ref q.1)) (by rw [Zlm]; omega) (fun i ys H' => ys = ((rs'.take i).map kword).map V.str /\ Same H7 H') (fun i ys H' ⟨e, s'⟩ => ⟨SqL.of (s' _ _ glr'), by rw [e, Zlm, Zlm, Zlk]; exact Nat.min_le_left _ _⟩) ⟨rfl, Same.refl _⟩ (fun i x ys H' hx ⟨e, s'⟩ => ?_) (fun ys H' ⟨e, s'⟩ => ?_)
    . rw [Zgm] at hx; cases hq : rs'[i]? with
      | none => rw [hq] at hx; cases hx
      | some w' =>
        rw [hq] at hx; cases hx
        obtain ⟨gw, w1, w2, w3⟩ := ro' w' (Zmg hq)
        refine ⟨rfl, w'.1, rfl, ⟨_, SqL.of (s' _ _ gw)⟩, ?_⟩
        refine comp_pure (seq_list K w'.1 (w'.2.map V.int)) (by rw [Zlm]; omega) (fun _ => true) (fun v => match v with | .int i => .str (tx [sgn KLET i]) | _ => v) (SqL.of (s' _ _ gw)) (fun y ys N hy ht hf => ?_) ?_
        . obtain ⟨i', hi', rfl⟩ := Zmm.mp hy
          have hb := w3 i' hi'
          exact ⟨by decide +kernel, _, (by rw [el]; exact (sgn_at (cs := KLET) hb.1 (show i' < 36 from hb.2)).1), ht rfl⟩
        intro l3 h3; have ef : ((w'.2.map V.int).filter (fun _ => true)).map (fun v => match v with | .int i => .str (tx [sgn KLET i]) | _ => v) = ((w'.2.map (sgn KLET)).map (fun c => tx [c])).map V.str := by
          rw [List.filter_eq_self.mpr (fun _ _ => rfl), List.map_map, List.map_map, List.map_map]
          rfl
        rw [ef]; refine ⟨_, l3, (w'.2.map (sgn KLET)).map (fun c => tx [c]), rfl, rfl, SqL.of upd_same, ?_, ?_⟩
        . rw [sum_ones, Zlm, Zlm, emp_eq, tx_len]; simp; omega
        rw [emp_eq, join_signs]; refine ⟨?_, s'.trans (same_upd h3)⟩
        rw [List.take_succ, hq, Zap, Zap, e]; rfl
    . intro l3 h3; rw [Zlm, List.take_length] at e; refine q l3 (rs'.map kword) _ (by rw [Zlm, hrl']) (fun z hz => ?_) nd' (k7.free p7 (s'.free h3)) (by rw [upd_same, e]) ((p7.same s').same (same_upd h3)) (k7.trans (.of (s'.trans (same_upd h3))))
      obtain ⟨w', hw', rfl⟩ := Zmm.mp hz
      exact ro'.ky w' hw'
theorem ok_asks (T : Txt K mg) (D : DefAt K mg "asks_of" s_asks_of ["deed"]) : Callee P w K mg base 1 "asks_of" ["deed"] spAsks := by
  refine D.go sc_asks_of (fun vs H Q E h => ?_) (fun f cdv A outer s H vs Q E hr h => ?_)
  . obtain ⟨p, wd, xs, cs, as, rfl, _⟩ := h; rfl
  . obtain ⟨p, wd, xs, cs, as, rfl, hp, ⟨one, other, nm, n, hd⟩, q⟩ := h
    refine ⟨_, (R.scons (R.set (i := 1) sc_asks_of.nd (R.wtup (R.cons R.str (R.cons (R.ix (R.kiT (K := K)) (R.v 0) (R.neg R.int)) (R.cons (R.ix (R.kiT (K := K)) (R.v 0) (R.neg R.int)) R.nil))))) (R.scons (R.set (i := 2) sc_asks_of.nd (R.wtup (R.cons R.str (R.cons (R.ix (R.kiT (K := K)) (R.v 0) (R.neg R.int)) (R.cons (R.ix (R.kiT (K := K)) (R.v 0) (R.neg R.int)) R.nil))))) (R.scons (R.ife (R.tcmp R.eq (R.ix (R.kiT (K := K)) (R.v 0) R.int) R.str) (R.sone (R.ret (R.wtup (R.cons (R.wtup (R.cons (R.ix (R.kiT (K := K)) (R.v 0) R.int) (R.cons (R.v 1) R.nil))) R.nil)))) R.snil) (R.scons (R.ife (R.tcmp R.eq (R.ix (R.kiT (K := K)) (R.v 0) R.int) R.str) (R.sone (R.ret (R.wtup (R.cons (R.wtup (R.cons (R.ix (R.kiT (K := K)) (R.v 0) R.int) (R.cons (R.v 2) R.nil))) R.nil)))) R.snil) (R.scons (R.ife (R.tcmp R.eq (R.ix (R.kiT (K := K)) (R.v 0) R.int) R.str) (R.sone (R.ret (R.wtup (R.cons (R.wtup (R.cons (R.ix (R.kiT (K := K)) (R.v 0) R.int) (R.cons (R.v 2) R.nil))) (R.cons (R.wtup (R.cons (R.ix (R.kiT (K := K)) (R.v 0) R.int) (R.cons (R.v 1) R.nil))) R.nil))))) R.snil) (R.sone (R.ret (R.wtup R.nil)))))))), ?_⟩
    cases hd
    all_goals
      refine ⟨_, SqT.of hp, _, rfl, _, SqT.of hp, _, rfl, by simp, fun p1 H1 s1 g1 => ⟨_, SqT.of (s1 _ _ hp), _, rfl, _, SqT.of (s1 _ _ hp), _, rfl, by simp, fun p2 H2 s2 g2 => ?_⟩⟩
      have hp2 := (s1.trans s2) _ _ hp
      refine ⟨_, SqT.of hp2, _, rfl, ?_⟩
    case send => exact ⟨_, SqT.of hp2, _, rfl, by simp, fun p3 H3 s3 g3 => ⟨by simp, fun p4 H4 s4 g4 => q p4 _ H4 (((s1.trans s2).trans s3).trans s4) g4 (.cons ⟨p3, p1, rfl, s4 _ _ g3, s4 _ _ (s3 _ _ (s2 _ _ g1))⟩ .nil)⟩⟩
    all_goals refine ⟨_, SqT.of hp2, _, rfl, ?_⟩
    case fetch => exact ⟨_, SqT.of hp2, _, rfl, by simp, fun p3 H3 s3 g3 => ⟨by simp, fun p4 H4 s4 g4 => q p4 _ H4 (((s1.trans s2).trans s3).trans s4) g4 (.cons ⟨p3, p2, rfl, s4 _ _ g3, s4 _ _ (s3 _ _ g2)⟩ .nil)⟩⟩
    all_goals refine ⟨_, SqT.of hp2, _, rfl, ?_⟩
    case pass =>
      refine ⟨_, SqT.of hp2, _, rfl, by simp, fun p3 H3 s3 g3 => ⟨_, SqT.of (s3 _ _ hp2), _, rfl, by simp, fun p4 H4 s4 g4 => ⟨by simp, fun p5 H5 s5 g5 => ?_⟩⟩⟩
      exact q p5 _ H5 ((((s1.trans s2).trans s3).trans s4).trans s5) g5 (.cons ⟨p3, p2, rfl, s5 _ _ (s4 _ _ g3), s5 _ _ (s4 _ _ (s3 _ _ g2))⟩ (.cons ⟨p4, p1, rfl, s5 _ _ g4, s5 _ _ (s4 _ _ (s3 _ _ (s2 _ _ g1)))⟩ .nil))
    all_goals exact ⟨by decide, fun p3 H3 s3 g3 => q p3 [] H3 ((s1.trans s2).trans s3) g3 .nil⟩
theorem ok_word_of (T : Txt K mg) (D : DefAt K mg "word_of" s_word_of ["thing"]) : Callee P w K mg base 1 "word_of" ["thing"] spWordOf := by
  refine D.go sc_word_of (fun vs H Q E h => ?_) (fun f cdv A outer s H vs Q E hr h => ?_)
  . obtain ⟨x, rfl, _⟩ := h; rfl
  . obtain ⟨x, rfl, hx, q⟩ := h
    refine ⟨_, (R.scons (R.ife (R.tw (R.wor (R.tnot (R.val (R.isi .tup (R.v 0) rfl T.b_isinstance rfl T.b_tuple bb_tuple))) (R.wor (R.tcmp R.eq (R.callB (R.klenL (K := K)) rfl T.b_len bb_len (R.cons (R.v 0) R.nil)) R.int) (R.wor1 (R.tnot (R.val (R.isi .str (R.ix (R.kiT (K := K)) (R.v 0) R.int) rfl T.b_isinstance rfl T.b_str bb_str))))))) (R.sone (R.ret R.non)) R.snil) (R.sone (R.ret (R.ix (R.kiT (K := K)) (R.v 0) R.int)))), ?_⟩
    rcases hx.1 with ⟨hf, _⟩ | ⟨a, ys, rfl, h | h⟩ | ⟨a, kvs, rfl, h⟩
    . cases x with
      | non => exact ⟨.non, trivial, q⟩
      | bl _ => exact ⟨.bl, trivial, q⟩
      | int _ => exact ⟨.int, trivial, q⟩
      | str _ => exact ⟨.str, trivial, q⟩
      | _ => exact absurd (show false = true from hf) Bool.false_ne_true
    . refine ⟨.lst, .inl ⟨ys, h⟩, ?_⟩
      have e : wordV H (.ref a) = .non := by unfold wordV partsV; dsimp only; rw [h]
      rw [e] at q; exact q
    . refine ⟨.tup, ⟨ys, h⟩, ys, .inr (SqT.of h), ?_⟩
      have e0 : wordV H (.ref a) = headV ys := by unfold wordV; rw [partsV_tup h]
      rw [e0] at q; obtain ⟨_, hp⟩ := hx.2 a ys rfl h
      cases ys with
      | nil => exact q
      | cons y r =>
        have e1 : atI (y :: r) ((0 : Nat) : Int) = some y := atI_nat rfl
        refine ⟨y :: r, SqT.of h, y, e1, ?_⟩
        obtain ⟨k, hk⟩ := (hp y Zcs).kd
        refine ⟨k, hk, ?_⟩
        cases y with
        | str u =>
          cases k <;> first | exact hk.elim | skip
          exact ⟨_, SqT.of h, _, e1, q⟩
        | non => cases k <;> first | exact hk.elim | exact q
        | bl _ => cases k <;> first | exact hk.elim | exact q
        | int _ => cases k <;> first | exact hk.elim | exact q
        | ref _ => cases k <;> first | exact hk.elim | exact q
        | _ => cases k <;> exact hk.elim
    . refine ⟨.dct, ⟨kvs, h⟩, ?_⟩
      have e : wordV H (.ref a) = .non := by unfold wordV partsV; dsimp only; rw [h]
      rw [e] at q; exact q
theorem ok_is_no (T : Txt K mg) (c_is_name : Callee P w K mg base 2 "is_name" ["thing"] (spTell LET 8)) (D : DefAt K mg "is_no" s_is_no ["answer"]) : Callee P w K mg base 3 "is_no" ["answer"] spIsNo := by
  refine D.go sc_is_no (fun vs H Q E h => ?_) (fun f cdv A outer s H vs Q E hr h => ?_)
  . obtain ⟨a, xs, rfl, _⟩ := h; rfl
  . obtain ⟨a, xs, rfl, h, hp, q⟩ := h
    have hr_is_name := hr
    refine ⟨_, (R.sone (R.ret (R.and (R.cmp R.eq (R.callB (R.klenL (K := K)) rfl T.b_len bb_len (R.cons (R.v 0) R.nil)) R.int) (R.one (R.fn c_is_name hr_is_name rfl (R.cons (R.ix (R.kiT (K := K)) (R.v 0) R.int) R.nil)))))), ?_⟩
    refine ⟨xs, .inr (SqT.of h), ?_⟩
    match xs, h, hp, q with
    | [], h, hp, q => exact q H (Same.refl _)
    | [_], h, hp, q => exact q H (Same.refl _)
    | [x, y], h, hp, q =>
      obtain ⟨k, hk⟩ := (hp y (by simp)).kd
      refine ⟨_, SqT.of h, y, rfl, y, k, rfl, hk, ?_, fun H' s' => q H' s'⟩
      intro z e; subst e; rcases hp (.str z) (by simp) with ⟨_, h⟩ | ⟨_, _, e, _⟩ | ⟨_, _, e, _⟩
      . exact h z rfl
      . cases e
      . cases e
    | x :: y :: z :: r, h, hp, q =>
      exact q H (Same.refl _)
theorem bnd_all {H : Hp} : ∀ {L : List (Str × List (Int × Int))} {kvs : List (Key × V)}, Paired (fun a b => b.1 = Sum.inr a.1 /\ BndAt H (some a.2) (some b.2)) L kvs -> ∀ u : Str, BndAt H (L.lookup u) (valV kvs (Sum.inr u))
  | _, _, .nil, u => rfl
  | a :: L, b :: kvs, .cons h t, u => by
    rw [List.lookup_cons]; by_cases e : u = a.1
    . subst e; rw [beq_self_eq_true, valV_pos h.1]; exact h.2
    . have hb : (u == a.1) = false := beq_eq_false_iff_ne.mpr e
      rw [hb, valV_neg (by rw [h.1]; intro z; exact e (Sum.inr.inj z).symm)]
      exact bnd_all t u
theorem mk2 {a b : Str} (h : ([Sum.inr a, Sum.inr b] : List Key).Nodup) (x y : V) : mergeK [] [(Sum.inr a, x), (Sum.inr b, y)] = [(Sum.inr a, x), (Sum.inr b, y)] := merge_new _ _ h fun _ _ => rfl
theorem mk3 {a b c : Str} (h : ([Sum.inr a, Sum.inr b, Sum.inr c] : List Key).Nodup) (x y z : V) : mergeK [] [(Sum.inr a, x), (Sum.inr b, y), (Sum.inr c, z)] = [(Sum.inr a, x), (Sum.inr b, y), (Sum.inr c, z)] := merge_new _ _ h fun _ _ => rfl
theorem ok_bounds (T : Txt K mg) (D : DefAt K mg "bounds_of" s_bounds_of ["deed"]) : Callee P w K mg base 1 "bounds_of" ["deed"] spBounds := by
  refine D.go sc_bounds_of (fun vs H Q E h => ?_) (fun f cdv A outer s H vs Q E hr h => ?_)
  . obtain ⟨p, wd, n, xs, as, rfl, _⟩ := h; rfl
  . obtain ⟨p, wd, n, xs, as, rfl, hp, ⟨⟨one, other, nm, cs, hd⟩, _⟩, q⟩ := h
    refine ⟨_, (R.scons (R.set (i := 1) sc_bounds_of.nd (R.ix (R.kiT (K := K)) (R.v 0) (R.neg R.int))) (R.scons (R.set (i := 2) sc_bounds_of.nd (R.wtup (R.cons R.int (R.cons (R.op R.sub (R.gI rfl T.g_MOST) (R.v 1)) R.nil)))) (R.scons (R.set (i := 3) sc_bounds_of.nd (R.wtup (R.cons (R.v 1) (R.cons (R.gI rfl T.g_MOST) R.nil)))) (R.scons (R.set (i := 4) sc_bounds_of.nd (R.wtup (R.cons R.int (R.cons (R.op R.sub (R.v 1) R.int) R.nil)))) (R.scons (R.set (i := 5) sc_bounds_of.nd (R.wtup (R.cons (R.op R.add (R.op R.sub (R.gI rfl T.g_MOST) (R.v 1)) R.int) (R.cons (R.gI rfl T.g_MOST) R.nil)))) (R.scons (R.ife (R.tcmp R.eq (R.ix (R.kiT (K := K)) (R.v 0) R.int) R.str) (R.sone (R.ret R.dnew)) R.snil) (R.scons (R.ife (R.tcmp R.eq (R.ix (R.kiT (K := K)) (R.v 0) R.int) R.str) (R.sone (R.ret (R.disp (R.ppc R.str (R.wtup (R.cons (R.v 2) (R.cons (R.v 3) R.nil))) (R.ppc R.str (R.wtup (R.cons (R.v 4) R.nil)) (R.ppc R.str (R.wtup (R.cons (R.v 5) R.nil)) R.ppn)))))) R.snil) (R.scons (R.ife (R.tcmp (R.kinQ (K := K)) (R.ix (R.kiT (K := K)) (R.v 0) R.int) (R.wtup (R.cons R.str (R.cons R.str R.nil)))) (R.sone (R.ret (R.disp (R.ppc R.str (R.wtup (R.cons (R.v 2) R.nil)) (R.ppc R.str (R.wtup (R.cons (R.v 4) R.nil)) R.ppn))))) R.snil) (R.sone (R.ret (R.disp (R.ppc R.str (R.wtup (R.cons (R.v 3) R.nil)) (R.ppc R.str (R.wtup (R.cons (R.v 5) R.nil)) R.ppn))))))))))))), ?_⟩
    have el : atI xs (-1) = some (.int n) := by cases hd <;> rfl
    refine ⟨_, SqT.of hp, _, el, ?_⟩
    dsimp only [gName]; refine ⟨by simp, fun p1 H1 s1 g1 => ⟨by simp, fun p2 H2 s2 g2 => ⟨by simp, fun p3 H3 s3 g3 => ⟨by simp, fun p4 H4 s4 g4 => ?_⟩⟩⟩⟩
    have s04 := ((s1.trans s2).trans s3).trans s4
    have hp4 := s04 _ _ hp
    have g1' := s4 _ _ (s3 _ _ (s2 _ _ g1))
    have g2' := s4 _ _ (s3 _ _ g2)
    have g3' := s4 _ _ g3
    have fin : ∀ (H5 : Hp) (pd : Addr) (G : Hp) (kvs : List (Key × V)), Same H H5 -> H5 pd = none -> Same (upd H5 pd (.dK [])) G -> (∀ u : Str, BndAt (upd G pd (.dK kvs)) ((bndL wd n).lookup u) (valV kvs (Sum.inr u))) -> Q (.ref pd) (upd G pd (.dK kvs)) := fun H5 pd G kvs sH hpd sG hb => by
      refine q pd kvs _ (fun c o e => ?_) upd_same hb
      have e' := sH _ _ e
      rw [upd_ne (ne_of_none e' hpd)]; exact sG _ _ (same_upd hpd _ _ e')
    have at_ : ∀ {H5 : Hp} {pd : Addr} {G : Hp} {kvs : List (Key × V)} {c : Addr} {ys : List V}, Same (upd H5 pd (.dK [])) G -> G c = some (.tup ys) -> upd G pd (.dK kvs) c = some (.tup ys) := fun {H5 pd G kvs c ys} sG e => by
      have : c ≠ pd := fun z => by have h := sG _ _ upd_same; rw [<- z, e] at h; cases h
      rw [upd_ne this]; exact e
    have b1 : ∀ {G : Hp} {c t : Addr} {lo hi : Int}, G t = some (.tup [.ref c]) -> G c = some (.tup [.int lo, .int hi]) -> BndAt G (some [(lo, hi)]) (some (.ref t)) := fun {G c t lo hi} h1 h2 => ⟨t, [(c, lo, hi)], rfl, h1, fun z hz => by rw [Zms.mp hz]; exact h2, rfl⟩
    cases hd with
    | pass =>
      refine ⟨_, SqT.of hp4, _, rfl, ?_⟩
      intro d hd; exact q d [] _ (s04.trans (same_upd hd)) upd_same fun u => rfl
    | move =>
      refine ⟨_, SqT.of hp4, _, rfl, ?_⟩
      refine ⟨_, SqT.of hp4, _, rfl, ?_⟩
      intro pd hpd; refine ⟨by simp, fun q1 G1 r1 e1 => ⟨by simp, fun q2 G2 r2 e2 => ⟨by simp, fun q3 G3 r3 e3 => ⟨r3 _ _ (r2 _ _ (r1 _ _ upd_same)), [(Sum.inr ("is" : Str), .ref q1), (Sum.inr ("short" : Str), .ref q2), (Sum.inr ("full" : Str), .ref q3)], rfl, by simp, ?_⟩⟩⟩⟩
      rw [mk3 (by decide +kernel)]
      have sG := (r1.trans r2).trans r3
      have up := fun {c : Addr} {ys : List V} (e : H4 c = some (.tup ys)) => sG _ _ (same_upd (o := .dK []) hpd _ _ e)
      refine fin H4 pd G3 _ s04 hpd sG (bnd_all (.cons ⟨rfl, ?_⟩ (.cons ⟨rfl, b1 (at_ sG (r3 _ _ e2)) (at_ sG (up g3'))⟩ (.cons ⟨rfl, b1 (at_ sG e3) (at_ sG (up g4))⟩ .nil))))
      exact ⟨q1, [(p1, _, _), (p2, _, _)], rfl, at_ sG (r3 _ _ (r2 _ _ e1)), fun z hz => by
        simp only [List.mem_cons, List.not_mem_nil, or_false] at hz
        rcases hz with rfl | rfl
        . exact at_ sG (up g1')
        . exact at_ sG (up g2'), rfl⟩
    | take | send =>
      refine ⟨_, SqT.of hp4, _, rfl, ?_⟩
      refine ⟨_, SqT.of hp4, _, rfl, ?_⟩
      refine ⟨_, SqT.of hp4, _, rfl, by simp, fun p5 H5 s5 g5 => ⟨p5, _, rfl, .inr (SqT.of g5), rfl, rfl, ?_⟩⟩
      intro pd hpd; refine ⟨by simp, fun q1 G1 r1 e1 => ⟨by simp, fun q2 G2 r2 e2 => ⟨r2 _ _ (r1 _ _ upd_same), [(Sum.inr ("is" : Str), .ref q1), (Sum.inr ("short" : Str), .ref q2)], rfl, by simp, ?_⟩⟩⟩
      rw [mk2 (by decide +kernel)]
      have sG := r1.trans r2
      have up := fun {c : Addr} {ys : List V} (e : H4 c = some (.tup ys)) => sG _ _ (same_upd (o := .dK []) hpd _ _ (s5 _ _ e))
      exact fin H5 pd G2 _ (s04.trans s5) hpd sG (bnd_all (.cons ⟨rfl, b1 (at_ sG (r2 _ _ e1)) (at_ sG (up g1'))⟩ (.cons ⟨rfl, b1 (at_ sG e2) (at_ sG (up g3'))⟩ .nil)))
    | add | fetch =>
      refine ⟨_, SqT.of hp4, _, rfl, ?_⟩
      refine ⟨_, SqT.of hp4, _, rfl, ?_⟩
      refine ⟨_, SqT.of hp4, _, rfl, by simp, fun p5 H5 s5 g5 => ⟨p5, _, rfl, .inr (SqT.of g5), rfl, rfl, ?_⟩⟩
      intro pd hpd; refine ⟨by simp, fun q1 G1 r1 e1 => ⟨by simp, fun q2 G2 r2 e2 => ⟨r2 _ _ (r1 _ _ upd_same), [(Sum.inr ("is" : Str), .ref q1), (Sum.inr ("full" : Str), .ref q2)], rfl, by simp, ?_⟩⟩⟩
      rw [mk2 (by decide +kernel)]
      have sG := r1.trans r2
      have up := fun {c : Addr} {ys : List V} (e : H4 c = some (.tup ys)) => sG _ _ (same_upd (o := .dK []) hpd _ _ (s5 _ _ e))
      exact fin H5 pd G2 _ (s04.trans s5) hpd sG (bnd_all (.cons ⟨rfl, b1 (at_ sG (r2 _ _ e1)) (at_ sG (up g2'))⟩ (.cons ⟨rfl, b1 (at_ sG e2) (at_ sG (up g4))⟩ .nil)))
theorem take_one {α : Type} {xs : List α} {i : Nat} {x : α} (h : xs[i]? = some x) : xs.take (i + 1) = xs.take i ++ [x] := by
  rw [List.take_succ, h]; rfl
theorem ok_within (T : Txt K mg) (c_is_whole : Callee P w K mg base 1 "is_whole" ["thing", "least", "most"] spWhole) (D : DefAt K mg "are_within" s_are_within ["things", "bounds"]) : Callee P w K mg base 2 "are_within" ["things", "bounds"] spWithin := by
  refine D.go sc_are_within (fun vs H Q E h => ?_) (fun f cdv A outer s H vs Q E hr h => ?_)
  . obtain ⟨a, t, xs, bs, rfl, _⟩ := h; rfl
  . obtain ⟨a, t, xs, bs, rfl, ha, hl, hx, ht, hb, q⟩ := h
    have hr_is_whole := hr
    refine ⟨_, (R.scons (R.ife (R.tcmp R.ne (R.callB (R.klenL (K := K)) rfl T.b_len bb_len (R.cons (R.v 0) R.nil)) (R.callB (R.klenL (K := K)) rfl T.b_len bb_len (R.cons (R.v 1) R.nil))) (R.sone (R.ret R.bl)) R.snil) (R.sone (R.ret (R.callB (R.kall (K := K) rfl) rfl T.b_all bb_all (R.cons (R.comp rfl (js := [none, none]) (N := ["thing", "least_most"]) (CompScope.by (defScope s_are_within) ["things", "bounds"] rfl rfl (by decide +kernel)) (gown_tup (gowns_cons rfl (gowns_cons rfl gowns_nil))) (R.zip (K := K) rfl T.b_zip (R.v 0) (R.v 1)) (fun C s₂ H₂ fp => ⟨(R.kgt (K := K) (n := 2) rfl (R.gsc (R.gn (i := 0) (show (["thing", "least_most"] : List Str).Nodup by decide +kernel)) (R.gsc (R.gn (i := 1) (show (["thing", "least_most"] : List Str).Nodup by decide +kernel)) R.gsn))), R.ts0, (R.fn c_is_whole hr_is_whole rfl (R.cons (R.v 0) (R.cons (R.ix (R.kiT (K := K)) (R.v 1) R.int) (R.cons (R.ix (R.kiT (K := K)) (R.v 1) R.int) R.nil))))⟩)) R.nil))))), ?_⟩
    refine ⟨xs, .inr (SqT.of ha), bref bs, .inr (SqT.of ht), ?_⟩
    have elb : (bref bs).length = (bs.map (·.2)).length := by unfold bref; rw [Zlm, Zlm]
    dsimp only [mNe, mB]; refine if_b (fun h => ?_) (fun h => ?_)
    . have h' : xs.length ≠ (bs.map (·.2)).length := by
        rw [<- elb]; intro e; rw [e] at h; simp at h
      have := q H (Same.refl _)
      unfold withinB at this; rw [decide_eq_false h', Bool.false_and] at this; exact this
    . have h' : xs.length = (bs.map (·.2)).length := by
        rw [<- elb]; have : ((xs.length : Int) = ((bref bs).length : Int)) := by simpa using h
        omega
      have hlb : bs.length = xs.length := by rw [h', Zlm]
      refine ⟨false, false, xs, bref bs, SqT.of ha, SqT.of ht, ?_⟩
      refine comp_zip (by omega) (fun i ys H' => ys = (((xs.zip (bs.map (·.2))).take i).map fun q => numV q.2.1 q.2.2 q.1).map V.bl /\ Same H H') (fun i ys H' ⟨e, s'⟩ => ⟨SqT.of (s' _ _ ha), SqT.of (s' _ _ ht), by rw [e, Zlm, Zlm, Zlk]; exact Nat.min_le_left _ _⟩) ⟨rfl, Same.refl _⟩ (fun i x y ys H' t' hx' hy' ⟨e, s'⟩ ht' => ?_) (fun ys H' ⟨e, s'⟩ => ?_)
      . unfold bref at hy'; rw [Zgm] at hy'; cases hn : bs[i]? with
        | none => rw [hn] at hy'; cases hy'
        | some z =>
          rw [hn] at hy'; cases hy'
          have s2 := s'.trans (same_upd (o := .tup [x, .ref z.1]) ht')
          have gz := s2 _ _ (hb z (Zmg hn))
          have ez : (xs.zip (bs.map (·.2)))[i]? = some (x, z.2) := by
            rw [List.getElem?_zip_eq_some]; exact ⟨hx', by rw [Zgm, hn]; rfl⟩
          refine ⟨t', _, rfl, SqT.of upd_same, rfl, _, _, rfl, _, _, rfl, rfl, _, SqT.of gz, _, rfl, _, SqT.of gz, _, rfl, x, z.2.1, z.2.2, rfl, ((hx x (Zmg hx')).same s2).pt, fun H'' s'' => ⟨?_, s2.trans s''⟩⟩
          rw [take_one ez, Zap, Zap, e]; rfl
      . intro l hl'; refine ⟨l, ((xs.zip (bs.map (·.2))).map fun q => numV q.2.1 q.2.2 q.1), rfl, SqL.of ?_, ?_⟩
        . rw [upd_same, e]; have : (xs.zip (bs.map (·.2))).take (min xs.length (bref bs).length) = xs.zip (bs.map (·.2)) := Ztl (by rw [List.length_zip, elb]; exact Znr _)
          rw [this]
        . have := q (upd H' l (.lst ys)) (s'.trans (same_upd hl'))
          unfold withinB at this; rw [decide_eq_true h', Bool.true_and] at this; rw [List.all_map]; exact this
theorem word_at {wd : Str} {xs : List V} {cs : List (Str × Int)} {as : List (Str × List V)} (h : DWX wd xs cs as) : atI xs 0 = some (.str wd) := by
  obtain ⟨one, other, nm, n, hd⟩ := h
  cases hd <;> rfl
theorem ansB_word (wd : Str) (hs : List Str) (n : Int) (u : Str) (r : List V) : ansB wd hs n (.str u :: r) = if u = "no" then (match r with | [y] => memS y hs | _ => false) else if u = "ok" then decide (wd = "pass") && r.isEmpty else match (bndL wd n).lookup u with | some bs => withinB r bs | none => false := rfl
theorem memS_nm {hs : List Str} (h : ∀ z ∈ hs, isNm z) (y : V) (m : memS y hs = true) : nmV y = true := by
  cases y with
  | str z => exact nmV_of (h z (by simpa [memS] using m))
  | _ => cases m
theorem ok_is_answer (T : Txt K mg) (c_word_of : Callee P w K mg base 1 "word_of" ["thing"] spWordOf) (c_is_no : Callee P w K mg base 3 "is_no" ["answer"] spIsNo) (c_asks_of : Callee P w K mg base 1 "asks_of" ["deed"] spAsks) (c_bounds_of : Callee P w K mg base 1 "bounds_of" ["deed"] spBounds)
    (c_are_within : Callee P w K mg base 2 "are_within" ["things", "bounds"] spWithin) (D : DefAt K mg "is_answer" s_is_answer ["deed", "thing"]) : Callee P w K mg base 4 "is_answer" ["deed", "thing"] spIsAns := by
  refine D.go sc_is_answer (fun vs H Q E h => ?_) (fun f cdv A outer s H vs Q E hr h => ?_)
  . obtain ⟨p, wd, n, xs, as, x, rfl, _⟩ := h; rfl
  . obtain ⟨p, wd, n, xs, as, x, rfl, hp, hd, hx, q⟩ := h
    have hr_word_of : Room 1 _ := hr.mono (by decide)
    have hr_asks_of : Room 1 _ := hr.mono (by decide)
    have hr_bounds_of : Room 1 _ := hr.mono (by decide)
    have hr_are_within : Room 2 _ := hr.mono (by decide)
    have hr_is_no := hr
    have hu1 := hu_of hr
    refine ⟨_, (R.scons (R.set (i := 2) sc_is_answer.nd (R.fn c_word_of hr_word_of rfl (R.cons (R.v 1) R.nil))) (R.scons (R.ife (R.tcmp R.eq (R.v 2) R.str) (R.sone (R.ret (R.and (R.fn c_is_no hr_is_no rfl (R.cons (R.v 1) R.nil)) (R.one (R.cmp (R.kinQ (K := K)) (R.ix (R.kiT (K := K)) (R.v 1) R.int) (R.comp rfl (js := [none, none]) (N := ["house", "there"]) (CompScope.by (defScope s_is_answer) ["deed", "thing", "word", "bounds"] rfl rfl (by decide +kernel)) (gown_tup (gowns_cons rfl (gowns_cons rfl gowns_nil))) (R.kwT (K := K) (R.fn c_asks_of hr_asks_of rfl (R.cons (R.v 0) R.nil))) (fun C s₂ H₂ fp => ⟨(R.kgt (K := K) (n := 2) rfl (R.gsc (R.gn (i := 0) (show (["house", "there"] : List Str).Nodup by decide +kernel)) (R.gsc (R.gn (i := 1) (show (["house", "there"] : List Str).Nodup by decide +kernel)) R.gsn))), R.ts0, (R.v 0)⟩))))))) R.snil) (R.scons (R.ife (R.tcmp R.eq (R.v 2) R.str) (R.sone (R.ret (R.and (R.cmp R.eq (R.ix (R.kiT (K := K)) (R.v 0) R.int) R.str) (R.one (R.cmp R.eq (R.callB (R.klenL (K := K)) rfl T.b_len bb_len (R.cons (R.v 1) R.nil)) R.int))))) R.snil) (R.scons (R.set (i := 3) sc_is_answer.nd (R.fn c_bounds_of hr_bounds_of rfl (R.cons (R.v 0) R.nil))) (R.sone (R.ret (R.and (R.cmp (R.inD hu1) (R.v 2) (R.v 3)) (R.one (R.fn c_are_within hr_are_within rfl (R.cons (R.sl R.sT (R.v 1) (R.ps R.int) R.pn) (R.cons (R.dix hu1 (R.v 3) (R.v 2)) R.nil))))))))))), ?_⟩
    refine ⟨x, rfl, hx, ?_⟩
    dsimp only [gName]; obtain ⟨cs, hdx⟩ := hd.dwx
    have none_case : wordV H x = .non -> ansV H wd (as.map (·.1)) n x = false -> ∀ {R : Prop}, R = R -> True := fun _ _ _ _ => trivial
    have key : (wordV H x = .non /\ ansV H wd (as.map (·.1)) n x = false) ∨ ∃ a u r, x = .ref a /\ H a = some (.tup (.str u :: r)) /\ wordV H x = .str u /\ ansV H wd (as.map (·.1)) n x = ansB wd (as.map (·.1)) n (.str u :: r) := by
      unfold wordV ansV; cases e : partsV H x with
      | none => exact .inl ⟨rfl, rfl⟩
      | some ys =>
        have : ∃ a, x = .ref a /\ H a = some (.tup ys) := by
          unfold partsV at e; cases x with
          | ref a =>
            dsimp only at e
            refine ⟨a, rfl, ?_⟩
            split at e
            . cases e; assumption
            . cases e
          | _ => cases e
        obtain ⟨a, rfl, h⟩ := this
        cases ys with
        | nil => exact .inl ⟨rfl, rfl⟩
        | cons y r => cases y with
          | str u => exact .inr ⟨a, u, r, rfl, h, rfl, rfl⟩
          | _ => exact .inl ⟨rfl, rfl⟩
    rcases key with ⟨ew, ea⟩ | ⟨a, u, r, rfl, h, ew, ea⟩
    . rw [ew]; refine ⟨p, wd, n, xs, as, rfl, hp, hd, fun d kvs H1 s1 g1 hb => ?_⟩
      refine ⟨⟨kvs, g1⟩, ?_⟩
      have := q H1 s1
      rw [ea] at this; exact this
    . rw [ew]; rw [ea, ansB_word] at q; obtain ⟨hl, hpc⟩ := hx.2 a _ rfl h
      have hpr : ∀ y ∈ r, Pc H y := fun y hy => hpc y (Zmc _ hy)
      show if decide (u = "no") = true then _ else _
      refine if_b (fun h0 => ?_) (fun h0 => ?_)
      . rw [if_pos (of_decide_eq_true h0)] at q; refine ⟨a, _, rfl, h, hpc, fun H1 s1 => ?_⟩
        show if isNoB (.str u :: r) = true then _ else _
        refine if_b (fun h1 => ?_) (fun h1 => ?_)
        . match r, h1, q, h, hpr with
          | [y], h1, q, h, hpr =>
            have hny : nmV y = true := h1
            cases y with
            | str z =>
              refine ⟨_, SqT.of (s1 _ _ h), _, rfl, p, wd, xs, cs, as, rfl, s1 _ _ hp, hdx, fun t us H2 s2 g2 ha => ⟨t, rfl, ⟨_, SqT.of g2⟩, ?_⟩⟩
              refine comp_seq (seq_tup K t us) (by have := ha.length; obtain ⟨one, other, nm, n', hh⟩ := hdx; rw [<- this]; cases hh <;> simp) (fun i ys H' => H' = H2 /\ ys = ((as.take i).map (·.1)).map V.str) (fun i ys H' ⟨e, e2⟩ => ⟨by rw [e]; exact SqT.of g2, by rw [e2, Zlm, Zlm, Zlk]; exact Nat.min_le_left _ _⟩) ⟨rfl, rfl⟩ (fun i v ys H' hv ⟨e, e2⟩ => ?_) (fun ys H' ⟨e, e2⟩ => ?_)
              . subst e; obtain ⟨hi, ev⟩ := Zgs.mp hv
                obtain ⟨hi2, a', d', ev', ga, gd⟩ := Paired.get' (j := i) ha hi
                rw [ev] at ev'; subst ev'; refine ⟨a', _, rfl, SqT.of ga, rfl, _, _, rfl, _, _, rfl, rfl, rfl, ?_⟩
                rw [take_one (Zge hi2), Zap, Zap, e2]; rfl
              . subst e; intro l hl'; have e3 : ys = (as.map (·.1)).map V.str := by rw [e2, <- ha.length, List.take_length]
                refine ⟨l, _, rfl, .inl (SqL.of upd_same), rfl, by rw [e3]; exact flat_strs _, ?_⟩
                have := q (upd H' l (.lst ys)) ((s1.trans s2).trans (same_upd hl'))
                show Q (.bl (inV (.str z) ys)) _
                rw [e3, inV_str] at *; exact this
            | _ => cases hny
        . have e : (match r with | [y] => memS y (as.map (·.1)) | _ => false) = false := by
            match r, h1 with
            | [], _ => rfl
            | [y], h1 =>
              have h1' : nmV y = false := h1
              cases m : memS y (as.map (·.1)) with
              | false => exact m
              | true =>
                have := memS_nm (hs := as.map (·.1)) (fun z hz => by obtain ⟨q', hq', rfl⟩ := Zmm.mp hz; exact hd.nm q' hq') y m
                rw [this] at h1'; cases h1'
            | _ :: _ :: _, _ => rfl
          rw [e] at q; exact q H1 s1
      . rw [if_neg (of_decide_eq_false h0)] at q; show if decide (u = "ok") = true then _ else _
        refine if_b (fun h1 => ?_) (fun h1 => ?_)
        . rw [if_pos (of_decide_eq_true h1)] at q; refine ⟨_, SqT.of hp, _, word_at hdx, ?_⟩
          show if decide (wd = "pass") = true then _ else _
          have q' := q H (Same.refl _)
          refine if_b (fun h2 => ?_) (fun h2 => ?_)
          . rw [h2, Bool.true_and] at q'; refine ⟨_, .inr (SqT.of h), ?_⟩
            have e : r.isEmpty = decide ((((V.str u :: r).length : Nat) : Int) = 1) := by
              cases r with
              | nil => rfl
              | cons y r => symm; exact decide_eq_false (by rw [Zlc, Zlc]; omega)
            rw [e] at q'; exact q'
          . rw [h2, Bool.false_and] at q'; exact q'
        . rw [if_neg (of_decide_eq_false h1)] at q; refine ⟨p, wd, n, xs, as, rfl, hp, hd, fun d kvs H1 s1 g1 hb => ?_⟩
          dsimp only [gName]; have hbu := hb u
          refine ⟨kvs, g1, ?_⟩
          show if (valV kvs (Sum.inr u)).isSome = true then _ else _
          cases eb : (bndL wd n).lookup u with
          | none =>
            rw [eb] at hbu q; have hv : valV kvs (Sum.inr u) = none := hbu
            rw [hv]; exact q H1 s1
          | some bs =>
            rw [eb] at hbu q; obtain ⟨t, zs, hv, gt, hba, hm⟩ := hbu
            rw [hv]; refine ⟨_, s1 _ _ h, fun p2 H2 s2 g2 => ⟨d, .ref t, rfl, ?_, p2, t, r, zs, rfl, ?_, ?_, fun y hy => (hpr y hy).same (s1.trans s2), s2 _ _ gt, hba.same s2, fun H3 s3 => ?_⟩⟩
            . have := DGet.k (k := Sum.inr u) (s2 _ _ g1)
              rw [hv] at this; exact this
            . have ec : cut (V.str u :: r) (some 1) none = r := cut_from _ 1
              rw [ec] at g2; exact g2
            . rw [Zlc] at hl; omega
            . rw [hm]; exact q H3 ((s1.trans s2).trans s3)
end
end KL
namespace KL
open PySem L2
section
variable {P : Program} {w : World} {K : W.Frag} {mg : Str -> Option Value} {base : Heap}
theorem ok_some (T : Txt K mg) (c_word_of : Callee P w K mg base 1 "word_of" ["thing"] spWordOf) (c_is_no : Callee P w K mg base 3 "is_no" ["answer"] spIsNo) (c_is_answer : Callee P w K mg base 4 "is_answer" ["deed", "thing"] spIsAns) (D : DefAt K mg "is_some_answer" s_is_some_answer ["thing"]) : Callee P w K mg base 5 "is_some_answer" ["thing"] spSome := by
  refine D.go sc_is_some_answer (fun vs H Q E h => ?_) (fun f cdv A outer s H vs Q E hr h => ?_)
  . obtain ⟨x, rfl, _⟩ := h; rfl
  . obtain ⟨x, rfl, tg, q⟩ := h
    have hr_word_of : Room 1 _ := hr.mono (by decide)
    have hr_is_no : Room 3 _ := hr.mono (by decide)
    have hr_is_answer := hr
    refine ⟨_, (R.scons (R.ife (R.tcmp R.eq (R.fn c_word_of hr_word_of rfl (R.cons (R.v 0) R.nil)) R.str) (R.sone (R.ret (R.fn c_is_no hr_is_no rfl (R.cons (R.v 0) R.nil)))) R.snil) (R.scons (R.set (i := 1) sc_is_some_answer.nd (R.wtup (R.cons (R.wtup (R.cons R.str (R.cons R.str (R.cons R.int R.nil)))) (R.cons (R.wtup (R.cons R.str (R.cons R.str (R.cons R.int R.nil)))) (R.cons (R.wtup (R.cons R.str (R.cons R.str (R.cons R.str (R.cons R.int R.nil))))) (R.cons (R.wtup (R.cons R.str (R.cons R.str (R.cons R.str (R.cons (R.gI rfl T.g_MOST) R.nil))))) (R.cons (R.wtup (R.cons R.str (R.cons R.str (R.cons R.str (R.cons R.str (R.cons R.int R.nil)))))) R.nil))))))) (R.sone (R.ret (R.callB (R.kany (K := K) rfl) rfl T.b_any bb_any (R.cons (R.comp rfl (js := [none, some 0]) (N := ["deed", "thing"]) (CompScope.by (defScope s_is_some_answer) ["thing", "widest"] rfl rfl (by decide +kernel)) (gown_name rfl) (R.kwT (K := K) (R.v 1)) (fun C s₂ H₂ fp => ⟨(R.gn (i := 0) (show (["deed", "thing"] : List Str).Nodup by decide +kernel)), R.ts0, (R.fn c_is_answer hr_is_answer rfl (R.cons (R.v 0) (R.cons (R.v 1) R.nil)))⟩)) R.nil)))))), ?_⟩
    rw [someV_eq] at q; refine ⟨x, rfl, tg, ?_⟩
    have hw0 : wordV H x = .non ∨ ∃ u, wordV H x = .str u := by
      unfold wordV headV; cases partsV H x with
      | none => exact .inl rfl
      | some xs => cases xs with
        | nil => exact .inl rfl
        | cons y r => cases y <;> first | exact .inl rfl | exact .inr ⟨_, rfl⟩
    by_cases hno : wordV H x = .str "no"
    . obtain ⟨u, e, hu⟩ : ∃ u, wordV H x = .str u /\ u = "no" := ⟨_, hno, rfl⟩
      rw [e]; show if decide (u = "no") = true then _ else _
      refine if_t (decide_eq_true hu) ?_
      rw [if_pos hno] at q; have hw := hno
      unfold wordV at hw; cases hp : partsV H x with
      | none => rw [hp] at hw; cases hw
      | some xs =>
        rw [hp] at q; have : ∃ a, x = .ref a /\ H a = some (.tup xs) := by
          unfold partsV at hp; split at hp
          . rename_i a
            refine ⟨a, rfl, ?_⟩
            split at hp
            . rename_i ys e; rw [e, Option.some.inj hp]
            . cases hp
          . cases hp
        obtain ⟨a, rfl, ga⟩ := this
        exact ⟨a, xs, rfl, ga, (tg.2 a xs rfl ga).2, q⟩
    rw [if_neg hno] at q; rcases hw0 with e | ⟨u, e⟩
    . rw [e]; show tNext _ _ _
      dsimp only [tNext]; refine ⟨by simp, fun t1 H1 s1 g1 => ⟨by simp, fun t2 H2 s2 g2 => ⟨by simp, fun t3 H3 s3 g3 => ⟨by simp, fun t4 H4 s4 g4 => ⟨by simp, fun t5 H5 s5 g5 => ⟨by simp, fun tw H6 s6 g6 => ?_⟩⟩⟩⟩⟩⟩
      dsimp only [gName]; have gs : Paired (fun (q : Str × Int × List V) (v : V) => ∃ b, v = .ref b /\ H6 b = some (.tup q.2.2)) WID [.ref t1, .ref t2, .ref t3, .ref t4, .ref t5] := by
        refine .cons ⟨_, rfl, s6 _ _ (s5 _ _ (s4 _ _ (s3 _ _ (s2 _ _ g1))))⟩ (.cons ⟨_, rfl, s6 _ _ (s5 _ _ (s4 _ _ (s3 _ _ g2)))⟩ (.cons ⟨_, rfl, s6 _ _ (s5 _ _ (s4 _ _ g3))⟩ (.cons ⟨_, rfl, s6 _ _ (s5 _ _ g4)⟩ (.cons ⟨_, rfl, s6 _ _ g5⟩ .nil))))
      have s06 : Same H H6 := ((((s1.trans s2).trans s3).trans s4).trans s5).trans s6
      refine ⟨tw, rfl, ⟨_, SqT.of g6⟩, ?_⟩
      refine comp_seq (seq_tup K tw _) (by simp) (fun j ys H' => ys = ((WID.take j).map fun q => V.bl (ansV H q.1 (WHS q.1) q.2.1 x)) /\ Same H6 H') (fun j ys H' ⟨e, s'⟩ => ⟨SqT.of (s' _ _ g6), by rw [e, Zlm, Zlk]; exact Nat.min_le_left _ _⟩) ⟨rfl, Same.refl _⟩ (fun j y ys H' hy ⟨e, s'⟩ => ?_) (fun ys H' ⟨e, s'⟩ => ?_)
      . have hj := (Zgs.mp hy).1
        obtain ⟨hj', b, eb, gb⟩ := Paired.get' (j := j) gs hj
        have ey : y = .ref b := by rw [<- eb]; exact ((Zgs.mp hy).2).symm
        subst ey; obtain ⟨as, hd, ha⟩ := WID_ok _ (List.getElem_mem hj')
        have s0' := s06.trans s'
        refine ⟨b, _, _, _, as, x, rfl, s' _ _ gb, hd, tg.same s0', fun H7 s7 => ⟨?_, s'.trans s7⟩⟩
        rw [ansV_same s0' tg.1, ha, List.take_succ, Zge hj', Zap, e]; rfl
      . intro l hl; have e5 : WID.take ([V.ref t1, .ref t2, .ref t3, .ref t4, .ref t5] : List V).length = WID := rfl
        rw [e5] at e; refine ⟨l, WID.map fun q => ansV H q.1 (WHS q.1) q.2.1 x, rfl, SqL.of (by rw [upd_same, e, List.map_map]; rfl), ?_⟩
        have := q (upd H' l (.lst ys)) ((s06.trans s').trans (same_upd hl))
        rw [List.any_map]; exact this
    . rw [e]; show if decide (u = "no") = true then _ else _
      refine if_f (decide_eq_false fun z => hno (by rw [e, z])) ?_
      dsimp only [tNext]; refine ⟨by simp, fun t1 H1 s1 g1 => ⟨by simp, fun t2 H2 s2 g2 => ⟨by simp, fun t3 H3 s3 g3 => ⟨by simp, fun t4 H4 s4 g4 => ⟨by simp, fun t5 H5 s5 g5 => ⟨by simp, fun tw H6 s6 g6 => ?_⟩⟩⟩⟩⟩⟩
      dsimp only [gName]; have gs : Paired (fun (q : Str × Int × List V) (v : V) => ∃ b, v = .ref b /\ H6 b = some (.tup q.2.2)) WID [.ref t1, .ref t2, .ref t3, .ref t4, .ref t5] := by
        refine .cons ⟨_, rfl, s6 _ _ (s5 _ _ (s4 _ _ (s3 _ _ (s2 _ _ g1))))⟩ (.cons ⟨_, rfl, s6 _ _ (s5 _ _ (s4 _ _ (s3 _ _ g2)))⟩ (.cons ⟨_, rfl, s6 _ _ (s5 _ _ (s4 _ _ g3))⟩ (.cons ⟨_, rfl, s6 _ _ (s5 _ _ g4)⟩ (.cons ⟨_, rfl, s6 _ _ g5⟩ .nil))))
      have s06 : Same H H6 := ((((s1.trans s2).trans s3).trans s4).trans s5).trans s6
      refine ⟨tw, rfl, ⟨_, SqT.of g6⟩, ?_⟩
      refine comp_seq (seq_tup K tw _) (by simp) (fun j ys H' => ys = ((WID.take j).map fun q => V.bl (ansV H q.1 (WHS q.1) q.2.1 x)) /\ Same H6 H') (fun j ys H' ⟨e, s'⟩ => ⟨SqT.of (s' _ _ g6), by rw [e, Zlm, Zlk]; exact Nat.min_le_left _ _⟩) ⟨rfl, Same.refl _⟩ (fun j y ys H' hy ⟨e, s'⟩ => ?_) (fun ys H' ⟨e, s'⟩ => ?_)
      . have hj := (Zgs.mp hy).1
        obtain ⟨hj', b, eb, gb⟩ := Paired.get' (j := j) gs hj
        have ey : y = .ref b := by rw [<- eb]; exact ((Zgs.mp hy).2).symm
        subst ey; obtain ⟨as, hd, ha⟩ := WID_ok _ (List.getElem_mem hj')
        have s0' := s06.trans s'
        refine ⟨b, _, _, _, as, x, rfl, s' _ _ gb, hd, tg.same s0', fun H7 s7 => ⟨?_, s'.trans s7⟩⟩
        rw [ansV_same s0' tg.1, ha, List.take_succ, Zge hj', Zap, e]; rfl
      . intro l hl; have e5 : WID.take ([V.ref t1, .ref t2, .ref t3, .ref t4, .ref t5] : List V).length = WID := rfl
        rw [e5] at e; refine ⟨l, WID.map fun q => ansV H q.1 (WHS q.1) q.2.1 x, rfl, SqL.of (by rw [upd_same, e, List.map_map]; rfl), ?_⟩
        have := q (upd H' l (.lst ys)) ((s06.trans s').trans (same_upd hl))
        rw [List.any_map]; exact this
theorem ok_part (T : Txt K mg) (U : Top w.params K mg) (c_is_whole : Callee P w K mg base 1 "is_whole" ["thing", "least", "most"] spWhole) (c_is_name : Callee P w K mg base 2 "is_name" ["thing"] (spTell LET 8)) (c_is_key : Callee P w K mg base 2 "is_key" ["thing"] (spTell (LET ++ FIG) 12)) (c_is_deed : Callee P w K mg base 4 "is_deed" ["thing"] spIsDeed) (c_is_some_answer : Callee P w K mg base 5 "is_some_answer" ["thing"] spSome) (D : DefAt K mg "is_part" s_is_part ["kind", "thing"]) : Callee P w K mg base 6 "is_part" ["kind", "thing"] spPart := by
  refine D.go sc_is_part (fun vs H Q E h => ?_) (fun f cdv A outer s H vs Q E hr h => ?_)
  . obtain ⟨kd, x, rfl, _⟩ := h; rfl
  . obtain ⟨kd, x, rfl, tg, q⟩ := h
    have hr_is_whole : Room 1 _ := hr.mono (by decide)
    have hr_is_name : Room 2 _ := hr.mono (by decide)
    have hr_is_key : Room 2 _ := hr.mono (by decide)
    have hr_is_deed : Room 4 _ := hr.mono (by decide)
    have hr_is_some_answer := hr
    obtain ⟨aB, m_BOUNDS, tB⟩ := U.g_BOUNDS
    refine ⟨_, (R.scons (R.ife (R.tcmp (R.kinKT (K := K) (P := w.params)) (R.v 0) (R.gR rfl m_BOUNDS)) (R.sone (R.ret (R.fn c_is_whole hr_is_whole rfl (R.cons (R.v 1) (R.cons (R.ix (R.kiT (K := K)) (R.ix (R.kiKT (K := K) (P := w.params)) (R.gR rfl m_BOUNDS) (R.v 0)) R.int) (R.cons (R.ix (R.kiT (K := K)) (R.ix (R.kiKT (K := K) (P := w.params)) (R.gR rfl m_BOUNDS) (R.v 0)) R.int) R.nil)))))) R.snil) (R.scons (R.ife (R.tcmp R.eq (R.v 0) R.str) (R.sone (R.ret (R.fn c_is_name hr_is_name rfl (R.cons (R.v 1) R.nil)))) R.snil) (R.scons (R.ife (R.tcmp R.eq (R.v 0) R.str) (R.sone (R.ret (R.fn c_is_key hr_is_key rfl (R.cons (R.v 1) R.nil)))) R.snil) (R.scons (R.ife (R.tcmp R.eq (R.v 0) R.str) (R.sone (R.ret (R.fn c_is_deed hr_is_deed rfl (R.cons (R.v 1) R.nil)))) R.snil) (R.sone (R.ret (R.fn c_is_some_answer hr_is_some_answer rfl (R.cons (R.v 1) R.nil)))))))), ?_⟩
    obtain ⟨kx, hkx⟩ := tg.1.kd
    have hz : ∀ z, x = .str z -> z.length <= 1000 := tg.1.pt.choose_spec.2
    refine ⟨_, tB, ?_⟩
    unfold partB at q; show if (BDS.lookup kd).isSome = true then _ else _
    cases hl : BDS.lookup kd with
    | some xs =>
      obtain ⟨lo, hi, rfl⟩ := BDS_two hl
      rw [hl] at q; refine if_t rfl ?_
      refine ⟨_, _, tB, hl, fun b hb => ⟨_, hb _, _, rfl, ?_⟩⟩
      refine ⟨_, _, tB, hl, fun b' hb' => ⟨_, hb' _, _, rfl, ?_⟩⟩
      exact ⟨x, lo, hi, rfl, tg.1.pt, q⟩
    | none =>
      rw [hl] at q; refine if_f (by simp) ?_
      dsimp only [tNext]; show if decide (kd = "name") = true then _ else _
      refine if_b (fun h0 => ?_) (fun h0 => ?_)
      . dsimp only at q
        rw [if_pos (of_decide_eq_true h0)] at q; exact ⟨x, kx, rfl, hkx, hz, q⟩
      dsimp only at q
      rw [if_neg (of_decide_eq_false h0)] at q; dsimp only [tNext]; show if decide (kd = "key") = true then _ else _
      refine if_b (fun h1 => ?_) (fun h1 => ?_)
      . rw [if_pos (of_decide_eq_true h1)] at q; exact ⟨x, kx, rfl, hkx, hz, q⟩
      rw [if_neg (of_decide_eq_false h1)] at q; dsimp only [tNext]; show if decide (kd = "deed") = true then _ else _
      refine if_b (fun h2 => ?_) (fun h2 => ?_)
      . rw [if_pos (of_decide_eq_true h2)] at q; exact ⟨x, rfl, tg.th.1, tg.th.2, q⟩
      rw [if_neg (of_decide_eq_false h2)] at q; exact ⟨x, rfl, tg, q⟩
end
end KL
namespace KL
open PySem L2
section
variable {P : Program} {w : World} {K : W.Frag} {mg : Str -> Option Value} {base : Heap}
theorem ok_rowAny (T : Txt K mg) (U : Top w.params K mg) (c_word_of : Callee P w K mg base 1 "word_of" ["thing"] spWordOf) (c_is_part : Callee P w K mg base 6 "is_part" ["kind", "thing"] spPart) (c_is_answer : Callee P w K mg base 4 "is_answer" ["deed", "thing"] spIsAns) (D : DefAt K mg "is_row" s_is_row ["thing"]) : Callee P w K mg base 7 "is_row" ["thing"] spRowAny := by
  refine D.go sc_is_row (fun vs H Q E h => ?_) (fun f cdv A outer s H vs Q E hr h => ?_)
  . obtain ⟨x, rfl, _⟩ := h; rfl
  . obtain ⟨x, rfl, tz, q⟩ := h
    have hr_word_of : Room 1 _ := hr.mono (by decide)
    have hr_is_answer : Room 4 _ := hr.mono (by decide)
    have hr_is_part := hr
    obtain ⟨aP, m_PARTS, tP⟩ := U.g_PARTS
    refine ⟨_, (R.scons (R.set (i := 1) sc_is_row.nd (R.fn c_word_of hr_word_of rfl (R.cons (R.v 0) R.nil))) (R.scons (R.ife (R.tw (R.wor (R.tcmp (R.knotInKN (K := K) (P := w.params)) (R.v 1) (R.gR rfl m_PARTS)) (R.wor1 (R.tcmp R.ne (R.callB (R.klenL (K := K)) rfl T.b_len bb_len (R.cons (R.v 0) R.nil)) (R.op R.add (R.callB (R.klenL (K := K)) rfl T.b_len bb_len (R.cons (R.ix (R.kiKT (K := K) (P := w.params)) (R.gR rfl m_PARTS) (R.v 1)) R.nil)) R.int))))) (R.sone (R.ret R.bl)) R.snil) (R.scons (R.ife (R.tnot (R.val (R.callB (R.kall (K := K) rfl) rfl T.b_all bb_all (R.cons (R.comp rfl (js := [none, none]) (N := ["kind", "part"]) (CompScope.by (defScope s_is_row) ["thing", "word"] rfl rfl (by decide +kernel)) (gown_tup (gowns_cons rfl (gowns_cons rfl gowns_nil))) (R.zip (K := K) rfl T.b_zip (R.ix (R.kiKT (K := K) (P := w.params)) (R.gR rfl m_PARTS) (R.v 1)) (R.sl R.sT (R.v 0) (R.ps R.int) R.pn)) (fun C s₂ H₂ fp => ⟨(R.kgt (K := K) (n := 2) rfl (R.gsc (R.gn (i := 0) (show (["kind", "part"] : List Str).Nodup by decide +kernel)) (R.gsc (R.gn (i := 1) (show (["kind", "part"] : List Str).Nodup by decide +kernel)) R.gsn))), R.ts0, (R.fn c_is_part hr_is_part rfl (R.cons (R.v 0) (R.cons (R.v 1) R.nil)))⟩)) R.nil)))) (R.sone (R.ret R.bl)) R.snil) (R.sone (R.ret (R.or (R.cmp R.ne (R.v 1) R.str) (R.one (R.fn c_is_answer hr_is_answer rfl (R.cons (R.ix (R.kiT (K := K)) (R.v 0) R.int) (R.cons (R.ix (R.kiT (K := K)) (R.v 0) R.int) R.nil)))))))))), ?_⟩
    refine ⟨x, rfl, tz.tg, ?_⟩
    rcases word_cases H x with ⟨hw, hv⟩ | ⟨wd, r, a, hw, hp, rfl, ga⟩
    . rw [hw]; dsimp only [gName]; refine ⟨_, tP, ?_⟩
      dsimp only; have q' := q H (Same.refl H)
      rw [hv] at q'; exact q'
    rw [hw]; dsimp only [gName]; refine ⟨_, tP, ?_⟩
    have eV : rowV H (.ref a) = rowB H (.str wd :: r) := by unfold rowV; rw [hp]
    rw [eV] at q; unfold rowB at q; dsimp only at q ⊢
    rw [if_pos rfl]; cases hl : PTS.lookup wd with
    | none =>
      rw [hl] at q; exact q H (Same.refl H)
    | some ks =>
    rw [hl] at q; dsimp only at q
    obtain ⟨ht, l1, l6, hkept⟩ := PTS_kinds hl
    refine ⟨_, .inr (SqT.of ga), _, _, tP, hl, fun b hb => ⟨_, .inr (hb _), ?_⟩⟩
    by_cases hlen : r.length = ks.length
    case neg =>
      rw [decide_eq_false hlen] at q; refine if_t (c := !decide ((((V.str wd :: r).length : Nat) : Int) = ((ks.length : Nat) : Int) + 1)) ?_ ?_
      . rw [decide_eq_false (by rw [Zlc]; omega)]; rfl
      . exact q H (Same.refl H)
    refine if_f (c := !decide ((((V.str wd :: r).length : Nat) : Int) = ((ks.length : Nat) : Int) + 1)) ?_ ?_
    . rw [decide_eq_true (by rw [Zlc]; omega)]; rfl
    dsimp only [tNext]; refine ⟨_, _, tP, hl, fun b1 hb1 => ⟨_, ga, fun p1 H1 s1 g1 => ?_⟩⟩
    have ec : cut (V.str wd :: r) (some 1) none = r := L2.cut_from _ 1
    rw [ec] at g1; have tgr : ∀ y ∈ r, Tg H y := fun y hy => (tz.2 a _ rfl ga).2 y (Zmc _ hy)
    refine ⟨false, false, _, _, hb1 _, SqT.of g1, ?_⟩
    refine comp_zip (by omega) (fun i ys H' => ys = ((ks.zip r).take i).map (fun q => V.bl (partV H q.1 q.2)) /\ Same H1 H') (fun i ys H' ⟨e, s'⟩ => ⟨hb1 _, SqT.of (s' _ _ g1), by rw [e, Zlm, Zlk]; exact Nat.min_le_left _ _⟩) ⟨rfl, Same.refl _⟩ (fun i x y ys H' t' hx' hy' ⟨e, s'⟩ ht' => ?_) (fun ys H' ⟨e, s'⟩ => ?_)
    . obtain ⟨kd, rfl⟩ := ht x (Zmg hx')
      have s2 := s'.trans (same_upd (o := .tup [.str kd, y]) ht')
      have s02 := s1.trans s2
      have tgy := tgr y (Zmg hy')
      refine ⟨t', _, rfl, SqT.of upd_same, rfl, _, _, rfl, _, _, rfl, rfl, kd, y, rfl, tgy.same s02, fun H'' s'' => ⟨?_, s2.trans s''⟩⟩
      rw [partB_same s02 tgy.1, e, List.take_add_one, Zap]; have ez : (ks.zip r)[i]? = some (.str kd, y) := by rw [List.getElem?_zip_eq_some]; exact ⟨hx', hy'⟩
      rw [ez]; rfl
    . intro l hl'; have ef : (ks.zip r).take (min ks.length r.length) = ks.zip r := Ztl (by rw [List.length_zip]; exact Znr _)
      rw [ef] at e; refine ⟨l, (ks.zip r).map (fun q => partV H q.1 q.2), rfl, SqL.of (by rw [upd_same, e, List.map_map]; rfl), ?_⟩
      have s3 : Same H (upd H' l (.lst ys)) := (s1.trans s').trans (same_upd hl')
      generalize upd H' l (.lst ys) = H3 at s3 ⊢; rw [decide_eq_true hlen, Bool.true_and] at q; have ea : ((ks.zip r).map (fun q => partV H q.1 q.2)).all id = (ks.zip r).all (fun q => partV H q.1 q.2) := by rw [List.all_map]; rfl
      show if (!((ks.zip r).map (fun q => partV H q.1 q.2)).all id) = true then _ else _
      rw [ea]; cases hall : (ks.zip r).all (fun q => partV H q.1 q.2) with
      | false =>
        rw [hall] at q; exact q H3 s3
      | true =>
      rw [hall, Bool.true_and] at q; refine if_f rfl ?_
      dsimp only [tNext]; show if (!decide (wd = "kept")) = true then _ else _
      refine if_b (fun h => ?_) (fun h => ?_)
      . have q' := q H3 s3
        rw [h, Bool.true_or] at q'; exact q'
      rw [h, Bool.false_or] at q; have hkp : wd = "kept" := by simpa using h
      have eks := hkept hkp
      subst eks; match r, hlen, ga, tgr, hall, q with
      | [r1, r2, r3, r4, r5, r6], _, ga, tgr, hall, q =>
        have h5 : partV H (.str "deed") r5 = true := List.all_eq_true.mp hall (.str "deed", r5) (by simp)
        have h5' : deedV H r5 = true := by rw [<- partB_deed]; exact h5
        obtain ⟨b5, xs, wd', n', as, rfl, g5, _, hdw⟩ := deedV_of h5'
        have tg6 : Tg H r6 := tgr r6 (by simp)
        refine ⟨_, SqT.of (s3 _ _ ga), _, rfl, _, SqT.of (s3 _ _ ga), _, rfl, b5, wd', n', xs, as, r6, rfl, s3 _ _ g5, hdw, tg6.same s3, fun H4 s4 => ?_⟩
        rw [ansV_same s3 tg6.1]; have q' := q H4 (s3.trans s4)
        have eD : ansD H ([r1, r2, r3, r4, V.ref b5, r6].getD 4 .non) ([r1, r2, r3, r4, V.ref b5, r6].getD 5 .non) = ansV H wd' (as.map (·.1)) n' r6 := ansD_of g5 hdw
        rw [eD] at q'; exact q'
end
end KL
namespace KL
open PySem L2
section
variable {P : Program} {w : World} {K : W.Frag} {mg : Str -> Option Value} {base : Heap}
theorem ok_lwhole (T : Txt K mg) (D : DefAt K mg "_law_whole" s_law_whole ["_law_thing", "_law_least", "_law_most"]) : Callee P w K mg base 1 "_law_whole" ["_law_thing", "_law_least", "_law_most"] spWhole := by
  refine D.go sc_law_whole (fun vs H Q E h => ?_) (fun f cdv A outer s H vs Q E hr h => ?_)
  . obtain ⟨x, lo, hi, rfl, _⟩ := h; rfl
  . obtain ⟨x, lo, hi, rfl, ⟨k, hk, hz⟩, q⟩ := h
    refine ⟨_, (R.sone (R.ret (R.and (R.isi .int (R.v 0) rfl T.b_isinstance rfl T.b_int bb_int) (R.and (R.not (R.isi .bl (R.v 0) rfl T.b_isinstance rfl T.b_bool bb_bool)) (R.one (R.chain R.le R.le (R.v 1) (R.v 0) (R.v 2))))))), ?_⟩
    have h := q H (Same.refl H)
    refine ⟨k, hk, ?_⟩
    cases x with
    | int n =>
      cases k <;> first | exact hk.elim | skip
      refine ⟨.int, trivial, ?_⟩
      have e : numV lo hi (.int n) = (decide (lo <= n) && decide (n <= hi)) := rfl
      rw [e] at h; show if decide (lo <= n) = true then _ else _
      refine if_b (fun h1 => ?_) (fun h1 => ?_)
      . rw [h1, Bool.true_and] at h; exact h
      . rw [h1, Bool.false_and] at h; exact h
    | bl t =>
      cases k <;> first | exact hk.elim | skip
      exact ⟨.bl, trivial, h⟩
    | _ => cases k <;> first | exact hk.elim | exact h
theorem ok_lword (T : Txt K mg) (D : DefAt K mg "_law_is_word" s_law_is_word ["_law_thing", "_law_signs", "_law_most"]) : Callee P w K mg base 1 "_law_is_word" ["_law_thing", "_law_signs", "_law_most"] spMade := by
  refine D.go sc_law_is_word (fun vs H Q E h => ?_) (fun f cdv A outer s H vs Q E hr h => ?_)
  . obtain ⟨x, sg, n, k, rfl, _⟩ := h; rfl
  . obtain ⟨x, sg, n, k, rfl, hk, hz, q⟩ := h
    have hu := hr.units0
    refine ⟨_, (R.scons (R.ife (R.tw (R.wor (R.tnot (R.val (R.isi .str (R.v 0) rfl T.b_isinstance rfl T.b_str bb_str))) (R.wor1 (R.tnot (R.tchain R.le R.le R.int (R.callB R.lenS rfl T.b_len bb_len (R.cons (R.v 0) R.nil)) (R.v 2)))))) (R.sone (R.ret R.bl)) R.snil) (R.sone (R.ret (R.cmp (R.keqNil (K := K) hu) (R.comp rfl (js := [none, some 1]) (N := ["_law_sign", "_law_signs"]) (CompScope.by (defScope s_law_is_word) ["_law_thing", "_law_signs", "_law_most"] rfl rfl (by decide +kernel)) (gown_name rfl) (R.wS (R.v 0)) (fun C s₂ H₂ fp => ⟨(R.gn (i := 0) (show (["_law_sign", "_law_signs"] : List Str).Nodup by decide +kernel)), (R.ts1 (R.tcmp R.notInS (R.v 0) (R.v 1))), (R.v 0)⟩)) (R.lst R.nil))))), ?_⟩
    have h := q H (Same.refl H)
    refine ⟨k, hk, ?_⟩
    cases x with
    | str z =>
      cases k <;> first | exact hk.elim | skip
      have hz1 := hz z rfl
      refine ⟨szl' hz1, ?_⟩
      have e : madeOf (.str z) sg.cps.toList n = (decide (1 <= (z.length : Int)) && decide ((z.length : Int) <= n) && z.cps.toList.all (fun c => decide (c ∈ sg.cps.toList))) := madeOf_str _ _ _
      refine if_b (fun h1 => ?_) (fun h1 => ?_)
      . show if (!decide ((z.length : Int) <= n)) = true then _ else _
        refine if_b (fun h2 => ?_) (fun h2 => ?_)
        . have h2' : decide ((z.length : Int) <= n) = false := by simpa using h2
          rw [e, h2', Bool.and_false, Bool.false_and] at h; exact h
        . have h2' : decide ((z.length : Int) <= n) = true := by simpa using h2
          refine ⟨z, rfl, comp_str (Znt hz1 (by decide)) (fun c => !decide (c ∈ sg.cps.toList)) (fun c => .str (tx [c])) (fun c ys N hv ht hf => ?_) ?_⟩
          . refine ⟨c, rfl, ?_⟩
            exact if_b (fun h => ht h) (fun h => hf h)
          . intro p hp; refine ⟨szl rfl, fun p2 hp2 => ⟨p, p2, _, rfl, rfl, SqL.of (at_upd upd_same hp2), SqL.of upd_same, ?_⟩⟩
            have h5 := q (upd _ p2 (.lst [])) ((same_upd hp).trans (same_upd hp2))
            rw [e, h1, h2', <- all_filter] at h5; show Q (.bl (List.map _ _).isEmpty) _
            rw [List.isEmpty_map]; exact h5
      . rw [e, h1] at h; exact h
    | _ => cases k <;> first | exact hk.elim | exact h
theorem ok_lname30 (T : Txt K mg) (cLis_word : Callee P w K mg base 1 "_law_is_word" ["_law_thing", "_law_signs", "_law_most"] spMade) (D : DefAt K mg "_law_is_name" s_law_is_name ["_law_thing"]) : Callee P w K mg base 2 "_law_is_name" ["_law_thing"] (spTell LET 8) := by
  refine D.go sc_law_is_name (fun vs H Q E h => ?_) (fun f cdv A outer s H vs Q E hr h => ?_)
  . obtain ⟨x, k, rfl, _⟩ := h; rfl
  . obtain ⟨x, k, rfl, hk, hz, q⟩ := h
    have hLis_word := hr
    refine ⟨_, (R.sone (R.ret (R.fn cLis_word hLis_word rfl (R.cons (R.v 0) (R.cons R.str (R.cons R.int R.nil)))))), ?_⟩
    refine ⟨x, _, _, k, rfl, hk, hz, fun H' s' => ?_⟩
    have := q H' s'
    rw [<- let_eq] at this; exact this
end
end KL
namespace KL
open PySem L2
section
variable {P : Program} {w : World} {K : W.Frag} {mg : Str -> Option Value} {base : Heap}
theorem at0 (x : V) (r : List V) : atI (x :: r) 0 = some x := atI_nat (j := 0) rfl
theorem eqTup_nil (xs : List V) : eqTup xs [] = xs.isEmpty := by
  cases xs with
  | nil => rfl
  | cons x xs => rfl
theorem nmV_str {y : V} (h : nmV y = true) : ∃ z, y = .str z := by
  cases y <;> first | exact ⟨_, rfl⟩ | (unfold nmV madeOf at h; exact absurd h Bool.false_ne_true)
theorem deedB_none {z : Str} {r : List V} (h : WS.lookup z = none) : deedB (.str z :: r) = false := by
  unfold deedB; have e : fitsB ((atI (V.str z :: r) 0).getD .non) (midV (.str z :: r)) = false := by
    rw [at0]; show fitsB (.str z) _ = false
    unfold fitsB; dsimp only; rw [h]
  rw [e, Bool.and_false, Bool.false_and]
theorem deedB_len {z : Str} {r : List V} {i : Int} (h : WS.lookup z = some i) (hl : ¬ i + 2 = ((V.str z :: r).length : Int)) : deedB (.str z :: r) = false := by
  unfold deedB; by_cases h3 : 3 <= (V.str z :: r).length
  . have e : fitsB ((atI (V.str z :: r) 0).getD .non) (midV (.str z :: r)) = false := by
      rw [at0]; show fitsB (.str z) _ = false
      unfold fitsB; dsimp only; rw [h]; dsimp only; have hml := mid_len h3
      rw [decide_eq_false (by omega)]; rfl
    rw [e, Bool.and_false, Bool.false_and]
  . rw [decide_eq_false h3]; rfl
theorem deedB_some {z : Str} {r : List V} {i : Int} (h : WS.lookup z = some i) (hl : i + 2 = ((V.str z :: r).length : Int)) : deedB (.str z :: r) = ((midV (.str z :: r)).all nmV && (!inV (.str z) UW || !decide (atI (midV (.str z :: r)) 0 = atI (midV (.str z :: r)) 1)) && numV 1 1000000000000 ((atI (.str z :: r) (-1)).getD .non)) := by
  have hi := WS_pos h
  have h3 : 3 <= (V.str z :: r).length := by omega
  have hml := mid_len h3
  unfold deedB; rw [decide_eq_true h3, Bool.true_and]; congr 1
  rw [at0]; show fitsB (.str z) _ = _
  unfold fitsB; dsimp only; rw [h]; dsimp only; rw [decide_eq_true (by omega), Bool.true_and]
theorem ok_ldeed30 (T : Txt K mg) (cLis_name : Callee P w K mg base 2 "_law_is_name" ["_law_thing"] (spTell LET 8)) (cLwhole : Callee P w K mg base 1 "_law_whole" ["_law_thing", "_law_least", "_law_most"] spWhole) (D : DefAt K mg "_law_is_deed" s_law_is_deed ["_law_thing"]) : Callee P w K mg base 3 "_law_is_deed" ["_law_thing"] spIsDeed := by
  refine D.go sc_law_is_deed (fun vs H Q E h => ?_) (fun f cdv A outer s H vs Q E hr h => ?_)
  . obtain ⟨x, rfl, _⟩ := h; rfl
  . obtain ⟨x, rfl, ⟨⟨k, hk, hz⟩, hp⟩, hlen, q⟩ := h
    have hLis_name := hr
    have hLwhole : Room 1 _ := hr.mono (by decide)
    have hu := hr.units0
    have hu64 := hr.units
    have hu1 := Nat.lt_trans (Nat.add_lt_add_left (show 1 < 64 by decide) _) hr.units
    refine ⟨_, (R.scons (R.ife (R.tw (R.wor (R.tnot (R.val (R.isi .tup (R.v 0) rfl T.b_isinstance rfl T.b_tuple bb_tuple))) (R.wor (R.tcmp (R.eqF hu64) (R.v 0) (R.wtup R.nil)) (R.wor1 (R.tnot (R.val (R.isi .str (R.ix (R.kiT (K := K)) (R.v 0) R.int) rfl T.b_isinstance rfl T.b_str bb_str))))))) (R.sone (R.ret R.bl)) R.snil) (R.scons (R.set (i := 1) sc_law_is_deed.nd (R.dget2 hu1 (R.disp (R.ppc R.str R.int (R.ppc R.str R.int (R.ppc R.str R.int (R.ppc R.str R.int (R.ppc R.str R.int (R.ppc R.str R.int R.ppn))))))) (R.ix (R.kiT (K := K)) (R.v 0) R.int) (R.neg R.int))) (R.scons (R.ife (R.tw (R.wor (R.tcmp R.ne (R.v 1) (R.callB (R.klenL (K := K)) rfl T.b_len bb_len (R.cons (R.v 0) R.nil))) (R.wor1 (R.tcmp (R.kneNil (K := K) hu) (R.comp rfl (js := [none]) (N := ["_law_name"]) (CompScope.by (defScope s_law_is_deed) ["_law_thing", "_law_size"] rfl rfl (by decide +kernel)) (gown_name rfl) (R.kwT (K := K) (R.sl R.sT (R.v 0) (R.ps R.int) (R.ps (R.neg R.int)))) (fun C s₂ H₂ fp => ⟨(R.gn (i := 0) (show (["_law_name"] : List Str).Nodup by decide +kernel)), (R.ts1 (R.tnot (R.val (R.fn cLis_name hLis_name rfl (R.cons (R.v 0) R.nil))))), (R.v 0)⟩)) (R.lst R.nil))))) (R.sone (R.ret R.bl)) R.snil) (R.scons (R.ife (R.tw (R.wand (R.tcmp (R.kinQ (K := K)) (R.ix (R.kiT (K := K)) (R.v 0) R.int) (R.wtup (R.cons R.str (R.cons R.str R.nil)))) (R.wand1 (R.tcmp R.eq (R.ix (R.kiT (K := K)) (R.v 0) R.int) (R.ix (R.kiT (K := K)) (R.v 0) R.int))))) (R.sone (R.ret R.bl)) R.snil) (R.sone (R.ret (R.fn cLwhole hLwhole rfl (R.cons (R.ix (R.kiT (K := K)) (R.v 0) (R.neg R.int)) (R.cons R.int (R.cons (R.op R.pow R.int R.int) R.nil)))))))))), ?_⟩
    have h := q H (Same.refl H)
    refine ⟨k, hk, ?_⟩
    cases x with
    | ref a =>
      cases k <;> first | exact hk.elim | skip
      case tup =>
        obtain ⟨xs, hx⟩ := hk
        have hpx := hp a xs rfl hx
        have hlx := hlen a xs rfl hx
        have eV : deedV H (.ref a) = deedB xs := by unfold deedV; simp only [hx]
        rw [eV] at q h; refine ⟨by simp, fun t0 H0 s0 g0 => ⟨xs, [], s0 _ _ hx, g0, fun j u v h1 h2 => by simp at h2, ?_⟩⟩
        rw [eqTup_nil]; cases xs with
        | nil => exact q H0 s0
        | cons y0 r =>
        obtain ⟨k0, hk0, hz0⟩ := hpx y0 Zcs
        have hx0 := s0 _ _ hx
        refine ⟨_, SqT.of hx0, y0, at0 _ _, k0, hk0.same s0, ?_⟩
        cases y0 with
        | str z =>
          cases k0 <;> first | exact hk0.elim | skip
          refine fun p hpn => ⟨upd_same, [(.inr "add", .int 3), (.inr "take", .int 3), (.inr "move", .int 4), (.inr "send", .int 4), (.inr "fetch", .int 4), (.inr "pass", .int 5)], rfl, by decide, ?_⟩
          have s1 : Same H (upd (upd H0 p (.dK [])) p (.dK PARTS)) := s0.trans (by
            intro c o e; have : c ≠ p := ne_of_none e hpn
            rw [upd_ne this, upd_ne this]; exact e)
          have gp : upd (upd H0 p (.dK [])) p (.dK PARTS) p = some (.dK PARTS) := upd_same
          show ∃ a, V.ref p = .ref a /\ IsD (upd (upd H0 p (.dK [])) p (.dK PARTS)) a /\ _
          refine ⟨p, rfl, .inl ⟨_, .inl gp⟩, ?_⟩
          show tOp _ _ _ _ (upd (upd H0 p (.dK [])) p (.dK PARTS)) _
          generalize upd (upd H0 p (.dK [])) p (.dK PARTS) = H1 at s1 gp; have hx1 := s1 _ _ hx
          refine ⟨_, SqT.of hx1, .str z, at0 _ _, _, .inl ⟨PARTS, .inr z, .inl gp, rfl, rfl⟩, ?_⟩
          dsimp only [gName]; rw [parts_val]; cases e : WS.lookup z with
          | none =>
            rw [deedB_none e] at q; dsimp only [Option.map, Option.getD]; refine ⟨_, .inr (SqT.of hx1), ?_⟩
            exact q H1 s1
          | some i =>
            have hi := WS_pos e
            dsimp only [Option.map, Option.getD]; refine ⟨_, .inr (SqT.of hx1), ?_⟩
            refine if_b (fun h6 => ?_) (fun h6 => ?_)
            . have h6' : ¬ (i + 2 = ((V.str z :: r).length : Int)) := by simpa using h6
              rw [deedB_len e h6'] at q; exact q H1 s1
            have h6' : i + 2 = ((V.str z :: r).length : Int) := by simpa using h6
            rw [deedB_some e h6'] at q; have h3 : 3 <= (V.str z :: r).length := by omega
            have hml := mid_len h3
            refine ⟨_, hx1, fun pm H2 s2 g2 => ⟨pm, rfl, ⟨_, SqT.of g2⟩, ?_⟩⟩
            have hs2 := s1.trans s2
            generalize hxs : V.str z :: r = xs at *; have hy0 : atI xs 0 = some (.str z) := by rw [<- hxs]; exact at0 _ _
            refine comp_seq (seq_tup K pm (midV xs)) (by omega) (fun j ys H' => ys = ((midV xs).take j).filter (fun y => !nmV y) /\ Same H2 H') (fun j ys H' ⟨e3, s3⟩ => ⟨SqT.of (s3 _ _ g2), by rw [e3]; exact Znt (List.length_filter_le _ _) (by rw [Zlk]; omega)⟩) ⟨rfl, Same.refl _⟩ (fun j y ys H' hy ⟨e3, s3⟩ => ?_) (fun ys H' ⟨e3, s3⟩ => ?_)
            . have my : y ∈ xs := mid_mem h3 (Zmg hy)
              obtain ⟨ky, hky, hzy⟩ := (hpx y my).same (hs2.trans s3)
              have key := take_succ_filter (fun y => !nmV y) (midV xs) j y hy
              refine ⟨y, ky, rfl, hky, hzy, fun H'' s'' => ?_⟩
              show if (!nmV y) = true then _ else _
              refine if_b (fun h7 => ⟨?_, s3.trans s''⟩) (fun h7 => ⟨?_, s3.trans s''⟩)
              . rw [key, if_pos h7, e3]
              . rw [key, if_neg (by rw [h7]; exact Bool.false_ne_true), List.append_nil, e3]
            . rw [Ztl (Znr _)] at e3; intro pc hpc; refine ⟨szl rfl, fun p2 hp2 => ⟨pc, p2, _, rfl, rfl, SqL.of (at_upd upd_same hp2), SqL.of upd_same, ?_⟩⟩
              have hs3 : Same H (upd (upd H' pc (.lst ys)) p2 (.lst [])) := ((hs2.trans s3).trans (same_upd hpc)).trans (same_upd hp2)
              have hx3 := hs3 _ _ hx
              have e5 : ys.isEmpty = (midV xs).all nmV := by rw [e3, all_filter]
              show if (!ys.isEmpty) = true then _ else _
              rw [e5]; generalize upd (upd H' pc (.lst ys)) p2 (.lst []) = H3 at hs3 hx3; cases e6 : (midV xs).all nmV with
              | false =>
                have h5 := q H3 hs3
                rw [e6] at h5; exact h5
              | true =>
                rw [e6, Bool.true_and] at q; refine ⟨xs, SqT.of hx3, .str z, hy0, by simp, fun pt H4 s4 g4 => ⟨pt, UW, rfl, .inr (SqT.of g4), rfl, rfl, ?_⟩⟩
                have hs4 := hs3.trans s4
                have hx4 := hs4 _ _ hx
                have rest : ∀ H5, Same H H5 -> (∀ H6, Same H H6 -> Q (.bl (numV 1 1000000000000 ((atI xs (-1)).getD .non))) H6) -> (tRet (tFn spWhole (tCons (tOp (mIxT K) (vr 0) (tUn (fun x H Q => mI x fun i => Q (.int (-i)) H) (tC (.int 1)))) (tCons (tC (.int 1)) (tCons (tOp (m2 CPow fun i j => .int (i ^ j.toNat)) (tC (.int 10)) (tC (.int 12))) tNil))))) { nx := fun _ H' => Q .non H', rt := Q } [some (.ref a), some (.int (i + 2))] H5 := fun H5 s5 q5 => by
                  obtain ⟨yl, hyl, ml⟩ : ∃ v, atI xs (-1) = some v /\ v ∈ xs := by
                    have hj : xs.length - 1 < xs.length := by omega
                    refine ⟨xs[xs.length - 1], ?_, List.getElem_mem hj⟩
                    unfold atI ixN; rw [if_neg (by decide), if_pos (by omega)]
                    have : ((-1 : Int) + (xs.length : Int)).toNat = xs.length - 1 := by omega
                    simp [this, hj]
                  rw [hyl] at q5; have e12 : (10 : Int) ^ (12 : Int).toNat = 1000000000000 := by decide
                  refine ⟨xs, SqT.of (s5 _ _ hx), yl, hyl, ⟨by decide, by decide, by decide⟩, yl, 1, _, rfl, (hpx yl ml).same s5, fun H6 s6 => ?_⟩
                  rw [e12]; exact q5 H6 (s5.trans s6)
                show if inV (.str z) UW = true then _ else _
                cases e7 : inV (.str z) UW with
                | false =>
                  rw [e7] at q; exact rest _ hs4 q
                | true =>
                  rw [e7] at q; have i2 := WS_uw e e7
                  have hml2 : 2 <= (midV xs).length := by omega
                  obtain ⟨c0, r0, exs⟩ : ∃ c0 r0, xs = .str z :: c0 :: r0 := by
                    cases r with
                    | nil => rw [<- hxs] at h3; simp at h3
                    | cons c0 r0 => exact ⟨c0, r0, hxs.symm⟩
                  have hmid : midV xs = ((c0 :: r0).take (xs.length - 2)) := by rw [cut_mid h3, exs]; rfl
                  match r0, exs, hmid with
                  | [], exs, _ => rw [exs] at h3; simp at h3
                  | [_], exs, hmid =>
                    rw [exs] at hml2 hmid; rw [hmid] at hml2; simp at hml2
                  | c1 :: c2 :: r1, exs, hmid =>
                    have em : midV xs = c0 :: c1 :: ((c2 :: r1).take (xs.length - 4)) := by
                      rw [hmid, exs]; simp
                    have a0 : atI (midV xs) 0 = some c0 := by rw [em]; exact atI_nat (j := 0) rfl
                    have a1 : atI (midV xs) 1 = some c1 := by rw [em]; exact atI_nat (j := 1) rfl
                    have b1 : atI xs 1 = some c0 := by rw [exs]; exact atI_nat (j := 1) rfl
                    have b2 : atI xs 2 = some c1 := by rw [exs]; exact atI_nat (j := 2) rfl
                    have n0 : nmV c0 = true := List.all_eq_true.mp e6 c0 (by rw [em]; exact Zcs)
                    have n1 : nmV c1 = true := List.all_eq_true.mp e6 c1 (by rw [em]; exact Zmc _ Zcs)
                    rw [a0, a1] at q; refine ⟨xs, SqT.of hx4, c0, b1, xs, SqT.of hx4, c1, b2, ?_⟩
                    obtain ⟨z0, rfl⟩ := nmV_str n0
                    obtain ⟨z1, rfl⟩ := nmV_str n1
                    have e8 : decide (some (V.str z0) = some (V.str z1)) = decide (z0 = z1) := by
                      rw [decide_eq_decide]; constructor
                      . intro e8; injection e8 with e8; injection e8
                      . intro e8; rw [e8]
                    rw [e8] at q; show if decide (z0 = z1) = true then _ else _
                    cases e9 : decide (z0 = z1) with
                    | true =>
                      have h5 := q _ hs4
                      rw [e9] at h5; exact h5
                    | false =>
                      rw [e9] at q; exact rest _ hs4 q
        | _ =>
          have ed : ∀ y : V, (∀ z, y ≠ .str z) -> deedB (y :: r) = false := fun y hy => by
            unfold deedB; have e : fitsB ((atI (y :: r) 0).getD .non) (midV (y :: r)) = false := by
              rw [at0]; show fitsB y _ = false
              cases y with
              | str z => exact absurd rfl (hy z)
              | _ => rfl
            rw [e, Bool.and_false, Bool.false_and]
          rw [ed _ (fun z e => by cases e)] at q
          cases k0 <;> first | exact hk0.elim | exact q H0 s0
      all_goals
        have e1 : deedV H (.ref a) = false := by
          unfold deedV; first
            | (rcases hk with ⟨xs, e⟩ | ⟨o, xs, e⟩ <;> simp only [e])
            | (obtain ⟨kvs, e⟩ := hk; simp only [e])
        rw [e1] at h; exact h
    | _ => cases k <;> first | exact hk.elim | exact h
end
end KL
namespace KL
open PySem L2
section
variable {P : Program} {w : World} {K : W.Frag} {mg : Str -> Option Value} {base : Heap}
theorem wne : (("no" : Str) = "ok") = False /\ (("no" : Str) = "is") = False /\ (("no" : Str) = "short") = False /\ (("no" : Str) = "full") = False /\ (("ok" : Str) = "no") = False /\ (("ok" : Str) = "is") = False /\ (("ok" : Str) = "short") = False /\ (("ok" : Str) = "full") = False /\ (("is" : Str) = "no") = False /\ (("is" : Str) = "ok") = False /\ (("is" : Str) = "short") = False /\ (("is" : Str) = "full") = False /\ (("short" : Str) = "no") = False /\ (("short" : Str) = "ok") = False /\ (("short" : Str) = "is") = False /\ (("short" : Str) = "full") = False /\ (("full" : Str) = "no") = False /\ (("full" : Str) = "ok") = False /\ (("full" : Str) = "is") = False /\ (("full" : Str) = "short") = False := by
  refine ⟨?_, ?_, ?_, ?_, ?_, ?_, ?_, ?_, ?_, ?_, ?_, ?_, ?_, ?_, ?_, ?_, ?_, ?_, ?_, ?_⟩ <;> exact eq_false (by decide +kernel)
def ansQ (hs : List Str) (pass : Bool) (bi bs bf : Option (List (Int × Int))) (u : Str) (r : List V) : Bool :=
  if u = "no" then (match r with | [y] => memS y hs | _ => false)
  else if u = "ok" then pass && r.isEmpty
  else if u = "is" then (match bi with | some b => withinB r b | none => false)
  else if u = "short" then (match bs with | some b => withinB r b | none => false)
  else if u = "full" then (match bf with | some b => withinB r b | none => false)
  else false
theorem ansB_other {wd : Str} {hs : List Str} {n : Int} {ys : List V} (h : ∀ u r, ys ≠ .str u :: r) : ansB wd hs n ys = false := by
  unfold ansB; split
  . rename_i u r; exact absurd rfl (h u r)
  . rfl
theorem look_none {α : Type} {u : Str} : ∀ {l : List (Str × α)}, (∀ q ∈ l, q.1 ≠ u) -> l.lookup u = none
  | [], _ => rfl
  | (x, j) :: l, h => by
    rw [List.lookup_cons]; have e : (u == x) = false := by
      rw [beq_eq_false_iff_ne]; exact fun e => h _ Zcs e.symm
    rw [e]; exact look_none fun q hq => h q (Zmc _ hq)
theorem bndL_keys (wd : Str) (n : Int) : ∀ q ∈ bndL wd n, q.1 = "is" ∨ q.1 = "short" ∨ q.1 = "full" := by
  intro q hq; unfold bndL at hq; split at hq
  . cases hq
  . split at hq
    . simp only [List.mem_cons, List.not_mem_nil, or_false] at hq
      rcases hq with rfl | rfl | rfl <;> simp
    . split at hq <;> (simp only [List.mem_cons, List.not_mem_nil, or_false] at hq; rcases hq with rfl | rfl <;> simp)
theorem ansB_Q (wd : Str) (hs : List Str) (n : Int) (u : Str) (r : List V) : ansB wd hs n (.str u :: r) = ansQ hs (decide (wd = "pass")) ((bndL wd n).lookup ("is" : Str)) ((bndL wd n).lookup ("short" : Str)) ((bndL wd n).lookup ("full" : Str)) u r := by
  unfold ansB ansQ; dsimp only; by_cases h1 : u = "is"
  . subst h1; simp [wne] <;> rfl
  by_cases h2 : u = "short"
  . subst h2; simp [wne] <;> rfl
  by_cases h3 : u = "full"
  . subst h3; simp [wne] <;> rfl
  rw [if_neg h1, if_neg h2, if_neg h3]; rw [look_none (u := u) (l := bndL wd n) fun q hq e => by
    rcases bndL_keys wd n q hq with e' | e' | e'
    . exact h1 (e.symm.trans e')
    . exact h2 (e.symm.trans e')
    . exact h3 (e.symm.trans e')]
  try rfl
theorem bnd_move (n : Int) : bndL "move" n = [(("is" : Str), [((0 : Int), 1000000000000 - n), (n, (1000000000000 : Int))]), ("short", [(0, n - 1)]), ("full", [(1000000000000 - n + 1, 1000000000000)])] := by
  unfold bndL; rw [if_neg (by decide +kernel), if_pos rfl]
theorem bnd_take (wd : Str) (n : Int) (h : wd = "take" ∨ wd = "send") : bndL wd n = [(("is" : Str), [((0 : Int), (1000000000000 - n : Int))]), ("short", [(0, n - 1)])] := by
  rcases h with rfl | rfl <;> (unfold bndL; rw [if_neg (by decide +kernel), if_neg (by decide +kernel), if_pos (by decide +kernel)])
theorem bnd_add (wd : Str) (n : Int) (h : wd = "add" ∨ wd = "fetch") : bndL wd n = [(("is" : Str), [(n, (1000000000000 : Int))]), ("full", [(1000000000000 - n + 1, 1000000000000)])] := by
  rcases h with rfl | rfl <;> (unfold bndL; rw [if_neg (by decide +kernel), if_neg (by decide +kernel), if_neg (by decide +kernel)])
theorem bnd_pass (n : Int) : bndL "pass" n = [] := by unfold bndL; rw [if_pos rfl]
theorem Q_move (hs : List Str) (n : Int) (u : Str) (r : List V) : ansB "move" hs n (.str u :: r) = ansQ hs false (some [(0, 1000000000000 - n), (n, 1000000000000)]) (some [(0, n - 1)]) (some [(1000000000000 - n + 1, 1000000000000)]) u r := by
  rw [ansB_Q, bnd_move]; rfl
theorem Q_take (wd : Str) (hs : List Str) (n : Int) (u : Str) (r : List V) (h : wd = "take" ∨ wd = "send") : ansB wd hs n (.str u :: r) = ansQ hs false (some [(0, 1000000000000 - n)]) (some [(0, n - 1)]) none u r := by
  rw [ansB_Q, bnd_take wd n h]; rcases h with rfl | rfl <;> rfl
theorem Q_add (wd : Str) (hs : List Str) (n : Int) (u : Str) (r : List V) (h : wd = "add" ∨ wd = "fetch") : ansB wd hs n (.str u :: r) = ansQ hs false (some [(n, 1000000000000)]) none (some [(1000000000000 - n + 1, 1000000000000)]) u r := by
  rw [ansB_Q, bnd_add wd n h]; rcases h with rfl | rfl <;> rfl
theorem Q_pass (hs : List Str) (n : Int) (u : Str) (r : List V) : ansB "pass" hs n (.str u :: r) = ansQ hs true none none none u r := by
  rw [ansB_Q, bnd_pass]; rfl
theorem wthn1 (y : V) (a b : Int) : withinB [y] [(a, b)] = numV a b y := by
  unfold withinB; simp
theorem wthn2 (y1 y2 : V) (a b c d : Int) : withinB [y1, y2] [(a, b), (c, d)] = (numV a b y1 && numV c d y2) := by
  unfold withinB; simp
theorem within_len {r : List V} {bs : List (Int × Int)} (h : r.length ≠ bs.length) : withinB r bs = false := by
  unfold withinB; rw [decide_eq_false h]; rfl
theorem ansB_pass (one other : Str) (n : Int) (ys : List V) : ansB "pass" [one, other] n ys = (eqTT ys [.str "ok"] || (eqTT ys [.str "no", .str one] || (eqTT ys [.str "no", .str other] || false))) := by
  cases ys with
  | nil => rfl
  | cons y0 r =>
    cases y0 with
    | str u =>
      rw [Q_pass]; unfold ansQ; by_cases h1 : u = "no"
      . subst h1; rw [if_pos rfl]; match r with
        | [] => simp [eqTT, eqS, wne]
        | [y] =>
          cases y with
          | str z => simp [eqTT, eqS, wne, memS]
          | _ => simp [eqTT, eqS, wne, memS]
        | _ :: _ :: _ => simp [eqTT, eqS, wne]
      rw [if_neg h1]; by_cases h2 : u = "ok"
      . subst h2; rw [if_pos rfl]; cases r <;> simp [eqTT, eqS, wne]
      rw [if_neg h2]; simp [eqTT, eqS, h1, h2]
    | _ => rfl
def lansB (wd : Str) (one : V) (n : Int) (ys : List V) : Bool :=
  if decide ((ys.length : Int) < 2) = true then false
  else if (inV (.str wd) [.str "send", .str "fetch"] && eqTT ys [.str "no", one]) = true then true
  else if (decide (wd = "move") && decide ((ys.length : Int) = 3)) = true then
    eqS (ys.getD 0 .non) (.str "is") && (numV 0 (1000000000000 - n) (ys.getD 1 .non) && numV n 1000000000000 (ys.getD 2 .non))
  else if (!decide ((ys.length : Int) = 2)) = true then false
  else if (eqS (ys.getD 0 .non) (.str "is") && inV (.str wd) [.str "add", .str "fetch"]) = true then numV n 1000000000000 (ys.getD 1 .non)
  else if (eqS (ys.getD 0 .non) (.str "is") && inV (.str wd) [.str "take", .str "send"]) = true then numV 0 (1000000000000 - n) (ys.getD 1 .non)
  else if (eqS (ys.getD 0 .non) (.str "full") && inV (.str wd) [.str "add", .str "fetch", .str "move"]) = true then numV (1000000000000 - n + 1) 1000000000000 (ys.getD 1 .non)
  else eqS (ys.getD 0 .non) (.str "short") && (inV (.str wd) [.str "take", .str "send", .str "move"] && numV 0 (n - 1) (ys.getD 1 .non))
theorem inW : inV (.str "add") [.str "send", .str "fetch"] = false /\ inV (.str "take") [.str "send", .str "fetch"] = false /\ inV (.str "move") [.str "send", .str "fetch"] = false /\ inV (.str "send") [.str "send", .str "fetch"] = true /\ inV (.str "fetch") [.str "send", .str "fetch"] = true
  /\ inV (.str "add") [.str "add", .str "fetch"] = true /\ inV (.str "take") [.str "add", .str "fetch"] = false /\ inV (.str "move") [.str "add", .str "fetch"] = false /\ inV (.str "send") [.str "add", .str "fetch"] = false /\ inV (.str "fetch") [.str "add", .str "fetch"] = true
  /\ inV (.str "add") [.str "take", .str "send"] = false /\ inV (.str "take") [.str "take", .str "send"] = true /\ inV (.str "move") [.str "take", .str "send"] = false /\ inV (.str "send") [.str "take", .str "send"] = true /\ inV (.str "fetch") [.str "take", .str "send"] = false
  /\ inV (.str "add") [.str "add", .str "fetch", .str "move"] = true /\ inV (.str "take") [.str "add", .str "fetch", .str "move"] = false /\ inV (.str "move") [.str "add", .str "fetch", .str "move"] = true /\ inV (.str "send") [.str "add", .str "fetch", .str "move"] = false /\ inV (.str "fetch") [.str "add", .str "fetch", .str "move"] = true
  /\ inV (.str "add") [.str "take", .str "send", .str "move"] = false /\ inV (.str "take") [.str "take", .str "send", .str "move"] = true /\ inV (.str "move") [.str "take", .str "send", .str "move"] = true /\ inV (.str "send") [.str "take", .str "send", .str "move"] = true /\ inV (.str "fetch") [.str "take", .str "send", .str "move"] = false
  /\ decide (("add" : Str) = "move") = false /\ decide (("take" : Str) = "move") = false /\ decide (("send" : Str) = "move") = false /\ decide (("fetch" : Str) = "move") = false := by
  refine ⟨?_, ?_, ?_, ?_, ?_, ?_, ?_, ?_, ?_, ?_, ?_, ?_, ?_, ?_, ?_, ?_, ?_, ?_, ?_, ?_, ?_, ?_, ?_, ?_, ?_, ?_, ?_, ?_, ?_⟩ <;> decide +kernel
theorem lans_move (one : V) (hs : List Str) (hhs : hs = []) (n : Int) (ys : List V) : ansB "move" hs n ys = lansB "move" one n ys := by
  subst hhs; obtain ⟨a1, a2, a3, a4, a5, b1, b2, b3, b4, b5, c1, c2, c3, c4, c5, d1, d2, d3, d4, d5, f1, f2, f3, f4, f5, g1, g2, g3, g4⟩ := inW
  unfold lansB; rw [a3, b3, c3, d3, f3]; match ys with
  | [] => rfl
  | [y0] =>
    cases y0 with
    | str u =>
      rw [Q_move]; unfold ansQ
      simp [within_len]
    | _ => rfl
  | [y0, y1] =>
    cases y0 with
    | str u =>
      rw [Q_move]; unfold ansQ
      by_cases h1 : u = "no"
      . subst h1; cases y1 <;> simp [wne, eqS, memS]
      by_cases h2 : u = "ok"
      . subst h2; simp [wne, eqS]
      by_cases h3 : u = "is"
      . subst h3; simp [wne, eqS, within_len]
      by_cases h4 : u = "short"
      . subst h4; simp [wne, eqS, wthn1]
      by_cases h5 : u = "full"
      . subst h5; simp [wne, eqS, wthn1]
      simp [h1, h2, h3, h4, h5, eqS]
    | _ => simp [ansB, eqS]
  | [y0, y1, y2] =>
    cases y0 with
    | str u =>
      rw [Q_move]; unfold ansQ
      by_cases h1 : u = "no"
      . subst h1; simp [wne, eqS]
      by_cases h2 : u = "ok"
      . subst h2; simp [wne, eqS]
      by_cases h3 : u = "is"
      . subst h3; simp [wne, eqS, wthn2]
      by_cases h4 : u = "short"
      . subst h4; simp [wne, eqS, within_len]
      by_cases h5 : u = "full"
      . subst h5; simp [wne, eqS, within_len]
      simp [h1, h2, h3, h4, h5, eqS]
    | _ => simp [ansB, eqS]
  | y0 :: y1 :: y2 :: y3 :: r =>
    have e1 : decide (((y0 :: y1 :: y2 :: y3 :: r).length : Int) < 2) = false := decide_eq_false (by simp only [Zlc]; omega)
    have e2 : decide (((y0 :: y1 :: y2 :: y3 :: r).length : Int) = 3) = false := decide_eq_false (by simp only [Zlc]; omega)
    have e3 : decide (((y0 :: y1 :: y2 :: y3 :: r).length : Int) = 2) = false := decide_eq_false (by simp only [Zlc]; omega)
    rw [e1, e2, e3]; cases y0 with
    | str u =>
      rw [Q_move]; unfold ansQ
      simp [within_len]
    | _ => simp [ansB]
theorem lans_add (one : Str) (n : Int) (ys : List V) : ansB "add" [] n ys = lansB "add" (.str one) n ys := by
  obtain ⟨a1, a2, a3, a4, a5, b1, b2, b3, b4, b5, c1, c2, c3, c4, c5, d1, d2, d3, d4, d5, f1, f2, f3, f4, f5, g1, g2, g3, g4⟩ := inW
  unfold lansB; rw [a1, b1, c1, d1, f1, g1]; match ys with
  | [] => rfl
  | [y0] =>
    cases y0 with
    | str u =>
      rw [Q_add "add" _ _ _ _ (.inl rfl)]; unfold ansQ
      simp [within_len]
    | _ => rfl
  | [y0, y1] =>
    cases y0 with
    | str u =>
      rw [Q_add "add" _ _ _ _ (.inl rfl)]; unfold ansQ
      by_cases h1 : u = "no"
      . subst h1; cases y1 <;> simp [wne, eqS, memS, eqTT]
      by_cases h2 : u = "ok"
      . subst h2; simp [wne, eqS, eqTT]
      by_cases h3 : u = "is"
      . subst h3; simp [wne, eqS, wthn1, eqTT]
      by_cases h4 : u = "short"
      . subst h4; simp [wne, eqS, wthn1, eqTT]
      by_cases h5 : u = "full"
      . subst h5; simp [wne, eqS, wthn1, eqTT]
      simp [h1, h2, h3, h4, h5, eqS, eqTT]
    | _ => simp [ansB, eqS, eqTT]
  | y0 :: y1 :: y2 :: r =>
    have e1 : decide (((y0 :: y1 :: y2 :: r).length : Int) < 2) = false := decide_eq_false (by simp only [Zlc]; omega)
    have e3 : decide (((y0 :: y1 :: y2 :: r).length : Int) = 2) = false := decide_eq_false (by simp only [Zlc]; omega)
    rw [e1, e3]; cases y0 with
    | str u =>
      rw [Q_add "add" _ _ _ _ (.inl rfl)]; unfold ansQ
      simp [within_len, eqTT]
    | _ => simp [ansB, eqTT]
theorem lans_take (one : Str) (n : Int) (ys : List V) : ansB "take" [] n ys = lansB "take" (.str one) n ys := by
  obtain ⟨a1, a2, a3, a4, a5, b1, b2, b3, b4, b5, c1, c2, c3, c4, c5, d1, d2, d3, d4, d5, f1, f2, f3, f4, f5, g1, g2, g3, g4⟩ := inW
  unfold lansB; rw [a2, b2, c2, d2, f2, g2]; match ys with
  | [] => rfl
  | [y0] =>
    cases y0 with
    | str u =>
      rw [Q_take "take" _ _ _ _ (.inl rfl)]; unfold ansQ
      simp [within_len]
    | _ => rfl
  | [y0, y1] =>
    cases y0 with
    | str u =>
      rw [Q_take "take" _ _ _ _ (.inl rfl)]; unfold ansQ
      by_cases h1 : u = "no"
      . subst h1; cases y1 <;> simp [wne, eqS, memS, eqTT]
      by_cases h2 : u = "ok"
      . subst h2; simp [wne, eqS, eqTT]
      by_cases h3 : u = "is"
      . subst h3; simp [wne, eqS, wthn1, eqTT]
      by_cases h4 : u = "short"
      . subst h4; simp [wne, eqS, wthn1, eqTT]
      by_cases h5 : u = "full"
      . subst h5; simp [wne, eqS, wthn1, eqTT]
      simp [h1, h2, h3, h4, h5, eqS, eqTT]
    | _ => simp [ansB, eqS, eqTT]
  | y0 :: y1 :: y2 :: r =>
    have e1 : decide (((y0 :: y1 :: y2 :: r).length : Int) < 2) = false := decide_eq_false (by simp only [Zlc]; omega)
    have e3 : decide (((y0 :: y1 :: y2 :: r).length : Int) = 2) = false := decide_eq_false (by simp only [Zlc]; omega)
    rw [e1, e3]; cases y0 with
    | str u =>
      rw [Q_take "take" _ _ _ _ (.inl rfl)]; unfold ansQ
      simp [within_len, eqTT]
    | _ => simp [ansB, eqTT]
theorem lans_send (one : Str) (n : Int) (ys : List V) : ansB "send" [one] n ys = lansB "send" (.str one) n ys := by
  obtain ⟨a1, a2, a3, a4, a5, b1, b2, b3, b4, b5, c1, c2, c3, c4, c5, d1, d2, d3, d4, d5, f1, f2, f3, f4, f5, g1, g2, g3, g4⟩ := inW
  unfold lansB; rw [a4, b4, c4, d4, f4, g3]; match ys with
  | [] => rfl
  | [y0] =>
    cases y0 with
    | str u =>
      rw [Q_take "send" _ _ _ _ (.inr rfl)]; unfold ansQ
      simp [within_len]
    | _ => rfl
  | [y0, y1] =>
    cases y0 with
    | str u =>
      rw [Q_take "send" _ _ _ _ (.inr rfl)]; unfold ansQ
      by_cases h1 : u = "no"
      . subst h1; cases y1 <;> simp [wne, eqS, memS, eqTT]
      by_cases h2 : u = "ok"
      . subst h2; simp [wne, eqS, eqTT]
      by_cases h3 : u = "is"
      . subst h3; simp [wne, eqS, wthn1, eqTT]
      by_cases h4 : u = "short"
      . subst h4; simp [wne, eqS, wthn1, eqTT]
      by_cases h5 : u = "full"
      . subst h5; simp [wne, eqS, wthn1, eqTT]
      simp [h1, h2, h3, h4, h5, eqS, eqTT]
    | _ => simp [ansB, eqS, eqTT]
  | y0 :: y1 :: y2 :: r =>
    have e1 : decide (((y0 :: y1 :: y2 :: r).length : Int) < 2) = false := decide_eq_false (by simp only [Zlc]; omega)
    have e3 : decide (((y0 :: y1 :: y2 :: r).length : Int) = 2) = false := decide_eq_false (by simp only [Zlc]; omega)
    rw [e1, e3]; cases y0 with
    | str u =>
      rw [Q_take "send" _ _ _ _ (.inr rfl)]; unfold ansQ
      simp [within_len, eqTT]
    | _ => simp [ansB, eqTT]
theorem lans_fetch (one : Str) (n : Int) (ys : List V) : ansB "fetch" [one] n ys = lansB "fetch" (.str one) n ys := by
  obtain ⟨a1, a2, a3, a4, a5, b1, b2, b3, b4, b5, c1, c2, c3, c4, c5, d1, d2, d3, d4, d5, f1, f2, f3, f4, f5, g1, g2, g3, g4⟩ := inW
  unfold lansB; rw [a5, b5, c5, d5, f5, g4]; match ys with
  | [] => rfl
  | [y0] =>
    cases y0 with
    | str u =>
      rw [Q_add "fetch" _ _ _ _ (.inr rfl)]; unfold ansQ
      simp [within_len]
    | _ => rfl
  | [y0, y1] =>
    cases y0 with
    | str u =>
      rw [Q_add "fetch" _ _ _ _ (.inr rfl)]; unfold ansQ
      by_cases h1 : u = "no"
      . subst h1; cases y1 <;> simp [wne, eqS, memS, eqTT]
      by_cases h2 : u = "ok"
      . subst h2; simp [wne, eqS, eqTT]
      by_cases h3 : u = "is"
      . subst h3; simp [wne, eqS, wthn1, eqTT]
      by_cases h4 : u = "short"
      . subst h4; simp [wne, eqS, wthn1, eqTT]
      by_cases h5 : u = "full"
      . subst h5; simp [wne, eqS, wthn1, eqTT]
      simp [h1, h2, h3, h4, h5, eqS, eqTT]
    | _ => simp [ansB, eqS, eqTT]
  | y0 :: y1 :: y2 :: r =>
    have e1 : decide (((y0 :: y1 :: y2 :: r).length : Int) < 2) = false := decide_eq_false (by simp only [Zlc]; omega)
    have e3 : decide (((y0 :: y1 :: y2 :: r).length : Int) = 2) = false := decide_eq_false (by simp only [Zlc]; omega)
    rw [e1, e3]; cases y0 with
    | str u =>
      rw [Q_add "fetch" _ _ _ _ (.inr rfl)]; unfold ansQ
      simp [within_len, eqTT]
    | _ => simp [ansB, eqTT]
theorem lans_eq {one other nm : Str} {n : Int} {wd : Str} {xs : List V} {cs : List (Str × Int)} {as : List (Str × List V)} (h : DW one other nm n wd xs cs as) (hne : wd ≠ "pass") (ys : List V) : ansB wd (as.map (·.1)) n ys = lansB wd (.str one) n ys := by
  cases h with
  | add => exact lans_add one n ys
  | take => exact lans_take one n ys
  | move => exact lans_move (.str one) _ rfl n ys
  | send => exact lans_send one n ys
  | fetch => exact lans_fetch one n ys
  | pass => exact absurd rfl hne
end
end KL
namespace KL
open PySem L2
section
variable {P : Program} {w : World} {K : W.Frag} {mg : Str -> Option Value} {base : Heap}
theorem tup_case {H : Hp} {x : V} {k : Kd} (h : Pc H x) (hk : Kof H x k) : (isK .tup k = false /\ partsV H x = none) ∨ ∃ a ys, x = .ref a /\ H a = some (.tup ys) /\ k = .tup := by
  rcases h with ⟨hf, _⟩ | ⟨a, ys, rfl, h | h⟩ | ⟨a, kvs, rfl, h⟩
  . left
    cases x <;> first | cases hf | skip
    all_goals (cases k <;> first | exact hk.elim | exact ⟨rfl, rfl⟩)
  . left
    have e : partsV H (.ref a) = none := by unfold partsV; dsimp only; rw [h]
    refine ⟨?_, e⟩
    cases k <;> first | rfl | (exact hk.elim) | (obtain ⟨zs, hz⟩ := hk; rw [h] at hz; cases hz)
  . refine .inr ⟨a, ys, rfl, h, ?_⟩
    cases k <;> first | rfl | exact hk.elim | (rcases hk with ⟨zs, hz⟩ | ⟨o, zs, hz⟩ <;> (rw [h] at hz; cases hz)) | (obtain ⟨zs, hz⟩ := hk; rw [h] at hz; cases hz)
  . left
    have e : partsV H (.ref a) = none := by unfold partsV; dsimp only; rw [h]
    refine ⟨?_, e⟩
    cases k <;> first | rfl | (exact hk.elim) | (obtain ⟨zs, hz⟩ := hk; rw [h] at hz; cases hz)
theorem txtL (zs : List Str) : TxtL (zs.map V.str) := fun y hy => by obtain ⟨z, _, e⟩ := Zmm.mp hy; exact ⟨z, e.symm⟩
theorem ok_lans (T : Txt K mg) (cLwhole : Callee P w K mg base 1 "_law_whole" ["_law_thing", "_law_least", "_law_most"] spWhole) (D : DefAt K mg "_law_is_answer" s_law_is_answer ["_law_deed_here", "_law_thing"]) : Callee P w K mg base 2 "_law_is_answer" ["_law_deed_here", "_law_thing"] spIsAns := by
  refine D.go sc_law_is_answer (fun vs H Q E h => ?_) (fun f cdv A outer s H vs Q E hr h => ?_)
  . obtain ⟨p, wd, n, xs, as, x, rfl, _⟩ := h; rfl
  . obtain ⟨p, wd, n, xs, as, x, rfl, gp, hd, tg, q⟩ := h
    have hLwhole := hr
    have hu64 := hr.units
    have e12 : (10 : Int) ^ (12 : Int).toNat = 1000000000000 := by decide
    refine ⟨_, (R.scons (R.set (i := 2) sc_law_is_answer.nd (R.ix (R.kiT (K := K)) (R.v 0) R.int)) (R.scons (R.set (i := 3) sc_law_is_answer.nd (R.ix (R.kiT (K := K)) (R.v 0) (R.neg R.int))) (R.scons (R.set (i := 4) sc_law_is_answer.nd (R.op R.pow R.int R.int)) (R.scons (R.ife (R.tcmp R.eq (R.v 2) R.str) (R.sone (R.ret (R.cmp (R.inPT hu64) (R.v 1) (R.lst (R.cons (R.wtup (R.cons R.str R.nil)) (R.cons (R.wtup (R.cons R.str (R.cons (R.ix (R.kiT (K := K)) (R.v 0) R.int) R.nil))) (R.cons (R.wtup (R.cons R.str (R.cons (R.ix (R.kiT (K := K)) (R.v 0) R.int) R.nil))) R.nil))))))) R.snil) (R.scons (R.ife (R.tw (R.wor (R.tnot (R.val (R.isi .tup (R.v 1) rfl T.b_isinstance rfl T.b_tuple bb_tuple))) (R.wor1 (R.tcmp R.lt (R.callB (R.klenL (K := K)) rfl T.b_len bb_len (R.cons (R.v 1) R.nil)) R.int)))) (R.sone (R.ret R.bl)) R.snil) (R.scons (R.ife (R.tw (R.wand (R.tcmp (R.kinQ (K := K)) (R.v 2) (R.wtup (R.cons R.str (R.cons R.str R.nil)))) (R.wand1 (R.tcmp (R.eqPT hu64) (R.v 1) (R.wtup (R.cons R.str (R.cons (R.ix (R.kiT (K := K)) (R.v 0) R.int) R.nil))))))) (R.sone (R.ret R.bl)) R.snil) (R.scons (R.ife (R.tw (R.wand (R.tcmp R.eq (R.v 2) R.str) (R.wand1 (R.tcmp R.eq (R.callB (R.klenL (K := K)) rfl T.b_len bb_len (R.cons (R.v 1) R.nil)) R.int)))) (R.sone (R.ret (R.and (R.cmp (R.eqPS hu64) (R.ix (R.kiT (K := K)) (R.v 1) R.int) R.str) (R.and (R.fn cLwhole hLwhole rfl (R.cons (R.ix (R.kiT (K := K)) (R.v 1) R.int) (R.cons R.int (R.cons (R.op R.sub (R.v 4) (R.v 3)) R.nil)))) (R.one (R.fn cLwhole hLwhole rfl (R.cons (R.ix (R.kiT (K := K)) (R.v 1) R.int) (R.cons (R.v 3) (R.cons (R.v 4) R.nil))))))))) R.snil) (R.scons (R.ife (R.tcmp R.ne (R.callB (R.klenL (K := K)) rfl T.b_len bb_len (R.cons (R.v 1) R.nil)) R.int) (R.sone (R.ret R.bl)) R.snil) (R.scons (R.ife (R.tw (R.wand (R.tcmp (R.eqPS hu64) (R.ix (R.kiT (K := K)) (R.v 1) R.int) R.str) (R.wand1 (R.tcmp (R.kinQ (K := K)) (R.v 2) (R.wtup (R.cons R.str (R.cons R.str R.nil))))))) (R.sone (R.ret (R.fn cLwhole hLwhole rfl (R.cons (R.ix (R.kiT (K := K)) (R.v 1) R.int) (R.cons (R.v 3) (R.cons (R.v 4) R.nil)))))) R.snil) (R.scons (R.ife (R.tw (R.wand (R.tcmp (R.eqPS hu64) (R.ix (R.kiT (K := K)) (R.v 1) R.int) R.str) (R.wand1 (R.tcmp (R.kinQ (K := K)) (R.v 2) (R.wtup (R.cons R.str (R.cons R.str R.nil))))))) (R.sone (R.ret (R.fn cLwhole hLwhole rfl (R.cons (R.ix (R.kiT (K := K)) (R.v 1) R.int) (R.cons R.int (R.cons (R.op R.sub (R.v 4) (R.v 3)) R.nil)))))) R.snil) (R.scons (R.ife (R.tw (R.wand (R.tcmp (R.eqPS hu64) (R.ix (R.kiT (K := K)) (R.v 1) R.int) R.str) (R.wand1 (R.tcmp (R.kinQ (K := K)) (R.v 2) (R.wtup (R.cons R.str (R.cons R.str (R.cons R.str R.nil)))))))) (R.sone (R.ret (R.fn cLwhole hLwhole rfl (R.cons (R.ix (R.kiT (K := K)) (R.v 1) R.int) (R.cons (R.op R.add (R.op R.sub (R.v 4) (R.v 3)) R.int) (R.cons (R.v 4) R.nil)))))) R.snil) (R.sone (R.ret (R.and (R.cmp (R.eqPS hu64) (R.ix (R.kiT (K := K)) (R.v 1) R.int) R.str) (R.and (R.cmp (R.kinQ (K := K)) (R.v 2) (R.wtup (R.cons R.str (R.cons R.str (R.cons R.str R.nil))))) (R.one (R.fn cLwhole hLwhole rfl (R.cons (R.ix (R.kiT (K := K)) (R.v 1) R.int) (R.cons R.int (R.cons (R.op R.sub (R.v 3) R.int) R.nil)))))))))))))))))))), ?_⟩
    obtain ⟨one, other, nm, cs, hw⟩ := hd.ex
    have head : atI xs 0 = some (.str wd) /\ atI xs (-1) = some (.int n) := by cases hw <;> exact ⟨atI_nat (j := 0) rfl, rfl⟩
    refine ⟨xs, SqT.of gp, .str wd, head.1, ?_⟩
    dsimp only [gName]; refine ⟨xs, SqT.of gp, .int n, head.2, ?_⟩
    dsimp only [gName]; refine ⟨⟨by decide, by decide, by decide⟩, ?_⟩
    dsimp only [gName]; rw [e12]; show if decide (wd = "pass") = true then _ else _
    refine if_b (fun h0 => ?_) (fun h0 => ?_)
    . have hp := of_decide_eq_true h0
      cases hw with
      | pass =>
        refine ⟨by simp, fun t1 H1 s1 g1 => ⟨_, SqT.of (s1 _ _ gp), .str one, atI_nat (j := 1) rfl, by simp, fun t2 H2 s2 g2 => ⟨_, SqT.of (s2 _ _ (s1 _ _ gp)), .str other, atI_nat (j := 2) rfl, by simp, fun t3 H3 s3 g3 => ⟨szl rfl, fun l hl => ⟨[(t1, [.str "ok"]), (t2, [.str "no", .str one]), (t3, [.str "no", .str other])], upd_same, ?_, ?_, ?_⟩⟩⟩⟩⟩
        . have tt : ∀ zs : List Str, TxtL (zs.map V.str) := fun zs y hy => by obtain ⟨z, _, e⟩ := Zmm.mp hy; exact ⟨z, e.symm⟩
          have sl := same_upd (o := .lst [V.ref t1, .ref t2, .ref t3]) hl
          exact Zfm.mpr ⟨⟨sl _ _ (s3 _ _ (s2 _ _ g1)), tt ["ok"]⟩, Zfm.mpr ⟨⟨sl _ _ (s3 _ _ g2), tt ["no", one]⟩, Zfm.mpr ⟨⟨sl _ _ g3, tt ["no", other]⟩, fun _ h => nomatch h⟩⟩⟩
        . exact tg.same (((s1.trans s2).trans s3).trans (same_upd hl))
        . have s4 := ((s1.trans s2).trans s3).trans (same_upd (o := .lst [V.ref t1, .ref t2, .ref t3]) hl)
          have q' := q _ s4
          have e : ansV H "pass" [one, other] n x = ([(t1, [V.str "ok"]), (t2, [.str "no", .str one]), (t3, [.str "no", .str other])].any fun q => eqXT (upd H3 l (.lst [V.ref t1, .ref t2, .ref t3])) x q.2) := by
            unfold ansV eqXT; rw [partsV_same s4 tg.1]; cases partsV H x with
            | none => rfl
            | some ys => exact ansB_pass one other n ys
          rw [<- e]; exact q'
      | _ => exact absurd hp (by decide +kernel)
    have hne : wd ≠ "pass" := of_decide_eq_false h0
    dsimp only [tNext]; obtain ⟨k, hk⟩ := tg.1.kd
    refine ⟨k, hk, ?_⟩
    have notup : partsV H x = none -> Q (.bl false) H := fun e => by
      have q' := q H (Same.refl H)
      unfold ansV at q'; rw [e] at q'; exact q'
    have hcase := tup_case tg.1 hk
    rcases hcase with ⟨e1, e2⟩ | ⟨a, ys, rfl, ga, rfl⟩
    . refine if_t (c := !isK .tup k) (by rw [e1]; rfl) ?_
      exact notup e2
    have hys := tg.2 a ys rfl ga
    have eV : ansV H wd (as.map (·.1)) n (.ref a) = lansB wd (.str one) n ys := by
      unfold ansV; rw [partsV_tup ga]; exact lans_eq hw hne ys
    rw [eV] at q; unfold lansB at q; refine ⟨ys, .inr (SqT.of ga), ?_⟩
    refine if_b (fun h1 => ?_) (fun h1 => ?_)
    . have q' := q H (Same.refl H)
      rw [if_pos h1] at q'; exact q'
    rw [if_neg (by rw [h1]; exact Bool.false_ne_true)] at q
    have h1' := of_decide_eq_false h1
    obtain ⟨y0, y1, r, rfl⟩ : ∃ y0 y1 r, ys = y0 :: y1 :: r := by
      match ys with
      | [] => exact absurd (show ((0 : Nat) : Int) < 2 by decide) h1'
      | [_] => exact absurd (show ((1 : Nat) : Int) < 2 by decide) h1'
      | y0 :: y1 :: r => exact ⟨y0, y1, r, rfl⟩
    dsimp only [tNext]; refine cutT (t := tAnd _ _) (fun v H' => v = (inV (.str wd) [.str "send", .str "fetch"] && eqTT (y0 :: y1 :: r) [.str "no", .str one]) /\ Same H H') (fun kk hkk => ?_) (fun v H1 ⟨ev, s1⟩ => ?_)
    . refine ⟨by simp, fun t1 H1 s1 g1 => ⟨t1, _, rfl, .inr (SqT.of g1), rfl, rfl, ?_⟩⟩
      show if inV (.str wd) [.str "send", .str "fetch"] = true then _ else _
      refine if_b (fun hin => ?_) (fun hin => ?_)
      . have h11 : atI xs 1 = some (.str one) := by
          cases hw with
          | send => exact atI_nat (j := 1) rfl
          | fetch => exact atI_nat (j := 1) rfl
          | _ => exact absurd hin (by decide +kernel)
        refine ⟨xs, SqT.of (s1 _ _ gp), .str one, h11, by simp, fun t2 H2 s2 g2 => ⟨_, _, s2 _ _ (s1 _ _ ga), g2, txtL ["no", one], fun y hy => (hys.2 y hy).same (s1.trans s2), hkk _ _ ⟨?_, s1.trans s2⟩⟩⟩
        rw [hin]; rfl
      . exact hkk _ _ ⟨by rw [hin]; rfl, s1⟩
    subst ev; refine if_b (fun h2 => ?_) (fun h2 => ?_)
    . have q' := q H1 s1
      rw [if_pos h2] at q'; exact q'
    rw [if_neg (by rw [h2]; exact Bool.false_ne_true)] at q
    have ga1 := s1 _ _ ga
    dsimp only [tNext]; refine cutT (t := tAnd _ _) (fun v H' => v = (decide (wd = "move") && decide (((y0 :: y1 :: r).length : Int) = 3)) /\ H1 = H') (fun kk hkk => ?_) (fun v H1' ⟨ev, e1⟩ => ?_)
    . show if decide (wd = "move") = true then _ else _
      refine if_b (fun hm => ?_) (fun hm => ?_)
      . exact ⟨_, .inr (SqT.of ga1), hkk _ _ ⟨by rw [hm, Bool.true_and], rfl⟩⟩
      . exact hkk _ _ ⟨by rw [hm]; rfl, rfl⟩
    subst ev e1; have pc : ∀ {H' : Hp}, Same H H' -> ∀ {y : V}, y ∈ y0 :: y1 :: r -> Pc H' y := fun s' y hy => (hys.2 y hy).same s'
    refine if_b (fun h3 => ?_) (fun h3 => ?_)
    . rw [if_pos h3] at q; rw [Bool.and_eq_true] at h3; have h33 := of_decide_eq_true h3.2
      obtain ⟨y2, rfl⟩ : ∃ y2, r = [y2] := by
        match r with
        | [] => simp at h33
        | [y2] => exact ⟨y2, rfl⟩
        | _ :: _ :: _ => simp only [Zlc] at h33; omega
      refine ⟨_, SqT.of ga1, y0, atI_nat (j := 0) rfl, pc s1 (by simp), ?_⟩
      show if eqS y0 (.str "is") = true then _ else _
      refine if_b (fun h4 => ?_) (fun h4 => ?_)
      . refine ⟨_, SqT.of ga1, y1, atI_nat (j := 1) rfl, y1, _, _, rfl, (pc s1 (by simp)).pt, fun H2 s2 => ?_⟩
        have s12 := s1.trans s2
        show if numV 0 (1000000000000 - n) y1 = true then _ else _
        refine if_b (fun h5 => ?_) (fun h5 => ?_)
        . refine ⟨_, SqT.of (s2 _ _ ga1), y2, atI_nat (j := 2) rfl, y2, _, _, rfl, (pc s12 (by simp)).pt, fun H3 s3 => ?_⟩
          have q' := q H3 (s12.trans s3)
          have e : (eqS ([y0, y1, y2].getD 0 .non) (.str "is") && (numV 0 (1000000000000 - n) ([y0, y1, y2].getD 1 .non) && numV n 1000000000000 ([y0, y1, y2].getD 2 .non))) = numV n 1000000000000 y2 := by
            show (eqS y0 (.str "is") && (numV 0 (1000000000000 - n) y1 && _)) = _
            rw [h4, h5]; rfl
          rw [e] at q'; exact q'
        . have q' := q H2 s12
          have e : (eqS ([y0, y1, y2].getD 0 .non) (.str "is") && (numV 0 (1000000000000 - n) ([y0, y1, y2].getD 1 .non) && numV n 1000000000000 ([y0, y1, y2].getD 2 .non))) = false := by
            show (eqS y0 (.str "is") && (numV 0 (1000000000000 - n) y1 && _)) = _
            rw [h4, h5]; rfl
          rw [e] at q'; exact q'
      . have q' := q H1 s1
        have e : (eqS ([y0, y1, y2].getD 0 .non) (.str "is") && (numV 0 (1000000000000 - n) ([y0, y1, y2].getD 1 .non) && numV n 1000000000000 ([y0, y1, y2].getD 2 .non))) = false := by
          show (eqS y0 (.str "is") && (numV 0 (1000000000000 - n) y1 && _)) = _
          rw [h4]; rfl
        rw [e] at q'; exact q'
    rw [if_neg (by rw [h3]; exact Bool.false_ne_true)] at q
    dsimp only [tNext]; refine ⟨_, .inr (SqT.of ga1), ?_⟩
    show if (!decide (((y0 :: y1 :: r).length : Int) = 2)) = true then _ else _
    refine if_b (fun h4 => ?_) (fun h4 => ?_)
    . have q' := q H1 s1
      rw [if_pos h4] at q'; exact q'
    rw [if_neg (by rw [h4]; exact Bool.false_ne_true)] at q
    dsimp only [tNext]; have g0 : (y0 :: y1 :: r).getD 0 .non = y0 := rfl
    have g1 : (y0 :: y1 :: r).getD 1 .non = y1 := rfl
    rw [g0, g1] at q; have tst : ∀ (G : Hp) (u : Str) (zs : List V) (_ : zs.all flatV = true) (tz : TA) (_ : ∀ σ G' k, tz σ G' k = k zs G') (_ : zs.length <= 1000) (o4 : Option V) (R : Bool -> Hp -> Prop), Same H G -> (∀ v G', v = (eqS y0 (.str u) && inV (.str wd) zs) /\ Same H G' -> R v G') -> tAnd (mT (tOp mEqPS (tOp (mIxT K) (vr 1) (tC (.int 0))) (tC (.str u)))) (mT (tOp (rIn K false) (vr 2) (tTupW tz))) [some (.ref p), some (.ref a), some (.str wd), some (.int n), o4] G R := fun G u zs hf tz htz hzl o4 R sG hR => by
      refine ⟨_, SqT.of (sG _ _ ga), y0, atI_nat (j := 0) rfl, pc sG (by simp), ?_⟩
      show if eqS y0 (.str u) = true then _ else _
      refine if_b (fun h5 => ?_) (fun h5 => ?_)
      . show tz _ _ _
        rw [htz]; refine ⟨hzl, fun t2 G2 s2 g2 => ⟨t2, zs, rfl, .inr (SqT.of g2), rfl, hf, hR _ _ ⟨by rw [h5]; rfl, sG.trans s2⟩⟩⟩
      . exact hR _ _ ⟨by rw [h5]; rfl, sG⟩
    refine cutT (t := tAnd _ _) (fun v H' => v = (eqS y0 (.str "is") && inV (.str wd) [.str "add", .str "fetch"]) /\ Same H H') (fun kk hkk => tst H1 "is" _ rfl _ (fun _ _ _ => rfl) (by simp) _ _ s1 hkk) (fun v H2 ⟨ev, s2⟩ => ?_)
    subst ev; refine if_b (fun h5 => ?_) (fun h5 => ?_)
    . rw [if_pos h5] at q; refine ⟨_, SqT.of (s2 _ _ ga), y1, atI_nat (j := 1) rfl, y1, _, _, rfl, (pc s2 (by simp)).pt, fun H3 s3 => q H3 (s2.trans s3)⟩
    rw [if_neg (by rw [h5]; exact Bool.false_ne_true)] at q
    dsimp only [tNext]; refine cutT (t := tAnd _ _) (fun v H' => v = (eqS y0 (.str "is") && inV (.str wd) [.str "take", .str "send"]) /\ Same H H') (fun kk hkk => tst H2 "is" _ rfl _ (fun _ _ _ => rfl) (by simp) _ _ s2 hkk) (fun v H3 ⟨ev, s3⟩ => ?_)
    subst ev; refine if_b (fun h6 => ?_) (fun h6 => ?_)
    . rw [if_pos h6] at q; refine ⟨_, SqT.of (s3 _ _ ga), y1, atI_nat (j := 1) rfl, y1, _, _, rfl, (pc s3 (by simp)).pt, fun H4 s4 => q H4 (s3.trans s4)⟩
    rw [if_neg (by rw [h6]; exact Bool.false_ne_true)] at q
    dsimp only [tNext]; refine cutT (t := tAnd _ _) (fun v H' => v = (eqS y0 (.str "full") && inV (.str wd) [.str "add", .str "fetch", .str "move"]) /\ Same H H') (fun kk hkk => tst H3 "full" _ rfl _ (fun _ _ _ => rfl) (by simp) _ _ s3 hkk) (fun v H4 ⟨ev, s4⟩ => ?_)
    subst ev; refine if_b (fun h7 => ?_) (fun h7 => ?_)
    . rw [if_pos h7] at q; refine ⟨_, SqT.of (s4 _ _ ga), y1, atI_nat (j := 1) rfl, y1, _, _, rfl, (pc s4 (by simp)).pt, fun H5 s5 => q H5 (s4.trans s5)⟩
    rw [if_neg (by rw [h7]; exact Bool.false_ne_true)] at q
    dsimp only [tNext]; refine ⟨_, SqT.of (s4 _ _ ga), y0, atI_nat (j := 0) rfl, pc s4 (by simp), ?_⟩
    show if eqS y0 (.str "short") = true then _ else _
    refine if_b (fun h8 => ?_) (fun h8 => ?_)
    . rw [h8, Bool.true_and] at q; refine ⟨by simp, fun t5 H5 s5 g5 => ⟨t5, _, rfl, .inr (SqT.of g5), rfl, rfl, ?_⟩⟩
      have s45 := s4.trans s5
      show if inV (.str wd) [.str "take", .str "send", .str "move"] = true then _ else _
      refine if_b (fun h9 => ?_) (fun h9 => ?_)
      . rw [h9, Bool.true_and] at q; exact ⟨_, SqT.of (s45 _ _ ga), y1, atI_nat (j := 1) rfl, y1, _, _, rfl, (pc s45 (by simp)).pt, fun H6 s6 => q H6 (s45.trans s6)⟩
      . have q' := q H5 s45
        rw [h9] at q'; exact q'
    . have q' := q H4 s4
      rw [h8] at q'; exact q'
end
end KL
namespace KL
open PySem L2
section
variable {P : Program} {w : World} {K : W.Frag} {mg : Str -> Option Value} {base : Heap}
theorem bool_or_ext {a b c : Bool} (h : a = true ∨ b = true ↔ c = true) : (a || b) = c := by
  cases a <;> cases b <;> cases c <;> simp_all
theorem numV_iff {lo hi : Int} {y : V} : numV lo hi y = true ↔ ∃ n, y = .int n /\ lo <= n /\ n <= hi := by
  constructor
  . intro h; obtain ⟨n, e, h1, h2⟩ := numV_inv h; exact ⟨n, e, h1, h2⟩
  . rintro ⟨n, rfl, h1, h2⟩
    show (decide (lo <= n) && decide (n <= hi)) = true
    rw [decide_eq_true h1, decide_eq_true h2]; rfl
theorem numV_or {a b c d e f : Int} (h : ∀ n : Int, (a <= n /\ n <= b) ∨ (c <= n /\ n <= d) ↔ e <= n /\ n <= f) (y : V) : (numV a b y || numV c d y) = numV e f y := by
  refine bool_or_ext ?_
  rw [numV_iff, numV_iff, numV_iff]; constructor
  . rintro (⟨n, rfl, h1⟩ | ⟨n, rfl, h1⟩)
    . exact ⟨n, rfl, (h n).mp (.inl h1)⟩
    . exact ⟨n, rfl, (h n).mp (.inr h1)⟩
  . rintro ⟨n, rfl, h1⟩
    rcases (h n).mpr h1 with h2 | h2
    . exact .inl ⟨n, rfl, h2⟩
    . exact .inr ⟨n, rfl, h2⟩
def lsomeB (u : Str) (r : List V) : Bool :=
  if decide (u = "ok") = true then decide (((V.str u :: r).length : Int) = 1)
  else if (decide (u = "is") && decide (((V.str u :: r).length : Int) = 3)) = true then numV 0 999999999999 (r.getD 0 .non) && numV 1 1000000000000 (r.getD 1 .non)
  else if (!decide (((V.str u :: r).length : Int) = 2) || !inV (.str u) [.str "is", .str "no", .str "short", .str "full"]) = true then false
  else if decide (u = "no") = true then nmV (r.getD 0 .non)
  else numV (if decide (u = "full") = true then 1 else 0) (1000000000000 - (if decide (u = "short") = true then 1 else 0)) (r.getD 0 .non)
theorem someB_any (u : Str) (r : List V) (hu : u ≠ "no") : someB (.str u :: r) = (ansQ [] false (some [(1, 1000000000000)]) none (some [(1000000000000, 1000000000000)]) u r || (ansQ [] false (some [(0, 999999999999)]) (some [(0, 0)]) none u r || (ansQ [] false (some [(0, 999999999999), (1, 1000000000000)]) (some [(0, 0)]) (some [(1000000000000, 1000000000000)]) u r || (ansQ [] false (some [(0, 0), (1000000000000, 1000000000000)]) (some [(0, 999999999999)]) (some [(1, 1000000000000)]) u r || (ansQ ["a", "b"] true none none none u r || false))))) := by
  unfold someB; rw [if_neg (show ¬ headV (V.str u :: r) = .str "no" from fun e => by injection e with e; exact hu e)]
  show (ansB "add" (WHS "add") 1 (.str u :: r) || (ansB "take" (WHS "take") 1 (.str u :: r) || (ansB "move" (WHS "move") 1 (.str u :: r) || (ansB "move" (WHS "move") 1000000000000 (.str u :: r) || (ansB "pass" (WHS "pass") 1 (.str u :: r) || false))))) = _
  have w1 : WHS "add" = [] := by unfold WHS; rw [if_neg (by decide +kernel)]
  have w2 : WHS "take" = [] := by unfold WHS; rw [if_neg (by decide +kernel)]
  have w3 : WHS "move" = [] := by unfold WHS; rw [if_neg (by decide +kernel)]
  have w4 : WHS "pass" = (["a", "b"] : List Str) := by unfold WHS; rw [if_pos rfl]
  rw [w1, w2, w3, w4, Q_add "add" _ _ _ _ (.inl rfl), Q_take "take" _ _ _ _ (.inl rfl), Q_move, Q_move, Q_pass]; rfl
theorem inI : inV (.str "is") [.str "is", .str "no", .str "short", .str "full"] = true /\ inV (.str "no") [.str "is", .str "no", .str "short", .str "full"] = true /\ inV (.str "short") [.str "is", .str "no", .str "short", .str "full"] = true /\ inV (.str "full") [.str "is", .str "no", .str "short", .str "full"] = true := ⟨by decide +kernel, by decide +kernel, by decide +kernel, by decide +kernel⟩
theorem len2 {x y z : V} {r : List V} : decide (((x :: y :: z :: r).length : Int) = 2) = false := decide_eq_false (by simp only [Zlc]; omega)
theorem len3 {x y z t : V} {r : List V} : decide (((x :: y :: z :: t :: r).length : Int) = 3) = false := decide_eq_false (by simp only [Zlc]; omega)
theorem lsome_eq (u : Str) (r : List V) : someB (.str u :: r) = lsomeB u r := by
  obtain ⟨i1, i2, i3, i4⟩ := inI
  by_cases h1 : u = "no"
  . subst h1; unfold someB lsomeB; rw [if_pos (show headV (V.str "no" :: r) = .str "no" from rfl), i2]; match r with
    | [] => simp [wne, isNoB]
    | [y] => simp [wne, isNoB]
    | y :: z :: r => rw [len2]; simp [wne, isNoB]
  rw [someB_any u r h1]; unfold lsomeB; by_cases h2 : u = "ok"
  . subst h2; unfold ansQ; cases r with
    | nil => simp [wne]
    | cons y r => simp [wne]; omega
  by_cases h3 : u = "is"
  . subst h3; unfold ansQ; rw [i1]; match r with
    | [] => simp [wne, within_len]
    | [y] =>
      simp only [wne, if_false, within_len (r := [y]) (bs := [(0, 999999999999), (1, 1000000000000)]) (by simp), within_len (r := [y]) (bs := [(0, 0), (1000000000000, 1000000000000)]) (by simp), wthn1]
      simp [wne]
      exact numV_or (fun n => by omega) y
    | [y, z] =>
      simp only [wne, if_false, within_len (r := [y, z]) (bs := [(1, 1000000000000)]) (by simp), within_len (r := [y, z]) (bs := [(0, 999999999999)]) (by simp), wthn2]
      simp [wne]
      intro h1 h2; obtain ⟨n, e1, a1, a2⟩ := numV_iff.mp h1
      obtain ⟨m, e2, b1, b2⟩ := numV_iff.mp h2
      exact ⟨numV_iff.mpr ⟨n, e1, by omega, by omega⟩, numV_iff.mpr ⟨m, e2, by omega, by omega⟩⟩
    | y :: z :: t :: r =>
      rw [len3, len2]; simp [wne, within_len]
  by_cases h4 : u = "short"
  . subst h4; unfold ansQ; rw [i3]; match r with
    | [] => simp [wne, within_len]
    | [y] =>
      simp [wne, wthn1]
      intro h1; obtain ⟨n, e1, a1, a2⟩ := numV_iff.mp h1
      exact numV_iff.mpr ⟨n, e1, by omega, by omega⟩
    | y :: z :: r =>
      rw [len2]; simp [wne, within_len]
  by_cases h5 : u = "full"
  . subst h5; unfold ansQ; rw [i4]; match r with
    | [] => simp [wne, within_len]
    | [y] =>
      simp [wne, wthn1]
      intro h1; obtain ⟨n, e1, a1, a2⟩ := numV_iff.mp h1
      exact numV_iff.mpr ⟨n, e1, by omega, by omega⟩
    | y :: z :: r =>
      rw [len2]; simp [wne, within_len]
  have e : inV (.str u) [.str "is", .str "no", .str "short", .str "full"] = false := by
    rw [show ([V.str "is", .str "no", .str "short", .str "full"] : List V) = (["is", "no", "short", "full"] : List Str).map V.str from rfl, inV_str]; exact decide_eq_false (by simp [h1, h3, h4, h5])
  rw [e]; unfold ansQ; simp [h1, h2, h3, h4, h5]
theorem isK_str {H : Hp} {y : V} {k : Kd} (hk : Kof H y k) (hy : ∀ u, y ≠ .str u) : isK .str k = false := by
  cases y with
  | str u => exact absurd rfl (hy u)
  | _ => cases k <;> first | exact hk.elim | rfl
theorem ok_lsome (T : Txt K mg) (cLwhole : Callee P w K mg base 1 "_law_whole" ["_law_thing", "_law_least", "_law_most"] spWhole) (cLis_name : Callee P w K mg base 2 "_law_is_name" ["_law_thing"] (spTell LET 8)) (D : DefAt K mg "_law_is_some_answer" s_law_is_some_answer ["_law_thing"]) : Callee P w K mg base 3 "_law_is_some_answer" ["_law_thing"] spSome := by
  refine D.go sc_law_is_some_answer (fun vs H Q E h => ?_) (fun f cdv A outer s H vs Q E hr h => ?_)
  . obtain ⟨x, rfl, _⟩ := h; rfl
  . obtain ⟨x, rfl, tg, q⟩ := h
    have hLis_name := hr
    have hLwhole : Room 1 _ := hr.mono (by decide)
    have hu64 := hr.units
    have e12 : (10 : Int) ^ (12 : Int).toNat = 1000000000000 := by decide
    refine ⟨_, (R.scons (R.ife (R.tw (R.wor (R.tnot (R.val (R.isi .tup (R.v 0) rfl T.b_isinstance rfl T.b_tuple bb_tuple))) (R.wor (R.tcmp (R.eqF hu64) (R.v 0) (R.wtup R.nil)) (R.wor1 (R.tnot (R.val (R.isi .str (R.ix (R.kiT (K := K)) (R.v 0) R.int) rfl T.b_isinstance rfl T.b_str bb_str))))))) (R.sone (R.ret R.bl)) R.snil) (R.scons (R.set (i := 1) sc_law_is_some_answer.nd (R.ix (R.kiT (K := K)) (R.v 0) R.int)) (R.scons (R.ife (R.tcmp R.eq (R.v 1) R.str) (R.sone (R.ret (R.cmp R.eq (R.callB (R.klenL (K := K)) rfl T.b_len bb_len (R.cons (R.v 0) R.nil)) R.int))) R.snil) (R.scons (R.ife (R.tw (R.wand (R.tcmp R.eq (R.v 1) R.str) (R.wand1 (R.tcmp R.eq (R.callB (R.klenL (K := K)) rfl T.b_len bb_len (R.cons (R.v 0) R.nil)) R.int)))) (R.sone (R.ret (R.and (R.fn cLwhole hLwhole rfl (R.cons (R.ix (R.kiT (K := K)) (R.v 0) R.int) (R.cons R.int (R.cons (R.op R.sub (R.op R.pow R.int R.int) R.int) R.nil)))) (R.one (R.fn cLwhole hLwhole rfl (R.cons (R.ix (R.kiT (K := K)) (R.v 0) R.int) (R.cons R.int (R.cons (R.op R.pow R.int R.int) R.nil)))))))) R.snil) (R.scons (R.ife (R.tw (R.wor (R.tcmp R.ne (R.callB (R.klenL (K := K)) rfl T.b_len bb_len (R.cons (R.v 0) R.nil)) R.int) (R.wor1 (R.tcmp (R.knotInQ (K := K)) (R.v 1) (R.wtup (R.cons R.str (R.cons R.str (R.cons R.str (R.cons R.str R.nil))))))))) (R.sone (R.ret R.bl)) R.snil) (R.scons (R.ife (R.tcmp R.eq (R.v 1) R.str) (R.sone (R.ret (R.fn cLis_name hLis_name rfl (R.cons (R.ix (R.kiT (K := K)) (R.v 0) R.int) R.nil)))) R.snil) (R.sone (R.ret (R.fn cLwhole hLwhole rfl (R.cons (R.ix (R.kiT (K := K)) (R.v 0) R.int) (R.cons (R.callTy R.toInt rfl T.b_int bb_int (R.cons (R.cmp R.eq (R.v 1) R.str) R.nil)) (R.cons (R.op R.sub (R.op R.pow R.int R.int) (R.callTy R.toInt rfl T.b_int bb_int (R.cons (R.cmp R.eq (R.v 1) R.str) R.nil))) R.nil)))))))))))), ?_⟩
    obtain ⟨k, hk⟩ := tg.1.kd
    refine ⟨k, hk, ?_⟩
    rcases tup_case tg.1 hk with ⟨e1, e2⟩ | ⟨a, ys, rfl, ga, rfl⟩
    . refine if_t (c := !isK .tup k) (by rw [e1]; rfl) ?_
      have q' := q H (Same.refl H)
      unfold someV at q'; rw [e2] at q'; exact q'
    have hys := tg.2 a ys rfl ga
    have eV : someV H (.ref a) = someB ys := by unfold someV; rw [partsV_tup ga]
    rw [eV] at q; refine ⟨by simp, fun t0 H0 s0 g0 => ⟨ys, [], s0 _ _ ga, g0, fun j u v h1 h2 => by simp at h2, ?_⟩⟩
    rw [eqTup_nil]; cases ys with
    | nil => exact q H0 s0
    | cons y r =>
    obtain ⟨ky, hky⟩ := ((hys.2 y Zcs).same s0).kd
    refine ⟨_, SqT.of (s0 _ _ ga), y, at0 _ _, ky, hky, ?_⟩
    by_cases hs : ∃ u, y = .str u
    case neg =>
      have hy : ∀ u, y ≠ .str u := fun u e => hs ⟨u, e⟩
      have eB : someB (y :: r) = false := by
        have : headV (y :: r) = .non := by cases y <;> first | rfl | exact absurd rfl (hy _)
        unfold someB; rw [this, if_neg (fun e => by cases e), List.any_eq_false]
        intro z _; rw [ansB_other fun u r' e => hy u (List.cons.inj e).1]
        exact Bool.false_ne_true
      rw [eB] at q; have hks := isK_str hky hy
      show if (!isK .str ky) = true then _ else _
      exact if_t (by rw [hks]; rfl) (q H0 s0)
    obtain ⟨u, rfl⟩ := hs
    cases ky <;> first | exact hky.elim | skip
    rw [lsome_eq] at q; unfold lsomeB at q; have ga0 := s0 _ _ ga
    refine ⟨_, SqT.of ga0, .str u, at0 _ _, ?_⟩
    dsimp only [gName]; show if decide (u = "ok") = true then _ else _
    refine if_b (fun h1 => ?_) (fun h1 => ?_)
    . rw [if_pos h1] at q; exact ⟨_, .inr (SqT.of ga0), q H0 s0⟩
    rw [if_neg (by rw [h1]; exact Bool.false_ne_true)] at q
    dsimp only [tNext]; refine cutT (t := tAnd _ _) (fun v H' => v = (decide (u = "is") && decide (((V.str u :: r).length : Int) = 3)) /\ H0 = H') (fun kk hkk => ?_) (fun v H1' ⟨ev, e1⟩ => ?_)
    . show if decide (u = "is") = true then _ else _
      refine if_b (fun hm => ?_) (fun hm => ?_)
      . exact ⟨_, .inr (SqT.of ga0), hkk _ _ ⟨by rw [hm, Bool.true_and], rfl⟩⟩
      . exact hkk _ _ ⟨by rw [hm]; rfl, rfl⟩
    subst ev e1; have pc : ∀ {H' : Hp}, Same H H' -> ∀ {y : V}, y ∈ r -> Pc H' y := fun s' y hy => (hys.2 y (Zmc _ hy)).same s'
    refine if_b (fun h2 => ?_) (fun h2 => ?_)
    . rw [if_pos h2] at q; rw [Bool.and_eq_true] at h2; have h33 := of_decide_eq_true h2.2
      obtain ⟨y1, y2, rfl⟩ : ∃ y1 y2, r = [y1, y2] := by
        match r with
        | [] => simp at h33
        | [_] => simp at h33
        | [y1, y2] => exact ⟨y1, y2, rfl⟩
        | _ :: _ :: _ :: _ => simp only [Zlc] at h33; omega
      refine ⟨_, SqT.of ga0, y1, atI_nat (j := 1) rfl, ⟨by decide, by decide, by decide⟩, y1, _, _, rfl, (pc s0 (by simp)).pt, fun H2 s2 => ?_⟩
      have s02 := s0.trans s2
      rw [e12]; show if numV 0 999999999999 y1 = true then _ else _
      refine if_b (fun h5 => ?_) (fun h5 => ?_)
      . refine ⟨_, SqT.of (s2 _ _ ga0), y2, atI_nat (j := 2) rfl, ⟨by decide, by decide, by decide⟩, y2, _, _, rfl, (pc s02 (by simp)).pt, fun H3 s3 => ?_⟩
        rw [e12]; have q' := q H3 (s02.trans s3)
        have e : (numV 0 999999999999 ([y1, y2].getD 0 .non) && numV 1 1000000000000 ([y1, y2].getD 1 .non)) = numV 1 1000000000000 y2 := by
          show (numV 0 999999999999 y1 && _) = _
          rw [h5]; rfl
        rw [e] at q'; exact q'
      . have q' := q H2 s02
        have e : (numV 0 999999999999 ([y1, y2].getD 0 .non) && numV 1 1000000000000 ([y1, y2].getD 1 .non)) = false := by
          show (numV 0 999999999999 y1 && _) = _
          rw [h5]; rfl
        rw [e] at q'; exact q'
    rw [if_neg (by rw [h2]; exact Bool.false_ne_true)] at q
    dsimp only [tNext]; refine cutT (t := tOr _ _) (fun v H' => v = (!decide (((V.str u :: r).length : Int) = 2) || !inV (.str u) [.str "is", .str "no", .str "short", .str "full"]) /\ Same H H') (fun kk hkk => ?_) (fun v H1 ⟨ev, s1⟩ => ?_)
    . refine ⟨_, .inr (SqT.of ga0), ?_⟩
      show if (!decide (((V.str u :: r).length : Int) = 2)) = true then _ else _
      refine if_b (fun hm => ?_) (fun hm => ?_)
      . exact hkk _ _ ⟨by rw [hm]; rfl, s0⟩
      . refine ⟨by simp, fun t1 H1 s1 g1 => ⟨t1, _, rfl, .inr (SqT.of g1), rfl, rfl, hkk _ _ ⟨by rw [hm]; rfl, s0.trans s1⟩⟩⟩
    subst ev; refine if_b (fun h3 => ?_) (fun h3 => ?_)
    . have q' := q H1 s1
      rw [if_pos h3] at q'; exact q'
    rw [if_neg (by rw [h3]; exact Bool.false_ne_true)] at q
    dsimp only [tNext]; obtain ⟨y1, rfl⟩ : ∃ y1, r = [y1] := by
      rw [Bool.or_eq_false_iff] at h3; have h33 : ((V.str u :: r).length : Int) = 2 := by simpa using h3.1
      match r with
      | [] => simp at h33
      | [y1] => exact ⟨y1, rfl⟩
      | _ :: _ :: _ => simp only [Zlc] at h33; omega
    have ga1 := s1 _ _ ga
    have g1 : ([y1] : List V).getD 0 .non = y1 := rfl
    rw [g1] at q; show if decide (u = "no") = true then _ else _
    refine if_b (fun h4 => ?_) (fun h4 => ?_)
    . rw [if_pos h4] at q; obtain ⟨k1, hk1, hz1⟩ := (pc s1 (y := y1) (by simp)).pt
      exact ⟨_, SqT.of ga1, y1, atI_nat (j := 1) rfl, y1, k1, rfl, hk1, hz1, fun H2 s2 => q H2 (s1.trans s2)⟩
    rw [if_neg (by rw [h4]; exact Bool.false_ne_true)] at q
    dsimp only [tNext]; refine ⟨_, SqT.of ga1, y1, atI_nat (j := 1) rfl, ⟨by decide, by decide, by decide⟩, y1, _, _, rfl, (pc s1 (by simp)).pt, fun H2 s2 => ?_⟩
    rw [e12]; exact q H2 (s1.trans s2)
end
end KL
namespace KL
open PySem L2
section
variable {P : Program} {w : World} {K : W.Frag} {mg : Str -> Option Value} {base : Heap}
def ROWN : List (Key × V) := mergeK [] [(.inr "next", .int 3), (.inr "has", .int 3), (.inr "kept", .int 7), (.inr "came", .int 6), (.inr "asked", .int 2), (.inr "done", .int 4)]
theorem ROWN_eq : ROWN = [(.inr "next", .int 3), (.inr "has", .int 3), (.inr "kept", .int 7), (.inr "came", .int 6), (.inr "asked", .int 2), (.inr "done", .int 4)] := by decide +kernel
theorem rown_val (z : Str) : valV ROWN (.inr z) = (PTS.lookup z).map fun ks => V.int ((ks.length : Int) + 1) := by
  rw [ROWN_eq]; unfold valV PTS; have e : ∀ x : Str, (decide ((Sum.inr x : Key) = .inr z)) = (z == x) := fun x => by
    rw [Bool.eq_iff_iff, decide_eq_true_iff, beq_iff_eq]; constructor
    . intro h; injection h with h; exact h.symm
    . intro h; rw [h]
  simp only [List.find?_cons, List.lookup_cons, List.find?_nil, List.lookup_nil, e]
  repeat' split
  all_goals first | rfl | simp_all
theorem PTS_word {wd : Str} {ks : List V} (h : PTS.lookup wd = some ks) : (wd = "next" /\ ks = [.str "next", .str "turn"]) ∨ (wd = "has" /\ ks = [.str "name", .str "amount"]) ∨ (wd = "kept" /\ ks = [.str "number", .str "turn", .str "name", .str "key", .str "deed", .str "answer"]) ∨ (wd = "came" /\ ks = [.str "number", .str "turn", .str "name", .str "key", .str "deed"]) ∨ (wd = "asked" /\ ks = [.str "number"]) ∨ (wd = "done" /\ ks = [.str "number", .str "turn", .str "answer"]) := by
  have m := look_mem h
  unfold PTS at m; simp only [List.mem_cons, List.not_mem_nil, or_false, Prod.mk.injEq] at m
  exact m
theorem numV_mono {a b c d : Int} {y : V} (h : numV a b y = true) (h1 : c <= a) (h2 : b <= d) : numV c d y = true := by
  obtain ⟨n, e, h3, h4⟩ := numV_iff.mp h
  exact numV_iff.mpr ⟨n, e, by omega, by omega⟩
theorem within_inv1 {r : List V} {a b : Int} (h : withinB r [(a, b)] = true) : ∃ y, r = [y] /\ numV a b y = true := by
  match r with
  | [] => rw [within_len (by simp)] at h; cases h
  | [y] => rw [wthn1] at h; exact ⟨y, rfl, h⟩
  | _ :: _ :: _ => rw [within_len (by simp)] at h; cases h
theorem within_inv2 {r : List V} {a b c d : Int} (h : withinB r [(a, b), (c, d)] = true) : ∃ y z, r = [y, z] /\ numV a b y = true /\ numV c d z = true := by
  match r with
  | [] => rw [within_len (by simp)] at h; cases h
  | [_] => rw [within_len (by simp)] at h; cases h
  | [y, z] => rw [wthn2, Bool.and_eq_true] at h; exact ⟨y, z, rfl, h.1, h.2⟩
  | _ :: _ :: _ :: _ => rw [within_len (by simp)] at h; cases h
theorem some_is1 {y : V} (h : numV 0 1000000000000 y = true) : someB [.str "is", y] = true := by
  rw [lsome_eq]; unfold lsomeB; rw [inI.1]; simp [wne, h]
theorem some_is2 {y z : V} (h : numV 0 999999999999 y = true) (h2 : numV 1 1000000000000 z = true) : someB [.str "is", y, z] = true := by
  rw [lsome_eq]; unfold lsomeB; rw [inI.1]; simp [wne, h, h2]
theorem some_short {y : V} (h : numV 0 999999999999 y = true) : someB [.str "short", y] = true := by
  rw [lsome_eq]; unfold lsomeB; rw [inI.2.2.1]; simp [wne, h]
theorem some_full {y : V} (h : numV 1 1000000000000 y = true) : someB [.str "full", y] = true := by
  rw [lsome_eq]; unfold lsomeB; rw [inI.2.2.2]; simp [wne, h]
theorem Q_some {hs : List Str} {ps : Bool} {bi bs bf : Option (List (Int × Int))} {u : Str} {r : List V} (hn : ∀ z ∈ hs, isNm z)
    (hi : ∀ b, bi = some b -> withinB r b = true -> someB (.str "is" :: r) = true) (hs' : ∀ b, bs = some b -> withinB r b = true -> someB (.str "short" :: r) = true) (hf : ∀ b, bf = some b -> withinB r b = true -> someB (.str "full" :: r) = true)
    (h : ansQ hs ps bi bs bf u r = true) : someB (.str u :: r) = true := by
  unfold ansQ at h; by_cases h1 : u = "no"
  . subst h1; rw [if_pos rfl] at h; match r, h with
    | [y], h =>
      unfold memS at h; cases y with
      | str z =>
        have := hn z (of_decide_eq_true h)
        unfold someB; rw [if_pos (show headV [V.str "no", V.str z] = .str "no" from rfl)]; exact nmV_of this
      | _ => cases h
  rw [if_neg h1] at h; by_cases h2 : u = "ok"
  . subst h2; rw [if_pos rfl, Bool.and_eq_true] at h; cases r with
    | nil => rw [lsome_eq]; unfold lsomeB; simp
    | cons y r => cases h.2
  rw [if_neg h2] at h; by_cases h3 : u = "is"
  . subst h3; rw [if_pos rfl] at h; cases bi with
    | none => cases h
    | some b => exact hi b rfl h
  rw [if_neg h3] at h; by_cases h4 : u = "short"
  . subst h4; rw [if_pos rfl] at h; cases bs with
    | none => cases h
    | some b => exact hs' b rfl h
  rw [if_neg h4] at h; by_cases h5 : u = "full"
  . subst h5; rw [if_pos rfl] at h; cases bf with
    | none => cases h
    | some b => exact hf b rfl h
  rw [if_neg h5] at h; cases h
theorem ansB_some {wd : Str} {n : Int} {xs : List V} {as : List (Str × List V)} {ys : List V} (h : DWN wd n xs as) (h1 : 1 <= n) (h2 : n <= 1000000000000) (ha : ansB wd (as.map (·.1)) n ys = true) : someB ys = true := by
  obtain ⟨u, r, rfl⟩ : ∃ u r, ys = .str u :: r := by
    by_cases hc : ∃ u r, ys = .str u :: r
    . exact hc
    . rw [ansB_other fun u r e => hc ⟨u, r, e⟩] at ha; cases ha
  have hn : ∀ z ∈ as.map (·.1), isNm z := fun z hz => by obtain ⟨q, hq, e⟩ := Zmm.mp hz; rw [<- e]; exact h.nm q hq
  obtain ⟨one, other, nm, cs, hw⟩ := h.ex
  have badd : ∀ {wd : Str} {hs : List Str}, wd = "add" ∨ wd = "fetch" -> (∀ z ∈ hs, isNm z) -> ansB wd hs n (.str u :: r) = true -> someB (.str u :: r) = true := fun {wd hs} hwd hn ha => by
    rw [Q_add _ _ _ _ _ hwd] at ha; refine Q_some hn (fun b e h => ?_) (fun b e h => by cases e) (fun b e h => ?_) ha
    . cases e; obtain ⟨y, rfl, hy⟩ := within_inv1 h; exact some_is1 (numV_mono hy (by omega) (by omega))
    . cases e; obtain ⟨y, rfl, hy⟩ := within_inv1 h; exact some_full (numV_mono hy (by omega) (by omega))
  have btake : ∀ {wd : Str} {hs : List Str}, wd = "take" ∨ wd = "send" -> (∀ z ∈ hs, isNm z) -> ansB wd hs n (.str u :: r) = true -> someB (.str u :: r) = true := fun {wd hs} hwd hn ha => by
    rw [Q_take _ _ _ _ _ hwd] at ha; refine Q_some hn (fun b e h => ?_) (fun b e h => ?_) (fun b e h => by cases e) ha
    . cases e; obtain ⟨y, rfl, hy⟩ := within_inv1 h; exact some_is1 (numV_mono hy (by omega) (by omega))
    . cases e; obtain ⟨y, rfl, hy⟩ := within_inv1 h; exact some_short (numV_mono hy (by omega) (by omega))
  cases hw with
  | add => exact badd (.inl rfl) hn ha
  | fetch => exact badd (.inr rfl) hn ha
  | take => exact btake (.inl rfl) hn ha
  | send => exact btake (.inr rfl) hn ha
  | move =>
    rw [Q_move] at ha; refine Q_some hn (fun b e h => ?_) (fun b e h => ?_) (fun b e h => ?_) ha
    . cases e; obtain ⟨y, z, rfl, hy, hz⟩ := within_inv2 h; exact some_is2 (numV_mono hy (by omega) (by omega)) (numV_mono hz (by omega) (by omega))
    . cases e; obtain ⟨y, rfl, hy⟩ := within_inv1 h; exact some_short (numV_mono hy (by omega) (by omega))
    . cases e; obtain ⟨y, rfl, hy⟩ := within_inv1 h; exact some_full (numV_mono hy (by omega) (by omega))
  | pass =>
    rw [Q_pass] at ha; exact Q_some hn (fun b e h => by cases e) (fun b e h => by cases e) (fun b e h => by cases e) ha
theorem ansD_some {H : Hp} {x y : V} (hd : deedV H x = true) (h : ansD H x y = true) : someV H y = true := by
  obtain ⟨a, xs, wd, n, as, rfl, g, hB, hw⟩ := deedV_of hd
  rw [ansD_of g hw] at h; unfold ansV at h; unfold someV; cases hp : partsV H y with
  | none => rw [hp] at h; cases h
  | some ys =>
    rw [hp] at h; unfold deedB at hB; rw [Bool.and_eq_true] at hB; obtain ⟨m, e, h1, h2⟩ := numV_iff.mp hB.2
    have : m = n := by
      obtain ⟨_, e2, _⟩ := hw.dn
      unfold dnN at e2; cases ha : atI xs (-1) with
      | none => rw [ha] at e; cases e
      | some v =>
        rw [ha] at e e2; have ev : v = .int m := e
        rw [ev] at e2; exact e2
    subst this; exact ansB_some hw h1 h2 h
theorem ok_lrow (T : Txt K mg) (cLwhole : Callee P w K mg base 1 "_law_whole" ["_law_thing", "_law_least", "_law_most"] spWhole) (cLis_word : Callee P w K mg base 1 "_law_is_word" ["_law_thing", "_law_signs", "_law_most"] spMade) (cLis_name : Callee P w K mg base 2 "_law_is_name" ["_law_thing"] (spTell LET 8)) (cLis_deed : Callee P w K mg base 3 "_law_is_deed" ["_law_thing"] spIsDeed) (cLis_answer : Callee P w K mg base 2 "_law_is_answer" ["_law_deed_here", "_law_thing"] spIsAns) (cLis_some_answer : Callee P w K mg base 3 "_law_is_some_answer" ["_law_thing"] spSome) (D : DefAt K mg "_law_is_row" s_law_is_row ["_law_thing"]) : Callee P w K mg base 4 "_law_is_row" ["_law_thing"] spRowAny := by
  refine D.go sc_law_is_row (fun vs H Q E h => ?_) (fun f cdv A outer s H vs Q E hr h => ?_)
  . obtain ⟨x, rfl, _⟩ := h; rfl
  . obtain ⟨x, rfl, tz, q⟩ := h
    have hLis_deed := hr
    have hLis_some_answer := hr
    have hLis_name : Room 2 _ := hr.mono (by decide)
    have hLis_answer : Room 2 _ := hr.mono (by decide)
    have hLwhole : Room 1 _ := hr.mono (by decide)
    have hLis_word : Room 1 _ := hr.mono (by decide)
    have hu64 := hr.units
    have hu1 := Nat.lt_trans (Nat.add_lt_add_left (show 1 < 64 by decide) _) hr.units
    have e12 : (10 : Int) ^ (12 : Int).toNat = 1000000000000 := by decide
    have e6 : (10 : Int) ^ (6 : Int).toNat = 1000000 := by decide
    refine ⟨_, (R.scons (R.ife (R.tw (R.wor (R.tnot (R.val (R.isi .tup (R.v 0) rfl T.b_isinstance rfl T.b_tuple bb_tuple))) (R.wor (R.tcmp (R.eqF hu64) (R.v 0) (R.wtup R.nil)) (R.wor1 (R.tnot (R.val (R.isi .str (R.ix (R.kiT (K := K)) (R.v 0) R.int) rfl T.b_isinstance rfl T.b_str bb_str))))))) (R.sone (R.ret R.bl)) R.snil) (R.scons (R.set (i := 1) sc_law_is_row.nd (R.ix (R.kiT (K := K)) (R.v 0) R.int)) (R.scons (R.ife (R.tcmp R.ne (R.dget2 hu1 (R.disp (R.ppc R.str R.int (R.ppc R.str R.int (R.ppc R.str R.int (R.ppc R.str R.int (R.ppc R.str R.int (R.ppc R.str R.int R.ppn))))))) (R.v 1) (R.neg R.int)) (R.callB (R.klenL (K := K)) rfl T.b_len bb_len (R.cons (R.v 0) R.nil))) (R.sone (R.ret R.bl)) R.snil) (R.scons (R.ife (R.tcmp R.eq (R.v 1) R.str) (R.sone (R.ret (R.and (R.fn cLis_name hLis_name rfl (R.cons (R.ix (R.kiT (K := K)) (R.v 0) R.int) R.nil)) (R.one (R.fn cLwhole hLwhole rfl (R.cons (R.ix (R.kiT (K := K)) (R.v 0) R.int) (R.cons R.int (R.cons (R.op R.pow R.int R.int) R.nil)))))))) R.snil) (R.scons (R.ife (R.tnot (R.val (R.fn cLwhole hLwhole rfl (R.cons (R.ix (R.kiT (K := K)) (R.v 0) R.int) (R.cons R.int (R.cons (R.ix (R.kiL (K := K)) (R.lst (R.cons R.int (R.cons (R.op R.pow R.int R.int) R.nil))) (R.callTy R.toInt rfl T.b_int bb_int (R.cons (R.cmp R.eq (R.v 1) R.str) R.nil))) R.nil)))))) (R.sone (R.ret R.bl)) R.snil) (R.scons (R.ife (R.tw (R.wand (R.tcmp R.ne (R.v 1) R.str) (R.wand1 (R.tnot (R.val (R.fn cLwhole hLwhole rfl (R.cons (R.ix (R.kiT (K := K)) (R.v 0) R.int) (R.cons R.int (R.cons (R.op R.pow R.int R.int) R.nil))))))))) (R.sone (R.ret R.bl)) R.snil) (R.scons (R.ife (R.tcmp R.eq (R.v 1) R.str) (R.sone (R.ret (R.fn cLis_some_answer hLis_some_answer rfl (R.cons (R.ix (R.kiT (K := K)) (R.v 0) R.int) R.nil)))) R.snil) (R.scons (R.ife (R.tcmp (R.kinQ (K := K)) (R.v 1) (R.wtup (R.cons R.str (R.cons R.str R.nil)))) (R.sone (R.ret R.bl)) R.snil) (R.scons (R.ife (R.tw (R.wor (R.tnot (R.val (R.fn cLis_name hLis_name rfl (R.cons (R.ix (R.kiT (K := K)) (R.v 0) R.int) R.nil)))) (R.wor1 (R.tnot (R.val (R.fn cLis_word hLis_word rfl (R.cons (R.ix (R.kiT (K := K)) (R.v 0) R.int) (R.cons R.str (R.cons R.int R.nil))))))))) (R.sone (R.ret R.bl)) R.snil) (R.sone (R.ret (R.and (R.fn cLis_deed hLis_deed rfl (R.cons (R.ix (R.kiT (K := K)) (R.v 0) R.int) R.nil)) (R.one (R.or (R.cmp R.eq (R.v 1) R.str) (R.one (R.fn cLis_answer hLis_answer rfl (R.cons (R.ix (R.kiT (K := K)) (R.v 0) R.int) (R.cons (R.ix (R.kiT (K := K)) (R.v 0) R.int) R.nil)))))))))))))))))), ?_⟩
    obtain ⟨k, hk⟩ := tz.1.kd
    refine ⟨k, hk, ?_⟩
    rcases tup_case tz.1 hk with ⟨e1, e2⟩ | ⟨a, ys, rfl, ga, rfl⟩
    . refine if_t (c := !isK .tup k) (by rw [e1]; rfl) ?_
      have q' := q H (Same.refl H)
      unfold rowV at q'; rw [e2] at q'; exact q'
    have hys := tz.2 a ys rfl ga
    have eV : rowV H (.ref a) = rowB H ys := by unfold rowV; rw [partsV_tup ga]
    rw [eV] at q; refine ⟨by simp, fun t0 H0 s0 g0 => ⟨ys, [], s0 _ _ ga, g0, fun j u v h1 h2 => by simp at h2, ?_⟩⟩
    rw [eqTup_nil]; cases ys with
    | nil => exact q H0 s0
    | cons y r =>
    obtain ⟨ky, hky⟩ := ((hys.2 y Zcs).same s0).1.kd
    refine ⟨_, SqT.of (s0 _ _ ga), y, at0 _ _, ky, hky, ?_⟩
    by_cases hs : ∃ u, y = .str u
    case neg =>
      have hy : ∀ u, y ≠ .str u := fun u e => hs ⟨u, e⟩
      have eB : rowB H (y :: r) = false := by
        unfold rowB; split
        . rename_i u r' e; exact absurd (List.cons.inj e).1 (hy u)
        . rfl
      rw [eB] at q; have hks := isK_str hky hy
      show if (!isK .str ky) = true then _ else _
      exact if_t (by rw [hks]; rfl) (q H0 s0)
    obtain ⟨u, rfl⟩ := hs
    cases ky <;> first | exact hky.elim | skip
    unfold rowB at q; dsimp only at q
    have ga0 := s0 _ _ ga
    refine ⟨_, SqT.of ga0, .str u, at0 _ _, ?_⟩
    dsimp only [gName]; refine fun p hpn => ⟨upd_same, [(.inr "next", .int 3), (.inr "has", .int 3), (.inr "kept", .int 7), (.inr "came", .int 6), (.inr "asked", .int 2), (.inr "done", .int 4)], rfl, by decide, ?_⟩
    have s1 : Same H (upd (upd H0 p (.dK [])) p (.dK ROWN)) := s0.trans (by
      intro c o e; have : c ≠ p := ne_of_none e hpn
      rw [upd_ne this, upd_ne this]; exact e)
    have gp : upd (upd H0 p (.dK [])) p (.dK ROWN) p = some (.dK ROWN) := upd_same
    show ∃ a, V.ref p = .ref a /\ IsD (upd (upd H0 p (.dK [])) p (.dK ROWN)) a /\ _
    refine ⟨p, rfl, .inl ⟨_, .inl gp⟩, ?_⟩
    show vr 1 _ (upd (upd H0 p (.dK [])) p (.dK ROWN)) _
    generalize upd (upd H0 p (.dK [])) p (.dK ROWN) = H1 at s1 gp; have ga1 := s1 _ _ ga
    refine ⟨_, .inl ⟨ROWN, .inr u, .inl gp, rfl, rfl⟩, ?_⟩
    rw [rown_val]; cases hl : PTS.lookup u with
    | none =>
      rw [hl] at q; dsimp only [Option.map, Option.getD]; refine ⟨_, .inr (SqT.of ga1), ?_⟩
      exact q H1 s1
    | some ks =>
    rw [hl] at q; dsimp only at q
    dsimp only [Option.map, Option.getD]; refine ⟨_, .inr (SqT.of ga1), ?_⟩
    refine if_b (fun h6 => ?_) (fun h6 => ?_)
    . have h6' : ¬ ((ks.length : Int) + 1 = ((V.str u :: r).length : Int)) := by simpa using h6
      rw [decide_eq_false (by rw [Zlc] at h6'; omega)] at q
      exact q H1 s1
    have h6' : (ks.length : Int) + 1 = ((V.str u :: r).length : Int) := by simpa using h6
    have hlen : r.length = ks.length := by rw [Zlc] at h6'; omega
    rw [decide_eq_true hlen, Bool.true_and] at q; dsimp only [tNext]; have tg : ∀ {H' : Hp}, Same H H' -> ∀ {y : V}, y ∈ r -> Tg H' y := fun s' y hy => (hys.2 y (Zmc _ hy)).same s'
    rcases PTS_word hl with ⟨hu, rfl⟩ | ⟨hu, rfl⟩ | ⟨hu, rfl⟩ | ⟨hu, rfl⟩ | ⟨hu, rfl⟩ | ⟨hu, rfl⟩
    . match r, hlen with
      | [y1, y2], _ =>
        have eq : ((([.str "next", .str "turn"] : List V).zip [y1, y2]).all (fun q => partV H q.1 q.2) && (!decide (u = "kept") || ansD H ([y1, y2].getD 4 .non) ([y1, y2].getD 5 .non))) = (numV 1 1000000 y1 && numV 0 1000000000000 y2) := by
          have ek : decide (u = "kept") = false := decide_eq_false (by rw [hu]; decide +kernel)
          rw [ek, Bool.not_false, Bool.true_or, Bool.and_true]; show (partB H "next" y1 && (partB H "turn" y2 && true)) = _
          rw [partB_next, partB_turn, Bool.and_true]
        rw [eq] at q; refine if_f (c := decide (u = "has")) (decide_eq_false (by rw [hu]; decide +kernel)) ?_
        dsimp only [tNext]; refine ⟨_, SqT.of ga1, y1, atI_nat (j := 1) rfl, ⟨by decide, by decide, by decide⟩, szl rfl, fun l hl' => ⟨_, SqL.of upd_same, .int 1000000, ?_, y1, 1, 1000000, rfl, ((tg s1 (y := y1) (by simp)).same (same_upd hl')).1.pt, fun H2 s2' => ?_⟩⟩
        . rw [hu]; rfl
        have s2 := (s1.trans (same_upd hl')).trans s2'
        have ga2 := s2 _ _ ga
        show if (!numV 1 1000000 y1) = true then _ else _
        refine if_b (fun h7 => ?_) (fun h7 => ?_)
        . have h7' : numV 1 1000000 y1 = false := by simpa using h7
          have q' := q H2 s2
          rw [h7'] at q'; exact q'
        have h7' : numV 1 1000000 y1 = true := by simpa using h7
        rw [h7', Bool.true_and] at q; dsimp only [tNext]; refine cutT (t := tAnd _ _) (fun v H' => v = !numV 0 1000000000000 y2 /\ Same H H') (fun kk hkk => ?_) (fun v H3 ⟨ev, s3⟩ => ?_)
        . refine if_t (c := !decide (u = "asked")) (by rw [decide_eq_false (by rw [hu]; decide +kernel)]; rfl) ?_
          refine ⟨_, SqT.of ga2, y2, atI_nat (j := 2) rfl, ⟨by decide, by decide, by decide⟩, y2, 0, _, rfl, (tg s2 (y := y2) (by simp)).1.pt, fun H3 s3 => ?_⟩
          rw [e12]; exact hkk _ _ ⟨rfl, s2.trans s3⟩
        subst ev; have ga3 := s3 _ _ ga
        refine if_b (fun h8 => ?_) (fun h8 => ?_)
        . have h8' : numV 0 1000000000000 y2 = false := by simpa using h8
          have q' := q H3 s3
          rw [h8'] at q'; exact q'
        have h8' : numV 0 1000000000000 y2 = true := by simpa using h8
        rw [h8'] at q; dsimp only [tNext]; refine if_f (c := decide (u = "done")) (decide_eq_false (by rw [hu]; decide +kernel)) ?_
        dsimp only [tNext]; refine ⟨by simp, fun t4 H4 s4' g4 => ⟨t4, _, rfl, .inr (SqT.of g4), rfl, rfl, ?_⟩⟩
        have s4 := s3.trans s4'
        have ga4 := s4 _ _ ga
        refine if_t (c := inV (.str u) [.str "next", .str "asked"]) (by rw [hu]; decide +kernel) ?_
        exact q H4 s4
    . match r, hlen with
      | [y1, y2], _ =>
        have eq : ((([.str "name", .str "amount"] : List V).zip [y1, y2]).all (fun q => partV H q.1 q.2) && (!decide (u = "kept") || ansD H ([y1, y2].getD 4 .non) ([y1, y2].getD 5 .non))) = (nmV y1 && numV 1 1000000000000 y2) := by
          have ek : decide (u = "kept") = false := decide_eq_false (by rw [hu]; decide +kernel)
          rw [ek, Bool.not_false, Bool.true_or, Bool.and_true]; show (partB H "name" y1 && (partB H "amount" y2 && true)) = _
          rw [partB_name, partB_amount, Bool.and_true]
        rw [eq] at q; refine if_t (c := decide (u = "has")) (decide_eq_true (by rw [hu])) ?_
        obtain ⟨k1, hk1, hz1⟩ := (tg s1 (y := y1) (by simp)).1.pt
        refine ⟨_, SqT.of ga1, y1, atI_nat (j := 1) rfl, y1, k1, rfl, hk1, hz1, fun H2 s2 => ?_⟩
        have s12 := s1.trans s2
        show if nmV y1 = true then _ else _
        refine if_b (fun h9 => ?_) (fun h9 => ?_)
        . rw [h9, Bool.true_and] at q; refine ⟨_, SqT.of (s2 _ _ ga1), y2, atI_nat (j := 2) rfl, ⟨by decide, by decide, by decide⟩, y2, 1, _, rfl, (tg s12 (y := y2) (by simp)).1.pt, fun H3 s3 => ?_⟩
          rw [e12]; exact q H3 (s12.trans s3)
        . have q' := q H2 s12
          rw [h9] at q'; exact q'
    . match r, hlen with
      | [y1, y2, y3, y4, y5, y6], _ =>
        have eq : ((([.str "number", .str "turn", .str "name", .str "key", .str "deed", .str "answer"] : List V).zip [y1, y2, y3, y4, y5, y6]).all (fun q => partV H q.1 q.2) && (!decide (u = "kept") || ansD H ([y1, y2, y3, y4, y5, y6].getD 4 .non) ([y1, y2, y3, y4, y5, y6].getD 5 .non))) = (numV 1 999999 y1 && (numV 0 1000000000000 y2 && (nmV y3 && (madeOf y4 (LET ++ FIG) 12 && (deedV H y5 && ansD H y5 y6))))) := by
          have ek : decide (u = "kept") = true := decide_eq_true (by rw [hu])
          rw [ek, Bool.not_true, Bool.false_or]; show ((partB H "number" y1 && (partB H "turn" y2 && (partB H "name" y3 && (partB H "key" y4 && (partB H "deed" y5 && (partB H "answer" y6 && true)))))) && ansD H y5 y6) = _
          rw [partB_number, partB_turn, partB_name, partB_key, partB_deed, partB_answer, Bool.and_true]; cases h5 : deedV H y5 with
          | false => simp
          | true =>
            cases h6 : ansD H y5 y6 with
            | false => simp
            | true => rw [ansD_some h5 h6]; simp
        rw [eq] at q; refine if_f (c := decide (u = "has")) (decide_eq_false (by rw [hu]; decide +kernel)) ?_
        dsimp only [tNext]; refine ⟨_, SqT.of ga1, y1, atI_nat (j := 1) rfl, ⟨by decide, by decide, by decide⟩, szl rfl, fun l hl' => ⟨_, SqL.of upd_same, .int 999999, ?_, y1, 1, 999999, rfl, ((tg s1 (y := y1) (by simp)).same (same_upd hl')).1.pt, fun H2 s2' => ?_⟩⟩
        . rw [hu]; rfl
        have s2 := (s1.trans (same_upd hl')).trans s2'
        have ga2 := s2 _ _ ga
        show if (!numV 1 999999 y1) = true then _ else _
        refine if_b (fun h7 => ?_) (fun h7 => ?_)
        . have h7' : numV 1 999999 y1 = false := by simpa using h7
          have q' := q H2 s2
          rw [h7'] at q'; exact q'
        have h7' : numV 1 999999 y1 = true := by simpa using h7
        rw [h7', Bool.true_and] at q; dsimp only [tNext]; refine cutT (t := tAnd _ _) (fun v H' => v = !numV 0 1000000000000 y2 /\ Same H H') (fun kk hkk => ?_) (fun v H3 ⟨ev, s3⟩ => ?_)
        . refine if_t (c := !decide (u = "asked")) (by rw [decide_eq_false (by rw [hu]; decide +kernel)]; rfl) ?_
          refine ⟨_, SqT.of ga2, y2, atI_nat (j := 2) rfl, ⟨by decide, by decide, by decide⟩, y2, 0, _, rfl, (tg s2 (y := y2) (by simp)).1.pt, fun H3 s3 => ?_⟩
          rw [e12]; exact hkk _ _ ⟨rfl, s2.trans s3⟩
        subst ev; have ga3 := s3 _ _ ga
        refine if_b (fun h8 => ?_) (fun h8 => ?_)
        . have h8' : numV 0 1000000000000 y2 = false := by simpa using h8
          have q' := q H3 s3
          rw [h8'] at q'; exact q'
        have h8' : numV 0 1000000000000 y2 = true := by simpa using h8
        rw [h8', Bool.true_and] at q; dsimp only [tNext]; refine if_f (c := decide (u = "done")) (decide_eq_false (by rw [hu]; decide +kernel)) ?_
        dsimp only [tNext]; refine ⟨by simp, fun t4 H4 s4' g4 => ⟨t4, _, rfl, .inr (SqT.of g4), rfl, rfl, ?_⟩⟩
        have s4 := s3.trans s4'
        have ga4 := s4 _ _ ga
        refine if_f (c := inV (.str u) [.str "next", .str "asked"]) (by rw [hu]; decide +kernel) ?_
        dsimp only [tNext]; refine cutT (t := tOr _ _) (fun v H' => v = !(nmV y3 && madeOf y4 (LET ++ FIG) 12) /\ Same H H') (fun kk hkk => ?_) (fun v H5 ⟨ev, s5⟩ => ?_)
        . obtain ⟨k3, hk3, hz3⟩ := (tg s4 (y := y3) (by simp)).1.pt
          refine ⟨_, SqT.of ga4, y3, atI_nat (j := 3) rfl, y3, k3, rfl, hk3, hz3, fun H5 s5 => ?_⟩
          show if (!nmV y3) = true then _ else _
          refine if_b (fun h9 => ?_) (fun h9 => ?_)
          . have h9' : nmV y3 = false := by simpa using h9
            exact hkk _ _ ⟨by rw [h9']; rfl, s4.trans s5⟩
          have h9' : nmV y3 = true := by simpa using h9
          obtain ⟨k4, hk4, hz4⟩ := (tg (s4.trans s5) (y := y4) (by simp)).1.pt
          refine ⟨_, SqT.of (s5 _ _ ga4), y4, atI_nat (j := 4) rfl, y4, _, 12, k4, rfl, hk4, hz4, fun H6 s6 => hkk _ _ ⟨?_, (s4.trans s5).trans s6⟩⟩
          rw [h9', Bool.true_and, show (("abcdefghijklmnopqrstuvwxyz0123456789" : Str).cps.toList) = LET ++ FIG from klet_eq]
        subst ev; have ga5 := s5 _ _ ga
        refine if_b (fun h9 => ?_) (fun h9 => ?_)
        . have h9' : (nmV y3 && madeOf y4 (LET ++ FIG) 12) = false := by rw [Bool.not_eq_true'] at h9; exact h9
          have q' := q H5 s5
          rw [<- Bool.and_assoc, h9'] at q'; exact q'
        have h9' : (nmV y3 && madeOf y4 (LET ++ FIG) 12) = true := by simpa using h9
        rw [<- Bool.and_assoc, h9', Bool.true_and] at q; dsimp only [tNext]; have tg5 := tg s5 (y := y5) (by simp)
        refine ⟨_, SqT.of ga5, y5, atI_nat (j := 5) rfl, y5, rfl, tg5.th.1, tg5.th.2, fun H6 s6 => ?_⟩
        have s56 := s5.trans s6
        rw [deedV_same s5 (tg (Same.refl H) (y := y5) (by simp)).1]
        show if deedV H y5 = true then _ else _
        refine if_b (fun h10 => ?_) (fun h10 => ?_)
        . rw [h10, Bool.true_and] at q; obtain ⟨b5, xs, wd', n', as, rfl, g5, _, hdw⟩ := deedV_of h10
          refine if_f (c := decide (u = "came")) (decide_eq_false (by rw [hu]; decide +kernel)) ?_
          have tg6 := tg (Same.refl H) (y := y6) (by simp)
          refine ⟨_, SqT.of (s6 _ _ ga5), _, atI_nat (j := 5) rfl, _, SqT.of (s6 _ _ ga5), y6, atI_nat (j := 6) rfl, b5, wd', n', xs, as, y6, rfl, s56 _ _ g5, hdw, tg6.same s56, fun H7 s7 => ?_⟩
          rw [ansV_same s56 tg6.1, <- ansD_of g5 hdw]; exact q H7 (s56.trans s7)
        . have q' := q H6 s56
          rw [h10] at q'; exact q'
    . match r, hlen with
      | [y1, y2, y3, y4, y5], _ =>
        have eq : ((([.str "number", .str "turn", .str "name", .str "key", .str "deed"] : List V).zip [y1, y2, y3, y4, y5]).all (fun q => partV H q.1 q.2) && (!decide (u = "kept") || ansD H ([y1, y2, y3, y4, y5].getD 4 .non) ([y1, y2, y3, y4, y5].getD 5 .non))) = (numV 1 999999 y1 && (numV 0 1000000000000 y2 && (nmV y3 && (madeOf y4 (LET ++ FIG) 12 && deedV H y5)))) := by
          have ek : decide (u = "kept") = false := decide_eq_false (by rw [hu]; decide +kernel)
          rw [ek, Bool.not_false, Bool.true_or, Bool.and_true]; show (partB H "number" y1 && (partB H "turn" y2 && (partB H "name" y3 && (partB H "key" y4 && (partB H "deed" y5 && true))))) = _
          rw [partB_number, partB_turn, partB_name, partB_key, partB_deed, Bool.and_true]
        rw [eq] at q; refine if_f (c := decide (u = "has")) (decide_eq_false (by rw [hu]; decide +kernel)) ?_
        dsimp only [tNext]; refine ⟨_, SqT.of ga1, y1, atI_nat (j := 1) rfl, ⟨by decide, by decide, by decide⟩, szl rfl, fun l hl' => ⟨_, SqL.of upd_same, .int 999999, ?_, y1, 1, 999999, rfl, ((tg s1 (y := y1) (by simp)).same (same_upd hl')).1.pt, fun H2 s2' => ?_⟩⟩
        . rw [hu]; rfl
        have s2 := (s1.trans (same_upd hl')).trans s2'
        have ga2 := s2 _ _ ga
        show if (!numV 1 999999 y1) = true then _ else _
        refine if_b (fun h7 => ?_) (fun h7 => ?_)
        . have h7' : numV 1 999999 y1 = false := by simpa using h7
          have q' := q H2 s2
          rw [h7'] at q'; exact q'
        have h7' : numV 1 999999 y1 = true := by simpa using h7
        rw [h7', Bool.true_and] at q; dsimp only [tNext]; refine cutT (t := tAnd _ _) (fun v H' => v = !numV 0 1000000000000 y2 /\ Same H H') (fun kk hkk => ?_) (fun v H3 ⟨ev, s3⟩ => ?_)
        . refine if_t (c := !decide (u = "asked")) (by rw [decide_eq_false (by rw [hu]; decide +kernel)]; rfl) ?_
          refine ⟨_, SqT.of ga2, y2, atI_nat (j := 2) rfl, ⟨by decide, by decide, by decide⟩, y2, 0, _, rfl, (tg s2 (y := y2) (by simp)).1.pt, fun H3 s3 => ?_⟩
          rw [e12]; exact hkk _ _ ⟨rfl, s2.trans s3⟩
        subst ev; have ga3 := s3 _ _ ga
        refine if_b (fun h8 => ?_) (fun h8 => ?_)
        . have h8' : numV 0 1000000000000 y2 = false := by simpa using h8
          have q' := q H3 s3
          rw [h8'] at q'; exact q'
        have h8' : numV 0 1000000000000 y2 = true := by simpa using h8
        rw [h8', Bool.true_and] at q; dsimp only [tNext]; refine if_f (c := decide (u = "done")) (decide_eq_false (by rw [hu]; decide +kernel)) ?_
        dsimp only [tNext]; refine ⟨by simp, fun t4 H4 s4' g4 => ⟨t4, _, rfl, .inr (SqT.of g4), rfl, rfl, ?_⟩⟩
        have s4 := s3.trans s4'
        have ga4 := s4 _ _ ga
        refine if_f (c := inV (.str u) [.str "next", .str "asked"]) (by rw [hu]; decide +kernel) ?_
        dsimp only [tNext]; refine cutT (t := tOr _ _) (fun v H' => v = !(nmV y3 && madeOf y4 (LET ++ FIG) 12) /\ Same H H') (fun kk hkk => ?_) (fun v H5 ⟨ev, s5⟩ => ?_)
        . obtain ⟨k3, hk3, hz3⟩ := (tg s4 (y := y3) (by simp)).1.pt
          refine ⟨_, SqT.of ga4, y3, atI_nat (j := 3) rfl, y3, k3, rfl, hk3, hz3, fun H5 s5 => ?_⟩
          show if (!nmV y3) = true then _ else _
          refine if_b (fun h9 => ?_) (fun h9 => ?_)
          . have h9' : nmV y3 = false := by simpa using h9
            exact hkk _ _ ⟨by rw [h9']; rfl, s4.trans s5⟩
          have h9' : nmV y3 = true := by simpa using h9
          obtain ⟨k4, hk4, hz4⟩ := (tg (s4.trans s5) (y := y4) (by simp)).1.pt
          refine ⟨_, SqT.of (s5 _ _ ga4), y4, atI_nat (j := 4) rfl, y4, _, 12, k4, rfl, hk4, hz4, fun H6 s6 => hkk _ _ ⟨?_, (s4.trans s5).trans s6⟩⟩
          rw [h9', Bool.true_and, show (("abcdefghijklmnopqrstuvwxyz0123456789" : Str).cps.toList) = LET ++ FIG from klet_eq]
        subst ev; have ga5 := s5 _ _ ga
        refine if_b (fun h9 => ?_) (fun h9 => ?_)
        . have h9' : (nmV y3 && madeOf y4 (LET ++ FIG) 12) = false := by rw [Bool.not_eq_true'] at h9; exact h9
          have q' := q H5 s5
          rw [<- Bool.and_assoc, h9'] at q'; exact q'
        have h9' : (nmV y3 && madeOf y4 (LET ++ FIG) 12) = true := by simpa using h9
        rw [<- Bool.and_assoc, h9', Bool.true_and] at q; dsimp only [tNext]; have tg5 := tg s5 (y := y5) (by simp)
        refine ⟨_, SqT.of ga5, y5, atI_nat (j := 5) rfl, y5, rfl, tg5.th.1, tg5.th.2, fun H6 s6 => ?_⟩
        have s56 := s5.trans s6
        rw [deedV_same s5 (tg (Same.refl H) (y := y5) (by simp)).1]
        show if deedV H y5 = true then _ else _
        refine if_b (fun h10 => ?_) (fun h10 => ?_)
        . rw [h10] at q; refine if_t (c := decide (u = "came")) (decide_eq_true hu) ?_
          exact q H6 s56
        . have q' := q H6 s56
          rw [h10] at q'; exact q'
    . match r, hlen with
      | [y1], _ =>
        have eq : ((([.str "number"] : List V).zip [y1]).all (fun q => partV H q.1 q.2) && (!decide (u = "kept") || ansD H ([y1].getD 4 .non) ([y1].getD 5 .non))) = (numV 1 999999 y1) := by
          have ek : decide (u = "kept") = false := decide_eq_false (by rw [hu]; decide +kernel)
          rw [ek, Bool.not_false, Bool.true_or, Bool.and_true]; show (partB H "number" y1 && true) = _
          rw [partB_number, Bool.and_true]
        rw [eq] at q; refine if_f (c := decide (u = "has")) (decide_eq_false (by rw [hu]; decide +kernel)) ?_
        dsimp only [tNext]; refine ⟨_, SqT.of ga1, y1, atI_nat (j := 1) rfl, ⟨by decide, by decide, by decide⟩, szl rfl, fun l hl' => ⟨_, SqL.of upd_same, .int 999999, ?_, y1, 1, 999999, rfl, ((tg s1 (y := y1) (by simp)).same (same_upd hl')).1.pt, fun H2 s2' => ?_⟩⟩
        . rw [hu]; rfl
        have s2 := (s1.trans (same_upd hl')).trans s2'
        have ga2 := s2 _ _ ga
        show if (!numV 1 999999 y1) = true then _ else _
        refine if_b (fun h7 => ?_) (fun h7 => ?_)
        . have h7' : numV 1 999999 y1 = false := by simpa using h7
          have q' := q H2 s2
          rw [h7'] at q'; exact q'
        have h7' : numV 1 999999 y1 = true := by simpa using h7
        rw [h7'] at q; dsimp only [tNext]; refine if_f (c := !decide (u = "asked")) (by rw [decide_eq_true hu]; rfl) ?_
        dsimp only [tNext]; refine if_f (c := decide (u = "done")) (decide_eq_false (by rw [hu]; decide +kernel)) ?_
        dsimp only [tNext]; refine ⟨by simp, fun t4 H4 s4' g4 => ⟨t4, _, rfl, .inr (SqT.of g4), rfl, rfl, ?_⟩⟩
        have s4 := s2.trans s4'
        have ga4 := s4 _ _ ga
        refine if_t (c := inV (.str u) [.str "next", .str "asked"]) (by rw [hu]; decide +kernel) ?_
        exact q H4 s4
    . match r, hlen with
      | [y1, y2, y3], _ =>
        have eq : ((([.str "number", .str "turn", .str "answer"] : List V).zip [y1, y2, y3]).all (fun q => partV H q.1 q.2) && (!decide (u = "kept") || ansD H ([y1, y2, y3].getD 4 .non) ([y1, y2, y3].getD 5 .non))) = (numV 1 999999 y1 && (numV 0 1000000000000 y2 && someV H y3)) := by
          have ek : decide (u = "kept") = false := decide_eq_false (by rw [hu]; decide +kernel)
          rw [ek, Bool.not_false, Bool.true_or, Bool.and_true]; show (partB H "number" y1 && (partB H "turn" y2 && (partB H "answer" y3 && true))) = _
          rw [partB_number, partB_turn, partB_answer, Bool.and_true]
        rw [eq] at q; refine if_f (c := decide (u = "has")) (decide_eq_false (by rw [hu]; decide +kernel)) ?_
        dsimp only [tNext]; refine ⟨_, SqT.of ga1, y1, atI_nat (j := 1) rfl, ⟨by decide, by decide, by decide⟩, szl rfl, fun l hl' => ⟨_, SqL.of upd_same, .int 999999, ?_, y1, 1, 999999, rfl, ((tg s1 (y := y1) (by simp)).same (same_upd hl')).1.pt, fun H2 s2' => ?_⟩⟩
        . rw [hu]; rfl
        have s2 := (s1.trans (same_upd hl')).trans s2'
        have ga2 := s2 _ _ ga
        show if (!numV 1 999999 y1) = true then _ else _
        refine if_b (fun h7 => ?_) (fun h7 => ?_)
        . have h7' : numV 1 999999 y1 = false := by simpa using h7
          have q' := q H2 s2
          rw [h7'] at q'; exact q'
        have h7' : numV 1 999999 y1 = true := by simpa using h7
        rw [h7', Bool.true_and] at q; dsimp only [tNext]; refine cutT (t := tAnd _ _) (fun v H' => v = !numV 0 1000000000000 y2 /\ Same H H') (fun kk hkk => ?_) (fun v H3 ⟨ev, s3⟩ => ?_)
        . refine if_t (c := !decide (u = "asked")) (by rw [decide_eq_false (by rw [hu]; decide +kernel)]; rfl) ?_
          refine ⟨_, SqT.of ga2, y2, atI_nat (j := 2) rfl, ⟨by decide, by decide, by decide⟩, y2, 0, _, rfl, (tg s2 (y := y2) (by simp)).1.pt, fun H3 s3 => ?_⟩
          rw [e12]; exact hkk _ _ ⟨rfl, s2.trans s3⟩
        subst ev; have ga3 := s3 _ _ ga
        refine if_b (fun h8 => ?_) (fun h8 => ?_)
        . have h8' : numV 0 1000000000000 y2 = false := by simpa using h8
          have q' := q H3 s3
          rw [h8'] at q'; exact q'
        have h8' : numV 0 1000000000000 y2 = true := by simpa using h8
        rw [h8', Bool.true_and] at q; dsimp only [tNext]; refine if_t (c := decide (u = "done")) (decide_eq_true (by rw [hu])) ?_
        have tg3 := tg (Same.refl H) (y := y3) (by simp)
        refine ⟨_, SqT.of ga3, y3, atI_nat (j := 3) rfl, y3, rfl, tg3.same s3, fun H4 s4 => ?_⟩
        rw [someV_same s3 tg3.1]; exact q H4 (s3.trans s4)
end
end KL
namespace KL
open PySem L2
section
variable {P : Program} {w : World} {K : W.Frag} {mg : Str -> Option Value} {base : Heap}
theorem dword_nm : ∀ z ∈ ([("add" : Str), "take", "move", "send", "fetch", "pass"] : List Str), isNm z := by
  intro z hz; simp only [List.mem_cons, List.not_mem_nil, or_false] at hz
  rcases hz with rfl | rfl | rfl | rfl | rfl | rfl <;> exact ⟨by decide +kernel, by decide +kernel, by decide +kernel⟩
theorem deedB1 {z a : Str} {n : Int} (hz : z = "add" ∨ z = "take") (ha : isNm a) (h1 : 1 <= n) (h2 : n <= 1000000000000) : deedB [.str z, .str a, .int n] = true := (DeedIs.one z a n hz ha h1 h2).ok
theorem deedB2 {z a b : Str} {n : Int} (hz : z = "send" ∨ z = "fetch") (ha : isNm a) (hb : isNm b) (h1 : 1 <= n) (h2 : n <= 1000000000000) : deedB [.str z, .str a, .str b, .int n] = true := by
  show (fitsB (.str z) [.str a, .str b] && numV 1 1000000000000 (.int n)) = true
  have e : fitsB (.str z) [.str a, .str b] = true := by
    rcases hz with rfl | rfl
    all_goals
      show (true && (nmV (.str a) && (nmV (.str b) && true)) && (true || _)) = true
      rw [nmV_of ha, nmV_of hb]; rfl
  rw [e]; show (decide (1 <= n) && decide (n <= 1000000000000)) = true
  rw [decide_eq_true h1, decide_eq_true h2]; rfl
theorem shape_of {ns : List Str} {m : Nat} (h2 : 2 <= ns.length) (h4 : ns.length <= 4) (hn : ∀ z ∈ ns, isNm z) (h1 : 1 <= m) (hm : m <= 1000000000000) : Shape (ns.map V.str ++ [.int (m : Int)]) ns m :=
  ⟨rfl, h2, h4, fun z hz => (hn z hz).2.1, fun z hz => (nm_free (hn z hz)).1, h1, hm⟩
theorem flat_of {ns : List Str} {m : Nat} (hn : ∀ z ∈ ns, isNm z) (hm : m <= 1000000000000) : ∀ y ∈ ns.map V.str ++ [.int (m : Int)], FlatW y := fun y hy => by
  rcases Zma.mp hy with h | h
  . obtain ⟨z, hz, rfl⟩ := Zmm.mp h
    exact .nm (hn z hz)
  . rw [Zms.mp h]; exact .num hm
theorem deedG {zs : List Str} {xs : List V} (hz : ∀ z ∈ zs, isNm z) (h : Deed6 zs xs) : DeedG xs := by
  have dn := dword_nm
  cases h with
  | one z a n hw ha h1 h2 =>
    obtain ⟨m, rfl⟩ := Zio (show 0 <= n by omega)
    have nz : isNm z := dn z (by rcases hw with rfl | rfl <;> simp)
    have nn : ∀ y ∈ [z, a], isNm y := Zfm.mpr ⟨nz, Zfm.mpr ⟨hz a ha, fun _ h => nomatch h⟩⟩
    refine ⟨deedB1 hw (hz a ha) h1 h2, ⟨_, _, shape_of (ns := [z, a]) (by simp) (by simp) nn (by omega) (by omega)⟩, ?_, flat_of (ns := [z, a]) nn (by omega), by simp⟩
    rcases hw with rfl | rfl
    . exact ⟨_, _, _, ⟨⟨a, a, a, _, .add⟩, fun _ h => nomatch h⟩⟩
    . exact ⟨_, _, _, ⟨⟨a, a, a, _, .take⟩, fun _ h => nomatch h⟩⟩
  | move a b n ha hb hne h1 h2 =>
    obtain ⟨m, rfl⟩ := Zio (show 0 <= n by omega)
    have nn : ∀ y ∈ [("move" : Str), a, b], isNm y := Zfm.mpr ⟨dn _ (by simp), Zfm.mpr ⟨hz a ha, Zfm.mpr ⟨hz b hb, fun _ h => nomatch h⟩⟩⟩
    exact ⟨(DeedIs.two "move" a b m (.inl rfl) (hz a ha) (hz b hb) hne h1 h2).ok, ⟨_, _, shape_of (ns := ["move", a, b]) (by simp) (by simp) nn (by omega) (by omega)⟩, ⟨_, _, _, ⟨⟨a, b, a, _, .move⟩, fun _ h => nomatch h⟩⟩, flat_of (ns := ["move", a, b]) nn (by omega), by simp⟩
  | two z a b n hw ha hb h1 h2 =>
    obtain ⟨m, rfl⟩ := Zio (show 0 <= n by omega)
    have nz : isNm z := dn z (by rcases hw with rfl | rfl <;> simp)
    have nn : ∀ y ∈ [z, a, b], isNm y := Zfm.mpr ⟨nz, Zfm.mpr ⟨hz a ha, Zfm.mpr ⟨hz b hb, fun _ h => nomatch h⟩⟩⟩
    refine ⟨deedB2 hw (hz a ha) (hz b hb) h1 h2, ⟨_, _, shape_of (ns := [z, a, b]) (by simp) (by simp) nn (by omega) (by omega)⟩, ?_, flat_of (ns := [z, a, b]) nn (by omega), by simp⟩
    rcases hw with rfl | rfl
    . exact ⟨_, _, _, ⟨⟨a, a, b, _, .send⟩, Zfm.mpr ⟨hz a ha, fun _ h => nomatch h⟩⟩⟩
    . exact ⟨_, _, _, ⟨⟨a, a, b, _, .fetch⟩, Zfm.mpr ⟨hz a ha, fun _ h => nomatch h⟩⟩⟩
  | pass a b c n ha hb hc hne h1 h2 =>
    obtain ⟨m, rfl⟩ := Zio (show 0 <= n by omega)
    have nn : ∀ y ∈ [("pass" : Str), a, b, c], isNm y := Zfm.mpr ⟨dn _ (by simp), Zfm.mpr ⟨hz a ha, Zfm.mpr ⟨hz b hb, Zfm.mpr ⟨hz c hc, fun _ h => nomatch h⟩⟩⟩⟩
    exact ⟨(DeedIs.three a b c m (hz a ha) (hz b hb) (hz c hc) hne h1 h2).ok, ⟨_, _, shape_of (ns := ["pass", a, b, c]) (by simp) (by simp) nn (by omega) (by omega)⟩, ⟨_, _, _, ⟨⟨a, b, c, _, .pass⟩, Zfm.mpr ⟨hz a ha, Zfm.mpr ⟨hz b hb, fun _ h => nomatch h⟩⟩⟩⟩, flat_of (ns := ["pass", a, b, c]) nn (by omega), by simp⟩
theorem num1 {lo hi : Int} {a : Int} (h1 : lo <= a) (h2 : a <= hi) : numV lo hi (.int a) = true := by
  show (decide (lo <= a) && decide (a <= hi)) = true
  rw [decide_eq_true h1, decide_eq_true h2]; rfl
theorem within1 {lo hi a : Int} (h1 : lo <= a) (h2 : a <= hi) : withinB [.int a] [(lo, hi)] = true := by
  show (true && (numV lo hi (.int a) && true)) = true
  rw [num1 h1 h2]; rfl
theorem within2 {lo hi a lo' hi' b : Int} (h1 : lo <= a) (h2 : a <= hi) (h3 : lo' <= b) (h4 : b <= hi') : withinB [.int a, .int b] [(lo, hi), (lo', hi')] = true := by
  show (true && (numV lo hi (.int a) && (numV lo' hi' (.int b) && true))) = true
  rw [num1 h1 h2, num1 h3 h4]; rfl
theorem ans_at {wd u : Str} {hs : List Str} {n : Int} {r : List V} {bs : List (Int × Int)} (hu : u = "is" ∨ u = "short" ∨ u = "full") (hb : (bndL wd n).lookup u = some bs) (hw : withinB r bs = true) : ansB wd hs n (.str u :: r) = true := by
  rw [ansB_word]; have h1 : u ≠ "no" := by rcases hu with rfl | rfl | rfl <;> decide +kernel
  have h2 : u ≠ "ok" := by rcases hu with rfl | rfl | rfl <;> decide +kernel
  rw [if_neg h1, if_neg h2, hb]; exact hw
theorem some_at {u : Str} {r : List V} (hu : u ≠ "no") (q : Str × Int × List V) (hq : q ∈ WID) (h : ansB q.1 (WHS q.1) q.2.1 (.str u :: r) = true) : someB (.str u :: r) = true := by
  unfold someB; rw [if_neg (fun e => hu (by injection e))]
  exact List.any_eq_true.mpr ⟨q, hq, h⟩
theorem dwn6 {zs : List Str} {xs : List V} {w : Str} {n : Int} {hs : List Str} (hz : ∀ z ∈ zs, isNm z) (hD : Deed6 zs xs) (hS : Shape6 xs w n hs) : ∃ as, DWN w n xs as /\ as.map (·.1) = hs /\ 1 <= n /\ n <= 1000000000000 /\ ∀ h ∈ hs, isNm h := by
  have no1 : ¬ (("move" : Str) = "send" ∨ ("move" : Str) = "fetch") := by decide +kernel
  cases hD with
  | one z a n' hw ha h1 h2 =>
    cases hS with
    | one _ _ _ hw' =>
      rcases hw with rfl | rfl
      . exact ⟨[], ⟨⟨a, a, a, _, .add⟩, fun _ h => nomatch h⟩, rfl, h1, h2, fun _ h => nomatch h⟩
      . exact ⟨[], ⟨⟨a, a, a, _, .take⟩, fun _ h => nomatch h⟩, rfl, h1, h2, fun _ h => nomatch h⟩
  | move a b n' ha hb hne h1 h2 =>
    generalize ew : ("move" : Str) = wm at hS; cases hS with
    | move _ _ _ => exact ⟨[], ⟨⟨a, b, a, _, .move⟩, fun _ h => nomatch h⟩, rfl, h1, h2, fun _ h => nomatch h⟩
    | two _ _ _ _ hw' => rw [<- ew] at hw'; exact absurd hw' no1
  | two z a b n' hw ha hb h1 h2 =>
    cases hS with
    | move _ _ _ => exact absurd hw no1
    | two _ _ _ _ hw' =>
      rcases hw with rfl | rfl
      . exact ⟨_, ⟨⟨a, a, b, _, .send⟩, Zfm.mpr ⟨hz a ha, fun _ h => nomatch h⟩⟩, rfl, h1, h2, Zfm.mpr ⟨hz a ha, fun _ h => nomatch h⟩⟩
      . exact ⟨_, ⟨⟨a, a, b, _, .fetch⟩, Zfm.mpr ⟨hz a ha, fun _ h => nomatch h⟩⟩, rfl, h1, h2, Zfm.mpr ⟨hz a ha, fun _ h => nomatch h⟩⟩
  | pass a b c n' ha hb hc hne h1 h2 =>
    cases hS with
    | pass _ _ _ _ => exact ⟨_, ⟨⟨a, b, c, _, .pass⟩, Zfm.mpr ⟨hz a ha, Zfm.mpr ⟨hz b hb, fun _ h => nomatch h⟩⟩⟩, rfl, h1, h2, Zfm.mpr ⟨hz a ha, Zfm.mpr ⟨hz b hb, fun _ h => nomatch h⟩⟩⟩
theorem ansG {zs : List Str} {xs ys : List V} {w : Str} {n : Int} {hs : List Str} (hz : ∀ z ∈ zs, isNm z) (hD : Deed6 zs xs) (hS : Shape6 xs w n hs) (hA : Ans6 w n hs ys) : AnsG xs ys := by
  obtain ⟨as, hd, ha, n1, n2, hh⟩ := dwn6 hz hD hS
  have wi : ∀ i, i < 5 -> ∀ q, WID[i]? = some q -> q ∈ WID := fun i _ q h => Zmg h
  cases hA with
  | short a hw h1 h2 =>
    obtain ⟨m, rfl⟩ := Zio h1
    refine ⟨.nums "short" [m] (by simp) (by simp) (by simp; omega), some_at (by decide +kernel) _ (wi 3 (by decide) _ rfl) (ans_at (.inr (.inl rfl)) rfl (within1 h1 (by dsimp only; omega))), ⟨w, n, as, hd, ?_⟩⟩
    rcases hw with rfl | rfl | rfl <;> exact ans_at (.inr (.inl rfl)) rfl (within1 h1 h2)
  | full a hw h1 h2 =>
    obtain ⟨m, rfl⟩ := Zio (show 0 <= a by omega)
    refine ⟨.nums "full" [m] (by simp) (by simp) (by simp; omega), some_at (by decide +kernel) _ (wi 3 (by decide) _ rfl) (ans_at (.inr (.inr rfl)) rfl (within1 (by dsimp only; omega) h2)), ⟨w, n, as, hd, ?_⟩⟩
    rcases hw with rfl | rfl | rfl <;> exact ans_at (.inr (.inr rfl)) rfl (within1 h1 h2)
  | more a hw h1 h2 =>
    obtain ⟨m, rfl⟩ := Zio (show 0 <= a by omega)
    refine ⟨.nums "is" [m] (by simp) (by simp) (by simp; omega), some_at (by decide +kernel) _ (wi 0 (by decide) _ rfl) (ans_at (.inl rfl) rfl (within1 (by dsimp only; omega) h2)), ⟨w, n, as, hd, ?_⟩⟩
    rcases hw with rfl | rfl <;> exact ans_at (.inl rfl) rfl (within1 h1 h2)
  | less a hw h1 h2 =>
    obtain ⟨m, rfl⟩ := Zio h1
    refine ⟨.nums "is" [m] (by simp) (by simp) (by simp; omega), some_at (by decide +kernel) _ (wi 1 (by decide) _ rfl) (ans_at (.inl rfl) rfl (within1 h1 (by dsimp only; omega))), ⟨w, n, as, hd, ?_⟩⟩
    rcases hw with rfl | rfl <;> exact ans_at (.inl rfl) rfl (within1 h1 h2)
  | both a b hw h1 h2 h3 h4 =>
    obtain ⟨m, rfl⟩ := Zio h1
    obtain ⟨k, rfl⟩ := Zio (show 0 <= b by omega)
    refine ⟨.nums "is" [m, k] (by simp) (by simp) (by simp; omega), some_at (by decide +kernel) _ (wi 2 (by decide) _ rfl) (ans_at (.inl rfl) rfl (within2 h1 (by dsimp only; omega) (by dsimp only; omega) h4)), ⟨w, n, as, hd, ?_⟩⟩
    subst hw; exact ans_at (.inl rfl) rfl (within2 h1 h2 h3 h4)
  | no h hw hm =>
    refine ⟨.no h (hh h hm), ?_, ⟨w, n, as, hd, ?_⟩⟩
    . unfold someB; rw [if_pos (show headV [V.str "no", .str h] = .str "no" from rfl)]; exact nmV_of (hh h hm)
    . rw [ansB_word, if_pos rfl, ha]; show decide (h ∈ hs) = true
      exact decide_eq_true hm
  | ok hw =>
    refine ⟨.nums "ok" [] (by simp) (by simp) (by simp), some_at (by decide +kernel) _ (wi 4 (by decide) _ rfl) (by rw [ansB_word, if_neg (by decide +kernel), if_pos rfl]; rfl), ⟨w, n, as, hd, ?_⟩⟩
    subst hw; rw [ansB_word, if_neg (by decide +kernel), if_pos rfl]
    rfl
end
end KL
namespace KL
open PySem L2
section
variable {P : Program} {w : World} {K : W.Frag} {mg : Str -> Option Value} {base : Heap}
def spRowD : Sp := fun vs H Q _ => ∃ (p ln lk : Addr) (zs ks : List Str), vs = [.ref p, .ref ln, .ref lk] /\ PenAt H p /\ H ln = some (.lst (zs.map V.str)) /\ H lk = some (.lst (ks.map V.str)) /\ zs.Nodup /\ (2 <= zs.length /\ zs.length <= 100) /\ (∀ z ∈ zs, isNm z) /\ (1 <= ks.length /\ ks.length <= 100) /\ (∀ z ∈ ks, isKy z) /\ ∀ t ps H', RowIs ps -> RowAt H' t ps -> PenAt H' p -> K1 p H H' -> Q (.ref t) H'
theorem ok_rowD (T : Txt K mg) (cLtake : Callee P w K mg base 1 "_law_take" ["_law_pen_here", "_law_most"] spTake) (cLnumber : Callee P w K mg base 2 "_law_number" ["_law_pen_here", "_law_least", "_law_most"] spNumber20) (cLdeed : Callee P w K mg base 3 "_law_deed" ["_law_pen_here", "_law_names_here"] spDeed40) (cLanswer : Callee P w K mg base 3 "_law_answer" ["_law_pen_here", "_law_deed_here"] spAnswer40) (D : DefAt K mg "_law_row" s_law_row ["_law_pen_here", "_law_names_here", "_law_keys_here"]) : Callee P w K mg base 4 "_law_row" ["_law_pen_here", "_law_names_here", "_law_keys_here"] spRowD := by
  refine D.go sc_law_row (fun vs H Q E h => ?_) (fun f cdv A outer s H vs Q E hr h => ?_)
  . obtain ⟨p, ln, lk, zs, ks, rfl, _⟩ := h; rfl
  . obtain ⟨p, ln, lk, zs, ks, rfl, pn, hln, hlk, hnd, hzl, hzn, hkl, hky, q⟩ := h
    have hLtake : Room 1 _ := hr.mono (by decide)
    have hLnumber : Room 2 _ := hr.mono (by decide)
    have hLdeed := hr
    have hLanswer := hr
    refine ⟨_, (R.scons (R.set (i := 3) sc_law_row.nd (R.ix (R.kiL (K := K)) (R.lst (R.cons R.str (R.cons R.str (R.cons R.str (R.cons R.str (R.cons R.str (R.cons R.str R.nil))))))) (R.fn cLtake hLtake rfl (R.cons (R.v 0) (R.cons R.int R.nil))))) (R.scons (R.set (i := 4) sc_law_row.nd (R.fn cLnumber hLnumber rfl (R.cons (R.v 0) (R.cons R.int (R.cons (R.op R.add R.int (R.callTy R.toInt rfl T.b_int bb_int (R.cons (R.cmp R.eq (R.v 3) R.str) R.nil))) R.nil))))) (R.scons (R.set (i := 5) sc_law_row.nd (R.fn cLnumber hLnumber rfl (R.cons (R.v 0) (R.cons R.int (R.cons (R.op R.pow R.int R.int) R.nil))))) (R.scons (R.set (i := 6) sc_law_row.nd (R.fn cLdeed hLdeed rfl (R.cons (R.v 0) (R.cons (R.v 1) R.nil)))) (R.scons (R.set (i := 7) sc_law_row.nd (R.fn cLanswer hLanswer rfl (R.cons (R.v 0) (R.cons (R.v 6) R.nil)))) (R.scons (R.set (i := 8) sc_law_row.nd (R.ix (R.kiL (K := K)) (R.v 1) (R.fn cLtake hLtake rfl (R.cons (R.v 0) (R.cons (R.callB (R.klenL (K := K)) rfl T.b_len bb_len (R.cons (R.v 1) R.nil)) R.nil))))) (R.scons (R.set (i := 9) sc_law_row.nd (R.ix (R.kiL (K := K)) (R.v 2) (R.fn cLtake hLtake rfl (R.cons (R.v 0) (R.cons (R.callB (R.klenL (K := K)) rfl T.b_len bb_len (R.cons (R.v 2) R.nil)) R.nil))))) (R.scons (R.ife (R.tcmp R.eq (R.v 3) R.str) (R.sone (R.ret (R.wtup (R.cons (R.v 3) (R.cons (R.v 4) (R.cons (R.v 5) R.nil)))))) R.snil) (R.scons (R.ife (R.tcmp R.eq (R.v 3) R.str) (R.sone (R.ret (R.wtup (R.cons (R.v 3) (R.cons (R.v 8) (R.cons (R.callB (R.max rfl) rfl T.b_max bb_max (R.cons R.int (R.cons (R.v 5) R.nil))) R.nil)))))) R.snil) (R.scons (R.ife (R.tcmp R.eq (R.v 3) R.str) (R.sone (R.ret (R.wtup (R.cons (R.v 3) (R.cons (R.v 4) R.nil))))) R.snil) (R.scons (R.ife (R.tcmp R.eq (R.v 3) R.str) (R.sone (R.ret (R.wtup (R.cons (R.v 3) (R.cons (R.v 4) (R.cons (R.v 5) (R.cons (R.v 7) R.nil))))))) R.snil) (R.sone (R.ret (R.op R.catT (R.wtup (R.cons (R.v 3) (R.cons (R.v 4) (R.cons (R.v 5) (R.cons (R.v 8) (R.cons (R.v 9) (R.cons (R.v 6) R.nil))))))) (R.op R.mulT (R.wtup (R.cons (R.v 7) R.nil)) (R.callTy R.toInt rfl T.b_int bb_int (R.cons (R.cmp R.eq (R.v 3) R.str) R.nil))))))))))))))))), ?_⟩
    have hzn0 : zs ≠ [] := fun e => by rw [e] at hzl; exact absurd hzl.1 (by decide)
    have hkn0 : ks ≠ [] := fun e => by rw [e] at hkl; exact absurd hkl.1 (by decide)
    have npl := PenAt.neS pn hln hzn0
    have npk := PenAt.neS pn hlk hkn0
    have e12 : (10 : Int) ^ (12 : Int).toNat = 1000000000000 := by decide
    refine ⟨szl rfl, fun l0 h0 => ⟨p, 6, rfl, pn.same (same_upd h0), by decide, by decide, fun r G1 r0 r1 pn1 k1 => ⟨_, SqL.of (k1 _ _ upd_same (pn.ne h0)), ?_⟩⟩⟩
    obtain ⟨wd, hwd, hat⟩ : ∃ wd : Str, (wd = "came" ∨ wd = "done" ∨ wd = "asked" ∨ wd = "kept" ∨ wd = "has" ∨ wd = "next") /\ atI [V.str "came", .str "done", .str "asked", .str "kept", .str "has", .str "next"] r = some (.str wd) := by
      rcases six r0 r1 with rfl | rfl | rfl | rfl | rfl | rfl
      . exact ⟨_, .inl rfl, rfl⟩
      . exact ⟨_, .inr (.inl rfl), rfl⟩
      . exact ⟨_, .inr (.inr (.inl rfl)), rfl⟩
      . exact ⟨_, .inr (.inr (.inr (.inl rfl))), rfl⟩
      . exact ⟨_, .inr (.inr (.inr (.inr (.inl rfl)))), rfl⟩
      . exact ⟨_, .inr (.inr (.inr (.inr (.inr rfl)))), rfl⟩
    refine ⟨_, hat, ?_⟩
    dsimp only [gName]; have k01 : K1 p H G1 := (K1.of (same_upd h0)).trans k1
    refine ⟨p, 1, _, rfl, pn1, by split <;> omega, by split <;> omega, fun n' G2 n0 n1 pn2 k2 => ?_⟩
    dsimp only [gName]; obtain ⟨n, rfl⟩ := Zio (show 0 <= n' by omega)
    refine ⟨⟨by decide, by decide, by decide⟩, p, 0, _, rfl, pn2, by decide, by decide, fun t' G3 t0 t1 pn3 k3 => ?_⟩
    dsimp only [gName]; obtain ⟨t, rfl⟩ := Zio t0
    rw [e12] at t1; have k03 := (k01.trans k2).trans k3
    refine ⟨p, ln, zs, rfl, pn3, k03 _ _ hln npl, hnd, hzl.1, hzl.2, fun td xs G4 hD gD pn4 k4 => ?_⟩
    dsimp only [gName]; refine ⟨p, td, zs, xs, rfl, pn4, gD, hD, fun ta ys G5 w' n' hs hS hA gA pn5 k5 => ?_⟩
    dsimp only [gName]; have k05 := (k03.trans k4).trans k5
    have gD5 := k5 _ _ gD (PenAt.tup pn4 gD)
    refine ⟨_, .inl (SqL.of (k05 _ _ hln npl)), p, _, rfl, pn5, by rw [Zlm]; omega, by rw [Zlm]; omega, fun i' G6 i0 i1 pn6 k6 => ?_⟩
    obtain ⟨i, rfl⟩ := Zio i0
    rw [Zlm] at i1; have hi : i < zs.length := by omega
    have k06 := k05.trans k6
    refine ⟨_, SqL.of (k06 _ _ hln npl), .str zs[i], atI_nat (by rw [Zgm, Zge hi]; rfl), ?_⟩
    dsimp only [gName]; refine ⟨_, .inl (SqL.of (k06 _ _ hlk npk)), p, _, rfl, pn6, by rw [Zlm]; omega, by rw [Zlm]; omega, fun j' G7 j0 j1 pn7 k7 => ?_⟩
    obtain ⟨j, rfl⟩ := Zio j0
    rw [Zlm] at j1; have hj : j < ks.length := by omega
    have k07 := k06.trans k7
    refine ⟨_, SqL.of (k07 _ _ hlk npk), .str ks[j], atI_nat (by rw [Zgm, Zge hj]; rfl), ?_⟩
    dsimp only [gName]; have gD7 := k7 _ _ (k6 _ _ gD5 (PenAt.tup pn5 gD5)) (PenAt.tup pn6 (k6 _ _ gD5 (PenAt.tup pn5 gD5)))
    have gA7 := k7 _ _ (k6 _ _ gA (PenAt.tup pn5 gA)) (PenAt.tup pn6 (k6 _ _ gA (PenAt.tup pn5 gA)))
    have nmi := hzn _ (List.getElem_mem hi)
    have kyj := hky _ (List.getElem_mem hj)
    have dG := deedG hzn hD
    have aG := ansG hzn hD hS hA
    have fin : ∀ {G : Hp} {a : Addr} {ps : List RP} {vs : List V}, Same G7 G -> G a = some (.tup vs) -> RowIs ps -> Paired (PAt G) ps vs -> Q (.ref a) G := fun sG g ri pv => q _ _ _ ri ⟨_, g, pv⟩ (pn7.same sG) (k07.trans (K1.of sG))
    have n999 : wd ≠ "next" -> n <= 999999 := fun hw => by
      rw [if_neg (by rw [decide_eq_false hw]; exact Bool.false_ne_true)] at n1
      omega
    have nmil : n <= 1000000 := by
      have : (if decide (wd = "next") = true then (1 : Int) else 0) <= 1 := by split <;> omega
      omega
    show if decide (wd = "next") = true then _ else _
    refine if_b (fun hw => ?_) (fun hw => ?_)
    . have hw' := of_decide_eq_true hw
      subst hw'; exact ⟨by simp, fun a G sG g => fin sG g (.next n t (by omega) nmil (by omega)) (.cons rfl (.cons rfl (.cons rfl .nil)))⟩
    have hnx := of_decide_eq_false hw
    have n9 := n999 hnx
    dsimp only [tNext]; show if decide (wd = "has") = true then _ else _
    refine if_b (fun hw => ?_) (fun hw => ?_)
    . have hw' := of_decide_eq_true hw
      subst hw'; refine ⟨by simp, fun a G sG g => ?_⟩
      have em : (if (t : Int) > 1 then (t : Int) else 1) = ((max 1 t : Nat) : Int) := by split <;> omega
      rw [em] at g; exact fin sG g (.has zs[i] (max 1 t) nmi (by omega) (by omega)) (.cons rfl (.cons rfl (.cons rfl .nil)))
    have hhas := of_decide_eq_false hw
    dsimp only [tNext]; show if decide (wd = "asked") = true then _ else _
    refine if_b (fun hw => ?_) (fun hw => ?_)
    . have hw' := of_decide_eq_true hw
      subst hw'; exact ⟨by simp, fun a G sG g => fin sG g (.asked n (by omega) n9) (.cons rfl (.cons rfl .nil))⟩
    have hask := of_decide_eq_false hw
    dsimp only [tNext]; show if decide (wd = "done") = true then _ else _
    refine if_b (fun hw => ?_) (fun hw => ?_)
    . have hw' := of_decide_eq_true hw
      subst hw'; exact ⟨by simp, fun a G sG g => fin sG g (.done n t xs ys (by omega) n9 (by omega) aG) (.cons rfl (.cons rfl (.cons rfl (.cons ⟨ta, rfl, sG _ _ gA7⟩ .nil))))⟩
    have hdo := of_decide_eq_false hw
    dsimp only [tNext]; refine ⟨by simp, fun a1 E1 sE1 gE1 => ⟨by simp, fun a2 E2 sE2 gE2 => ⟨_, gE2, by simp, ?_, fun a3 E3 sE3 gE3 => ?_⟩⟩⟩
    . cases hb : decide (wd = "kept") <;> simp
    refine ⟨_, _, sE3 _ _ (sE2 _ _ gE1), gE3, by simp; split <;> simp, fun a4 E4 sE4 gE4 => ?_⟩
    have sE := ((sE1.trans sE2).trans sE3).trans sE4
    have hck : wd = "came" ∨ wd = "kept" := by
      rcases hwd with h | h | h | h | h | h
      . exact .inl h
      . exact absurd h hdo
      . exact absurd h hask
      . exact .inr h
      . exact absurd h hhas
      . exact absurd h hnx
    rcases hck with rfl | rfl
    . have : decide (("came" : Str) = "kept") = false := by decide +kernel
      rw [this] at gE4; exact fin sE gE4 (.came n t zs[i] ks[j] xs (by omega) n9 (by omega) nmi kyj dG) (.cons rfl (.cons rfl (.cons rfl (.cons rfl (.cons rfl (.cons ⟨td, rfl, sE _ _ gD7⟩ .nil))))))
    . have : decide (("kept" : Str) = "kept") = true := by decide +kernel
      rw [this] at gE4; exact fin sE gE4 (.kept n t zs[i] ks[j] xs ys (by omega) n9 (by omega) nmi kyj dG aG) (.cons rfl (.cons rfl (.cons rfl (.cons rfl (.cons rfl (.cons ⟨td, rfl, sE _ _ gD7⟩ (.cons ⟨ta, rfl, sE _ _ gA7⟩ .nil)))))))
end
end KL
namespace KL
open PySem L2
section
variable {P : Program} {w : World} {K : W.Frag} {mg : Str -> Option Value} {base : Heap}
def Dp : Nat -> Hp -> V -> Prop
  | 0, H, x => Pc H x /\ partsV H x = none
  | d + 1, H, x => (Pc H x /\ partsV H x = none) ∨ ∃ a xs, x = .ref a /\ H a = some (.tup xs) /\ xs.length <= 10 + d /\ ∀ y ∈ xs, Dp d H y
theorem Dp.of0 {H : Hp} {x : V} (h : Pc H x /\ partsV H x = none) : ∀ d, Dp d H x
  | 0 => h
  | _ + 1 => .inl h
theorem Dp.up {H : Hp} : ∀ {d : Nat} {x : V}, Dp d H x -> Dp (d + 1) H x
  | 0, x, h => .inl h
  | d + 1, x, h => by
    rcases h with h | ⟨a, xs, e, g, l, hy⟩
    . exact .inl h
    . exact .inr ⟨a, xs, e, g, by omega, fun y h => (hy y h).up⟩
theorem Dp.pc {H : Hp} : ∀ {d : Nat} {x : V}, Dp d H x -> Pc H x
  | 0, x, h => h.1
  | d + 1, x, h => by
    rcases h with h | ⟨a, xs, rfl, g, l, hy⟩
    . exact h.1
    . exact .tup g
theorem Dp.parts {H : Hp} {d : Nat} {a : Addr} {xs : List V} (h : Dp d H (.ref a)) (g : H a = some (.tup xs)) : ∃ e, d = e + 1 /\ xs.length <= 10 + e /\ ∀ y ∈ xs, Dp e H y := by
  have e0 := partsV_tup g
  cases d with
  | zero => have := h.2; rw [e0] at this; cases this
  | succ d =>
    rcases h with h | ⟨b, ys, e, g', l, hy⟩
    . have := h.2; rw [e0] at this; cases this
    . cases e; rw [g] at g'; cases g'; exact ⟨d, rfl, l, hy⟩
theorem Dp.tg {H : Hp} {d : Nat} {x : V} (h : Dp d H x) (hd : d <= 9) : Tg H x := by
  refine ⟨h.pc, fun a xs e g => ?_⟩
  subst e; obtain ⟨e, rfl, l, hy⟩ := h.parts g
  exact ⟨by omega, fun y h => (hy y h).pc⟩
theorem Dp.tz {H : Hp} {d : Nat} {x : V} (h : Dp d H x) (hd : d <= 9) : Tz H x := by
  refine ⟨h.pc, fun a xs e g => ?_⟩
  subst e; obtain ⟨e, rfl, l, hy⟩ := h.parts g
  exact ⟨by omega, fun y h => (hy y h).tg (by omega)⟩
theorem none_same {H H' : Hp} {x : V} (s : Same H H') (h : Pc H x /\ partsV H x = none) : Pc H' x /\ partsV H' x = none := ⟨h.1.same s, by rw [partsV_same s h.1]; exact h.2⟩
theorem Dp.same {H H' : Hp} (s : Same H H') : ∀ {d : Nat} {x : V}, Dp d H x -> Dp d H' x
  | 0, x, h => none_same s h
  | d + 1, x, h => by
    rcases h with h | ⟨a, xs, e, g, l, hy⟩
    . exact .inl (none_same s h)
    . exact .inr ⟨a, xs, e, s _ _ g, l, fun y h => (hy y h).same s⟩
theorem none_pen {H H' : Hp} {p : Addr} {x : V} (k : K1 p H H') (pn : PenAt H p) (pn' : PenAt H' p) (h : Pc H x /\ partsV H x = none) : Pc H' x /\ partsV H' x = none := by
  obtain ⟨h, h0⟩ := h
  rcases h with ⟨hf, hz⟩ | ⟨a, ys, rfl, h | h⟩ | ⟨a, kvs, rfl, h⟩
  . refine ⟨.inl ⟨hf, hz⟩, ?_⟩
    cases x <;> first | rfl | cases hf
  . by_cases e : a = p
    . subst e; obtain ⟨i, j, g, _⟩ := pn'
      exact ⟨.lst g, by unfold partsV; dsimp only; rw [g]⟩
    . have g := k _ _ h e
      exact ⟨.lst g, by unfold partsV; dsimp only; rw [g]⟩
  . rw [partsV_tup h] at h0; cases h0
  . have e : a ≠ p := fun e => by
      subst e; obtain ⟨i, j, g, _⟩ := pn
      rw [h] at g; cases g
    have g := k _ _ h e
    exact ⟨.dct g, by unfold partsV; dsimp only; rw [g]⟩
theorem Dp.pen {H H' : Hp} {p : Addr} (k : K1 p H H') (pn : PenAt H p) (pn' : PenAt H' p) : ∀ {d : Nat} {x : V}, Dp d H x -> Dp d H' x
  | 0, x, h => none_pen k pn pn' h
  | d + 1, x, h => by
    rcases h with h | ⟨a, xs, e, g, l, hy⟩
    . exact .inl (none_pen k pn pn' h)
    . exact .inr ⟨a, xs, e, k _ _ g (PenAt.tup pn g), l, fun y h => (hy y h).pen k pn pn'⟩
theorem Dp.flat {H : Hp} {x : V} (d : Nat) (h : flatV x = true) (hz : ∀ z, x = .str z -> z.length <= 1000) : Dp d H x := .of0 ⟨.inl ⟨h, hz⟩, by cases x <;> first | rfl | cases h⟩ d
theorem Dp.lst {H : Hp} {a : Addr} {ys : List V} (d : Nat) (h : H a = some (.lst ys)) : Dp d H (.ref a) := .of0 ⟨.lst h, by unfold partsV; dsimp only; rw [h]⟩ d
theorem Dp.dct {H : Hp} {a : Addr} {ys : List (Key × V)} (d : Nat) (h : H a = some (.dK ys)) : Dp d H (.ref a) := .of0 ⟨.dct h, by unfold partsV; dsimp only; rw [h]⟩ d
def sml (x : V) : Bool := match x with | .non => true | .bl _ => true | .int _ => true | .str z => decide (z.length <= 1000) | _ => false
theorem Dp.sml {H : Hp} {x : V} (d : Nat) (h : sml x = true) : Dp d H x := by
  cases x with
  | non => exact .flat d rfl (fun z e => by cases e)
  | bl b => exact .flat d rfl (fun z e => by cases e)
  | int b => exact .flat d rfl (fun z e => by cases e)
  | str z => exact .flat d rfl (fun z' e => by cases e; exact of_decide_eq_true h)
  | _ => cases h
theorem Dp.smls {H : Hp} {xs : List V} (d : Nat) (h : xs.all KL.sml = true) : ∀ y ∈ xs, Dp d H y := fun y hy => .sml d (List.all_eq_true.mp h y hy)
theorem Dp.tup {H : Hp} {a : Addr} {xs : List V} {d : Nat} (g : H a = some (.tup xs)) (hl : xs.length <= 10 + d) (h : ∀ y ∈ xs, Dp d H y) : Dp (d + 1) H (.ref a) := .inr ⟨a, xs, rfl, g, hl, h⟩
theorem Dp.tsm {H : Hp} {a : Addr} {xs : List V} (d : Nat) (g : H a = some (.tup xs)) (hl : xs.length <= 3) (h : xs.all KL.sml = true) : Dp (d + 1) H (.ref a) := .tup g (by omega) (.smls d h)
def spOdd : Sp := fun vs H Q _ => ∃ p x d, vs = [.ref p, x] /\ PenAt H p /\ Dp d H x /\ ∀ y H', Dp (d + 1) H' y -> PenAt H' p -> K1 p H H' -> Q y H'
theorem ok_odd (T : Txt K mg) (cLwhole : Callee P w K mg base 1 "_law_whole" ["_law_thing", "_law_least", "_law_most"] spWhole) (cLtake : Callee P w K mg base 1 "_law_take" ["_law_pen_here", "_law_most"] spTake) (D : DefAt K mg "_law_odd" s_law_odd ["_law_pen_here", "_law_thing"]) : Callee P w K mg base 2 "_law_odd" ["_law_pen_here", "_law_thing"] spOdd := by
  refine D.go sc_law_odd (fun vs H Q E h => ?_) (fun f cdv A outer s H vs Q E hr h => ?_)
  . obtain ⟨p, x, d, rfl, _⟩ := h; rfl
  . obtain ⟨p, x, d, rfl, pn, dx, q⟩ := h
    have hLwhole := hr
    have hLtake := hr
    have pw : ∀ {i j : Int}, i = 10 -> j = 6 ∨ j = 12 ∨ j = 13 -> CPow i j := fun e h => by rcases h with rfl | rfl | rfl <;> (subst e; exact ⟨by decide, by decide, by decide⟩)
    refine ⟨_, (R.scons (R.set (i := 2) sc_law_odd.nd (R.lst (R.cons R.non (R.cons R.bl (R.cons R.bl (R.cons R.int (R.cons R.int (R.cons (R.neg R.int) (R.cons R.int (R.cons (R.op R.pow R.int R.int) (R.cons (R.op R.add (R.op R.pow R.int R.int) R.int) (R.cons (R.op R.sub (R.op R.pow R.int R.int) R.int) (R.cons (R.op R.pow R.int R.int) (R.cons (R.op R.add (R.op R.pow R.int R.int) R.int) (R.cons R.str (R.cons R.str R.nil)))))))))))))))) (R.scons (R.set (i := 2) sc_law_odd.nd (R.op R.cat (R.v 2) (R.lst (R.cons R.str (R.cons R.str (R.cons R.str (R.cons R.str (R.cons R.str (R.cons R.str (R.cons R.str (R.cons R.str (R.cons R.str (R.cons R.str (R.cons R.str (R.cons R.str R.nil))))))))))))))) (R.scons (R.set (i := 2) sc_law_odd.nd (R.op R.cat (R.v 2) (R.lst (R.cons R.str (R.cons R.str (R.cons R.str (R.cons R.str (R.cons R.str (R.cons (R.wtup R.nil) (R.cons (R.lst R.nil) (R.cons R.dnew (R.cons (R.wtup (R.cons R.str R.nil)) (R.cons (R.wtup (R.cons R.str (R.cons R.str R.nil))) (R.cons (R.wtup (R.cons R.str (R.cons R.int R.nil))) (R.cons (R.wtup (R.cons R.str (R.cons R.int (R.cons R.int R.nil)))) R.nil))))))))))))))) (R.scons (R.set (i := 2) sc_law_odd.nd (R.op R.cat (R.v 2) (R.lst (R.cons (R.wtup (R.cons R.str (R.cons R.int R.nil))) (R.cons (R.wtup (R.cons R.str (R.cons (R.op R.pow R.int R.int) R.nil))) (R.cons (R.wtup (R.cons R.str (R.cons R.str (R.cons R.int R.nil)))) (R.cons (R.lst (R.cons R.str (R.cons R.str (R.cons R.int R.nil)))) (R.cons (R.wtup (R.cons (R.v 1) R.nil)) R.nil)))))))) (R.scons (R.ife (R.val (R.fn cLwhole hLwhole rfl (R.cons (R.v 1) (R.cons (R.neg R.int) (R.cons (R.op R.pow R.int R.int) R.nil))))) (R.sone (R.ret (R.ix (R.kiL (K := K)) (R.lst (R.cons (R.op R.add (R.v 1) R.int) (R.cons (R.op R.sub (R.v 1) R.int) (R.cons (R.ix (R.kiL (K := K)) (R.v 2) (R.fn cLtake hLtake rfl (R.cons (R.v 0) (R.cons (R.callB (R.klenL (K := K)) rfl T.b_len bb_len (R.cons (R.v 2) R.nil)) R.nil)))) R.nil)))) (R.fn cLtake hLtake rfl (R.cons (R.v 0) (R.cons R.int R.nil)))))) R.snil) (R.sone (R.ret (R.ix (R.kiL (K := K)) (R.v 2) (R.fn cLtake hLtake rfl (R.cons (R.v 0) (R.cons (R.callB (R.klenL (K := K)) rfl T.b_len bb_len (R.cons (R.v 2) R.nil)) R.nil))))))))))), ?_⟩
    refine cutS (t := tAsg _ _) (fun σ' H' => ∃ l vs, σ' = [some (.ref p), some x, some (.ref l)] /\ H' l = some (.lst vs) /\ vs.length = 14 /\ (∀ y ∈ vs, Dp (d + 1) H' y) /\ Same H H') (fun nx hnx => ?_) (fun σ1 H1 ⟨l1, v1, e1, g1, n1, d1, s1⟩ => ?_)
    . refine ⟨pw rfl (.inl rfl), pw rfl (.inl rfl), pw rfl (.inr (.inl rfl)), pw rfl (.inr (.inl rfl)), pw rfl (.inr (.inl rfl)), szl rfl, fun l hl => hnx _ _ ⟨l, _, rfl, upd_same, rfl, .smls _ (by decide +kernel), same_upd hl⟩⟩
    subst e1; dsimp only [tSeq]; refine cutS (t := tAsg _ _) (fun σ' H' => ∃ l vs, σ' = [some (.ref p), some x, some (.ref l)] /\ H' l = some (.lst vs) /\ vs.length = 26 /\ (∀ y ∈ vs, Dp (d + 1) H' y) /\ Same H H') (fun nx hnx => ?_) (fun σ2 H2 ⟨l2, v2, e2, g2, n2, d2, s2⟩ => ?_)
    . refine ⟨szl rfl, fun l hl => ⟨v1, _, at_upd g1 hl, upd_same, szl' (by rw [n1]; decide), fun l' hl' => hnx _ _ ⟨l', _, rfl, upd_same, by rw [Zla, n1]; rfl, ?_, (s1.trans (same_upd hl)).trans (same_upd hl')⟩⟩⟩
      refine List.forall_mem_append.mpr ⟨fun y hy => ((d1 y hy).same (same_upd hl)).same (same_upd hl'), .smls _ (by decide +kernel)⟩
    subst e2; dsimp only [tSeq]; refine cutS (t := tAsg _ _) (fun σ' H' => ∃ l vs, σ' = [some (.ref p), some x, some (.ref l)] /\ H' l = some (.lst vs) /\ vs.length = 38 /\ (∀ y ∈ vs, Dp (d + 1) H' y) /\ Same H H') (fun nx hnx => ?_) (fun σ3 H3 ⟨l3, v3, e3, g3, n3, d3, s3⟩ => ?_)
    . refine ⟨by simp, fun t1 G1 r1 f1 => ⟨szl rfl, fun t2 f2 => fun t3 f3 => ⟨by simp, fun t4 G4 r4 f4 => ⟨by simp, fun t5 G5 r5 f5 => ⟨by simp, fun t6 G6 r6 f6 => ⟨by simp, fun t7 G7 r7 f7 => ⟨szl rfl, fun t8 f8 => ⟨v2, _, ?_, upd_same, szl' (by rw [n2]; exact Nat.le_of_ble_eq_true rfl), fun l' hl' => hnx _ _ ⟨l', _, rfl, upd_same, by rw [Zla, n2]; rfl, ?_, ?_⟩⟩⟩⟩⟩⟩⟩⟩⟩
      . have s := ((((((r1.trans (same_upd (o := .lst []) f2)).trans (same_upd (o := .dK []) f3)).trans r4).trans r5).trans r6).trans r7)
        exact same_upd f8 _ _ (s _ _ g2)
      . have sE := (same_upd (o := .lst [V.str "kept", .str "came", .str "asked", .str "done", .str "=", .ref t1, .ref t2, .ref t3, .ref t4, .ref t5, .ref t6, .ref t7]) f8).trans (same_upd (o := .lst (v2 ++ [V.str "kept", .str "came", .str "asked", .str "done", .str "=", .ref t1, .ref t2, .ref t3, .ref t4, .ref t5, .ref t6, .ref t7])) hl')
        have q7 := r7.trans sE
        have q6 := r6.trans q7
        have q5 := r5.trans q6
        have q4 := r4.trans q5
        have q3 := (same_upd (o := .dK []) f3).trans q4
        have q2 := (same_upd (o := .lst []) f2).trans q3
        refine List.forall_mem_append.mpr ⟨fun y hy => (d2 y hy).same (r1.trans q2), ?_⟩
        refine Zfm.mpr ⟨.sml _ (by decide +kernel), Zfm.mpr ⟨.sml _ (by decide +kernel), Zfm.mpr ⟨.sml _ (by decide +kernel), Zfm.mpr ⟨.sml _ (by decide +kernel), Zfm.mpr ⟨.sml _ (by decide +kernel), ?_⟩⟩⟩⟩⟩
        refine Zfm.mpr ⟨.tsm d (q2 _ _ f1) (by simp) rfl, Zfm.mpr ⟨.lst _ (q3 _ _ upd_same), Zfm.mpr ⟨.dct _ (q4 _ _ upd_same), Zfm.mpr ⟨.tsm d (q5 _ _ f4) (by simp) (by decide +kernel), Zfm.mpr ⟨.tsm d (q6 _ _ f5) (by simp) (by decide +kernel), Zfm.mpr ⟨.tsm d (q7 _ _ f6) (by simp) (by decide +kernel), Zfm.mpr ⟨.tsm d (sE _ _ f7) (by simp) (by decide +kernel), fun _ h => nomatch h⟩⟩⟩⟩⟩⟩⟩
      . exact (s2.trans ((((((r1.trans (same_upd (o := .lst []) f2)).trans (same_upd (o := .dK []) f3)).trans r4).trans r5).trans r6).trans r7)).trans ((same_upd f8).trans (same_upd hl'))
    subst e3; dsimp only [tSeq]; refine cutS (t := tAsg _ _) (fun σ' H' => ∃ l vs, σ' = [some (.ref p), some x, some (.ref l)] /\ H' l = some (.lst vs) /\ vs.length = 43 /\ (∀ y ∈ vs, Dp (d + 1) H' y) /\ Same H H' /\ l ≠ p) (fun nx hnx => ?_) (fun σ4 H4 ⟨l4, v4, e4, g4, n4, d4, s4, ne4⟩ => ?_)
    . refine ⟨by simp, fun t1 G1 r1 f1 => ⟨pw rfl (.inr (.inl rfl)), by simp, fun t2 G2 r2 f2 => ⟨by simp, fun t3 G3 r3 f3 => ⟨szl rfl, fun t4 f4 => ⟨by simp, fun t5 G5 r5 f5 => ⟨szl rfl, fun t6 f6 => ⟨v3, _, ?_, upd_same, szl' (by rw [n3]; exact Nat.le_of_ble_eq_true rfl), fun l' hl' => hnx _ _ ⟨l', _, rfl, upd_same, by rw [Zla, n3]; rfl, ?_, ?_, ?_⟩⟩⟩⟩⟩⟩⟩⟩
      . exact same_upd f6 _ _ (r5 _ _ (same_upd f4 _ _ (r3 _ _ (r2 _ _ (r1 _ _ g3)))))
      . have sE := (same_upd (o := .lst [V.ref t1, .ref t2, .ref t3, .ref t4, .ref t5]) f6).trans (same_upd (o := .lst (v3 ++ [V.ref t1, .ref t2, .ref t3, .ref t4, .ref t5])) hl')
        have q5 := r5.trans sE
        have q4 := (same_upd (o := .lst [V.str "add", .str "a", .int 1]) f4).trans q5
        have q3 := r3.trans q4
        have q2 := r2.trans q3
        refine List.forall_mem_append.mpr ⟨fun y hy => (d3 y hy).same (r1.trans q2), ?_⟩
        refine Zfm.mpr ⟨.tsm d (q2 _ _ f1) (by simp) (by decide +kernel), Zfm.mpr ⟨.tsm d (q3 _ _ f2) (by simp) (by decide +kernel), Zfm.mpr ⟨.tsm d (q4 _ _ f3) (by simp) (by decide +kernel), Zfm.mpr ⟨.lst _ (q5 _ _ upd_same), Zfm.mpr ⟨.tup (sE _ _ f5) (by rw [List.length_singleton]; omega) (fun y hy => ?_), fun _ h => nomatch h⟩⟩⟩⟩⟩
        rw [Zms.mp hy]; exact (dx.same s3).same (r1.trans q2)
      . exact s3.trans ((r1.trans (r2.trans (r3.trans ((same_upd f4).trans r5)))).trans ((same_upd f6).trans (same_upd hl')))
      . exact (((pn.same s3).same (r1.trans (r2.trans (r3.trans ((same_upd f4).trans r5))))).same (same_upd f6)).ne hl'
    subst e4; dsimp only [tSeq]; have pn4 := pn.same s4
    refine ⟨pw rfl (.inr (.inr rfl)), x, -1, _, rfl, (dx.same s4).pc.pt, fun H5 s5 => ?_⟩
    have s45 := s4.trans s5
    have pn5 := pn4.same s5
    have g5 := s5 _ _ g4
    show if numV (-1) ((10 : Int) ^ (13 : Int).toNat) x = true then _ else _
    refine if_b (fun h1 => ?_) (fun h1 => ?_)
    . obtain ⟨n, rfl, _, _⟩ := numV_iff.mp h1
      refine ⟨_, .inl (SqL.of g5), p, _, rfl, pn5, by rw [n4]; decide, by rw [n4]; decide, fun r G6 r0 r1 pn6 k6 => ?_⟩
      rw [n4] at r1; obtain ⟨i, rfl⟩ := Zio r0
      have hi : i < v4.length := by omega
      have g6 := k6 _ _ g5 ne4
      refine ⟨_, SqL.of g6, v4[i], atI_nat (Zge hi), szl rfl, fun l7 h7 => ⟨p, 3, rfl, pn6.same (same_upd h7), by decide, by decide, fun r' G8 r0' r1' pn8 k8 => ⟨_, SqL.of (k8 _ _ upd_same (pn6.ne h7)), ?_⟩⟩⟩
      have dv : Dp (d + 1) G8 v4[i] := ((((d4 _ (List.getElem_mem hi)).same s5).pen k6 pn5 pn6).same (same_upd h7)).pen k8 (pn6.same (same_upd h7)) pn8
      have kk : K1 p H G8 := ((K1.of s45).trans k6).trans ((K1.of (same_upd h7)).trans k8)
      have c3 : r' = 0 ∨ r' = 1 ∨ r' = 2 := by omega
      rcases c3 with rfl | rfl | rfl
      . exact ⟨_, atI_nat (j := 0) rfl, q _ _ (.sml _ rfl) pn8 kk⟩
      . exact ⟨_, atI_nat (j := 1) rfl, q _ _ (.sml _ rfl) pn8 kk⟩
      . exact ⟨_, atI_nat (j := 2) rfl, q _ _ dv pn8 kk⟩
    . dsimp only [tNext]; refine ⟨_, .inl (SqL.of g5), p, _, rfl, pn5, by rw [n4]; decide, by rw [n4]; decide, fun r G6 r0 r1 pn6 k6 => ?_⟩
      rw [n4] at r1; obtain ⟨i, rfl⟩ := Zio r0
      have hi : i < v4.length := by omega
      have g6 := k6 _ _ g5 ne4
      exact ⟨_, SqL.of g6, v4[i], atI_nat (Zge hi), q _ _ (((d4 _ (List.getElem_mem hi)).same s5).pen k6 pn5 pn6) pn6 ((K1.of s45).trans k6)⟩
end
end KL
namespace KL
open PySem L2
section
variable {P : Program} {w : World} {K : W.Frag} {mg : Str -> Option Value} {base : Heap}
def spSpoil (d : Nat) : Sp := fun vs H Q _ => ∃ p x, vs = [.ref p, x] /\ PenAt H p /\ Dp d H x /\ ∀ y H', Dp (d + 1) H' y -> PenAt H' p -> K1 p H H' -> Q y H'
theorem Callee.no {x : Str} {st : Stmt} {N ps : List Str} {k : Nat} (D : DefAt K mg x st ps) (S : FnScope N ps (defScope st)) : Callee P w K mg base (k + 1) x ps (fun _ _ _ _ => False) :=
  D.go S (fun _ _ _ _ h => h.elim) (fun _ _ _ _ _ _ _ _ _ _ h => h.elim)
theorem ok_spoil_step (T : Txt K mg) (cLtake : Callee P w K mg base 1 "_law_take" ["_law_pen_here", "_law_most"] spTake) (cLodd : Callee P w K mg base 2 "_law_odd" ["_law_pen_here", "_law_thing"] spOdd) (D : DefAt K mg "_law_spoiled" s_law_spoiled ["_law_pen_here", "_law_thing"]) {k : Nat} {sp : Sp} (cLspoiled : Callee P w K mg base (k + 2) "_law_spoiled" ["_law_pen_here", "_law_thing"] sp) (d : Nat) (hd : d <= 5)
    (hsp : ∀ e, d = e + 1 -> ∀ p x H Q E, PenAt H p -> Dp e H x -> (∀ y H', Dp (e + 1) H' y -> PenAt H' p -> K1 p H H' -> Q y H') -> sp [.ref p, x] H Q E) : Callee P w K mg base (k + 3) "_law_spoiled" ["_law_pen_here", "_law_thing"] (spSpoil d) := by
  refine D.go sc_law_spoiled (fun vs H Q E h => ?_) (fun f cdv A outer s H vs Q E hr h => ?_)
  . obtain ⟨p, x, rfl, _⟩ := h; rfl
  . obtain ⟨p, x, rfl, pn, dx, q⟩ := h
    have hLspoiled := hr
    have hLodd : Room 2 _ := hr.mono (by omega)
    have hLtake : Room 1 _ := hr.mono (by omega)
    have hu64 := hr.units
    refine ⟨_, (R.scons (R.ife (R.tw (R.wor (R.tnot (R.val (R.isi .tup (R.v 1) rfl T.b_isinstance rfl T.b_tuple bb_tuple))) (R.wor (R.tcmp (R.eqF hu64) (R.v 1) (R.wtup R.nil)) (R.wor1 (R.tcmp R.eq (R.fn cLtake hLtake rfl (R.cons (R.v 0) (R.cons R.int R.nil))) R.int))))) (R.sone (R.ret (R.fn cLodd hLodd rfl (R.cons (R.v 0) (R.cons (R.v 1) R.nil))))) R.snil) (R.scons (R.set (i := 2) sc_law_spoiled.nd (R.fn cLtake hLtake rfl (R.cons (R.v 0) (R.cons (R.callB (R.klenL (K := K)) rfl T.b_len bb_len (R.cons (R.v 1) R.nil)) R.nil)))) (R.scons (R.set (i := 3) sc_law_spoiled.nd (R.fn cLtake hLtake rfl (R.cons (R.v 0) (R.cons R.int R.nil)))) (R.scons (R.ife (R.tcmp R.eq (R.v 3) R.int) (R.sone (R.ret (R.op R.catT (R.sl R.sT (R.v 1) R.pn (R.ps (R.v 2))) (R.sl R.sT (R.v 1) (R.ps (R.op R.add (R.v 2) R.int)) R.pn)))) R.snil) (R.scons (R.ife (R.tcmp R.eq (R.v 3) R.int) (R.sone (R.ret (R.op R.catT (R.op R.catT (R.sl R.sT (R.v 1) R.pn (R.ps (R.v 2))) (R.wtup (R.cons (R.ix (R.kiT (K := K)) (R.v 1) (R.v 2)) R.nil))) (R.sl R.sT (R.v 1) (R.ps (R.v 2)) R.pn)))) R.snil) (R.scons (R.ife (R.tcmp R.eq (R.v 3) R.int) (R.sone (R.ret (R.callTy (R.ktoList (K := K)) rfl T.b_list bb_list (R.cons (R.v 1) R.nil)))) R.snil) (R.sone (R.ret (R.op R.catT (R.op R.catT (R.sl R.sT (R.v 1) R.pn (R.ps (R.v 2))) (R.wtup (R.cons (R.fn cLspoiled hLspoiled rfl (R.cons (R.v 0) (R.cons (R.ix (R.kiT (K := K)) (R.v 1) (R.v 2)) R.nil))) R.nil))) (R.sl R.sT (R.v 1) (R.ps (R.op R.add (R.v 2) R.int)) R.pn)))))))))), ?_⟩
    refine cutT (t := tOr _ _) (fun v H' => PenAt H' p /\ K1 p H H' /\ Dp d H' x /\ (v = false -> ∃ a ys, x = .ref a /\ H' a = some (.tup ys) /\ ys ≠ [])) (fun kk hkk => ?_) (fun v H1 ⟨pn1, k1, dx1, hv⟩ => ?_)
    . obtain ⟨kx, hk⟩ := dx.pc.kd
      refine ⟨kx, hk, ?_⟩
      rcases tup_case dx.pc hk with ⟨e1, e2⟩ | ⟨a, ys, rfl, ga, rfl⟩
      . refine if_t (c := !isK .tup kx) (by rw [e1]; rfl) ?_
        exact hkk _ _ ⟨pn, fun _ _ h _ => h, dx, fun e => nomatch e⟩
      refine ⟨by simp, fun t0 H0 s0 g0 => ⟨ys, [], s0 _ _ ga, g0, fun j u v h1 h2 => by simp at h2, ?_⟩⟩
      rw [eqTup_nil]; cases ys with
      | nil => exact hkk _ _ ⟨pn.same s0, K1.of s0, dx.same s0, fun e => nomatch e⟩
      | cons y r =>
        refine ⟨p, 5, rfl, pn.same s0, by decide, by decide, fun r' H1 r0 r1 pn1 k1 => hkk _ _ ⟨pn1, (K1.of s0).trans k1, (dx.same s0).pen k1 (pn.same s0) pn1, fun _ => ⟨a, _, rfl, k1 _ _ (s0 _ _ ga) (PenAt.tup (pn.same s0) (s0 _ _ ga)), by simp⟩⟩⟩
    refine if_b (fun h1 => ?_) (fun h1 => ?_)
    . exact ⟨p, x, d, rfl, pn1, dx1, fun y H' dy pn' k' => q y H' dy pn' (k1.trans k')⟩
    obtain ⟨a, ys, rfl, ga, hne⟩ := hv h1
    obtain ⟨e, rfl, hl, hy⟩ := dx1.parts ga
    have hpos : 0 < ys.length := List.length_pos_iff.mpr hne
    dsimp only [tNext]; refine ⟨_, .inr (SqT.of ga), p, _, rfl, pn1, by omega, by omega, fun r H2 r0 r1 pn2 k2 => ?_⟩
    obtain ⟨i, rfl⟩ := Zio r0
    have hi : i < ys.length := by omega
    dsimp only [gName]; refine ⟨p, 8, rfl, pn2, by decide, by decide, fun r' H3 r0' r1' pn3 k3 => ?_⟩
    dsimp only [gName]; have ga3 := k3 _ _ (k2 _ _ ga (PenAt.tup pn1 ga)) (PenAt.tup pn2 (k2 _ _ ga (PenAt.tup pn1 ga)))
    have k03 := (k1.trans k2).trans k3
    have hy3 : ∀ y ∈ ys, Dp e H3 y := fun y h => ((hy y h).pen k2 pn1 pn2).pen k3 pn2 pn3
    show if decide (r' = 0) = true then _ else _
    refine if_b (fun h2 => ?_) (fun h2 => ?_)
    . refine ⟨_, ga3, fun p1 G1 s1 g1 => ⟨_, s1 _ _ ga3, fun p2 G2 s2 g2 => ⟨_, _, s2 _ _ g1, g2, ?_, fun p3 G3 s3 g3 => ?_⟩⟩⟩
      . have := cut_len ys none (some (i : Int)); have := cut_len ys (some ((i : Int) + 1)) none; omega
      . have s := (s1.trans s2).trans s3
        refine q _ _ (.tup g3 ?_ (fun y h => ?_)) (pn3.same s) (k03.trans (K1.of s))
        . have e2 : ((i : Int) + 1) = ((i + 1 : Nat) : Int) := by omega
          rw [e2, L2.cut_to, L2.cut_from, Zla, Zlk, List.length_drop]; omega
        . rcases Zma.mp h with h | h
          . exact ((hy3 y (cut_mem h)).same s).up
          . exact ((hy3 y (cut_mem h)).same s).up
    dsimp only [tNext]; show if decide (r' = 1) = true then _ else _
    refine if_b (fun h3 => ?_) (fun h3 => ?_)
    . refine ⟨_, ga3, fun p1 G1 s1 g1 => ⟨_, SqT.of (s1 _ _ ga3), ys[i], atI_nat (Zge hi), by simp, fun p2 G2 s2 g2 => ⟨_, _, s2 _ _ g1, g2, ?_, fun p3 G3 s3 g3 => ⟨_, s3 _ _ (s2 _ _ (s1 _ _ ga3)), fun p4 G4 s4 g4 => ⟨_, _, s4 _ _ g3, g4, ?_, fun p5 G5 s5 g5 => ?_⟩⟩⟩⟩⟩
      . have := cut_len ys none (some (i : Int)); rw [List.length_singleton]; omega
      . have := cut_len ys none (some (i : Int)); have := cut_len ys (some (i : Int)) none; rw [Zla, List.length_singleton]; omega
      . have s := (((s1.trans s2).trans s3).trans s4).trans s5
        refine q _ _ (.tup g5 ?_ (fun y h => ?_)) (pn3.same s) (k03.trans (K1.of s))
        . rw [L2.cut_to, L2.cut_from, Zla, Zla, Zlk, List.length_drop, List.length_singleton]; omega
        . have my : y ∈ ys := by
            rcases Zma.mp h with h | h
            . rcases Zma.mp h with h | h
              . exact cut_mem h
              . rw [Zms.mp h]; exact List.getElem_mem hi
            . exact cut_mem h
          exact ((hy3 y my).same s).up
    dsimp only [tNext]; show if decide (r' = 2) = true then _ else _
    refine if_b (fun h4 => ?_) (fun h4 => ?_)
    . exact ⟨_, .inr (SqT.of ga3), fun l hl' => q _ _ (.lst _ upd_same) (pn3.same (same_upd hl')) (k03.trans (K1.of (same_upd hl')))⟩
    dsimp only [tNext]; refine ⟨_, ga3, fun p1 G1 s1 g1 => ⟨_, SqT.of (s1 _ _ ga3), ys[i], atI_nat (Zge hi), hsp e rfl p _ _ _ _ (pn3.same s1) ((hy3 _ (List.getElem_mem hi)).same s1) fun z G2 dz pn4 k4 => ⟨by simp, fun p2 G3 s3 g3 => ⟨_, _, s3 _ _ (k4 _ _ g1 (PenAt.tup (pn3.same s1) g1)), g3, ?_, fun p3 G4 s4 g4 => ⟨_, s4 _ _ (s3 _ _ (k4 _ _ (s1 _ _ ga3) (PenAt.tup (pn3.same s1) (s1 _ _ ga3)))), fun p5 G5 s5 g5 => ⟨_, _, s5 _ _ g4, g5, ?_, fun p6 G6 s6 g6 => ?_⟩⟩⟩⟩⟩⟩
    . have := cut_len ys none (some (i : Int)); rw [List.length_singleton]; omega
    . have := cut_len ys none (some (i : Int)); have := cut_len ys (some ((i : Int) + 1)) none; rw [Zla, List.length_singleton]; omega
    . have s := ((s3.trans s4).trans s5).trans s6
      refine q _ _ (.tup g6 ?_ (fun y h => ?_)) (pn4.same s) (((k03.trans (K1.of s1)).trans k4).trans (K1.of s))
      . have e2 : ((i : Int) + 1) = ((i + 1 : Nat) : Int) := by omega
        rw [e2, L2.cut_to, L2.cut_from, Zla, Zla, Zlk, List.length_drop, List.length_singleton]; omega
      . have old : ∀ y ∈ ys, Dp (e + 1) G6 y := fun y my => ((((hy3 y my).same s1).pen k4 (pn3.same s1) pn4).same s).up
        rcases Zma.mp h with h | h
        . rcases Zma.mp h with h | h
          . exact old y (cut_mem h)
          . rw [Zms.mp h]; exact dz.same s
        . exact old y (cut_mem h)
theorem ok_spoil (T : Txt K mg) (cLtake : Callee P w K mg base 1 "_law_take" ["_law_pen_here", "_law_most"] spTake) (cLodd : Callee P w K mg base 2 "_law_odd" ["_law_pen_here", "_law_thing"] spOdd) (D : DefAt K mg "_law_spoiled" s_law_spoiled ["_law_pen_here", "_law_thing"]) : ∀ d, d <= 5 -> Callee P w K mg base (d + 3) "_law_spoiled" ["_law_pen_here", "_law_thing"] (spSpoil d)
  | 0, hd => ok_spoil_step T cLtake cLodd D (Callee.no D sc_law_spoiled (k := 1)) 0 hd (fun _ e => nomatch e)
  | d + 1, hd => ok_spoil_step T cLtake cLodd D (ok_spoil T cLtake cLodd D d (by omega)) (d + 1) hd (fun e he p x H Q E pn dx q => by
      injection he with he
      subst he; exact ⟨p, x, rfl, pn, dx, q⟩)
def spRight30 : Sp := fun vs H Q _ => ∃ x b, vs = [x, .bl b] /\ Tz H x /\ b = rowV H x /\ ∀ H', Same H H' -> Q (.bl true) H'
theorem ok_right30 (T : Txt K mg) (c_is_row : Callee P w K mg base 7 "is_row" ["thing"] spRowAny) (D : DefAt K mg "_law_right" s_law_right ["_law_thing", "_law_due"]) : Callee P w K mg base 8 "_law_right" ["_law_thing", "_law_due"] spRight30 := by
  refine D.go sc_law_right (fun vs H Q E h => ?_) (fun f cdv A outer s H vs Q E hr h => ?_)
  . obtain ⟨x, b, rfl, _⟩ := h; rfl
  . obtain ⟨x, b, rfl, tz, eb, q⟩ := h
    have hr_is_row := hr
    refine ⟨_, (R.scons (R.set (i := 2) sc_law_right.nd (R.fn c_is_row hr_is_row rfl (R.cons (R.v 0) R.nil))) (R.sone (R.ret (R.and (R.isi .bl (R.v 2) rfl T.b_isinstance rfl T.b_bool bb_bool) (R.one (R.cmp R.eq (R.v 2) (R.v 1))))))), ?_⟩
    refine ⟨x, rfl, tz, fun H1 s1 => ?_⟩
    dsimp only [gName]; refine ⟨.bl, trivial, ?_⟩
    rw [eb]; show Q (.bl (decide (rowV H x = rowV H x))) H1
    rw [decide_eq_true rfl]; exact q H1 s1
end
end KL
namespace KL
open PySem L2
section
variable {P : Program} {w : World} {K : W.Frag} {mg : Str -> Option Value} {base : Heap}
def spLaw (K : W.Frag) : Sp := fun vs H Q _ => ∃ (a : Addr) (ns : List Int), vs = [.ref a] /\ SqL K H a (ns.map V.int) /\ ns.length <= 63 /\ ∀ H', Q (.bl true) H'
theorem flDp {H : Hp} {y : V} (d : Nat) (h : FlatW y) : Dp d H y := by
  rcases h with ⟨z, rfl, hl, _⟩ | ⟨m, rfl, _⟩
  . exact .flat d rfl (fun z' e => by cases e; omega)
  . exact .sml d rfl
def RPok (p : RP) : Prop := (∃ v, p = .sc v /\ FlatW v) ∨ ∃ xs, p = .tp xs /\ xs.length <= 10 /\ ∀ y ∈ xs, FlatW y
theorem rpD {xs : List V} (h : DeedG xs) : RPok (.tp xs) := .inr ⟨xs, rfl, by have := h.len; omega, h.flat⟩
theorem rpA {xs : List V} (h : AnsIs xs) : RPok (.tp xs) := .inr ⟨xs, rfl, by have := h.flat.1; omega, h.flat.2⟩
theorem rpR {ps : List RP} (h : RowIs ps) : ps.length <= 7 /\ ∀ p ∈ ps, RPok p := by
  have wd : ∀ {z : Str}, z ∈ ROWW -> z ≠ "=" -> RPok (.sc (.str z)) := fun h1 h2 => .inl ⟨_, rfl, .wd h1 h2⟩
  have nu : ∀ {m : Nat}, m <= 1000000000000 -> RPok (.sc (.int (m : Int))) := fun h => .inl ⟨_, rfl, .num h⟩
  have nm : ∀ {z : Str}, isNm z -> RPok (.sc (.str z)) := fun h => .inl ⟨_, rfl, .nm h⟩
  have ky : ∀ {z : Str}, isKy z -> RPok (.sc (.str z)) := fun h => .inl ⟨_, rfl, .ky h⟩
  have c : ∀ {p : RP} {l : List RP}, RPok p -> (∀ q ∈ l, RPok q) -> ∀ q ∈ p :: l, RPok q := fun h1 h2 => Zfm.mpr ⟨h1, h2⟩
  have e : ∀ q ∈ ([] : List RP), RPok q := fun _ h => nomatch h
  cases h with
  | next n t h1 h2 h3 => exact ⟨by simp, c (wd (by decide +kernel) (by decide +kernel)) (c (nu (by omega)) (c (nu h3) e))⟩
  | has a m h1 h2 h3 => exact ⟨by simp, c (wd (by decide +kernel) (by decide +kernel)) (c (nm h1) (c (nu h3) e))⟩
  | asked n h1 h2 => exact ⟨by simp, c (wd (by decide +kernel) (by decide +kernel)) (c (nu (by omega)) e)⟩
  | done n t xs ys h1 h2 h3 h4 => exact ⟨by simp, c (wd (by decide +kernel) (by decide +kernel)) (c (nu (by omega)) (c (nu h3) (c (rpA h4.is) e)))⟩
  | came n t a k xs h1 h2 h3 h4 h5 h6 => exact ⟨by simp, c (wd (by decide +kernel) (by decide +kernel)) (c (nu (by omega)) (c (nu h3) (c (nm h4) (c (ky h5) (c (rpD h6) e)))))⟩
  | kept n t a k xs ys h1 h2 h3 h4 h5 h6 h7 => exact ⟨by simp, c (wd (by decide +kernel) (by decide +kernel)) (c (nu (by omega)) (c (nu h3) (c (nm h4) (c (ky h5) (c (rpD h6) (c (rpA h7.is) e))))))⟩
theorem rowDp {H : Hp} {a : Addr} {ps : List RP} (h : RowAt H a ps) (hr : RowIs ps) : Dp 2 H (.ref a) := by
  obtain ⟨vs, g, pv⟩ := h
  obtain ⟨hl, hp⟩ := (rpR hr)
  refine .tup g (by rw [<- pv.length]; omega) fun y hy => ?_
  obtain ⟨j, hj, e⟩ := List.mem_iff_getElem.mp hy
  obtain ⟨h1, q1⟩ := Paired.get' (j := j) pv hj
  rw [e] at q1; rcases hp _ (List.getElem_mem h1) with ⟨v, ev, fv⟩ | ⟨xs, ev, lx, fx⟩
  . rw [ev] at q1; cases q1
    exact flDp 1 fv
  . rw [ev] at q1; obtain ⟨b, rfl, gb⟩ := q1
    exact .tup gb (by omega) fun y hy => flDp 0 (fx y hy)
theorem rowPen {H H' : Hp} {p a : Addr} {ps : List RP} (k : K1 p H H') (pn : PenAt H p) (h : RowAt H a ps) : RowAt H' a ps := by
  obtain ⟨vs, g, pv⟩ := h
  refine ⟨vs, k _ _ g (PenAt.tup pn g), Paired.map' (fun q x hq => ?_) pv⟩
  cases q with
  | sc v => exact hq
  | tp xs => obtain ⟨b, e, gb⟩ := hq; exact ⟨b, e, k _ _ gb (PenAt.tup pn gb)⟩
theorem ok_law (T : Txt K mg) (cLpen : Callee P w K mg base 1 "_law_pen" ["_law_cell", "_law_k"] spPen) (cLcell_at : Callee P w K mg base 1 "_law_cell_at" ["_law_script", "_law_k"] (spCell K))
    (cLnames : Callee P w K mg base 2 "_law_names" ["_law_pen_here", "_law_many"] spNames20) (cLkeys : Callee P w K mg base 2 "_law_keys" ["_law_pen_here", "_law_many"] spKeys20)
    (cLrow : Callee P w K mg base 4 "_law_row" ["_law_pen_here", "_law_names_here", "_law_keys_here"] spRowD) (cLspoiled : Callee P w K mg base 5 "_law_spoiled" ["_law_pen_here", "_law_thing"] (spSpoil 2)) (cLis_row : Callee P w K mg base 4 "_law_is_row" ["_law_thing"] spRowAny) (cLright : Callee P w K mg base 8 "_law_right" ["_law_thing", "_law_due"] spRight30)
    {f : Addr} {fd : FuncData} (F : Fun K "law" "law" s_law f fd) : FnOk P w K mg base CX0 9 f fd ["_law_script"] (spLaw K) := by
  refine F.go sc_law (fun vs H Q E h => ?_) (fun cdv A outer s H vs Q E hr h => ?_)
  . obtain ⟨a, ns, rfl, _⟩ := h; rfl
  . obtain ⟨sa, ns, rfl, hS, hlen, q⟩ := h
    have hLpen : Room 1 _ := hr.mono (by decide)
    have hLcell_at : Room 1 _ := hr.mono (by decide)
    have hLnames : Room 2 _ := hr.mono (by decide)
    have hLkeys : Room 2 _ := hr.mono (by decide)
    have hLrow : Room 4 _ := hr.mono (by decide)
    have hLspoiled : Room 5 _ := hr.mono (by decide)
    have hLis_row : Room 4 _ := hr.mono (by decide)
    have hLright := hr
    refine ⟨_, (R.scons (R.set (i := 1) sc_law.nd (R.fn cLpen hLpen rfl (R.cons (R.fn cLcell_at hLcell_at rfl (R.cons (R.v 0) (R.cons R.int R.nil))) (R.cons R.int R.nil)))) (R.scons (R.set (i := 2) sc_law.nd (R.fn cLnames hLnames rfl (R.cons (R.v 1) (R.cons R.int R.nil)))) (R.scons (R.set (i := 3) sc_law.nd (R.fn cLkeys hLkeys rfl (R.cons (R.v 1) (R.cons R.int R.nil)))) (R.scons (R.for_ PassesOwn.never rfl (R.enum (K := K) rfl T.b_enumerate (R.op R.cat (R.lst (R.cons R.int R.nil)) (R.sl (R.ksL (K := K)) (R.v 0) R.pn (R.ps R.int)))) (R.kgt (K := K) (n := 2) rfl (R.gsc (R.gn (i := 4) sc_law.nd) (R.gsc (R.gn (i := 5) sc_law.nd) R.gsn))) (R.scons (R.set (i := 1) sc_law.nd (R.fn cLpen hLpen rfl (R.cons (R.v 5) (R.cons (R.op R.add (R.v 4) R.int) R.nil)))) (R.scons (R.set (i := 6) sc_law.nd (R.fn cLrow hLrow rfl (R.cons (R.v 1) (R.cons (R.v 2) (R.cons (R.v 3) R.nil))))) (R.scons (R.ife (R.tnot (R.val (R.fn cLright hLright rfl (R.cons (R.v 6) (R.cons R.bl R.nil))))) (R.sone (R.ret R.bl)) R.snil) (R.sone (R.for_ PassesOwn.never rfl (R.range1 rfl T.b_range (R.cons R.int R.nil)) (R.gn (i := 7) sc_law.nd) (R.scons (R.set (i := 8) sc_law.nd (R.fn cLspoiled hLspoiled rfl (R.cons (R.v 1) (R.cons (R.v 6) R.nil)))) (R.sone (R.ife (R.tnot (R.val (R.fn cLright hLright rfl (R.cons (R.v 8) (R.cons (R.fn cLis_row hLis_row rfl (R.cons (R.v 8) R.nil)) R.nil))))) (R.sone (R.ret R.bl)) R.snil))))))))) (R.sone (R.ret R.bl)))))), ?_⟩
    refine ⟨sa, ns, 0, rfl, hS, fun c => ⟨c, 0, rfl, fun p H1 f1 s1 pn1 => ?_⟩⟩
    dsimp only [gName]; refine ⟨p, 4, rfl, pn1, by decide, fun ln zs H2 hzl hnm hnd nln gln pn2 k2 => ?_⟩
    dsimp only [gName]; refine ⟨p, 4, rfl, pn2, by decide, fun lk ks H3 hkl hky hknd nlk glk pn3 k3 => ?_⟩
    dsimp only [gName]; have npl : ln ≠ p := pn1.ne nln
    have npk : lk ≠ p := pn2.ne nlk
    have gln3 := k3 _ _ gln npl
    have hS3 : SqL K H3 sa (ns.map V.int) := sq_keep hS (fun o e => (k2.trans k3) _ _ (s1 _ _ e) (ne_of_none e f1))
    refine ⟨szl rfl, fun l0 h0 => ?_⟩
    have hS4 : SqL K (upd H3 l0 (.lst [.int 0])) sa (ns.map V.int) := sq_keep hS3 (fun o e => same_upd h0 _ _ e)
    refine ⟨_, hS4, fun l1 h1 => ?_⟩
    refine ⟨_, _, at_upd upd_same h1, upd_same, ?_, fun l2 h2 => ?_⟩
    . have e60 : cut (ns.map V.int) none (some (40 : Int)) = (ns.take 40).map V.int := by
        have := cut_to (ns.map V.int) 40
        rw [List.map_take]; exact this
      rw [e60, Zlm, Zlk]; exact szl' (by simp; omega)
    have e60 : cut (ns.map V.int) none (some (40 : Int)) = (ns.take 40).map V.int := by
      have := cut_to (ns.map V.int) 40
      rw [List.map_take]; exact this
    have sA : Same H3 (upd (upd (upd H3 l0 (.lst [.int 0])) l1 (.lst (cut (ns.map V.int) none (some (40 : Int))))) l2 (.lst ([V.int 0] ++ cut (ns.map V.int) none (some (40 : Int))))) := ((same_upd h0).trans (same_upd h1)).trans (same_upd h2)
    have gA : (upd (upd (upd H3 l0 (.lst [.int 0])) l1 (.lst (cut (ns.map V.int) none (some (40 : Int))))) l2 (.lst ([V.int 0] ++ cut (ns.map V.int) none (some (40 : Int))))) l2 = some (.lst ((0 :: ns.take 40).map V.int)) := by rw [upd_same, e60]; rfl
    generalize upd (upd (upd H3 l0 (.lst [.int 0])) l1 (.lst (cut (ns.map V.int) none (some (40 : Int))))) l2 (.lst ([V.int 0] ++ cut (ns.map V.int) none (some (40 : Int)))) = HA at sA gA ⊢; have glnA := sA _ _ gln3
    have glkA := sA _ _ glk
    refine ⟨_, SqL.of gA, ?_⟩
    refine for_enum (fun i σ H' => ∃ (o1 o4 o5 o6 o7 o8 : Option V), σ = [some (.ref sa), o1, some (.ref ln), some (.ref lk), o4, o5, o6, o7, o8] /\ H' ln = some (.lst (zs.map V.str)) /\ H' lk = some (.lst (ks.map V.str)) /\ H' l2 = some (.lst ((0 :: ns.take 40).map V.int)))
      (fun i σ H' ⟨_, _, _, _, _, _, _, _, _, g⟩ => SqL.of g) ⟨_, _, _, _, _, _, rfl, glnA, glkA, gA⟩ ?_ ?_
    . rintro i x σ G t hx ⟨o1, o4, o5, o6, o7, o8, rfl, g1, g2, g3⟩ ht
      rw [Zgm] at hx; cases hc : (0 :: ns.take 40)[i]? with
      | none => rw [hc] at hx; cases hx
      | some cc =>
        rw [hc] at hx; cases hx
        have s4 := same_upd (o := .tup [.int (i : Int), .int cc]) ht
        refine ⟨t, _, rfl, SqT.of upd_same, rfl, _, _, rfl, _, _, rfl, rfl, ?_⟩
        dsimp only [gName]; generalize upd G t (.tup [.int (i : Int), .int cc]) = G1 at s4 ⊢; refine ⟨cc, (i : Int) + 1, rfl, fun p' G2 f2 s2 pn' => ?_⟩
        have q1 := s2 _ _ (s4 _ _ g1)
        have q2 := s2 _ _ (s4 _ _ g2)
        have q3 := s2 _ _ (s4 _ _ g3)
        have n1 : ln ≠ p' := ne_of_none (s4 _ _ g1) f2
        have n2 : lk ≠ p' := ne_of_none (s4 _ _ g2) f2
        have n3 : l2 ≠ p' := ne_of_none (s4 _ _ g3) f2
        refine ⟨p', ln, lk, zs, ks, rfl, pn', q1, q2, hnd, by omega, hnm, by omega, hky, fun a ps G3 ri ra pn3' k3' => ?_⟩
        have q1 := k3' _ _ q1 n1
        have q2 := k3' _ _ q2 n2
        have q3 := k3' _ _ q3 n3
        dsimp only [gName]; refine ⟨.ref a, true, rfl, (rowDp ra ri).tz (by decide), (ra.rowV ri).symm, fun G4 s4' => ?_⟩
        show tNext _ _ _
        dsimp only [tNext]; refine ⟨5, rfl, by decide, by decide, for_range (n := 5) (fun j σ H' => ∃ (o7 o8 : Option V), σ = [some (.ref sa), some (.ref p'), some (.ref ln), some (.ref lk), some (.int (i : Int)), some (.int cc), some (.ref a), o7, o8] /\ H' ln = some (.lst (zs.map V.str)) /\ H' lk = some (.lst (ks.map V.str)) /\ H' l2 = some (.lst ((0 :: ns.take 40).map V.int)) /\ PenAt H' p' /\ RowAt H' a ps)
          ⟨_, _, rfl, s4' _ _ q1, s4' _ _ q2, s4' _ _ q3, pn3'.same s4', ra.same s4'⟩ ?_ ?_⟩
        . rintro j σ G5 hj ⟨o7, o8, rfl, w1, w2, w3, pn5, ra5⟩
          dsimp only [gName]; refine ⟨p', .ref a, rfl, pn5, rowDp ra5 ri, fun y G6 dy pn6 k6 => ?_⟩
          dsimp only [gName]; have tz := dy.tz (by decide)
          refine ⟨y, rfl, tz, fun G7 s7 => ?_⟩
          have e7 : rowV G6 y = rowV G7 y := by
            unfold rowV; rw [partsV_same s7 tz.1]; cases hp : partsV G6 y with
            | none => rfl
            | some xs =>
              obtain ⟨b, rfl, gb⟩ := parts_of hp
              exact (rowB_same s7 (tz.2 b xs rfl gb).2).symm
          refine ⟨y, _, rfl, tz.same s7, e7, fun G8 s8 => ?_⟩
          have s68 := s7.trans s8
          have ra6 := rowPen k6 pn5 ra5
          exact ⟨_, _, rfl, s68 _ _ (k6 _ _ w1 n1), s68 _ _ (k6 _ _ w2 n2), s68 _ _ (k6 _ _ w3 n3), pn6.same s68, ra6.same s68⟩
        . rintro σ G5 ⟨o7, o8, rfl, w1, w2, w3, pn5, ra5⟩
          exact ⟨_, _, _, _, _, _, rfl, w1, w2, w3⟩
    . rintro σ G ⟨o1, o4, o5, o6, o7, o8, rfl, _⟩
      exact q G
end
end KL
namespace KL
open PySem L2
structure FA (K : W.Frag) (x : Str) (st : Stmt) : Prop where
  ex : ∃ (f : Addr) (od an : Option Addr) (sl : Array (Option Value)) (oc kV dc pm cd ct : Value), W.nsIn K mainGlobals x = some (some (.ref f)) /\ K.lookup f = some ⟨oc, od, .func (W.fnOf x x (defArgs st) (defBody st) (defScope st) .none kV dc pm an cd ct), sl⟩ /\ W.codeIn K cd x = true /\ W.keepIn K (.ref f) = true
theorem FA.of {K : W.Frag} {x : Str} {st : Stmt} {f : Addr} {od an : Option Addr} {sl : Array (Option Value)} {oc kV dc pm cd ct : Value} (a : W.nsIn K mainGlobals x = some (some (.ref f))) (l : K.lookup f = some ⟨oc, od, .func (W.fnOf x x (defArgs st) (defBody st) (defScope st) .none kV dc pm an cd ct), sl⟩) (c : W.codeIn K cd x = true) (k : W.keepIn K (.ref f) = true) : FA K x st := ⟨f, od, an, sl, oc, kV, dc, pm, cd, ct, a, l, c, k⟩
theorem FA.at {K : W.Frag} {x : Str} {st : Stmt} {ps : List Str} {h : Heap} {mg : Str -> Option Value} (F : FA K x st) (X : K.In h) (G : h.Ns mainGlobals mg) (hb : ∀ (kV doc pm : Value) (an : Option Addr) (cdv ct : Value) (us : List Value), us.length = ps.length -> bindArgs (W.fnOf x x (defArgs st) (defBody st) (defScope st) .none kV doc pm an cdv ct) ⟨us, []⟩ = pure (ps.zip us)) : DefAt K mg x st ps := by
  obtain ⟨f, od, an, sl, oc, kV, dc, pm, cd, ct, a, l, c, k⟩ := F.ex
  exact def_at X G a l c k hb
theorem all_mk {l : W.OpenLaw} {w : World} {K : W.Frag} {h : Heap} {mg : Str -> Option Value} {fa f_law : Addr} (X : K.In h) (G : h.Ns mainGlobals mg) (hfa : mg "law" = some (.ref fa))
    {od_law an_law : Option Addr} {sl_law : Array (Option Value)} {oc_law kV_law dc_law pm_law cd_law ct_law : Value}
    (a_is_name : FA K "is_name" s_is_name)
    (a_is_key : FA K "is_key" s_is_key)
    (a_is_whole : FA K "is_whole" s_is_whole)
    (a_is_made_of : FA K "is_made_of" s_is_made_of)
    (a_is_deed : FA K "is_deed" s_is_deed)
    (a_fits_word : FA K "fits_word" s_fits_word)
    (a_asks_of : FA K "asks_of" s_asks_of)
    (a_is_answer : FA K "is_answer" s_is_answer)
    (a_is_some_answer : FA K "is_some_answer" s_is_some_answer)
    (a_word_of : FA K "word_of" s_word_of)
    (a_is_no : FA K "is_no" s_is_no)
    (a_bounds_of : FA K "bounds_of" s_bounds_of)
    (a_are_within : FA K "are_within" s_are_within)
    (a_is_row : FA K "is_row" s_is_row)
    (a_is_part : FA K "is_part" s_is_part)
    (a_law_pen : FA K "_law_pen" s_law_pen)
    (a_law_take : FA K "_law_take" s_law_take)
    (a_law_cell_at : FA K "_law_cell_at" s_law_cell_at)
    (a_law_names : FA K "_law_names" s_law_names)
    (a_law_keys : FA K "_law_keys" s_law_keys)
    (a_law_number : FA K "_law_number" s_law_number)
    (a_law_deed : FA K "_law_deed" s_law_deed)
    (a_law_answer : FA K "_law_answer" s_law_answer)
    (a_law_row : FA K "_law_row" s_law_row)
    (a_law_whole : FA K "_law_whole" s_law_whole)
    (a_law_is_word : FA K "_law_is_word" s_law_is_word)
    (a_law_is_name : FA K "_law_is_name" s_law_is_name)
    (a_law_is_deed : FA K "_law_is_deed" s_law_is_deed)
    (a_law_is_answer : FA K "_law_is_answer" s_law_is_answer)
    (a_law_is_some_answer : FA K "_law_is_some_answer" s_law_is_some_answer)
    (a_law_is_row : FA K "_law_is_row" s_law_is_row)
    (a_law_odd : FA K "_law_odd" s_law_odd)
    (a_law_spoiled : FA K "_law_spoiled" s_law_spoiled)
    (a_law_right : FA K "_law_right" s_law_right)
    (a_law : W.nsIn K mainGlobals "law" = some (some (.ref f_law))) (l_law : K.lookup f_law = some ⟨oc_law, od_law, .func (W.fnOf "law" "law" (defArgs s_law) (defBody s_law) (defScope s_law) .none kV_law dc_law pm_law an_law cd_law ct_law), sl_law⟩) (c_law : W.codeIn K cd_law "law" = true) (k_law : W.keepIn K (.ref f_law) = true)
    (z_isinstance : W.nsIn K mainGlobals "isinstance" = some none)
    (z_int : W.nsIn K mainGlobals "int" = some none)
    (z_bool : W.nsIn K mainGlobals "bool" = some none)
    (z_all : W.nsIn K mainGlobals "all" = some none)
    (z_any : W.nsIn K mainGlobals "any" = some none)
    (z_str : W.nsIn K mainGlobals "str" = some none)
    (z_len : W.nsIn K mainGlobals "len" = some none)
    (z_tuple : W.nsIn K mainGlobals "tuple" = some none)
    (z_zip : W.nsIn K mainGlobals "zip" = some none)
    (z_list : W.nsIn K mainGlobals "list" = some none)
    (z_range : W.nsIn K mainGlobals "range" = some none)
    (z_min : W.nsIn K mainGlobals "min" = some none)
    (z_max : W.nsIn K mainGlobals "max" = some none)
    (z_enumerate : W.nsIn K mainGlobals "enumerate" = some none)
    {t_LETTERS : Tok} (y_LETTERS : W.nsIn K mainGlobals "LETTERS" = some (some (.str ("abcdefghijklmnopqrstuvwxyz") t_LETTERS)))
    {t_FIGURES : Tok} (y_FIGURES : W.nsIn K mainGlobals "FIGURES" = some (some (.str ("0123456789") t_FIGURES)))
    {t_LONGEST_NAME : Tok} (y_LONGEST_NAME : W.nsIn K mainGlobals "LONGEST_NAME" = some (some (.int (8) t_LONGEST_NAME)))
    {t_LONGEST_KEY : Tok} (y_LONGEST_KEY : W.nsIn K mainGlobals "LONGEST_KEY" = some (some (.int (12) t_LONGEST_KEY)))
    {t_MOST : Tok} (y_MOST : W.nsIn K mainGlobals "MOST" = some (some (.int (1000000000000) t_MOST)))
    {a_NAME_COUNTS : Addr} {es_NAME_COUNTS : List DictEntry} {n_NAME_COUNTS : Nat} (y_NAME_COUNTS : W.nsIn K mainGlobals "NAME_COUNTS" = some (some (.ref a_NAME_COUNTS))) (l_NAME_COUNTS : K.lookup a_NAME_COUNTS = some ⟨.type "dict", none, .dict (List.toArray es_NAME_COUNTS) n_NAME_COUNTS, #[]⟩) (t_NAME_COUNTS : Tab w.params es_NAME_COUNTS (WS)) (o_NAME_COUNTS : (a_NAME_COUNTS == sysModules) = false)
    {a_UNLIKE_WORDS : Addr} {its_UNLIKE_WORDS : List Value} {dd_UNLIKE_WORDS : Option Addr} {n_UNLIKE_WORDS : Nat} {sl_UNLIKE_WORDS : Array (Option Value)} (y_UNLIKE_WORDS : W.nsIn K mainGlobals "UNLIKE_WORDS" = some (some (.ref a_UNLIKE_WORDS))) (l_UNLIKE_WORDS : K.lookup a_UNLIKE_WORDS = some ⟨.type "tuple", dd_UNLIKE_WORDS, .seq (List.toArray its_UNLIKE_WORDS) n_UNLIKE_WORDS, sl_UNLIKE_WORDS⟩) (v_UNLIKE_WORDS : Vals (UW) its_UNLIKE_WORDS)
    {a_PARTS : Addr} {es_PARTS : List DictEntry} {n_PARTS : Nat} (y_PARTS : W.nsIn K mainGlobals "PARTS" = some (some (.ref a_PARTS))) (l_PARTS : K.lookup a_PARTS = some ⟨.type "dict", none, .dict (List.toArray es_PARTS) n_PARTS, #[]⟩) (t_PARTS : TabT K w.params es_PARTS (PTS)) (o_PARTS : (a_PARTS == sysModules) = false)
    {a_BOUNDS : Addr} {es_BOUNDS : List DictEntry} {n_BOUNDS : Nat} (y_BOUNDS : W.nsIn K mainGlobals "BOUNDS" = some (some (.ref a_BOUNDS))) (l_BOUNDS : K.lookup a_BOUNDS = some ⟨.type "dict", none, .dict (List.toArray es_BOUNDS) n_BOUNDS, #[]⟩) (t_BOUNDS : TabT K w.params es_BOUNDS (BDS)) (o_BOUNDS : (a_BOUNDS == sysModules) = false)
    : ∃ fd : FuncData, (∀ (s : Shared) (v : Value), BindsTo s fd ⟨[v], []⟩ [("_law_script", v)]) /\ ∀ base : Heap, K.In base -> base.Ns mainGlobals mg -> FnOk l.prog w K mg base CX0 9 fa fd ["_law_script"] (spLaw K) := by
  have e := hfa.symm.trans (W.mg_of X G a_law)
  cases e
  have T : Txt K mg := ⟨W.mg_none_of X G z_isinstance, W.mg_none_of X G z_int, W.mg_none_of X G z_bool, W.mg_none_of X G z_all, W.mg_none_of X G z_any, W.mg_none_of X G z_str, W.mg_none_of X G z_len, W.mg_none_of X G z_tuple, W.mg_none_of X G z_zip, W.mg_none_of X G z_list, W.mg_none_of X G z_range, W.mg_none_of X G z_min, W.mg_none_of X G z_max, W.mg_none_of X G z_enumerate, ⟨_, W.mg_of X G y_LETTERS⟩, ⟨_, W.mg_of X G y_FIGURES⟩, ⟨_, W.mg_of X G y_LONGEST_NAME⟩, ⟨_, W.mg_of X G y_LONGEST_KEY⟩, ⟨_, W.mg_of X G y_MOST⟩⟩
  have U : Top w.params K mg := ⟨⟨_, W.mg_of X G y_NAME_COUNTS, ⟨_, _, l_NAME_COUNTS, t_NAME_COUNTS, o_NAME_COUNTS⟩⟩, ⟨_, W.mg_of X G y_UNLIKE_WORDS, fun _ => .inr ⟨_, _, _, l_UNLIKE_WORDS, rfl, rfl, by rw [Zst, <- v_UNLIKE_WORDS.length]; decide, v_UNLIKE_WORDS⟩⟩, ⟨_, W.mg_of X G y_PARTS, ⟨_, _, l_PARTS, t_PARTS, o_PARTS⟩⟩, ⟨_, W.mg_of X G y_BOUNDS, ⟨_, _, l_BOUNDS, t_BOUNDS, o_BOUNDS⟩⟩⟩
  have D_is_name : DefAt K mg "is_name" s_is_name ["thing"] := a_is_name.at X G fun _ _ _ _ _ _ us hl => match us, hl with | [_], _ => rfl
  have D_is_key : DefAt K mg "is_key" s_is_key ["thing"] := a_is_key.at X G fun _ _ _ _ _ _ us hl => match us, hl with | [_], _ => rfl
  have D_is_whole : DefAt K mg "is_whole" s_is_whole ["thing", "least", "most"] := a_is_whole.at X G fun _ _ _ _ _ _ us hl => match us, hl with | [_, _, _], _ => rfl
  have D_is_made_of : DefAt K mg "is_made_of" s_is_made_of ["thing", "signs", "longest"] := a_is_made_of.at X G fun _ _ _ _ _ _ us hl => match us, hl with | [_, _, _], _ => rfl
  have D_is_deed : DefAt K mg "is_deed" s_is_deed ["thing"] := a_is_deed.at X G fun _ _ _ _ _ _ us hl => match us, hl with | [_], _ => rfl
  have D_fits_word : DefAt K mg "fits_word" s_fits_word ["word", "names"] := a_fits_word.at X G fun _ _ _ _ _ _ us hl => match us, hl with | [_, _], _ => rfl
  have D_asks_of : DefAt K mg "asks_of" s_asks_of ["deed"] := a_asks_of.at X G fun _ _ _ _ _ _ us hl => match us, hl with | [_], _ => rfl
  have D_is_answer : DefAt K mg "is_answer" s_is_answer ["deed", "thing"] := a_is_answer.at X G fun _ _ _ _ _ _ us hl => match us, hl with | [_, _], _ => rfl
  have D_is_some_answer : DefAt K mg "is_some_answer" s_is_some_answer ["thing"] := a_is_some_answer.at X G fun _ _ _ _ _ _ us hl => match us, hl with | [_], _ => rfl
  have D_word_of : DefAt K mg "word_of" s_word_of ["thing"] := a_word_of.at X G fun _ _ _ _ _ _ us hl => match us, hl with | [_], _ => rfl
  have D_is_no : DefAt K mg "is_no" s_is_no ["answer"] := a_is_no.at X G fun _ _ _ _ _ _ us hl => match us, hl with | [_], _ => rfl
  have D_bounds_of : DefAt K mg "bounds_of" s_bounds_of ["deed"] := a_bounds_of.at X G fun _ _ _ _ _ _ us hl => match us, hl with | [_], _ => rfl
  have D_are_within : DefAt K mg "are_within" s_are_within ["things", "bounds"] := a_are_within.at X G fun _ _ _ _ _ _ us hl => match us, hl with | [_, _], _ => rfl
  have D_is_row : DefAt K mg "is_row" s_is_row ["thing"] := a_is_row.at X G fun _ _ _ _ _ _ us hl => match us, hl with | [_], _ => rfl
  have D_is_part : DefAt K mg "is_part" s_is_part ["kind", "thing"] := a_is_part.at X G fun _ _ _ _ _ _ us hl => match us, hl with | [_, _], _ => rfl
  have D_law_pen : DefAt K mg "_law_pen" s_law_pen ["_law_cell", "_law_k"] := a_law_pen.at X G fun _ _ _ _ _ _ us hl => match us, hl with | [_, _], _ => rfl
  have D_law_take : DefAt K mg "_law_take" s_law_take ["_law_pen_here", "_law_most"] := a_law_take.at X G fun _ _ _ _ _ _ us hl => match us, hl with | [_, _], _ => rfl
  have D_law_cell_at : DefAt K mg "_law_cell_at" s_law_cell_at ["_law_script", "_law_k"] := a_law_cell_at.at X G fun _ _ _ _ _ _ us hl => match us, hl with | [_, _], _ => rfl
  have D_law_names : DefAt K mg "_law_names" s_law_names ["_law_pen_here", "_law_many"] := a_law_names.at X G fun _ _ _ _ _ _ us hl => match us, hl with | [_, _], _ => rfl
  have D_law_keys : DefAt K mg "_law_keys" s_law_keys ["_law_pen_here", "_law_many"] := a_law_keys.at X G fun _ _ _ _ _ _ us hl => match us, hl with | [_, _], _ => rfl
  have D_law_number : DefAt K mg "_law_number" s_law_number ["_law_pen_here", "_law_least", "_law_most"] := a_law_number.at X G fun _ _ _ _ _ _ us hl => match us, hl with | [_, _, _], _ => rfl
  have D_law_deed : DefAt K mg "_law_deed" s_law_deed ["_law_pen_here", "_law_names_here"] := a_law_deed.at X G fun _ _ _ _ _ _ us hl => match us, hl with | [_, _], _ => rfl
  have D_law_answer : DefAt K mg "_law_answer" s_law_answer ["_law_pen_here", "_law_deed_here"] := a_law_answer.at X G fun _ _ _ _ _ _ us hl => match us, hl with | [_, _], _ => rfl
  have D_law_row : DefAt K mg "_law_row" s_law_row ["_law_pen_here", "_law_names_here", "_law_keys_here"] := a_law_row.at X G fun _ _ _ _ _ _ us hl => match us, hl with | [_, _, _], _ => rfl
  have D_law_whole : DefAt K mg "_law_whole" s_law_whole ["_law_thing", "_law_least", "_law_most"] := a_law_whole.at X G fun _ _ _ _ _ _ us hl => match us, hl with | [_, _, _], _ => rfl
  have D_law_is_word : DefAt K mg "_law_is_word" s_law_is_word ["_law_thing", "_law_signs", "_law_most"] := a_law_is_word.at X G fun _ _ _ _ _ _ us hl => match us, hl with | [_, _, _], _ => rfl
  have D_law_is_name : DefAt K mg "_law_is_name" s_law_is_name ["_law_thing"] := a_law_is_name.at X G fun _ _ _ _ _ _ us hl => match us, hl with | [_], _ => rfl
  have D_law_is_deed : DefAt K mg "_law_is_deed" s_law_is_deed ["_law_thing"] := a_law_is_deed.at X G fun _ _ _ _ _ _ us hl => match us, hl with | [_], _ => rfl
  have D_law_is_answer : DefAt K mg "_law_is_answer" s_law_is_answer ["_law_deed_here", "_law_thing"] := a_law_is_answer.at X G fun _ _ _ _ _ _ us hl => match us, hl with | [_, _], _ => rfl
  have D_law_is_some_answer : DefAt K mg "_law_is_some_answer" s_law_is_some_answer ["_law_thing"] := a_law_is_some_answer.at X G fun _ _ _ _ _ _ us hl => match us, hl with | [_], _ => rfl
  have D_law_is_row : DefAt K mg "_law_is_row" s_law_is_row ["_law_thing"] := a_law_is_row.at X G fun _ _ _ _ _ _ us hl => match us, hl with | [_], _ => rfl
  have D_law_odd : DefAt K mg "_law_odd" s_law_odd ["_law_pen_here", "_law_thing"] := a_law_odd.at X G fun _ _ _ _ _ _ us hl => match us, hl with | [_, _], _ => rfl
  have D_law_spoiled : DefAt K mg "_law_spoiled" s_law_spoiled ["_law_pen_here", "_law_thing"] := a_law_spoiled.at X G fun _ _ _ _ _ _ us hl => match us, hl with | [_, _], _ => rfl
  have D_law_right : DefAt K mg "_law_right" s_law_right ["_law_thing", "_law_due"] := a_law_right.at X G fun _ _ _ _ _ _ us hl => match us, hl with | [_, _], _ => rfl
  refine ⟨W.fnOf "law" "law" (defArgs s_law) (defBody s_law) (defScope s_law) .none kV_law dc_law pm_law an_law cd_law ct_law, fun s v => .of_eq rfl, fun base _ _ => ?_⟩
  have F_law := fun_mk (st := s_law) l_law c_law k_law
  have cp := ok_pen (P := l.prog) (w := w) (base := base) T D_law_pen
  have ct := ok_take (P := l.prog) (w := w) (base := base) T D_law_take
  have ce := ok_cell (P := l.prog) (w := w) (base := base) T D_law_cell_at
  have cn := ok_number20 T ct D_law_number
  have cna := ok_names20 T ct D_law_names
  have cke := ok_keys20 T ct D_law_keys
  have cde := ok_deed40 T ct cn D_law_deed
  have can := ok_answer40 T ct cn D_law_answer
  have crd := ok_rowD T ct cn cde can D_law_row
  have c3 := ok_made (P := l.prog) (w := w) (base := base) T D_is_made_of
  have c4 := ok_is_name T c3 D_is_name
  have c4k := ok_is_key T c3 D_is_key
  have c5 := ok_whole (P := l.prog) (w := w) (base := base) T D_is_whole
  have c6 := ok_fits T U c4 D_fits_word
  have c7 := ok_is_deed T c6 c5 D_is_deed
  have cas := ok_asks (P := l.prog) (w := w) (base := base) T D_asks_of
  have cwo := ok_word_of (P := l.prog) (w := w) (base := base) T D_word_of
  have cno := ok_is_no T c4 D_is_no
  have cb := ok_bounds (P := l.prog) (w := w) (base := base) T D_bounds_of
  have cw := ok_within T c5 D_are_within
  have ca := ok_is_answer T cwo cno cas cb cw D_is_answer
  have cso := ok_some T cwo cno ca D_is_some_answer
  have cpt := ok_part T U c5 c4 c4k c7 cso D_is_part
  have cro := ok_rowAny T U cwo cpt ca D_is_row
  have clw := ok_lwhole (P := l.prog) (w := w) (base := base) T D_law_whole
  have clwd := ok_lword (P := l.prog) (w := w) (base := base) T D_law_is_word
  have cln := ok_lname30 T clwd D_law_is_name
  have cld := ok_ldeed30 T cln clw D_law_is_deed
  have cla := ok_lans T clw D_law_is_answer
  have cls := ok_lsome T clw cln D_law_is_some_answer
  have clr := ok_lrow T clw clwd cln cld cla cls D_law_is_row
  have cod := ok_odd T clw ct D_law_odd
  have csp := ok_spoil T ct cod D_law_spoiled 2 (by decide)
  have crt := ok_right30 T cro D_law_right
  exact ok_law T cp ce cna cke crd csp clr crt F_law
theorem walk {l : W.OpenLaw} {q : Program} {loose : List Str} {XP : (Str -> Option Value) -> Heap -> Prop} {YP : World -> Heap -> Prop} {d : DefRec} {K : Params -> W.Frag} (hn : l.most = some 63) (hdf : d.params.defaults = [])
    (hY : ∀ (w : World) (h : Heap), YP w h -> (K w.params).In h)
    (F : ∀ (w : World) (mg : Str -> Option Value) (fa : Addr) (h : Heap), (K w.params).In h -> h.Ns mainGlobals mg -> mg d.name = some (.ref fa) →
      ∃ fd : FuncData, (∀ (s : Shared) (u : Value), BindsTo s fd ⟨[u], []⟩ [("_law_script", u)]) /\ ∀ base : Heap, (K w.params).In base -> base.Ns mainGlobals mg -> FnOk l.prog w (K w.params) mg base CX0 9 fa fd ["_law_script"] (spLaw (K w.params))) :
    W.WalkO q loose XP YP l.row.toRowW d [] (fun f vs => PySem.call f vs) :=
  L2.walk_of (n := 63) (k := 9) (x := "_law_script") (CX := fun _ => CX0) (sp := fun w => spLaw (K w.params)) hn (by decide) hdf ⟨rfl, by decide, by decide⟩ hY F (fun _ _ a ns hl _ hS => ⟨a, ns, rfl, hS, hl, fun _ => rfl⟩) fun _ _ _ _ _ z => z
end KL
def PySem.W.Fast.tw2612749555976309588 : Nat := 0
def PySem.W.Fast.tw17993249217429631217 : Nat := 0
def PySem.W.Fast.tw15508438375422949730 : Nat := 0
def PySem.W.Fast.tw1126725575837246701 : Nat := 0
def PySem.W.Fast.tw9112407581533587963 : Nat := 0
def PySem.W.Fast.tw10253283593397212722 : Nat := 0
def PySem.W.Fast.tw8863761519710128455 : Nat := 0
def PySem.W.Fast.tw95171723358246808 : Nat := 0
open PySem PySem.W PyProof.Rows
set_option maxRecDepth 100000 in
set_option maxHeartbeats 0 in
theorem PySem.Challenge.cw_oncedoor_k30_what_is_a_row_holds : PySem.Challenge.rw_oncedoor_k30_what_is_a_row.Holds := by
  w_on; o_law; k_head; (case hw => w_witness2)
  k_fill
  refine KL.walk (l := PySem.Challenge.rw_oncedoor_k30_what_is_a_row) rfl rfl (fun w h Y => W.kIn_of Y) ?F
  case F =>
    intro w mg fa h KX G hmg; refine' KL.all_mk KX G hmg ?a_is_name ?a_is_key ?a_is_whole ?a_is_made_of ?a_is_deed ?a_fits_word ?a_asks_of ?a_is_answer ?a_is_some_answer ?a_word_of ?a_is_no ?a_bounds_of ?a_are_within ?a_is_row ?a_is_part ?a_law_pen ?a_law_take ?a_law_cell_at ?a_law_names ?a_law_keys ?a_law_number ?a_law_deed ?a_law_answer ?a_law_row ?a_law_whole ?a_law_is_word ?a_law_is_name ?a_law_is_deed ?a_law_is_answer ?a_law_is_some_answer ?a_law_is_row ?a_law_odd ?a_law_spoiled ?a_law_right ?a_law ?l_law ?c_law ?k_law ?z_isinstance ?z_int ?z_bool ?z_all ?z_any ?z_str ?z_len ?z_tuple ?z_zip ?z_list ?z_range ?z_min ?z_max ?z_enumerate ?y_LETTERS ?y_FIGURES ?y_LONGEST_NAME ?y_LONGEST_KEY ?y_MOST ?y_NAME_COUNTS ?l_NAME_COUNTS ?t_NAME_COUNTS ?o_NAME_COUNTS ?y_UNLIKE_WORDS ?l_UNLIKE_WORDS ?v_UNLIKE_WORDS ?y_PARTS ?l_PARTS ?t_PARTS ?o_PARTS ?y_BOUNDS ?l_BOUNDS ?t_BOUNDS ?o_BOUNDS
    (case a_is_name => refine' KL.FA.of ?a ?l ?c ?k; (case a => k_is); (case l => k_is); (case c => k_is); case k => k_is)
    (case a_is_key => refine' KL.FA.of ?a ?l ?c ?k; (case a => k_is); (case l => k_is); (case c => k_is); case k => k_is)
    (case a_is_whole => refine' KL.FA.of ?a ?l ?c ?k; (case a => k_is); (case l => k_is); (case c => k_is); case k => k_is)
    (case a_is_made_of => refine' KL.FA.of ?a ?l ?c ?k; (case a => k_is); (case l => k_is); (case c => k_is); case k => k_is)
    (case a_is_deed => refine' KL.FA.of ?a ?l ?c ?k; (case a => k_is); (case l => k_is); (case c => k_is); case k => k_is)
    (case a_fits_word => refine' KL.FA.of ?a ?l ?c ?k; (case a => k_is); (case l => k_is); (case c => k_is); case k => k_is)
    (case a_asks_of => refine' KL.FA.of ?a ?l ?c ?k; (case a => k_is); (case l => k_is); (case c => k_is); case k => k_is)
    (case a_is_answer => refine' KL.FA.of ?a ?l ?c ?k; (case a => k_is); (case l => k_is); (case c => k_is); case k => k_is)
    (case a_is_some_answer => refine' KL.FA.of ?a ?l ?c ?k; (case a => k_is); (case l => k_is); (case c => k_is); case k => k_is)
    (case a_word_of => refine' KL.FA.of ?a ?l ?c ?k; (case a => k_is); (case l => k_is); (case c => k_is); case k => k_is)
    (case a_is_no => refine' KL.FA.of ?a ?l ?c ?k; (case a => k_is); (case l => k_is); (case c => k_is); case k => k_is)
    (case a_bounds_of => refine' KL.FA.of ?a ?l ?c ?k; (case a => k_is); (case l => k_is); (case c => k_is); case k => k_is)
    (case a_are_within => refine' KL.FA.of ?a ?l ?c ?k; (case a => k_is); (case l => k_is); (case c => k_is); case k => k_is)
    (case a_is_row => refine' KL.FA.of ?a ?l ?c ?k; (case a => k_is); (case l => k_is); (case c => k_is); case k => k_is)
    (case a_is_part => refine' KL.FA.of ?a ?l ?c ?k; (case a => k_is); (case l => k_is); (case c => k_is); case k => k_is)
    (case a_law_pen => refine' KL.FA.of ?a ?l ?c ?k; (case a => k_is); (case l => k_is); (case c => k_is); case k => k_is)
    (case a_law_take => refine' KL.FA.of ?a ?l ?c ?k; (case a => k_is); (case l => k_is); (case c => k_is); case k => k_is)
    (case a_law_cell_at => refine' KL.FA.of ?a ?l ?c ?k; (case a => k_is); (case l => k_is); (case c => k_is); case k => k_is)
    (case a_law_names => refine' KL.FA.of ?a ?l ?c ?k; (case a => k_is); (case l => k_is); (case c => k_is); case k => k_is)
    (case a_law_keys => refine' KL.FA.of ?a ?l ?c ?k; (case a => k_is); (case l => k_is); (case c => k_is); case k => k_is)
    (case a_law_number => refine' KL.FA.of ?a ?l ?c ?k; (case a => k_is); (case l => k_is); (case c => k_is); case k => k_is)
    (case a_law_deed => refine' KL.FA.of ?a ?l ?c ?k; (case a => k_is); (case l => k_is); (case c => k_is); case k => k_is)
    (case a_law_answer => refine' KL.FA.of ?a ?l ?c ?k; (case a => k_is); (case l => k_is); (case c => k_is); case k => k_is)
    (case a_law_row => refine' KL.FA.of ?a ?l ?c ?k; (case a => k_is); (case l => k_is); (case c => k_is); case k => k_is)
    (case a_law_whole => refine' KL.FA.of ?a ?l ?c ?k; (case a => k_is); (case l => k_is); (case c => k_is); case k => k_is)
    (case a_law_is_word => refine' KL.FA.of ?a ?l ?c ?k; (case a => k_is); (case l => k_is); (case c => k_is); case k => k_is)
    (case a_law_is_name => refine' KL.FA.of ?a ?l ?c ?k; (case a => k_is); (case l => k_is); (case c => k_is); case k => k_is)
    (case a_law_is_deed => refine' KL.FA.of ?a ?l ?c ?k; (case a => k_is); (case l => k_is); (case c => k_is); case k => k_is)
    (case a_law_is_answer => refine' KL.FA.of ?a ?l ?c ?k; (case a => k_is); (case l => k_is); (case c => k_is); case k => k_is)
    (case a_law_is_some_answer => refine' KL.FA.of ?a ?l ?c ?k; (case a => k_is); (case l => k_is); (case c => k_is); case k => k_is)
    (case a_law_is_row => refine' KL.FA.of ?a ?l ?c ?k; (case a => k_is); (case l => k_is); (case c => k_is); case k => k_is)
    (case a_law_odd => refine' KL.FA.of ?a ?l ?c ?k; (case a => k_is); (case l => k_is); (case c => k_is); case k => k_is)
    (case a_law_spoiled => refine' KL.FA.of ?a ?l ?c ?k; (case a => k_is); (case l => k_is); (case c => k_is); case k => k_is)
    (case a_law_right => refine' KL.FA.of ?a ?l ?c ?k; (case a => k_is); (case l => k_is); (case c => k_is); case k => k_is)
    (case a_law => k_is)
    (case l_law => k_is)
    (case c_law => k_is)
    (case k_law => k_is)
    (case z_isinstance => k_is)
    (case z_int => k_is)
    (case z_bool => k_is)
    (case z_all => k_is)
    (case z_any => k_is)
    (case z_str => k_is)
    (case z_len => k_is)
    (case z_tuple => k_is)
    (case z_zip => k_is)
    (case z_list => k_is)
    (case z_range => k_is)
    (case z_min => k_is)
    (case z_max => k_is)
    (case z_enumerate => k_is)
    (case y_LETTERS => k_is)
    (case y_FIGURES => k_is)
    (case y_LONGEST_NAME => k_is)
    (case y_LONGEST_KEY => k_is)
    (case y_MOST => k_is)
    (case y_NAME_COUNTS => k_is)
    (case l_NAME_COUNTS => k_is)
    (case t_NAME_COUNTS => repeat (first | exact True.intro | refine And.intro ⟨_, rfl⟩ (And.intro rfl (And.intro ⟨_, rfl⟩ ?_))))
    (case o_NAME_COUNTS => decide)
    (case y_UNLIKE_WORDS => k_is)
    (case l_UNLIKE_WORDS => k_is)
    (case v_UNLIKE_WORDS => repeat (first | exact .nil | refine .cons ⟨_, rfl⟩ ?_))
    (case y_PARTS => k_is)
    (case l_PARTS => k_is)
    (case t_PARTS => repeat (first | exact True.intro | refine And.intro ⟨_, rfl⟩ (And.intro rfl (And.intro ⟨_, _, _, _, _, rfl, (by k_is), (by repeat (first | exact .nil | refine .cons ⟨_, rfl⟩ ?_))⟩ (And.intro (by decide) ?_)))))
    (case o_PARTS => decide)
    (case y_BOUNDS => k_is)
    (case l_BOUNDS => k_is)
    (case t_BOUNDS => repeat (first | exact True.intro | refine And.intro ⟨_, rfl⟩ (And.intro rfl (And.intro ⟨_, _, _, _, _, rfl, (by k_is), (by repeat (first | exact .nil | refine .cons ⟨_, rfl⟩ ?_))⟩ (And.intro (by decide) ?_)))))
    (case o_BOUNDS => decide)
