import PyProof.Rows.All
import Wide.All
import OpenK.AllK
import Wide.FinOn
import Lean
import PyProof.EqAt
import PyProof.EqKinds
import PyProof.TupleCall
import KE.KSortTup
import KE.KDictSum
import KE.KDictOf
import PyProof.AttrMissHeap
import OpenK.KRaise
import KE.KIsAll
import KE.KTryMore
import KE.RegKIsAll
import KE.RegKTryMore
import PyProof.NsDelKeeps
import PyProof.ExcArgs
import PyProof.FitsReplace
import PyProof.Rows.StrJoin2
import PySem.Challenge.RW_oncedoor_k23_what_a_house_refuses
set_option Elab.async false
set_option linter.all false
set_option maxRecDepth 100000
set_option maxHeartbeats 4000000
def Zfm := @List.forall_mem_cons
def Zlm := @List.length_map
def Zpu := @PySem.Heap.get?_push_of_some
def Zgs := @List.getElem?_eq_some_iff
def Zge := @List.getElem?_eq_getElem
def Zmc := @List.mem_cons_of_mem
def Zmm := @List.mem_map
def Zap := @List.map_append
def Zla := @List.length_append
def Zgm := @List.getElem?_map
def Zio := @Int.eq_ofNat_of_zero_le
def Znt := @Nat.le_trans
def Zcs := @List.mem_cons_self
def Zst := @List.size_toArray
def Zlk := @List.length_take
def Ztl := @List.take_of_length_le
def Zma := @List.mem_append
def Zms := @List.mem_singleton
def Zlc := @List.length_cons
def Znl := @Nat.lt_of_le_of_lt
def Znr := @Nat.le_refl
def Zmg := @List.mem_of_getElem?
namespace L2
open PySem PySem.Spec PyProof.Rows
abbrev Key := Sum Int Str
def keyIs : Key -> Value -> Bool
  | .inl k, v => Value.isInt k v
  | .inr x, v => Value.isStrOf x v
def keyH (w : World) : Key -> Int
  | .inl k => hashInt k
  | .inr x => hashStr w x
theorem keyIs_shape : ∀ {k : Key} {v : Value}, keyIs k v = true -> (∃ i t, k = Sum.inl i /\ v = Value.int i t) ∨ (∃ x t, k = Sum.inr x /\ v = Value.str x t)
  | .inl i, v, h => by
    obtain ⟨t, e⟩ := Value.isInt_shape (k := i) (v := v) h
    exact .inl ⟨i, t, rfl, e⟩
  | .inr x, v, h => by
    obtain ⟨t, e⟩ := Value.isStrOf_shape (x := x) (v := v) h
    exact .inr ⟨x, t, rfl, e⟩
theorem keyIs_int (i : Int) (t : Tok) : keyIs (.inl i) (.int i t) = true := by simp [keyIs, Value.isInt]
theorem keyIs_str (x : Str) (t : Tok) : keyIs (.inr x) (.str x t) = true := by simp [keyIs, Value.isStrOf]
theorem key_ll (a b : Int) : decide ((Sum.inl a : Key) = Sum.inl b) = (a == b) := by
  by_cases e : a = b
  . subst e; simp
  . have h : ¬ (Sum.inl a : Key) = Sum.inl b := fun q => e (Sum.inl.inj q)
    rw [decide_eq_false h]; exact (beq_eq_false_iff_ne.mpr e).symm
theorem key_rr (a b : Str) : decide ((Sum.inr a : Key) = Sum.inr b) = decide (a = b) := by
  by_cases e : a = b
  . subst e; simp
  . have h : ¬ (Sum.inr a : Key) = Sum.inr b := fun q => e (Sum.inr.inj q)
    rw [decide_eq_false h, decide_eq_false e]
theorem key_lr (a : Int) (b : Str) : decide ((Sum.inl a : Key) = Sum.inr b) = false := decide_eq_false (fun q => nomatch q)
theorem key_rl (a : Str) (b : Int) : decide ((Sum.inr a : Key) = Sum.inl b) = false := decide_eq_false (fun q => nomatch q)
def mixKind (prog : Program) (w : World) : PySem.KeyKind prog w Key where
  is := keyIs
  hash := keyH w
  inj := fun v a b ha hb => by
    rcases keyIs_shape ha with ⟨i, t, rfl, rfl⟩ | ⟨x, t, rfl, rfl⟩
    . rcases keyIs_shape hb with ⟨j, u, rfl, e⟩ | ⟨y, u, rfl, e⟩
      . injection e with e1 _; rw [e1]
      . exact nomatch e
    . rcases keyIs_shape hb with ⟨j, u, rfl, e⟩ | ⟨y, u, rfl, e⟩
      . exact nomatch e
      . injection e with e1 _; rw [e1]
  byValue := fun k v h => by
    rcases keyIs_shape h with ⟨i, t, rfl, rfl⟩ | ⟨x, t, rfl, rfl⟩ <;> rfl
  pyHash := fun hv h => by
    rcases keyIs_shape hv with ⟨i, t, rfl, rfl⟩ | ⟨x, t, rfl, rfl⟩
    . exact wpAny_pyHash_int h
    . exact wpAny_pyHash_str h
  eqBool := fun hu hv h => by
    rcases keyIs_shape hu with ⟨i, t, rfl, rfl⟩ | ⟨x, t, rfl, rfl⟩
    . rcases keyIs_shape hv with ⟨j, u, rfl, rfl⟩ | ⟨y, u, rfl, rfl⟩
      . rw [key_ll] at h; exact wpAny_eqBool_int h
      . rw [key_lr] at h; exact SeqAt.EqAt.int_str i t y u _ _ _ _ h
    . rcases keyIs_shape hv with ⟨j, u, rfl, rfl⟩ | ⟨y, u, rfl, rfl⟩
      . rw [key_rl] at h; exact SeqAt.EqAt.str_int x t j u _ _ _ _ h
      . rw [key_rr] at h; exact wpAny_eqBool_str h
  «strs» := fun k x t v h => by
    rcases keyIs_shape h with ⟨i, u, rfl, e⟩ | ⟨y, u, rfl, e⟩
    . exact nomatch e
    . injection e with e1 _
      subst e1; cases v <;> rfl
theorem mixKind_int (prog : Program) (w : World) (i : Int) (t : Tok) : (mixKind prog w).is (.inl i) (.int i t) = true := keyIs_int i t
theorem mixKind_str (prog : Program) (w : World) (x : Str) (t : Tok) : (mixKind prog w).is (.inr x) (.str x t) = true := keyIs_str x t
end L2
namespace L2
open PySem PySem.Spec PyProof.Rows
inductive V where
  | non | bl (b : Bool) | int (i : Int) | str (x : Str) | byt (b : Array UInt8) | flt (b : UInt64) | ref (a : Addr) | ty (n : String)
  deriving DecidableEq
def RelV : V -> Value -> Prop
  | .non, u => u = Value.none
  | .bl b, u => u = Value.bool b
  | .int i, u => ∃ t, u = Value.int i t
  | .str x, u => ∃ t, u = Value.str x t
  | .byt b, u => ∃ t, u = Value.bytes b t
  | .flt b, u => ∃ t, u = Value.float b t
  | .ref a, u => u = Value.ref a
  | .ty n, u => u = Value.type n
abbrev Vals : List V -> List Value -> Prop := Paired RelV
theorem Vals.length {xs : List V} {us : List Value} (r : Vals xs us) : xs.length = us.length := Paired.length r
theorem Vals.get : ∀ {xs : List V} {us : List Value} {i : Nat} {x : V}, Vals xs us -> xs[i]? = some x -> ∃ u, us[i]? = some u /\ RelV x u
  | _, _, _, _, .nil, e => by simp at e
  | _, _, 0, _, .cons r _, e => by simp at e; subst e; exact ⟨_, rfl, r⟩
  | _, _, i + 1, x, .cons _ t, e => by
    obtain ⟨u, h1, h2⟩ := Vals.get (i := i) (x := x) t (by simpa using e)
    exact ⟨u, by simpa using h1, h2⟩
theorem Vals.set {x : V} {u : Value} (r : RelV x u) : ∀ {xs : List V} {us : List Value} (i : Nat), Vals xs us -> Vals (xs.set i x) (us.set i u)
  | _, _, _, .nil => .nil
  | _, _, 0, .cons _ t => .cons r t
  | _, _, i + 1, .cons q t => .cons q (Vals.set r i t)
theorem Vals.append : ∀ {xs ys : List V} {us ws : List Value}, Vals xs us -> Vals ys ws -> Vals (xs ++ ys) (us ++ ws)
  | _, _, _, _, .nil, s => s
  | _, _, _, _, .cons r t, s => .cons r (Vals.append t s)
theorem Vals.take : ∀ {xs : List V} {us : List Value} (n : Nat), Vals xs us -> Vals (xs.take n) (us.take n)
  | _, _, 0, _ => .nil
  | _, _, _ + 1, .nil => .nil
  | _, _, n + 1, .cons r t => .cons r (Vals.take n t)
theorem Vals.drop : ∀ {xs : List V} {us : List Value} (n : Nat), Vals xs us -> Vals (xs.drop n) (us.drop n)
  | _, _, 0, r => r
  | _, _, _ + 1, .nil => .nil
  | _, _, n + 1, .cons _ t => Vals.drop n t
def RelO : Option V -> Option Value -> Prop
  | some v, some u => RelV v u
  | none, none => True
  | _, _ => False
def KV {κ : Type} : List (κ × V) -> List (κ × Value) -> Prop := Paired fun (p : κ × V) (q : κ × Value) => p.1 = q.1 /\ RelV p.2 q.2
def kV : Key -> V
  | .inl i => .int i
  | .inr x => .str x
inductive HO where
  /-- a list -/
  | lst (xs : List V)
  /-- a tuple (never changes) -/
  | tup (xs : List V)
  /-- a dict whose keys are ints and texts; one whose keys are tuples of ints and texts (the empty one is both) -/
  | dK (kvs : List (Key × V)) | dT (kvs : List (List Key × V))
  /-- a set of ints: its members, its size -/
  | set (S : Int -> Bool) (n : Nat)
  /-- an instance of the class at C, its dict at dx, its attributes -/
  | ins (C dx : Addr) (fs : List (Str × V))
  /-- the dict of the instance at x -/
  | own (x : Addr)
  /-- the dict of an exception -/
  | xd (fs : List (Str × V))
  /-- a bound method, f of x -/
  | met (f x : Addr)
  /-- a range object lo, lo + 1, .. below hi -/
  | rng (lo hi : Int)
  /-- a thing that is known to the object (the script; a dict while a loop walks it): read, never written while it is so -/
  | frz (o : Obj) (u : HO)
  /-- a code object's table -/
  | tbl (ps : Array Value)
  /-- any other thing, by what is true of its one object (a def of one's own: SetO a S n := HO.ext fun h => ..) -/
  | ext (φ : Heap -> Prop)
abbrev Hp := Addr -> Option HO
def upd (H : Hp) (a : Addr) (o : HO) : Hp := fun b => if b = a then some o else H b
theorem upd_same {H : Hp} {a : Addr} {o : HO} : upd H a o a = some o := by unfold upd; rw [if_pos rfl]
theorem upd_ne {H : Hp} {a b : Addr} {o : HO} (h : b ≠ a) : upd H a o b = H b := by unfold upd; rw [if_neg h]
theorem ne_of {H : Hp} {a b : Addr} {o u : HO} (h : H a = some o) (h' : H b = some u) (d : o ≠ u) : a ≠ b := by
  intro e; subst e; rw [h] at h'; exact d (Option.some.inj h')
theorem ne_of_none {H : Hp} {a b : Addr} {o : HO} (h : H a = some o) (h' : H b = none) : a ≠ b := by
  intro e; subst e; rw [h] at h'; cases h'
section
variable (P : Program) (w : World)
def ObjOk (H : Hp) (h : Heap) (a : Addr) : HO -> Prop
  | .lst xs => xs.length <= sizeLine /\ ∃ (its : List Value) (n : Nat), Vals xs its /\ h.get? a = some { cls := .type "list", data := .seq its.toArray n }
  | .tup xs => xs.length <= sizeLine /\ ∃ its : List Value, Vals xs its /\ IsTup h a its.toArray
  | .dK kvs => kvs.length <= sizeLine /\ (a == sysModules) = false /\ ∃ vs, KV kvs vs /\ h.DictOf (mixKind P w) a vs
  | .dT kvs => kvs.length <= sizeLine /\ (a == sysModules) = false /\ ∃ xs : List (List Key × Addr × Value),
      Paired (fun (p : List Key × V) (q : List Key × Addr × Value) => p.1 = q.1 /\ H q.2.1 = some (.tup (p.1.map kV)) /\ RelV p.2 q.2.2) kvs xs ∧
      ∃ o es ep, h.get? a = some o /\ o.ExactDict /\ o.data = .dict es ep /\ es.toList = xs.map (entryOfKey (tupleKind (mixKind P w))) /\ (xs.map (·.1)).Nodup
  | .set S n => h.SetOf (intKind P w) a S n
  | .ins C dx fs => H dx = some (.own a) /\ fs.length <= 1000 /\ dx ≠ a /\ h.get? a = some (W.instObj C dx) ∧
      ∃ mA, h.Ns1 dx mA /\ (∀ f, RelO (fs.lookup f) (mA f)) /\ PySem.Within mA (fs.map (·.1))
  | .own _ => ∃ o, h.get? a = some o
  | .xd fs => ∃ mA, h.Ns1 a mA /\ ∀ f, RelO (fs.lookup f) (mA f)
  | .rng lo hi => ∃ t u v, h.get? a = some { cls := .type "range", data := .fields #[.int lo t, .int hi u, .int 1 v] }
  | .frz o u => h.get? a = some o /\ ObjOk H h a u
  | .tbl ps => h.get? a = some { cls := .none, data := .fields ps }
  | .met f x => h.get? a = some (W.methodObj (.ref f) (.ref x))
  | .ext φ => φ h /\ (∃ o, h.get? a = some o) /\ ∀ h1 h2 : Heap, φ h1 -> (∀ o, h1.get? a = some o -> h2.get? a = some o) -> φ h2
def HOk (H : Hp) (h : Heap) : Prop := ∀ a o, H a = some o -> ObjOk P w H h a o
end
section
variable {P : Program} {w : World} {H H' : Hp} {h h' : Heap} {a : Addr} {o : HO}
theorem ObjOk.lt (x : ObjOk P w H h a o) : a < h.objs.size := by
  cases o with
  | lst xs => obtain ⟨_, _, _, _, e⟩ := x; exact Heap.lt_size e
  | tup xs => obtain ⟨_, _, _, p⟩ := x; exact p.lt
  | dK kvs => obtain ⟨_, _, _, _, o, _, _, e, _⟩ := x; exact Heap.lt_size e
  | dT kvs => obtain ⟨_, _, _, _, o, _, _, e, _⟩ := x; exact Heap.lt_size e
  | set S n => obtain ⟨o, _, _, _, e, _⟩ := x; exact Heap.lt_size e
  | ins C dx fs => obtain ⟨_, _, _, e, _⟩ := x; exact Heap.lt_size e
  | own y => obtain ⟨_, e⟩ := x; exact Heap.lt_size e
  | xd fs => obtain ⟨_, ⟨_, _, _, e, _⟩, _⟩ := x; exact Heap.lt_size e
  | rng lo hi => obtain ⟨_, _, _, e⟩ := x; exact Heap.lt_size e
  | frz ob u => obtain ⟨e, _⟩ := x; exact Heap.lt_size e
  | tbl ps => exact Heap.lt_size (show h.get? a = some _ from x)
  | met f y => exact Heap.lt_size (show h.get? a = some _ from x)
  | ext φ => obtain ⟨_, ⟨_, e⟩, _⟩ := x; exact Heap.lt_size e
theorem Paired.mapP {α β : Type} {F G : α -> β -> Prop} : ∀ {l₁ : List α} {l₂ : List β}, Paired F l₁ l₂ -> (∀ a b, F a b -> G a b) -> Paired G l₁ l₂
  | _, _, .nil, _ => .nil
  | _, _, .cons r t, f => .cons (f _ _ r) (Paired.mapP t f)
theorem ObjOk.stay (x : ObjOk P w H h a o) (k : ∀ b u, (b = a ∨ H b = some (.own a)) -> h.get? b = some u -> h'.get? b = some u)
    (ho : ∀ b, H b = some (.own a) -> H' b = some (.own a)) (ht : ∀ b xs, H b = some (.tup xs) -> H' b = some (.tup xs)) : ObjOk P w H' h' a o := by
  induction o with
  | lst xs => obtain ⟨z, its, n, r, e⟩ := x; exact ⟨z, its, n, r, k _ _ (.inl rfl) e⟩
  | tup xs => obtain ⟨z, its, r, ob, e, c⟩ := x; exact ⟨z, its, r, ob, k _ _ (.inl rfl) e, c⟩
  | dK kvs => obtain ⟨z, y, vs, r, ob, es, ep, e, c⟩ := x; exact ⟨z, y, vs, r, ob, es, ep, k _ _ (.inl rfl) e, c⟩
  | dT kvs =>
    obtain ⟨z, y, xs, r, ob, es, ep, e, c⟩ := x
    exact ⟨z, y, xs, Paired.mapP r fun p q z => ⟨z.1, ht _ _ z.2.1, z.2.2⟩, ob, es, ep, k _ _ (.inl rfl) e, c⟩
  | set S n => obtain ⟨ob, es, ep, t, e, c⟩ := x; exact ⟨ob, es, ep, t, k _ _ (.inl rfl) e, c⟩
  | ins C dx fs =>
    obtain ⟨d, z, ne, e, mA, ⟨od, es, ep, e2, c⟩, r⟩ := x
    exact ⟨ho _ d, z, ne, k _ _ (.inl rfl) e, mA, ⟨od, es, ep, k _ _ (.inr d) e2, c⟩, r⟩
  | own y => obtain ⟨ob, e⟩ := x; exact ⟨ob, k _ _ (.inl rfl) e⟩
  | xd fs => obtain ⟨mA, ⟨od, es, ep, e, c⟩, r⟩ := x; exact ⟨mA, ⟨od, es, ep, k _ _ (.inl rfl) e, c⟩, r⟩
  | rng lo hi => obtain ⟨t, u, v, e⟩ := x; exact ⟨t, u, v, k _ _ (.inl rfl) e⟩
  | frz ob u ih => obtain ⟨e, q⟩ := x; exact ⟨k _ _ (.inl rfl) e, ih q⟩
  | tbl ps =>
    have e : h.get? a = some { cls := .none, data := .fields ps } := x
    show h'.get? a = some { cls := .none, data := .fields ps }
    exact k a _ (.inl rfl) e
  | met f y =>
    have e : h.get? a = some (W.methodObj (.ref f) (.ref y)) := x
    show h'.get? a = some (W.methodObj (.ref f) (.ref y))
    exact k a _ (.inl rfl) e
  | ext φ => obtain ⟨p, ⟨o, e⟩, st⟩ := x; exact ⟨st _ _ p fun o q => k _ _ (.inl rfl) q, ⟨o, k _ _ (.inl rfl) e⟩, st⟩
theorem HOk.lt (x : HOk P w H h) (e : H a = some o) : a < h.objs.size := (x a o e).lt
theorem HOk.fresh (x : HOk P w H h) (e : h.objs.size <= a) : H a = none := by
  cases q : H a with
  | none => rfl
  | some u => exact absurd (Nat.lt_of_lt_of_le (x.lt q) e) (Nat.lt_irrefl _)
theorem HOk.kept (x : HOk P w H h) (k : ∀ b u, h.get? b = some u -> h'.get? b = some u) : HOk P w H h' := fun a o e =>
  (x a o e).stay (fun b u _ q => k b u q) (fun _ q => q) fun _ _ q => q
theorem HOk.laid (x : HOk P w H h) (k : ∀ b u, h.get? b = some u -> h'.get? b = some u) (hp : h.objs.size <= a) (new : ObjOk P w (upd H a o) h' a o) : HOk P w (upd H a o) h' := fun b u e => by
  have hn := x.fresh hp
  by_cases hb : b = a
  . subst hb; rw [upd_same] at e; cases e; exact new
  . rw [upd_ne hb] at e; exact (x b u e).stay (fun c v _ q => k c v q) (fun c q => by rw [upd_ne (ne_of_none q hn)]; exact q) fun c xs q => by rw [upd_ne (ne_of_none q hn)]; exact q
end
def Rd (H : Hp) (a : Addr) (u : HO) : Prop := H a = some u ∨ ∃ o, H a = some (.frz o u)
theorem Rd.ok {P : Program} {w : World} {H : Hp} {h : Heap} {a : Addr} {u : HO} (r : Rd H a u) (x : HOk P w H h) : ObjOk P w H h a u := by
  rcases r with r | ⟨o, r⟩
  . exact x a u r
  . obtain ⟨_, q⟩ := x a _ r
    exact q
def Mut : Option HO -> Prop
  | some (.lst _) => True
  | some (.dK _) => True
  | some (.dT _) => True
  | some (.set _ _) => True
  | some (.ins _ _ _) => True
  | some (.ext _) => True
  | _ => False
section
variable {P : Program} {w : World} {H : Hp} {h h' : Heap} {x e : Addr} {o' : HO}
theorem HOk.write (ok : HOk P w H h) (mu : Mut (H x)) (he : e = x ∨ H e = some (.own x)) (k : ∀ b u, b ≠ e -> h.get? b = some u -> h'.get? b = some u) (heo : ∃ u, h'.get? e = some u)
    (new : ObjOk P w (upd H x o') h' x o') : HOk P w (upd H x o') h' := fun b u q => by
  have nown : ∀ c y, H c = some (.own y) -> c ≠ x := fun c y r z => by subst z; rw [r] at mu; exact mu
  have ntup : ∀ c xs, H c = some (.tup xs) -> c ≠ x := fun c xs r z => by subst z; rw [r] at mu; exact mu
  by_cases hb : b = x
  . subst hb; rw [upd_same] at q; cases q; exact new
  . rw [upd_ne hb] at q; by_cases hbe : b = e
    . have q' : H b = some (.own x) := by
        rcases he with z | z
        . exact absurd (hbe.trans z) hb
        . rw [hbe]; exact z
      rw [q] at q'; cases q'
      obtain ⟨v, hv⟩ := heo
      exact ⟨v, by rw [hbe]; exact hv⟩
    . refine (ok b u q).stay (fun c v hc r => k c v ?_ r) (fun c r => by rw [upd_ne (nown c b r)]; exact r) fun c xs r => by rw [upd_ne (ntup c xs r)]; exact r
      rcases hc with rfl | hc
      . exact hbe
      . rintro rfl
        rcases he with z | z
        . exact nown c b hc z
        . rw [hc] at z; cases z; exact hb rfl
end
structure Un (fs ex : List Addr) (H H' : Hp) (h h' : Heap) : Prop where
  keep : ∀ b o, h.get? b = some o -> H b = none -> b ∉ fs -> b ∉ ex -> h'.get? b = some o
  slot : ∀ b o, h.get? b = some o -> H b = none -> b ∈ fs -> b ∉ ex -> ∃ sl, h'.get? b = some { o with slots := sl }
  free : ∀ b o, h.get? b = some o -> H b = none -> b ∉ ex -> H' b = none
  there : ∀ b o, h.get? b = some o -> b ∉ ex -> ∃ o', h'.get? b = some o'
  tups : ∀ b xs, H b = some (.tup xs) -> H' b = some (.tup xs)
  frzs : ∀ b o u, H b = some (.frz o u) -> H' b = some (.frz o u)
  tbls : ∀ b ps, H b = some (.tbl ps) -> ∃ more, H' b = some (.tbl (ps ++ more))
section
variable {fs fs' ex ex' : List Addr} {H H1 H2 : Hp} {h h1 h2 h' : Heap} {a x e : Addr} {o : HO}
theorem Un.any (u : Un fs ex H H1 h h1) {b : Addr} {ob : Obj} (q : h.get? b = some ob) (n : H b = none) (hx : b ∉ ex) : ∃ sl, h1.get? b = some { ob with slots := sl } := by
  by_cases hb : b ∈ fs
  . exact u.slot b ob q n hb hx
  . exact ⟨ob.slots, u.keep b ob q n hb hx⟩
theorem Un.kept (k : ∀ b u, h.get? b = some u -> h'.get? b = some u) : Un fs ex H H h h' :=
  ⟨fun b ob q _ _ _ => k b ob q, fun b ob q _ _ _ => ⟨ob.slots, k b ob q⟩, fun _ _ _ n _ => n, fun b ob q _ => ⟨ob, k b ob q⟩, fun _ _ q => q, fun _ _ _ q => q, fun _ ps q => ⟨#[], by rw [q]; simp⟩⟩
theorem Un.refl : Un fs ex H H h h := Un.kept fun _ _ q => q
theorem Un.laid (k : ∀ b u, h.get? b = some u -> h'.get? b = some u) (hp : h.objs.size <= a) (hn : H a = none) : Un fs ex H (upd H a o) h h' where
  keep := fun b u q _ _ _ => k b u q
  slot := fun b u q _ _ _ => ⟨u.slots, k b u q⟩
  free := fun b u q n _ => by rw [upd_ne (Nat.ne_of_lt (Nat.lt_of_lt_of_le (Heap.lt_size q) hp))]; exact n
  there := fun b u q _ => ⟨u, k b u q⟩
  tups := fun b xs q => by rw [upd_ne (ne_of_none q hn)]; exact q
  frzs := fun b u xs q => by rw [upd_ne (ne_of_none q hn)]; exact q
  tbls := fun b ps q => ⟨#[], by rw [upd_ne (ne_of_none q hn), q]; simp⟩
theorem Un.write (mu : Mut (H x)) (he : e = x ∨ H e = some (.own x)) (k : ∀ b u, b ≠ e -> h.get? b = some u -> h'.get? b = some u) (heo : ∃ u, h'.get? e = some u) : Un fs ex H (upd H x o) h h' := by
  have hx : ∀ b, H b = none -> b ≠ x := fun b n z => by subst z; rw [n] at mu; exact mu
  have hb : ∀ b, H b = none -> b ≠ e := fun b n z => by
    subst z; rcases he with r | r
    . exact hx b n r
    . rw [n] at r; cases r
  have hm : ∀ b u, H b = some u -> ¬ Mut (some u) -> b ≠ x := fun b u q nm z => by subst z; rw [q] at mu; exact nm mu
  refine ⟨fun b u q n _ _ => k b u (hb b n) q, fun b u q n _ _ => ⟨u.slots, k b u (hb b n) q⟩, fun b u q n _ => by rw [upd_ne (hx b n)]; exact n, fun b u q _ => ?_,
    fun b xs q => by rw [upd_ne (hm b _ q fun z => z)]; exact q, fun b u xs q => by rw [upd_ne (hm b _ q fun z => z)]; exact q, fun b ps q => ⟨#[], by rw [upd_ne (hm b _ q fun z => z), q]; simp⟩⟩
  by_cases hbe : b = e
  . subst hbe; exact heo
  . exact ⟨u, k b u hbe q⟩
end
def trk (h : Heap) (H : Hp) : List Addr := (List.range h.objs.size).filter fun a => (H a).isSome
def hidT (h : Heap) (H : Hp) : Heap := W.hideAll h (trk h H)
theorem hidT_size (h : Heap) (H : Hp) : (hidT h H).objs.size = h.objs.size := W.hideAll_size _ _
theorem hidT_get {h : Heap} {H : Hp} {b : Addr} {o : Obj} (e : h.get? b = some o) (n : H b = none) : (hidT h H).get? b = some o :=
  W.hideAll_get _ e fun hm => by
    have q : (H b).isSome = true := (List.mem_filter.mp hm).2
    rw [n] at q; simp at q
theorem of_hidT {h : Heap} {H : Hp} {b : Addr} {o : Obj} (e : (hidT h H).get? b = some o) : h.get? b = some o /\ H b = none := by
  have e' : h.get? b = some o := W.of_hideAll (trk h H) e
  refine ⟨e', ?_⟩
  cases q : H b with
  | none => rfl
  | some x =>
    have hm : b ∈ trk h H := List.mem_filter.mpr ⟨List.mem_range.mpr (Heap.lt_size e'), by simp [q]⟩
    have z : (hidT h H).get? b = none := W.hideAll_none (trk h H) hm
    rw [z] at e; cases e
end L2
namespace L2
open PySem PySem.Spec PyProof.Rows
structure Mod (K : W.Frag) (mg : Str -> Option Value) (base : Heap) : Prop where
  kin : K.In base
  glob : base.Ns mainGlobals mg
  blt : ∃ mb, base.Ns builtinsNs mb /\ ∀ x : Str, x ≠ "__name__" -> mb x = bootBuiltins x
  nolimit : base.NoLimit
structure Cx where
  prog : Program
  w : World
  K : W.Frag
  mg : Str -> Option Value
  base : Heap
  A : Around
  N : List Str
  s₀ : Shared
  H₀ : Hp
  env : Env
  outer : List Env
  stack : List Env
  ex : List Addr
  fn : Str -> Bool
  calm : Bool
  pn : List (Addr × Obj)
  xe : Value -> Shared -> Prop
def frs (l : List Env) : List Addr := l.filterMap (·.frame)
abbrev Cx.fs (X : Cx) : List Addr := frs X.outer
def Vis (sc : Scope) (x : Str) : Prop := sc.names.lookup x = some .local ∨ sc.names.lookup x = some .cell ∨ sc.names.lookup x = some .free
def Loc (sc : Scope) (x : Str) : Prop := sc.names.lookup x = some .local ∨ sc.names.lookup x = some .cell
def Look (env : Env) (h : Heap) (m : Str -> Option Value) (x : Str) (u : Value) : Prop :=
  (env.kindOf x = some .local /\ m x = some u) ∨ ((env.kindOf x = some .cell ∨ env.kindOf x = some .free) /\ ∃ c, env.cells.lookup x = some c /\ h.IsCell c (some u))
structure Cx.Ok (X : Cx) : Prop where
  mod : Mod X.K X.mg X.base
  kind : X.env.scope.kind = .function
  glob : X.env.globals = mainGlobals
  blt : X.env.builtins = builtinsNs
  above : X.s₀.heap.objs.size <= X.env.locals
  inj : ∀ x y c, X.env.cells.lookup x = some c -> X.env.cells.lookup y = some c -> x = y
  has : ∀ x, (X.env.kindOf x = some .cell ∨ X.env.kindOf x = some .free) -> ∃ c, X.env.cells.lookup x = some c
  cab : ∀ x c, X.fn x = true -> X.env.cells.lookup x = some c -> X.s₀.heap.objs.size <= c
  hd : X.calm = true -> X.A.handled = none
  frames : X.A.frames = some X.stack
  stk : X.stack = X.outer ∨ (X.stack = X.env :: X.outer /\ X.env.frame = some X.env.locals)
  exf : ∀ b ∈ X.ex, b ≠ X.env.locals /\ ∀ x c, X.env.cells.lookup x = some c -> c ≠ b
  bs : ∀ b o, X.base.get? b = some o -> X.s₀.heap.get? b = some o /\ X.H₀ b = none
  bsz : X.base.objs.size <= X.s₀.heap.objs.size
  noex : ∀ b o, X.base.get? b = some o -> b ∉ X.ex
  exfs : ∀ b ∈ X.ex, b ∉ X.fs
  funs : X.s₀.heap.FunFrames X.base X.outer
  frf : ∀ b ∈ X.fs, X.H₀ b = none
structure Inv (X : Cx) (pins : List (Addr × Obj)) (σ : List (Option V)) (H : Hp) (s : Shared) : Prop where
  ok : X.Ok
  os : s.os = X.s₀.os
  bare : AllBare s.gens
  base : Un X.fs X.ex X.H₀ H X.s₀.heap s.heap
  loc : ∃ m, s.heap.Ns X.env.locals m /\ ∀ (i : Nat) (x : Str) (v : V), X.N[i]? = some x -> σ[i]? = some (some v) -> Vis X.env.scope x -> ∃ u, RelV v u /\ Look X.env s.heap m x u
  cell : ∀ x c, X.env.cells.lookup x = some c -> ∃ v, s.heap.IsCell c v
  free : H X.env.locals = none
  freeC : ∀ x c, X.env.cells.lookup x = some c -> H c = none
  pin : ∀ p ∈ X.pn ++ pins, s.heap.get? p.1 = some p.2 /\ H p.1 = none /\ p.1 ≠ X.env.locals /\ p.1 ∉ X.fs /\ ∀ v, p.2.data ≠ .cell v
  hok : HOk X.prog X.w H s.heap
  len : σ.length = X.N.length
section
variable {X : Cx} {pins : List (Addr × Obj)} {σ : List (Option V)} {H H' : Hp} {s : Shared} {h' : Heap}
theorem Cx.Ok.nofr (ok : X.Ok) {b : Addr} {o : Obj} (e : X.base.get? b = some o) : b ∉ X.fs := fun hb => by
  have := (ok.funs.mem hb).1
  rw [e] at this; cases this
theorem Inv.bs (I : Inv X pins σ H s) : ∀ b o, X.base.get? b = some o -> s.heap.get? b = some o /\ H b = none := fun b o e =>
  ⟨I.base.keep b o (I.ok.bs b o e).1 (I.ok.bs b o e).2 (I.ok.nofr e) (I.ok.noex b o e), I.base.free b o (I.ok.bs b o e).1 (I.ok.bs b o e).2 (I.ok.noex b o e)⟩
theorem Inv.bk (I : Inv X pins σ H s) : ∀ b o, X.base.get? b = some o -> s.heap.get? b = some o := fun b o e => (I.bs b o e).1
theorem Inv.mod (I : Inv X pins σ H s) : Mod X.K X.mg X.base := I.ok.mod
theorem Inv.kIn (I : Inv X pins σ H s) : X.K.In s.heap := I.ok.mod.kin.keeps I.bk
theorem Inv.fr (I : Inv X pins σ H s) : ∃ m, Fr X.base X.env.locals s.heap m :=
  let ⟨m, hn, _⟩ := I.loc
  ⟨m, hn, I.bk, Znt I.ok.bsz I.ok.above⟩
theorem Inv.lt (I : Inv X pins σ H s) : X.env.locals < s.heap.objs.size := let ⟨_, hn, _⟩ := I.loc; hn.lt
theorem Inv.sz (I : Inv X pins σ H s) : X.s₀.heap.objs.size <= s.heap.objs.size := Znt I.ok.above (Nat.le_of_lt I.lt)
theorem Inv.nofs (I : Inv X pins σ H s) {a : Addr} (h : s.heap.objs.size <= a) : a ∉ X.fs := fun hb => by
  obtain ⟨_, o, ho, _⟩ := I.ok.funs.mem hb
  exact absurd (Nat.lt_of_lt_of_le (Heap.lt_size ho) (Znt I.sz h)) (Nat.lt_irrefl _)
theorem Inv.cne (I : Inv X pins σ H s) : ∀ x c, X.env.cells.lookup x = some c -> c ≠ X.env.locals := fun x c e z => by
  obtain ⟨v, o, ho, hd⟩ := I.cell x c e
  obtain ⟨m, ⟨o', es, ep, ho', hd', _⟩, _⟩ := I.loc
  rw [z, ho'] at ho; cases ho; rw [hd'] at hd; cases hd
theorem Inv.funs (I : Inv X pins σ H s) : s.heap.FunFrames X.base X.outer := by
  have all : ∀ (l : List Env), (∀ b ∈ frs l, b ∈ X.fs) -> X.s₀.heap.FunFrames X.base l -> s.heap.FunFrames X.base l := by
    intro l; induction l with
    | nil => intro _ _; trivial
    | cons env r ih =>
      intro hs hl; obtain ⟨hk, ⟨L, o, hf, hn, ho, hd⟩, hr⟩ := hl
      have hL : L ∈ X.fs := hs L (by unfold frs; rw [List.filterMap_cons, hf]; exact Zcs)
      obtain ⟨sl, e⟩ := I.base.slot L o ho (I.ok.frf L hL) hL fun z => I.ok.exfs L z hL
      exact ⟨hk, ⟨L, _, hf, hn, e, hd⟩, ih (fun b hb => hs b (by unfold frs; rw [List.filterMap_cons, hf]; exact Zmc _ hb)) hr⟩
  exact all X.outer (fun _ hb => hb) I.ok.funs
theorem Inv.stack (I : Inv X pins σ H s) : s.heap.FunFrames X.base X.stack := by
  rcases I.ok.stk with e | ⟨e, hf⟩
  . rw [e]; exact I.funs
  . rw [e]; obtain ⟨m, hn, _⟩ := I.loc
    refine .cons (by rw [I.ok.kind]; decide) hf hn ?_ I.funs
    exact Heap.get?_none_of_le (Znt I.ok.bsz I.ok.above)
theorem Inv.stkSub (I : Inv X pins σ H s) : ∀ b ∈ frs X.stack, b ∈ X.env.locals :: X.fs := fun b hb => by
  rcases I.ok.stk with e | ⟨e, hf⟩
  . rw [e] at hb; exact Zmc _ hb
  . rw [e] at hb; unfold frs at hb; rw [List.filterMap_cons, hf] at hb; exact hb
theorem Inv.stkFree (I : Inv X pins σ H s) : ∀ b ∈ frs X.stack, H b = none := fun b hb => by
  rcases List.mem_cons.mp (I.stkSub b hb) with e | hb
  . rw [e]; exact I.free
  . obtain ⟨_, o, ho, _⟩ := I.ok.funs.mem hb
    exact I.base.free b o ho (I.ok.frf b hb) fun z => I.ok.exfs b z hb
theorem Inv.step {g' : Array GenState} {t' : Nat} {d' : Drawn} {ch : List Addr} (I : Inv X pins σ H s)
    (hch : ∀ b ∈ ch, (b ∈ X.ex ∨ X.s₀.heap.objs.size <= b) /\ b ≠ X.env.locals /\ (∀ x c, X.env.cells.lookup x = some c -> c ≠ b) /\ ∀ p ∈ X.pn ++ pins, p.1 ≠ b)
    (keep : ∀ b o, b ≠ X.env.locals -> b ∉ X.fs -> b ∉ ch -> s.heap.get? b = some o -> H b = none -> h'.get? b = some o)
    (slot : ∀ b o, b ≠ X.env.locals -> b ∈ X.fs -> b ∉ ch -> s.heap.get? b = some o -> H b = none -> ∃ sl, h'.get? b = some { o with slots := sl }) (free : ∀ b o, b ∉ ch -> s.heap.get? b = some o -> H b = none -> H' b = none)
    (there : ∀ b o, b ∉ ch -> s.heap.get? b = some o -> ∃ o', h'.get? b = some o')
    (tups : ∀ b xs, H b = some (.tup xs) -> H' b = some (.tup xs)) (frzs : ∀ b o u, H b = some (.frz o u) -> H' b = some (.frz o u)) (tbls : ∀ b ps, H b = some (.tbl ps) -> ∃ more, H' b = some (.tbl (ps ++ more)))
    (ns : ∀ m, s.heap.Ns X.env.locals m -> h'.Ns X.env.locals m) (hok : HOk X.prog X.w H' h') (hg : AllBare g') :
    Inv X pins σ H' { s with heap := h', gens := g', drawn := d', toks := t' } := by
  have neL : ∀ b o, X.s₀.heap.get? b = some o -> b ≠ X.env.locals := fun b o e => Nat.ne_of_lt (Nat.lt_of_lt_of_le (Heap.lt_size e) I.ok.above)
  have neC : ∀ b o, X.s₀.heap.get? b = some o -> b ∉ X.ex -> b ∉ ch := fun b o e hx hb => by
    rcases (hch b hb).1 with z | z
    . exact hx z
    . exact absurd (Nat.lt_of_lt_of_le (Heap.lt_size e) z) (Nat.lt_irrefl _)
  have cellK : ∀ x c, X.env.cells.lookup x = some c -> ∀ v, s.heap.IsCell c v -> h'.IsCell c v := fun x c e v ⟨o, ho, hd⟩ => by
    have nch : c ∉ ch := fun z => (hch c z).2.2.1 x c e rfl
    by_cases hc : c ∈ X.fs
    . obtain ⟨sl, q⟩ := slot c o (I.cne x c e) hc nch ho (I.freeC x c e)
      exact ⟨_, q, hd⟩
    . exact ⟨o, keep c o (I.cne x c e) hc nch ho (I.freeC x c e), hd⟩
  refine ⟨I.ok, I.os, hg, ⟨fun b o e n hb hx => ?_, fun b o e n hb hx => ?_, fun b o e n hx => ?_, fun b o e hx => ?_, fun b xs e => tups b xs (I.base.tups b xs e), fun b o xs e => frzs b o xs (I.base.frzs b o xs e), fun b ps e => ?_⟩, ?_, fun x c e => ?_, ?_, fun x c e => ?_, fun p hp => ?_, hok, I.len⟩
  . exact keep b o (neL b o e) hb (neC b o e hx) (I.base.keep b o e n hb hx) (I.base.free b o e n hx)
  . obtain ⟨sl, e1⟩ := I.base.slot b o e n hb hx
    obtain ⟨sl', e2⟩ := slot b _ (neL b o e) hb (neC b o e hx) e1 (I.base.free b o e n hx)
    exact ⟨sl', e2⟩
  . obtain ⟨o', e1⟩ := I.base.there b o e hx
    exact free b o' (neC b o e hx) e1 (I.base.free b o e n hx)
  . obtain ⟨o', e1⟩ := I.base.there b o e hx
    exact there b o' (neC b o e hx) e1
  . obtain ⟨m1, e1⟩ := I.base.tbls b ps e
    obtain ⟨m2, e2⟩ := tbls b _ e1
    exact ⟨m1 ++ m2, by rw [e2, Array.append_assoc]⟩
  . obtain ⟨m, hn, hl⟩ := I.loc
    refine ⟨m, ns m hn, fun i x v e1 e2 e3 => ?_⟩
    obtain ⟨u, r, l⟩ := hl i x v e1 e2 e3
    refine ⟨u, r, ?_⟩
    rcases l with l | ⟨k, c, e, z⟩
    . exact .inl l
    . exact .inr ⟨k, c, e, cellK x c e _ z⟩
  . obtain ⟨v, z⟩ := I.cell x c e
    exact ⟨v, cellK x c e v z⟩
  . obtain ⟨m, ⟨o, _, _, ho, _⟩, _⟩ := I.loc
    exact free _ o (fun z => (hch _ z).2.1 rfl) ho I.free
  . obtain ⟨v, o, ho, hd⟩ := I.cell x c e
    exact free c o (fun z => (hch c z).2.2.1 x c e rfl) ho (I.freeC x c e)
  . obtain ⟨e, n, ne, nf, d⟩ := I.pin p hp
    have nch : p.1 ∉ ch := fun z => (hch p.1 z).2.2.2 p hp rfl
    exact ⟨keep p.1 p.2 ne nf nch e n, free p.1 p.2 nch e n, ne, nf, d⟩
theorem Inv.un {t' : Nat} (I : Inv X pins σ H s) (u : Un X.fs [] H H' s.heap h') (hok : HOk X.prog X.w H' h') : Inv X pins σ H' { s with heap := h', toks := t' } := by
  obtain ⟨m, ⟨o, es, ep, ho, r⟩, _⟩ := id I.loc
  obtain ⟨sl, hL⟩ := u.any ho I.free (by simp)
  exact I.step (g' := s.gens) (d' := s.drawn) (ch := []) (fun _ z => nomatch z) (fun b o _ hb _ e n => u.keep b o e n hb (by simp)) (fun b o _ hb _ e n => u.slot b o e n hb (by simp)) (fun b o _ e n => u.free b o e n (by simp)) (fun b o _ e => u.there b o e (by simp)) u.tups u.frzs u.tbls (fun m' hm => by
    obtain ⟨o', es', ep', ho', r'⟩ := hm
    rw [ho] at ho'; cases ho'
    exact ⟨_, es', ep', hL, r'⟩) hok I.bare
theorem Inv.call {g' : Array GenState} {t' : Nat} {d' : Drawn} {ch : List Addr} (I : Inv X pins σ H s) (u : Un (frs X.stack) ch H H' s.heap h') (hok : HOk X.prog X.w H' h') (hg : AllBare g')
    (hch : ∀ b ∈ ch, (b ∈ X.ex ∨ X.s₀.heap.objs.size <= b) /\ b ≠ X.env.locals /\ (∀ x c, X.env.cells.lookup x = some c -> c ≠ b) /\ ∀ p ∈ X.pn ++ pins, p.1 ≠ b) :
    Inv X pins σ H' { s with heap := h', gens := g', drawn := d', toks := t' } := by
  obtain ⟨m, ⟨o, es, ep, ho, r⟩, _⟩ := id I.loc
  obtain ⟨sl, hL⟩ := u.any ho I.free fun z => (hch _ z).2.1 rfl
  exact I.step (ch := ch) hch (fun b o hL hb hc e n => u.keep b o e n (fun z => (List.mem_cons.mp (I.stkSub b z)).elim hL hb) hc) (fun b o _ _ hc e n => u.any e n hc) (fun b o hc e n => u.free b o e n hc) (fun b o hc e => u.there b o e hc) u.tups u.frzs u.tbls (fun m' hm => by
    obtain ⟨o', es', ep', ho', r'⟩ := hm
    rw [ho] at ho'; cases ho'
    exact ⟨_, es', ep', hL, r'⟩) hok hg
theorem Inv.turned {t' : Nat} {it : Addr} (I : Inv X pins σ H s) (k : ∀ b o, b ≠ it -> s.heap.get? b = some o -> h'.get? b = some o) (hn : H it = none) (hL : it ≠ X.env.locals)
    (h1 : it ∈ X.ex ∨ X.s₀.heap.objs.size <= it) (h2 : ∀ x c, X.env.cells.lookup x = some c -> c ≠ it) (h3 : ∀ p ∈ X.pn ++ pins, p.1 ≠ it) : Inv X pins σ H { s with heap := h', toks := t' } := by
  have nit : ∀ b u, H b = some u -> b ≠ it := fun b u e z => by rw [z, hn] at e; cases e
  refine I.step (g' := s.gens) (d' := s.drawn) (ch := [it]) (fun b hb => ?_) (fun b o _ _ hc e _ => k b o (fun z => hc (by simp [z])) e) (fun b o _ _ hc e _ => ⟨o.slots, k b o (fun z => hc (by simp [z])) e⟩) (fun _ _ _ _ n => n)
    (fun b o hc e => ⟨o, k b o (fun z => hc (by simp [z])) e⟩) (fun _ _ e => e) (fun _ _ _ e => e) (fun b ps e => ⟨#[], by rw [e]; simp⟩) (fun m hm => ?_) (fun b u e => ?_) I.bare
  . have e : b = it := by simpa using hb
    subst e; exact ⟨h1, hL, h2, h3⟩
  . obtain ⟨o, es, ep, ho, r⟩ := hm
    exact ⟨o, es, ep, k _ o (Ne.symm hL) ho, r⟩
  . refine (I.hok b u e).stay (fun c v hc q => k c v ?_ q) (fun _ q => q) fun _ _ q => q
    rcases hc with z | z
    . rw [z]; exact nit b u e
    . exact nit c _ z
theorem Inv.tok (I : Inv X pins σ H s) (t : Nat) : Inv X pins σ H { s with toks := t } := I.un (h' := s.heap) (t' := t) Un.refl I.hok
theorem Inv.kept {t' : Nat} (I : Inv X pins σ H s) (k : ∀ b u, s.heap.get? b = some u -> h'.get? b = some u) : Inv X pins σ H { s with heap := h', toks := t' } := I.un (Un.kept k) (I.hok.kept k)
theorem Inv.laid {a : Addr} {o : HO} {t' : Nat} (I : Inv X pins σ H s) (k : ∀ b u, s.heap.get? b = some u -> h'.get? b = some u) (hp : s.heap.objs.size <= a) (new : ObjOk X.prog X.w (upd H a o) h' a o) :
    Inv X pins σ (upd H a o) { s with heap := h', toks := t' } := I.un (Un.laid k hp (I.hok.fresh hp)) (I.hok.laid k hp new)
theorem Inv.write {x e : Addr} {o : HO} {t' : Nat} (I : Inv X pins σ H s) (mu : Mut (H x)) (he : e = x ∨ H e = some (.own x)) (k : ∀ b u, b ≠ e -> s.heap.get? b = some u -> h'.get? b = some u) (heo : ∃ u, h'.get? e = some u)
    (new : ObjOk X.prog X.w (upd H x o) h' x o) : Inv X pins σ (upd H x o) { s with heap := h', toks := t' } := I.un (Un.write mu he k heo) (I.hok.write mu he k heo new)
theorem Inv.weak {σ' : List (Option V)} (I : Inv X pins σ H s) (hl : σ'.length = σ.length) (w : ∀ (i : Nat) v, σ'[i]? = some (some v) -> σ[i]? = some (some v)) : Inv X pins σ' H s :=
  ⟨I.ok, I.os, I.bare, I.base, let ⟨m, hn, hl'⟩ := I.loc; ⟨m, hn, fun i x v e1 e2 e3 => hl' i x v e1 (w i v e2) e3⟩, I.cell, I.free, I.freeC, I.pin, I.hok, hl.trans I.len⟩
theorem Inv.pins_of {pins' : List (Addr × Obj)} (I : Inv X pins σ H s) (h : ∀ p ∈ pins', s.heap.get? p.1 = some p.2 /\ H p.1 = none /\ p.1 ≠ X.env.locals /\ p.1 ∉ X.fs /\ ∀ v, p.2.data ≠ .cell v) : Inv X pins' σ H s :=
  ⟨I.ok, I.os, I.bare, I.base, I.loc, I.cell, I.free, I.freeC, fun p hp => (Zma.mp hp).elim (fun z => I.pin p (List.mem_append_left _ z)) (h p), I.hok, I.len⟩
theorem nodup_ix {N : List Str} (hN : N.Nodup) {i j : Nat} {x : Str} (a : N[i]? = some x) (b : N[j]? = some x) : i = j := by
  obtain ⟨h1, e1⟩ := Zgs.mp a
  obtain ⟨h2, e2⟩ := Zgs.mp b
  exact (List.getElem_inj hN).mp (e1.trans e2.symm)
theorem store_ok2 {M : Model} {A : Around} {E : Value -> Shared -> Prop} {i : Nat} {x : Str} {v : V} {u : Value} {Q : Unit -> Shared -> Prop} (I : Inv X pins σ H s) (hN : X.N.Nodup) (hi : X.N[i]? = some x) (hx : Loc X.env.scope x) (r : RelV v u)
    (h : ∀ s', Inv X pins (σ.set i (some v)) H s' -> (∃ a, Heap.SameBut a s.heap s'.heap /\ (a = X.env.locals ∨ X.env.cells.lookup x = some a)) -> Q () s') (hf : X.fn x = true ∨ X.env.scope.names.lookup x = some .local := by first | exact .inl rfl | exact .inr rfl | assumption) : wpAny M A (storeName X.env x u) Q E s := by
  obtain ⟨m, hn, hl⟩ := id I.loc
  have hcls : (X.env.scope.kind == .class || (X.env.scope.kind == .module && X.env.locals != X.env.globals)) = false := by rw [I.ok.kind]; rfl
  have hiσ : i < σ.length := by rw [I.len]; exact (Zgs.mp hi).1
  have cne := I.cne
  have tracked : ∀ {a : Addr} {h' : Heap}, (∃ o, s.heap.get? a = some o /\ H a = none) -> Heap.SameBut a s.heap h' -> HOk X.prog X.w H h' := fun {a h'} ha hs b ob e => by
    obtain ⟨_, _, hfree⟩ := ha
    refine (I.hok b ob e).stay (fun c w' hc q => (hs.2 c ?_).trans q) (fun _ q => q) fun _ _ q => q
    rintro rfl
    rcases hc with rfl | hc
    . rw [hfree] at e; cases e
    . rw [hfree] at hc; cases hc
  rcases hx with hk | hk
  . refine wpAny_storeName_local hk hn (fun h' hn' hs => ?_) hcls
    obtain ⟨oL, _, _, hoL, _⟩ := id hn
    refine h _ ⟨I.ok, I.os, I.bare, ⟨fun b o e n hb hx => ?_, fun b o e n hb hx => ?_, I.base.free, fun b o e hx => ?_, I.base.tups, I.base.frzs, I.base.tbls⟩, ⟨_, hn', fun j y v' e1 e2 e3 => ?_⟩, fun y c e => ?_, I.free, I.freeC, fun p hp => ?_, tracked ⟨oL, hoL, I.free⟩ hs, by simpa using I.len⟩ ⟨_, hs, .inl rfl⟩
    . exact (hs.2 b (Nat.ne_of_lt (Nat.lt_of_lt_of_le (Heap.lt_size e) I.ok.above))).trans (I.base.keep b o e n hb hx)
    . obtain ⟨sl, e1⟩ := I.base.slot b o e n hb hx
      exact ⟨sl, (hs.2 b (Nat.ne_of_lt (Nat.lt_of_lt_of_le (Heap.lt_size e) I.ok.above))).trans e1⟩
    . obtain ⟨o', e1⟩ := I.base.there b o e hx
      exact ⟨o', (hs.2 b (Nat.ne_of_lt (Nat.lt_of_lt_of_le (Heap.lt_size e) I.ok.above))).trans e1⟩
    . by_cases hj : j = i
      . subst hj; rw [hi] at e1; cases e1
        rw [List.getElem?_set_self hiσ] at e2; cases e2
        exact ⟨u, r, .inl ⟨hk, by simp⟩⟩
      . rw [List.getElem?_set_ne (Ne.symm hj)] at e2; obtain ⟨u', r', q⟩ := hl j y v' e1 e2 e3
        refine ⟨u', r', ?_⟩
        rcases q with ⟨k, e⟩ | ⟨k, c, e, z⟩
        . refine .inl ⟨k, ?_⟩
          have : y ≠ x := fun e => hj (nodup_ix hN e1 (e ▸ hi))
          simp [this, e]
        . exact .inr ⟨k, c, e, z.sameBut hs (cne y c e)⟩
    . obtain ⟨w', z⟩ := I.cell y c e
      exact ⟨w', z.sameBut hs (cne y c e)⟩
    . obtain ⟨e, n, ne, nf, d⟩ := I.pin p hp
      exact ⟨(hs.2 p.1 ne).trans e, n, ne, nf, d⟩
  . have hfn : X.fn x = true := by
      rcases hf with z | z
      . exact z
      . rw [z] at hk; cases hk
    obtain ⟨c, hc⟩ := I.ok.has x (.inl hk)
    obtain ⟨w', z⟩ := I.cell x c hc
    refine wpAny_storeName_cell I.ok.kind hk hc z (fun h' hc' hs => ?_)
    obtain ⟨oc, hoc, hocd⟩ := id z
    refine h { s with heap := h' } ⟨I.ok, I.os, I.bare, ⟨fun b o e n hb hx => ?_, fun b o e n hb hx => ?_, I.base.free, fun b o e hx => ?_, I.base.tups, I.base.frzs, I.base.tbls⟩, ⟨m, hn.sameBut hs (Ne.symm (cne x c hc)), fun j y v' e1 e2 e3 => ?_⟩, fun y c' e => ?_, I.free, I.freeC, fun p hp => ?_, tracked ⟨oc, hoc, I.freeC x c hc⟩ hs, by simpa using I.len⟩ ⟨c, hs, .inr hc⟩
    . exact (hs.2 b (Nat.ne_of_lt (Nat.lt_of_lt_of_le (Heap.lt_size e) (I.ok.cab x c hfn hc)))).trans (I.base.keep b o e n hb hx)
    . obtain ⟨sl, e1⟩ := I.base.slot b o e n hb hx
      exact ⟨sl, (hs.2 b (Nat.ne_of_lt (Nat.lt_of_lt_of_le (Heap.lt_size e) (I.ok.cab x c hfn hc)))).trans e1⟩
    . obtain ⟨o', e1⟩ := I.base.there b o e hx
      exact ⟨o', (hs.2 b (Nat.ne_of_lt (Nat.lt_of_lt_of_le (Heap.lt_size e) (I.ok.cab x c hfn hc)))).trans e1⟩
    . by_cases hj : j = i
      . subst hj; rw [hi] at e1; cases e1
        rw [List.getElem?_set_self hiσ] at e2; cases e2
        exact ⟨u, r, .inr ⟨.inl hk, c, hc, hc'⟩⟩
      . rw [List.getElem?_set_ne (Ne.symm hj)] at e2; obtain ⟨u', r', q⟩ := hl j y v' e1 e2 e3
        refine ⟨u', r', ?_⟩
        rcases q with q | ⟨k, c', e, z'⟩
        . exact .inl q
        . refine .inr ⟨k, c', e, z'.sameBut hs ?_⟩
          rintro rfl
          exact hj (nodup_ix hN e1 (I.ok.inj _ _ _ e hc ▸ hi))
    . by_cases hcc : c' = c
      . subst hcc; exact ⟨_, hc'⟩
      . obtain ⟨w2, z2⟩ := I.cell y c' e
        exact ⟨w2, z2.sameBut hs hcc⟩
    . obtain ⟨e, n, ne, nf, d⟩ := I.pin p hp
      refine ⟨(hs.2 p.1 ?_).trans e, n, ne, nf, d⟩
      intro q; rw [q, hoc] at e; have q' : oc = p.2 := Option.some.inj e
      exact d w' (by rw [<- q']; exact hocd)
theorem store_ok {M : Model} {A : Around} {E : Value -> Shared -> Prop} {i : Nat} {x : Str} {v : V} {u : Value} {Q : Unit -> Shared -> Prop} (I : Inv X pins σ H s) (hN : X.N.Nodup) (hi : X.N[i]? = some x) (hx : Loc X.env.scope x) (r : RelV v u)
    (h : ∀ s', Inv X pins (σ.set i (some v)) H s' -> Q () s') (hf : X.fn x = true ∨ X.env.scope.names.lookup x = some .local := by first | exact .inl rfl | exact .inr rfl | assumption) : wpAny M A (storeName X.env x u) Q E s :=
  store_ok2 I hN hi hx r (fun s' I' _ => h s' I') hf
theorem Inv.call' {s' : Shared} {ch : List Addr} (I : Inv X pins σ H s) (ho : s'.os = s.os) (u : Un (frs X.stack) ch H H' s.heap s'.heap) (hok : HOk X.prog X.w H' s'.heap) (hg : AllBare s'.gens)
    (hch : ∀ b ∈ ch, (b ∈ X.ex ∨ X.s₀.heap.objs.size <= b) /\ b ≠ X.env.locals /\ (∀ x c, X.env.cells.lookup x = some c -> c ≠ b) /\ ∀ p ∈ X.pn ++ pins, p.1 ≠ b) : Inv X pins σ H' s' := by
  obtain ⟨h', g', d', t', o'⟩ := s'
  have e : o' = s.os := ho
  subst e; exact I.call (g' := g') (t' := t') (d' := d') u hok hg hch
end
abbrev XK := Value -> Option Addr -> Hp -> Prop
abbrev St := List (Option V)
abbrev VK := V -> Hp -> Prop
abbrev TE := St -> Hp -> VK -> Prop
abbrev TT := St -> Hp -> (Bool -> Hp -> Prop) -> Prop
abbrev TA := St -> Hp -> (List V -> Hp -> Prop) -> Prop
structure Ends where
  nx : St -> Hp -> Prop
  rt : VK
  bk : St -> Hp -> Prop := fun _ _ => False
  ct : St -> Hp -> Prop := fun _ _ => False
abbrev TS := Ends -> St -> Hp -> Prop
def EP (X : Cx) (pins : List (Addr × Obj)) (σ : St) (Q : VK) (u : Value) (s' : Shared) : Prop := ∃ v H', Inv X pins σ H' s' /\ RelV v u /\ Q v H'
def TP (X : Cx) (pins : List (Addr × Obj)) (σ : St) (Q : Bool -> Hp -> Prop) (b : Bool) (s' : Shared) : Prop := ∃ H', Inv X pins σ H' s' /\ Q b H'
def AP (X : Cx) (pins : List (Addr × Obj)) (σ : St) (Q : List V -> Hp -> Prop) (us : List Value) (s' : Shared) : Prop := ∃ vs H', Inv X pins σ H' s' /\ Vals vs us /\ Q vs H'
def SP (X : Cx) (pins : List (Addr × Obj)) (D : Ends) (f : Flow) (s' : Shared) : Prop :=
  match f with
  | .next => ∃ σ' H', Inv X pins σ' H' s' /\ D.nx σ' H'
  | .brk => ∃ σ' H', Inv X pins σ' H' s' /\ D.bk σ' H'
  | .cont => ∃ σ' H', Inv X pins σ' H' s' /\ D.ct σ' H'
  | .ret u => ∃ v σ' H', Inv X pins σ' H' s' /\ RelV v u /\ D.rt v H'
def PE (X : Cx) (e : Expr) (t : TE) : Prop :=
  ∀ (pins : List (Addr × Obj)) (s : Shared) (σ : St) (H : Hp) (Q : VK), Inv X pins σ H s -> t σ H Q -> wpAny (model X.prog X.w) X.A (eval e X.env) (EP X pins σ Q) X.xe s
def PT (X : Cx) (e : Expr) (t : TT) : Prop :=
  ∀ (pins : List (Addr × Obj)) (s : Shared) (σ : St) (H : Hp) (Q : Bool -> Hp -> Prop), Inv X pins σ H s -> t σ H Q -> wpAny (model X.prog X.w) X.A (isTrue e X.env (eval e X.env)) (TP X pins σ Q) X.xe s
def PW (X : Cx) (e : Expr) (t : TT) : Prop :=
  ∀ (whole : Sem Value) (pins : List (Addr × Obj)) (s : Shared) (σ : St) (H : Hp) (Q : Bool -> Hp -> Prop), Inv X pins σ H s -> t σ H Q -> wpAny (model X.prog X.w) X.A (isTrue e X.env whole) (TP X pins σ Q) X.xe s
theorem PW.pt {X : Cx} {e : Expr} {t : TT} (h : PW X e t) : PT X e t := h _
def PA (X : Cx) (es : List Expr) (t : TA) : Prop :=
  ∀ (pos : Pos) (pins : List (Addr × Obj)) (s : Shared) (σ : St) (H : Hp) (Q : List V -> Hp -> Prop), Inv X pins σ H s -> t σ H Q -> wpAny (model X.prog X.w) X.A (spliced (backTo pos (starEach es X.env))) (AP X pins σ Q) X.xe s
def PS (X : Cx) (st : Stmt) (t : TS) : Prop :=
  ∀ (pins : List (Addr × Obj)) (s : Shared) (σ : St) (H : Hp) (D : Ends), Inv X pins σ H s -> t D σ H -> wpAny (model X.prog X.w) X.A (exec st X.env) (SP X pins D) X.xe s
def PSs (X : Cx) (st : List Stmt) (t : TS) : Prop :=
  ∀ (pins : List (Addr × Obj)) (s : Shared) (σ : St) (H : Hp) (D : Ends), Inv X pins σ H s -> t D σ H -> wpAny (model X.prog X.w) X.A (execs st X.env) (SP X pins D) X.xe s
theorem thn {α : Type} {t : Sem α} {Q Q' : α -> Shared -> Prop} {M : Model} {A : Around} {E : Value -> Shared -> Prop} {s : Shared} (h : wpAny M A t Q E s) (hQ : ∀ a s, Q a s -> Q' a s) : wpAny M A t Q' E s := wpAny_mono h hQ fun _ _ x => x
end L2
namespace L2
open PySem PySem.Spec PyProof.Rows
section
variable {X : Cx}
theorem bin {a b : Expr} {ta tb : TE} (ha : PE X a ta) (hb : PE X b tb) {pins : List (Addr × Obj)} {s : Shared} {σ : St} {H : Hp} {R : V -> V -> Hp -> Prop} (I : Inv X pins σ H s) (h : ta σ H fun x H1 => tb σ H1 fun y H2 => R x y H2)
    {α : Type} {Q : α -> Shared -> Prop} {f : Value -> Value -> Sem α}
    (hf : ∀ v u s2 x y H2, Inv X pins σ H2 s2 -> RelV x v -> RelV y u -> R x y H2 -> wpAny (model X.prog X.w) X.A (f v u) Q X.xe s2) :
    wpAny (model X.prog X.w) X.A (eval a X.env) (fun v s₁ => wpAny (model X.prog X.w) X.A (eval b X.env) (fun u s₂ => wpAny (model X.prog X.w) X.A (f v u) Q X.xe s₂) X.xe s₁) X.xe s := by
  refine thn (ha pins s σ H _ I h) fun v s1 ⟨x, H1, I1, r1, q1⟩ => ?_
  refine thn (hb pins s1 σ H1 _ I1 q1) fun u s2 ⟨y, H2, I2, r2, q2⟩ => ?_
  exact hf v u s2 x y H2 I2 r1 r2 q2
def tVar (i : Nat) : TE := fun σ H Q => ∃ v, σ[i]? = some (some v) /\ Q v H
def tC (v : V) : TE := fun _ H Q => Q v H
theorem pe_var {i : Nat} {x : Str} {pos : Pos} (hN : X.N[i]? = some x) (hv : Vis X.env.scope x) (hd : (x == ("__debug__" : Str)) = false := by decide) (hcd : (x == ("__classdict__" : Str)) = false := by decide) : PE X (.Name x pos) (tVar i) := by
  intro pins s σ H Q I h; obtain ⟨v, e, h⟩ := h
  obtain ⟨m, hn, hl⟩ := I.loc
  obtain ⟨u, r, l⟩ := hl i x v hN e hv
  have fin : EP X pins σ Q u s := ⟨v, H, I, r, h⟩
  rcases l with ⟨hk, hm⟩ | ⟨hk, c, hc, hcell⟩
  . exact wpAny_Name (wpAny_loadName_local I.ok.kind hk hn hm fin) hd
  . rcases hk with hk | hk
    . exact wpAny_Name (wpAny_loadName_cell I.ok.kind hk hc hcell fin) hd
    . exact wpAny_Name (wpAny_loadName_free I.ok.kind hk hc hcell fin hcd) hd
theorem pe_int {i j pos} : PE X (.Constant (.int i) j pos) (tC (.int i)) := fun _ _ _ H _ I h => wpAny_Constant_int ⟨.int i, H, I.tok _, ⟨_, rfl⟩, h⟩
theorem pe_bl {b j pos} : PE X (.Constant (.bool b) j pos) (tC (.bl b)) := fun _ _ _ H _ I h => Constant_bool ⟨.bl b, H, I, rfl, h⟩
theorem pe_non {j pos} : PE X (.Constant .none j pos) (tC .non) := fun _ _ _ H _ I h => Constant_none ⟨.non, H, I, rfl, h⟩
theorem pe_str {x j pos} : PE X (.Constant (.str x) j pos) (tC (.str x)) := fun _ _ _ H _ I h => Calls.Constant_str ⟨.str x, H, I.tok _, ⟨_, rfl⟩, h⟩
def Gl (X : Cx) (x : Str) : Prop := X.env.kindOf x = some .globalImplicit
theorem ld_glob {E : Value -> Shared -> Prop} {pins : List (Addr × Obj)} {s : Shared} {σ : St} {H : Hp} {x : Str} {u : Value} {pos : Pos} {Q : Value -> Shared -> Prop} (I : Inv X pins σ H s) (hg : Gl X x) (hm : X.mg x = some u) (h : Q u s)
    (hd : (x == ("__debug__" : Str)) = false := by decide) : wpAny (model X.prog X.w) X.A (eval (.Name x pos) X.env) Q E s :=
  Calls.Name_function_global I.ok.kind hg (Calls.loadGlobal_global (by rw [I.ok.glob]; exact I.mod.glob.keeps I.bk) hm h) hd
theorem ld_blt {E : Value -> Shared -> Prop} {pins : List (Addr × Obj)} {s : Shared} {σ : St} {H : Hp} {x : Str} {u : Value} {pos : Pos} {Q : Value -> Shared -> Prop} (I : Inv X pins σ H s) (hg : Gl X x) (hm : X.mg x = none) (hv : bootBuiltins x = some u) (h : Q u s)
    (hn : x ≠ "__name__" := by decide) (hd : (x == ("__debug__" : Str)) = false := by decide) : wpAny (model X.prog X.w) X.A (eval (.Name x pos) X.env) Q E s := by
  obtain ⟨mb, h1, h2⟩ := I.mod.blt
  exact Calls.Name_function_global I.ok.kind hg (Calls.loadGlobal_builtin (by rw [I.ok.glob]; exact I.mod.glob.keeps I.bk) hm (by rw [I.ok.blt]; exact h1.keeps I.bk) ((h2 x hn).trans hv) h) hd
theorem pe_glob {x : Str} {v : V} {u : Value} {pos : Pos} (hg : Gl X x) (hm : X.mg x = some u) (r : RelV v u) (hd : (x == ("__debug__" : Str)) = false := by decide) : PE X (.Name x pos) (tC v) :=
  fun _ _ _ H _ I h => ld_glob I hg hm ⟨v, H, I, r, h⟩ hd
theorem pe_bltn {x : Str} {v : V} {u : Value} {pos : Pos} (hg : Gl X x) (hm : X.mg x = none) (hv : bootBuiltins x = some u) (r : RelV v u) (hn : x ≠ "__name__" := by decide) (hd : (x == ("__debug__" : Str)) = false := by decide) : PE X (.Name x pos) (tC v) :=
  fun _ _ _ H _ I h => ld_blt I hg hm hv ⟨v, H, I, r, h⟩ hn hd
variable {a b : Expr} {ta tb : TE} {pos : Pos}
def PC (X : Cx) (op : CmpOp) (a b : Expr) (t : TE) : Prop :=
  ∀ (pins : List (Addr × Obj)) (s : Shared) (σ : St) (H : Hp) (Q : VK), Inv X pins σ H s -> t σ H Q →
    wpAny (model X.prog X.w) X.A (eval a X.env) (fun v s₁ => wpAny (model X.prog X.w) X.A (eval b X.env) (fun u s₂ => wpAny (model X.prog X.w) X.A (compareOp op v u) (EP X pins σ Q) X.xe s₂) X.xe s₁) X.xe s
def tB (t : TE) : TT := fun σ H Q => t σ H fun x H1 => ∃ c, x = .bl c /\ Q c H1
theorem pt_cmp {op : CmpOp} {t : TE} (h : PC X op a b t) (h1 : behindInMarks op b = false := by first | exact nobehind _ (by decide) (by decide) | rfl) : PT X (.Compare a [op] [b] pos) (tB t) := by
  intro pins s σ H Q I hw; refine wpAny_isTrue_Compare1 (thn (h pins s σ H _ I hw) fun v s1 h1 => thn h1 fun u s2 h2 => thn h2 fun c s3 ⟨x, H1, I1, r1, q1⟩ => ?_) h1
  obtain ⟨d, rfl, q⟩ := q1
  cases r1
  exact wpAny_truthy_bool ⟨H1, I1, q⟩
theorem pt_val {e : Expr} {t : TE} (h : PE X e t) (he : ∀ whole, isTrue e X.env whole = (do let v ← whole; standAt e.pos; holding [v] (truthy v)) := by intro _; rfl) : PT X e (tB t) := by
  intro pins s σ H Q I hw; refine isTrue_plain (thn (h pins s σ H _ I hw) fun v s1 ⟨x, H1, I1, r1, q1⟩ => ?_) (he _)
  obtain ⟨d, rfl, q⟩ := q1
  cases r1
  exact wpAny_truthy_bool ⟨H1, I1, q⟩
variable {tA tB' : TT} {rest : List Expr}
def tAnd (t u : TT) : TT := fun σ H Q => t σ H fun c H1 => if c = true then u σ H1 Q else Q false H1
def tOr (t u : TT) : TT := fun σ H Q => t σ H fun c H1 => if c = true then Q true H1 else u σ H1 Q
def tNot (t : TT) : TT := fun σ H Q => t σ H fun c H1 => Q (!c) H1
theorem pw_and1 (ha : PT X a tA) : PW X (.BoolOp .And [a] pos) tA := by
  intro wh pins s σ H Q I h; refine isTrue_and (thn (ha pins s σ H Q I h) fun c s1 e => ?_)
  cases c with
  | true => exact isTrue_and_nil e
  | false => exact e
theorem pw_or1 (ha : PT X a tA) : PW X (.BoolOp .Or [a] pos) tA := by
  intro wh pins s σ H Q I h; refine isTrue_or (thn (ha pins s σ H Q I h) fun c s1 e => ?_)
  cases c with
  | false => exact isTrue_or_nil e
  | true => exact e
theorem pw_and (ha : PT X a tA) (hb : PW X (.BoolOp .And (b :: rest) pos) tB') : PW X (.BoolOp .And (a :: b :: rest) pos) (tAnd tA tB') := by
  intro wh pins s σ H Q I h; refine isTrue_and (thn (ha pins s σ H _ I h) fun c s1 ⟨H1, I1, q1⟩ => ?_)
  cases c with
  | true => exact hb wh pins s1 σ H1 Q I1 q1
  | false => exact ⟨H1, I1, q1⟩
theorem pw_or (ha : PT X a tA) (hb : PW X (.BoolOp .Or (b :: rest) pos) tB') : PW X (.BoolOp .Or (a :: b :: rest) pos) (tOr tA tB') := by
  intro wh pins s σ H Q I h; refine isTrue_or (thn (ha pins s σ H _ I h) fun c s1 ⟨H1, I1, q1⟩ => ?_)
  cases c with
  | true => exact ⟨H1, I1, q1⟩
  | false => exact hb wh pins s1 σ H1 Q I1 q1
theorem pt_not (ha : PT X a tA) : PT X (.UnaryOp .Not a pos) (tNot tA) := by
  intro pins s σ H Q I h; exact isTrue_not (ha pins s σ H (fun c H1 => Q (!c) H1) I h)
def tAndV (ta tb : TE) : TE := fun σ H Q => ta σ H fun x H1 => ∃ c, x = .bl c /\ if c = true then tb σ H1 Q else Q (.bl false) H1
def tOrV (ta tb : TE) : TE := fun σ H Q => ta σ H fun x H1 => ∃ c, x = .bl c /\ if c = true then Q (.bl true) H1 else tb σ H1 Q
def tNotV (ta : TE) : TE := fun σ H Q => ta σ H fun x H1 => ∃ c, x = .bl c /\ Q (.bl (!c)) H1
theorem pe_one {op} {t : TE} (h : PE X a t) : PE X (.BoolOp op [a] pos) t := fun pins s σ H Q I hw => BoolOp_one (h pins s σ H Q I hw)
theorem pe_and (ha : PE X a ta) (hb : PE X (.BoolOp .And (b :: rest) pos) tb) : PE X (.BoolOp .And (a :: b :: rest) pos) (tAndV ta tb) := by
  intro pins s σ H Q I h; refine BoolOp_and (thn (ha pins s σ H _ I h) fun v s1 ⟨x, H1, I1, r1, q1⟩ => ?_)
  obtain ⟨c, rfl, q1⟩ := q1
  cases r1
  refine wpAny_truthy_bool ?_
  cases c with
  | true => exact hb pins s1 σ H1 Q I1 q1
  | false => exact ⟨.bl false, H1, I1, rfl, q1⟩
theorem pe_or (ha : PE X a ta) (hb : PE X (.BoolOp .Or (b :: rest) pos) tb) : PE X (.BoolOp .Or (a :: b :: rest) pos) (tOrV ta tb) := by
  intro pins s σ H Q I h; refine BoolOp_or (thn (ha pins s σ H _ I h) fun v s1 ⟨x, H1, I1, r1, q1⟩ => ?_)
  obtain ⟨c, rfl, q1⟩ := q1
  cases r1
  refine wpAny_truthy_bool ?_
  cases c with
  | false => exact hb pins s1 σ H1 Q I1 q1
  | true => exact ⟨.bl true, H1, I1, rfl, q1⟩
theorem pe_not (ha : PE X a ta) : PE X (.UnaryOp .Not a pos) (tNotV ta) := by
  intro pins s σ H Q I h; refine UnaryOp_ (thn (ha pins s σ H _ I h) fun v s1 ⟨x, H1, I1, r1, q1⟩ => ?_)
  obtain ⟨c, rfl, q1⟩ := q1
  cases r1
  exact not_of (wpAny_truthy_bool ⟨.bl (!c), H1, I1, rfl, q1⟩)
end
end L2
namespace L2
open PySem PySem.Spec PyProof.Rows
def SqL (K : W.Frag) (H : Hp) (a : Addr) (xs : List V) : Prop :=
  Rd H a (.lst xs) ∨
    ∃ (o : Obj) (its : Array Value) (n : Nat), K.lookup a = some o /\ o.cls = .type "list" /\ o.dict = none /\ o.data = .seq its n /\ its.size <= sizeLine /\ Vals xs its.toList
def SqT (K : W.Frag) (H : Hp) (a : Addr) (xs : List V) : Prop :=
  Rd H a (.tup xs) ∨
    ∃ (o : Obj) (its : Array Value) (n : Nat), K.lookup a = some o /\ o.cls = .type "tuple" /\ o.data = .seq its n /\ its.size <= sizeLine /\ Vals xs its.toList
def absV : Value -> Option V
  | .none => some .non
  | .bool b => some (.bl b)
  | .int i _ => some (.int i)
  | .str x _ => some (.str x)
  | .bytes b _ => some (.byt b)
  | .float b _ => some (.flt b)
  | .ref a => some (.ref a)
  | .type n => some (.ty n)
  | _ => none
theorem RelV.abs {x : V} {u : Value} (r : RelV x u) : absV u = some x := by
  cases x with
  | non => cases r; rfl
  | bl _ => cases r; rfl
  | int _ => obtain ⟨t, rfl⟩ := r; rfl
  | str _ => obtain ⟨t, rfl⟩ := r; rfl
  | byt _ => obtain ⟨t, rfl⟩ := r; rfl
  | flt _ => obtain ⟨t, rfl⟩ := r; rfl
  | ref _ => cases r; rfl
  | ty _ => cases r; rfl
theorem RelV.inj {x y : V} {u : Value} (r : RelV x u) (q : RelV y u) : x = y := Option.some.inj (r.abs.symm.trans q.abs)
theorem Vals.inj : ∀ {xs ys : List V} {us : List Value}, Vals xs us -> Vals ys us -> xs = ys
  | _, _, _, .nil, .nil => rfl
  | _, _, _, .cons r t, .cons r' t' => by rw [r.inj r', Vals.inj t t']
section
variable {X : Cx} {pins : List (Addr × Obj)} {σ : St} {H : Hp} {s : Shared} {a : Addr} {xs ys : List V}
theorem SqL.of {K : W.Frag} (h : H a = some (.lst xs)) : SqL K H a xs := .inl (.inl h)
theorem SqT.of {K : W.Frag} (h : H a = some (.tup xs)) : SqT K H a xs := .inl (.inl h)
theorem Inv.list (I : Inv X pins σ H s) (h : SqL X.K H a xs) : ∃ its : List Value, Vals xs its /\ PlainL s.heap a its.toArray /\ xs.length <= sizeLine := by
  rcases h with h | ⟨o, its, n, hk, hc, hd, hs, hz, r⟩
  . obtain ⟨z, its, n, r, e⟩ := h.ok I.hok
    exact ⟨its, r, ⟨_, n, e, rfl, rfl, rfl⟩, z⟩
  . refine ⟨its.toList, r, ⟨o, n, I.kIn a o hk, hc, hd, by simpa using hs⟩, ?_⟩
    have e := r.length
    simp only [Array.length_toList] at e
    omega
theorem Inv.tuple (I : Inv X pins σ H s) (h : SqT X.K H a xs) : ∃ its : List Value, Vals xs its /\ IsTup s.heap a its.toArray /\ xs.length <= sizeLine := by
  rcases h with h | ⟨o, its, n, hk, hc, hs, hz, r⟩
  . obtain ⟨z, its, r, p⟩ := h.ok I.hok
    exact ⟨its, r, p, z⟩
  . refine ⟨its.toList, r, ⟨o, I.kIn a o hk, hc, n, by simpa using hs⟩, ?_⟩
    have e := r.length
    simp only [Array.length_toList] at e
    omega
theorem Inv.list_inj (I : Inv X pins σ H s) (h : SqL X.K H a xs) (h' : SqL X.K H a ys) : xs = ys := by
  obtain ⟨its, r, ⟨o, n, e, _, _, d⟩, _⟩ := I.list h
  obtain ⟨its', r', ⟨o', n', e', _, _, d'⟩, _⟩ := I.list h'
  rw [e] at e'; cases e'
  rw [d] at d'; injection d' with d1 _
  have : its = its' := by simpa using congrArg Array.toList d1
  subst this; exact r.inj r'
theorem Inv.tuple_inj (I : Inv X pins σ H s) (h : SqT X.K H a xs) (h' : SqT X.K H a ys) : xs = ys := by
  obtain ⟨its, r, ⟨o, e, _, n, d⟩, _⟩ := I.tuple h
  obtain ⟨its', r', ⟨o', e', _, n', d'⟩, _⟩ := I.tuple h'
  rw [e] at e'; cases e'
  rw [d] at d'; injection d' with d1 _
  have : its = its' := by simpa using congrArg Array.toList d1
  subst this; exact r.inj r'
end
abbrev Cx.wish (X : Cx) (E : Value -> Shared -> Prop) : Cx := { X with xe := E }
abbrev Cx.nox (X : Cx) : Cx := X.wish fun _ _ => False
theorem Cx.Ok.wish {X : Cx} (ok : X.Ok) (E : Value -> Shared -> Prop) : (X.wish E).Ok :=
  ⟨ok.mod, ok.kind, ok.glob, ok.blt, ok.above, ok.inj, ok.has, ok.cab, ok.hd, ok.frames, ok.stk, ok.exf, ok.bs, ok.bsz, ok.noex, ok.exfs, ok.funs, ok.frf⟩
theorem Cx.Ok.unwish {X : Cx} {E : Value -> Shared -> Prop} (ok : (X.wish E).Ok) : X.Ok :=
  ⟨ok.mod, ok.kind, ok.glob, ok.blt, ok.above, ok.inj, ok.has, ok.cab, ok.hd, ok.frames, ok.stk, ok.exf, ok.bs, ok.bsz, ok.noex, ok.exfs, ok.funs, ok.frf⟩
section
variable {X : Cx} {pins : List (Addr × Obj)} {σ : St} {H : Hp} {s : Shared} {E : Value -> Shared -> Prop}
theorem Inv.wish (I : Inv X pins σ H s) (E : Value -> Shared -> Prop) : Inv (X.wish E) pins σ H s := ⟨I.ok.wish E, I.os, I.bare, I.base, I.loc, I.cell, I.free, I.freeC, I.pin, I.hok, I.len⟩
theorem Inv.unwish (I : Inv (X.wish E) pins σ H s) : Inv X pins σ H s := ⟨I.ok.unwish, I.os, I.bare, I.base, I.loc, I.cell, I.free, I.freeC, I.pin, I.hok, I.len⟩
theorem SP.unwish {D : Ends} {f : Flow} {s' : Shared} (h : SP (X.wish E) pins D f s') : SP X pins D f s' := by
  cases f with
  | next => obtain ⟨σ', H', I, q⟩ := h; exact ⟨σ', H', I.unwish, q⟩
  | brk => obtain ⟨σ', H', I, q⟩ := h; exact ⟨σ', H', I.unwish, q⟩
  | cont => obtain ⟨σ', H', I, q⟩ := h; exact ⟨σ', H', I.unwish, q⟩
  | ret u => obtain ⟨v, σ', H', I, r, q⟩ := h; exact ⟨v, σ', H', I.unwish, r, q⟩
theorem PSs.nox {st : List Stmt} {t : TS} (h : PSs X.nox st t) : PSs X st t := fun pins s σ H D I hw =>
  wpAny_mono (h pins s σ H D (I.wish _) hw) (fun _ _ q => q.unwish) fun _ _ z => False.elim z
end
section
variable {X : Cx} {st : Stmt} {rest : List Stmt} {t u : TS} {e : Expr} {te : TE} {pos : Pos}
def tNext : TS := fun D σ H => D.nx σ H
def tSeq (t u : TS) : TS := fun D σ H => t { D with nx := u D } σ H
theorem pss_nil : PSs X [] tNext := fun _ _ σ H _ I h => wpAny_execs_nil ⟨σ, H, I, h⟩
theorem pss_cons (h1 : PS X st t) (h2 : PSs X rest u) : PSs X (st :: rest) (tSeq t u) := by
  intro pins s σ H D I h; refine wpAny_execs_cons (thn (h1 pins s σ H { D with nx := u D } I h) fun f s1 q => ?_)
  cases f with
  | next =>
    obtain ⟨σ', H', I', q⟩ := q
    exact h2 pins s1 σ' H' D I' q
  | ret v => exact q
  | brk => exact q
  | cont => exact q
theorem pss_one (h1 : PS X st t) : PSs X [st] t := by
  intro pins s σ H D I h; refine wpAny_execs_cons (thn (h1 pins s σ H D I h) fun f s1 q => ?_)
  cases f with
  | next => exact wpAny_execs_nil q
  | ret v => exact q
  | brk => exact q
  | cont => exact q
theorem Inv.quiet {pins : List (Addr × Obj)} {σ : St} {H : Hp} {s : Shared} (I : Inv X pins σ H s) : interactive X.env = false := by simp [interactive, I.ok.kind]
def tDrop (te : TE) : TS := fun D σ H => te σ H fun _ H1 => D.nx σ H1
theorem ps_expr (he : PE X e te) (hs : swapsWith e none pos.line X.env = pure false := by rfl) : PS X (.Expr e pos) (tDrop te) := by
  intro pins s σ H D I h; exact wpAny_Expr_any (thn (he pins s σ H _ I h) fun v s1 ⟨x, H1, I1, r1, q1⟩ => ⟨σ, H1, I1, q1⟩) I.quiet hs
def tRet (te : TE) : TS := fun D σ H => te σ H D.rt
theorem ps_ret (he : PE X e te) : PS X (.Return (some e) pos) (tRet te) := by
  intro pins s σ H D I h; exact wpAny_Return_some (thn (he pins s σ H _ I h) fun v s1 ⟨x, H1, I1, r1, q1⟩ => ⟨x, σ, H1, I1, r1, q1⟩)
def tIfS (c : TT) (t u : TS) : TS := fun D σ H => c σ H fun b H1 => if b = true then t D σ H1 else u D σ H1
theorem ps_if {c : Expr} {a b : List Stmt} {tc : TT} (hc : PT X c tc) (ha : PSs X a t) (hb : PSs X b u) : PS X (.If c a b pos) (tIfS tc t u) := by
  intro pins s σ H D I h; refine wpAny_If (thn (hc pins s σ H _ I h) fun d s1 ⟨H1, I1, q1⟩ => ?_)
  cases d with
  | true => exact ha pins s1 σ H1 D I1 q1
  | false => exact hb pins s1 σ H1 D I1 q1
end
abbrev TG := V -> St -> Hp -> (St -> Hp -> Prop) -> Prop
abbrev TGs := List V -> St -> Hp -> (St -> Hp -> Prop) -> Prop
def PG (X : Cx) (target : Expr) (t : TG) : Prop :=
  ∀ (pins : List (Addr × Obj)) (s : Shared) (σ : St) (H : Hp) (v : V) (u : Value) (Q : St -> Hp -> Prop), Inv X pins σ H s -> RelV v u -> t v σ H Q →
    wpAny (model X.prog X.w) X.A (assign target X.env u) (fun _ s' => ∃ σ' H', Inv X pins σ' H' s' /\ Q σ' H') X.xe s
def PGs (X : Cx) (ts : List Expr) (t : TGs) : Prop :=
  ∀ (pins : List (Addr × Obj)) (s : Shared) (σ : St) (H : Hp) (vs : List V) (us : List Value) (Q : St -> Hp -> Prop), Inv X pins σ H s -> Vals vs us -> t vs σ H Q →
    wpAny (model X.prog X.w) X.A (assignInOrder ((assignEach ts X.env).map (·.2)) us) (fun _ s' => ∃ σ' H', Inv X pins σ' H' s' /\ Q σ' H') X.xe s
abbrev TSet := V -> V -> V -> Hp -> (Hp -> Prop) -> Prop
def PSet (X : Cx) (t : TSet) : Prop :=
  ∀ (pins : List (Addr × Obj)) (s : Shared) (σ : St) (H : Hp) (o i v : V) (ov iv u : Value) (Q : Hp -> Prop), Inv X pins σ H s -> RelV o ov -> RelV i iv -> RelV v u -> t o i v H Q →
    wpAny (model X.prog X.w) X.A (setItem ov iv u) (fun _ s' => ∃ H', Inv X pins σ H' s' /\ Q H') X.xe s
section
variable {X : Cx} {pos : Pos}
def gName (i : Nat) : TG := fun v σ H Q => Q (σ.set i (some v)) H
theorem pg_name {i : Nat} {x : Str} (hN : X.N.Nodup) (hi : X.N[i]? = some x) (hx : Loc X.env.scope x) (hf : X.fn x = true ∨ X.env.scope.names.lookup x = some .local := by first | exact .inl rfl | exact .inr rfl | assumption) : PG X (.Name x pos) (gName i) := by
  intro pins s σ H v u Q I r h; exact wpAny_assign_Name (store_ok I hN hi hx r (fun s' I' => ⟨_, H, I', h⟩) hf)
def gNil : TGs := fun vs σ H Q => vs = [] /\ Q σ H
def gCons (t : TG) (u : TGs) : TGs := fun vs σ H Q => ∃ v r, vs = v :: r /\ t v σ H fun σ' H' => u r σ' H' Q
theorem pgs_nil : PGs X [] gNil := by
  intro pins s σ H vs us Q I r h; obtain ⟨e, h⟩ := h
  subst e; cases r
  exact assignInOrder_nil ⟨σ, H, I, h⟩
theorem pgs_cons {e : Expr} {es : List Expr} {t : TG} {u : TGs} (h1 : PG X e t) (h2 : PGs X es u)
    (hs : (assignEach (e :: es) X.env).map (·.2) = assign e X.env :: (assignEach es X.env).map (·.2) := by rfl) : PGs X (e :: es) (gCons t u) := by
  intro pins s σ H vs us Q I r h; obtain ⟨v, vr, e1, h⟩ := h
  subst e1; cases r with
  | cons r rr =>
    rw [hs]; refine assignInOrder_cons (thn (h1 pins s σ H _ _ _ I r h) fun _ s1 ⟨σ1, H1, I1, q1⟩ => ?_)
    exact h2 pins s1 σ1 H1 _ _ Q I1 rr q1
def gTup (K : W.Frag) (n : Nat) (t : TGs) : TG := fun v σ H Q => ∃ a xs, v = .ref a /\ SqT K H a xs /\ xs.length = n /\ t xs σ H Q
theorem pg_tup {es : List Expr} {k : Nat} {t : TGs} {n : Nat} (hc : X.calm = true) (h : PGs X es t)
    (hn : (assignEach es X.env).length = n := by rfl) (hst : (assignEach es X.env).findIdx? (·.1) = none := by rfl) : PG X (.Tuple es k pos) (gTup X.K n t) := by
  intro pins s σ H v u Q I r hw; obtain ⟨a, xs, e1, hq, hl, hw⟩ := hw
  subst e1; cases r
  obtain ⟨its, rv, ht, hz⟩ := I.tuple hq
  refine assign_Tuple_tuple (I.ok.hd hc) ht (by simp [hn, <- hl, rv.length]) hst fun h' hx => ?_
  have I1 : Inv X pins σ H { s with heap := h' } := I.kept (t' := s.toks) fun b o e => hx b o (Nat.ne_of_lt (Heap.lt_size e)) e
  exact h pins _ σ H xs _ Q I1 (by simpa using rv) hw
def gSub (to ti : TE) (t : TSet) : TG := fun v σ H Q => to σ H fun o H1 => ti σ H1 fun i H2 => t o i v H2 fun H3 => Q σ H3
theorem pg_sub {o i : Expr} {to ti : TE} {t : TSet} (ho : PE X o to) (hi : PE X i ti) (hs : PSet X t)
    (ha : ∀ v, assign (.Subscript o i pos) X.env v = (do
      let ov ← holding [v] (eval o X.env)
      let iv ← holding [v, ov] (eval i X.env)
      standAt pos
      holding [v, ov, iv] (setItem ov iv v)
      release [v, ov, iv] []) := by intro _; rfl) : PG X (.Subscript o i pos) (gSub to ti t) := by
  intro pins s σ H v u Q I r h; rw [ha]; refine wpAny_bind (wpAny_holding (thn (ho pins s σ H _ I h) fun ov s1 ⟨x, H1, I1, r1, q1⟩ => ?_))
  refine wpAny_bind (wpAny_holding (thn (hi pins s1 σ H1 _ I1 q1) fun iv s2 ⟨y, H2, I2, r2, q2⟩ => ?_))
  refine wpAny_bind (wpAny_standAt (wpAny_bind (wpAny_holding (thn (hs pins s2 σ H2 x y v ov iv u _ I2 r1 r2 r q2) fun _ s3 ⟨H3, I3, q3⟩ => ?_))))
  exact wpAny_release ⟨σ, H3, I3, q3⟩
def tAsg (te : TE) (g : TG) : TS := fun D σ H => te σ H fun x H1 => g x σ H1 D.nx
theorem ps_asg {tg e : Expr} {te : TE} {g : TG} (he : PE X e te) (hg : PG X tg g) (hs : swapsWithSole [tg] e pos.line X.env = pure false := by rfl) (hw : swappedStores [tg] e X.env = pure none := by rfl)
    (h1 : (assignEach [tg] X.env).map (·.2) = [assign tg X.env] := by rfl) : PS X (.Assign [tg] e pos) (tAsg te g) := by
  intro pins s σ H D I h; refine wpAny_Assign_stores (thn (he pins s σ H _ I h) fun v s1 ⟨x, H1, I1, r1, q1⟩ => ?_) hs hw
  rw [h1]; exact thn (hg pins s1 σ H1 x v _ I1 r1 q1) fun _ s2 q => q
theorem ps_set {i : Nat} {x : Str} {e : Expr} {te : TE} {pos' : Pos} (hN : X.N.Nodup) (hi : X.N[i]? = some x) (hx : Loc X.env.scope x) (he : PE X e te) (hs : swapsWith e (some (.Name x pos')) pos.line X.env = pure false := by rfl) (hf : X.fn x = true ∨ X.env.scope.names.lookup x = some .local := by first | exact .inl rfl | exact .inr rfl | assumption) :
    PS X (.Assign [.Name x pos'] e pos) (tAsg te (gName i)) := by
  intro pins s σ H D I h; refine wpAny_Assign_Name (thn (he pins s σ H _ I h) fun v s1 ⟨y, H1, I1, r1, q1⟩ => ?_) hs
  exact store_ok I1 hN hi hx r1 (fun s2 I2 => ⟨_, H1, I2, q1⟩) hf
end
structure It where
  go : Nat -> Hp -> Prop
  yld : Nat -> Hp -> V -> Hp -> Prop
  stop : Nat -> Hp -> Prop
def FpOk (X : Cx) (pins : List (Addr × Obj)) (H : Hp) (b : Addr) : Prop :=
  H b = none /\ b ≠ X.env.locals /\ b ∉ X.fs /\ (b ∈ X.ex ∨ X.s₀.heap.objs.size <= b) /\ (∀ x c, X.env.cells.lookup x = some c -> c ≠ b) /\ ∀ p ∈ X.pn ++ pins, p.1 ≠ b
theorem Inv.fpOk {X : Cx} {pins : List (Addr × Obj)} {σ : St} {H H' : Hp} {s : Shared} {b : Addr} (I : Inv X pins σ H s) (hb : s.heap.objs.size <= b) (hn : H' b = none) : FpOk X pins H' b := by
  refine ⟨hn, Nat.ne_of_gt (Nat.lt_of_lt_of_le I.lt hb), I.nofs hb, .inr (Znt I.sz hb), fun x c e z => ?_, fun p hp z => ?_⟩
  . obtain ⟨v, q⟩ := I.cell x c e
    exact absurd (Nat.lt_of_lt_of_le q.lt (by rw [z]; exact hb)) (Nat.lt_irrefl _)
  . exact absurd (Nat.lt_of_lt_of_le (Heap.lt_size (I.pin p hp).1) (by rw [z]; exact hb)) (Nat.lt_irrefl _)
structure Turn (P : Program) (w : World) (K : W.Frag) (tg : Expr) (J : It) (fp : List Addr) (it : Addr) (tn : Nat -> Heap -> Prop) : Prop where
  mem : it ∈ fp
  obj : ∀ i h, tn i h -> ∀ b ∈ fp, ∃ o, h.get? b = some o /\ ∀ v, o.data ≠ .cell v
  keep : ∀ i h h', tn i h -> (∀ b ∈ fp, ∀ o, h.get? b = some o -> h'.get? b = some o) -> tn i h'
  item : ∀ (X : Cx), X.prog = P -> X.w = w -> X.K = K -> X.calm = true -> ∀ (i : Nat) (pins : List (Addr × Obj)) (s : Shared) (σ : St) (H : Hp) (E : Value -> Shared -> Prop), Inv X pins σ H s -> (∀ b ∈ fp, FpOk X pins H b) -> tn i s.heap -> J.go i H →
    wpAny (model P w) X.A (pyNext (.ref it)) (fun r s1 => ∃ u, r = some u ∧
      wpAny (model P w) X.A (letOwnedTupleGo tg (.ref it) u) (fun _ s2 => ∃ x H', Inv X pins σ H' s2 /\ RelV x u /\ J.yld i H x H' /\ tn (i + 1) s2.heap /\ ∀ b ∈ fp, H' b = none) E s1) E s
  done : ∀ (X : Cx), X.prog = P -> X.w = w -> X.K = K -> X.calm = true -> ∀ (i : Nat) (pins : List (Addr × Obj)) (s : Shared) (σ : St) (H : Hp) (E : Value -> Shared -> Prop), Inv X pins σ H s -> (∀ b ∈ fp, FpOk X pins H b) -> tn i s.heap -> J.stop i H →
    wpAny (model P w) X.A (pyNext (.ref it)) (fun r s1 => r = none /\ Inv X pins σ H s1) E s
  self : ∀ (A : Around) (i : Nat) (s : Shared) (Q : Value -> Shared -> Prop) (E : Value -> Shared -> Prop), tn i s.heap -> Q (.ref it) s -> wpAny (model P w) A (pyIter (.ref it)) Q E s
abbrev TI := St -> Hp -> (It -> Hp -> Prop) -> Prop
def PIE (X : Cx) (pins : List (Addr × Obj)) (σ : St) (tg : Expr) (R : It -> Hp -> Prop) (itv : Value) (s2 : Shared) : Prop :=
  ∃ (it : Addr) (fp : List Addr) (tn : Nat -> Heap -> Prop) (J : It) (H' : Hp), itv = .ref it /\ Inv X pins σ H' s2 /\ Turn X.prog X.w X.K tg J fp it tn /\ tn 0 s2.heap /\ (∀ b ∈ fp, FpOk X pins H' b) /\ R J H'
def PI (X : Cx) (tg iter : Expr) (wi : TI) : Prop :=
  ∀ (pins : List (Addr × Obj)) (s : Shared) (σ : St) (H : Hp) (R : It -> Hp -> Prop), Inv X pins σ H s -> wi σ H R →
    wpAny (model X.prog X.w) X.A (eval iter X.env) (fun v s1 => wpAny (model X.prog X.w) X.A (pyIter v) (PIE X pins σ tg R) X.xe s1) X.xe s
theorem go_of {M : Model} {A : Around} {E : Value -> Shared -> Prop} {s : Shared} {tg : Expr} {it : Addr} {u : Value} {o : Obj} {n : String} {vs : Array Value} {Q : Unit -> Shared -> Prop} (ho : s.heap.get? it = some o) (hc : o.cls = .type n) (hd : o.data = .fields vs)
    (hn : ["enumerate", "zip", "dict_itemiterator", "dict_reverseitemiterator", "odict_iterator", "itertools.zip_longest", "itertools.pairwise"].contains n = false) (hQ : Q () s) : wpAny M A (letOwnedTupleGo tg (.ref it) u) Q E s := by
  unfold letOwnedTupleGo; cases tg <;> first
    | exact wpAny_pure hQ
    | (cases u <;> first
        | exact wpAny_pure hQ
        | (refine wpAny_bind (wpAny_load ho ?_)
           rw [hc, hd]; show wpAny M A (if (["enumerate", "zip", "dict_itemiterator", "dict_reverseitemiterator", "odict_iterator", "itertools.zip_longest", "itertools.pairwise"].contains n && vs[0]? == some (rawInt _)) = true then _ else _) Q E s
           rw [if_neg (by intro h; rw [hn, Bool.false_and] at h; cases h)]
           exact wpAny_pure hQ))
def Itl (K : W.Frag) (a : Addr) : It :=
  ⟨fun i H => ∃ xs x, SqL K H a xs /\ xs[i]? = some x, fun i H x H' => H' = H /\ ∀ xs, SqL K H a xs -> xs[i]? = some x, fun i H => ∃ xs, SqL K H a xs /\ xs.length <= i⟩
def Itt (K : W.Frag) (a : Addr) : It :=
  ⟨fun i H => ∃ xs x, SqT K H a xs /\ xs[i]? = some x, fun i H x H' => H' = H /\ ∀ xs, SqT K H a xs -> xs[i]? = some x, fun i H => ∃ xs, SqT K H a xs /\ xs.length <= i⟩
def Itr (lo : Int) (n : Nat) : It := ⟨fun i _ => i < n, fun i H x H' => H' = H /\ x = .int (lo + i), fun i _ => n <= i⟩
theorem turn_list {P : Program} {w : World} {K : W.Frag} {tg : Expr} (a it : Addr) : Turn P w K tg (Itl K a) [it] it (fun i h => h.IsListIter it a i) where
  mem := by simp
  obj := fun i h st b hb => by
    have e : b = it := by simpa using hb
    subst e; obtain ⟨o, e, c, d⟩ := st
    exact ⟨o, e, fun v z => by rw [d] at z; cases z⟩
  keep := fun i h h' st k => st.at fun o e => k it (by simp) o e
  item := by
    intro X hP hw hK hc i pins s σ H E I hf st hg; subst hP hw hK; obtain ⟨xs, x, hq, hx⟩ := hg
    obtain ⟨its, rv, p, hz⟩ := I.list hq
    obtain ⟨u, hu, ru⟩ := rv.get hx
    obtain ⟨f0, f1, f2, f3, f4, f5⟩ := hf it (by simp)
    refine wpAny_pyNext_list_item st p.isList (x := u) (by simpa using hu) fun h' st' sb => ?_
    have I1 : Inv X pins σ H { s with heap := h' } := I.turned (t' := s.toks) (fun b o hb e => (sb.2 b hb).trans e) f0 f1 f3 f4 f5
    obtain ⟨o, e, c, d⟩ := id st'
    exact ⟨u, rfl, go_of (s := { s with heap := h' }) e c d (by decide) ⟨x, H, I1, ru, ⟨rfl, fun ys hy => by rw [I.list_inj hy hq]; exact hx⟩, st', fun b hb => (hf b hb).1⟩⟩
  done := by
    intro X hP hw hK hc i pins s σ H E I hf st hg; subst hP hw hK; obtain ⟨xs, hq, hx⟩ := hg
    obtain ⟨its, rv, p, hz⟩ := I.list hq
    obtain ⟨f0, f1, f2, f3, f4, f5⟩ := hf it (by simp)
    have hl := rv.length
    exact wpAny_pyNext_list_end (I.ok.hd hc) st p.isList (by simp; omega) fun h' eb => ⟨rfl, I.turned (t' := s.toks) (fun b o hb e => eb b o hb e) f0 f1 f3 f4 f5⟩
  self := fun _ _ _ _ _ st h => wpAny_pyIter_listiter st h
theorem turn_tuple {P : Program} {w : World} {K : W.Frag} {tg : Expr} (a it : Addr) : Turn P w K tg (Itt K a) [it] it (fun i h => h.IsTupleIter it a i) where
  mem := by simp
  obj := fun i h st b hb => by
    have e : b = it := by simpa using hb
    subst e; obtain ⟨o, e, c, d⟩ := st
    exact ⟨o, e, fun v z => by rw [d] at z; cases z⟩
  keep := fun i h h' st k => st.at fun o e => k it (by simp) o e
  item := by
    intro X hP hw hK hc i pins s σ H E I hf st hg; subst hP hw hK; obtain ⟨xs, x, hq, hx⟩ := hg
    obtain ⟨its, rv, p, hz⟩ := I.tuple hq
    obtain ⟨u, hu, ru⟩ := rv.get hx
    obtain ⟨f0, f1, f2, f3, f4, f5⟩ := hf it (by simp)
    refine wpAny_pyNext_tuple_item st (show s.heap.IsTuple a its.toArray from p) (x := u) (by simpa using hu) fun h' st' sb => ?_
    have I1 : Inv X pins σ H { s with heap := h' } := I.turned (t' := s.toks) (fun b o hb e => (sb.2 b hb).trans e) f0 f1 f3 f4 f5
    obtain ⟨o, e, c, d⟩ := id st'
    exact ⟨u, rfl, go_of (s := { s with heap := h' }) e c d (by decide) ⟨x, H, I1, ru, ⟨rfl, fun ys hy => by rw [I.tuple_inj hy hq]; exact hx⟩, st', fun b hb => (hf b hb).1⟩⟩
  done := by
    intro X hP hw hK hc i pins s σ H E I hf st hg; subst hP hw hK; obtain ⟨xs, hq, hx⟩ := hg
    obtain ⟨its, rv, p, hz⟩ := I.tuple hq
    obtain ⟨f0, f1, f2, f3, f4, f5⟩ := hf it (by simp)
    have hl := rv.length
    exact wpAny_pyNext_tuple_end (I.ok.hd hc) st (show s.heap.IsTuple a its.toArray from p) (by simp; omega) fun h' eb => ⟨rfl, I.turned (t' := s.toks) (fun b o hb e => eb b o hb e) f0 f1 f3 f4 f5⟩
  self := fun _ _ _ _ _ st h => wpAny_pyIter_tupleiter st h
theorem turn_range {P : Program} {w : World} {K : W.Frag} {tg : Expr} (it : Addr) (lo : Int) (n : Nat) : Turn P w K tg (Itr lo n) [it] it (fun i h => IsRangeIter h it (lo + (i : Nat) * 1) ((n : Int) - (i : Nat)) 1) where
  mem := by simp
  obj := fun i h st b hb => by
    have e : b = it := by simpa using hb
    subst e; exact ⟨_, st, fun v z => by
      have z' : Data.fields _ = Data.cell v := z
      cases z'⟩
  keep := fun i h h' st k => k it (by simp) _ st
  item := by
    intro X hP hw hK hc i pins s σ H E I hf st hg; subst hP hw hK; obtain ⟨f0, f1, f2, f3, f4, f5⟩ := hf it (by simp)
    have W := Walks.range (prog := X.prog) (w := X.w) (I.ok.hd hc) it lo 1 n
    refine W.item i s _ _ hg st fun v h' tk hv st' kk => ?_
    obtain ⟨t, rfl⟩ := hv
    have I1 : Inv X pins σ H { s with heap := h', toks := tk } := I.turned (fun b o hb e => kk b o (by simpa using hb) e) f0 f1 f3 f4 f5
    refine ⟨_, rfl, go_of (s := { s with heap := h', toks := tk }) (n := "range_iterator") st' rfl rfl (by decide) ⟨.int (lo + i), H, I1, ⟨t, ?_⟩, ⟨rfl, rfl⟩, st', fun b hb => (hf b hb).1⟩⟩
    rw [Int.mul_one]
  done := by
    intro X hP hw hK hc i pins s σ H E I hf st hg; subst hP hw hK; obtain ⟨f0, f1, f2, f3, f4, f5⟩ := hf it (by simp)
    exact wpAny_pyNext_range_end (I.ok.hd hc) st (by have : n <= i := hg; omega) fun h' eb => ⟨rfl, I.turned (t' := s.toks) (fun b o hb e => eb b o hb e) f0 f1 f3 f4 f5⟩
  self := fun _ _ _ _ _ st h => wpAny_pyIter_rangeiter st h
end L2
namespace L2
open PySem PySem.Spec PyProof.Rows
section
variable {X : Cx} {tg : Expr}
def iList (K : W.Frag) (tl : TE) : TI := fun σ H R => tl σ H fun x H1 => ∃ a, x = .ref a /\ (∃ xs, SqL K H1 a xs) /\ R (Itl K a) H1
def iTup (K : W.Frag) (tl : TE) : TI := fun σ H R => tl σ H fun x H1 => ∃ a, x = .ref a /\ (∃ xs, SqT K H1 a xs) /\ R (Itt K a) H1
theorem pi_list {l : Expr} {tl : TE} (hl : PE X l tl) : PI X tg l (iList X.K tl) := by
  intro pins s σ H R I h; refine thn (hl pins s σ H _ I h) fun v s1 ⟨x, H1, I1, r1, q1⟩ => ?_
  obtain ⟨a, e, ⟨xs, hq⟩, q⟩ := q1
  subst e; cases r1
  obtain ⟨its, rv, p, hz⟩ := I1.list hq
  refine wpAny_pyIter_list p.isList ?_
  refine ⟨s1.heap.objs.size, [s1.heap.objs.size], _, _, H1, rfl, I1.kept (t' := s1.toks) fun b o e => Zpu _ e, turn_list a _, ⟨_, Heap.get?_push_size _ rfl, rfl, rfl⟩, fun b hb => ?_, q⟩
  have e : b = s1.heap.objs.size := by simpa using hb
  subst e; exact I1.fpOk (Znr _) (I1.hok.fresh (Znr _))
theorem pi_tup {l : Expr} {tl : TE} (hl : PE X l tl) : PI X tg l (iTup X.K tl) := by
  intro pins s σ H R I h; refine thn (hl pins s σ H _ I h) fun v s1 ⟨x, H1, I1, r1, q1⟩ => ?_
  obtain ⟨a, e, ⟨xs, hq⟩, q⟩ := q1
  subst e; cases r1
  obtain ⟨its, rv, p, hz⟩ := I1.tuple hq
  refine wpAny_pyIter_tuple (show s1.heap.IsTuple a its.toArray from p) ?_
  refine ⟨s1.heap.objs.size, [s1.heap.objs.size], _, _, H1, rfl, I1.kept (t' := s1.toks) fun b o e => Zpu _ e, turn_tuple a _, ⟨_, Heap.get?_push_size _ rfl, rfl, rfl⟩, fun b hb => ?_, q⟩
  have e : b = s1.heap.objs.size := by simpa using hb
  subst e; exact I1.fpOk (Znr _) (I1.hok.fresh (Znr _))
theorem range_it {pins : List (Addr × Obj)} {σ : St} {H : Hp} {s : Shared} {R : It -> Hp -> Prop} {E : Value -> Shared -> Prop} {lo hi : Int} {t u v : Tok} {tk : Nat} (I : Inv X pins σ H s) (h1 : -(2 ^ 62) <= lo) (h2 : lo < 2 ^ 62) (h3 : -(2 ^ 62) <= hi) (h4 : hi < 2 ^ 62)
    (q : R (Itr lo (hi - lo).toNat) H) : wpAny (model X.prog X.w) X.A (pyIter (.ref s.heap.objs.size)) (PIE X pins σ tg R) E { s with heap := s.heap.push { cls := .type "range", data := .fields #[.int lo t, .int hi u, .int 1 v] }, toks := tk } := by
  refine wpAny_pyIter_range (IsRange.new ..) (small_one h1 h2 h3 h4) ?_
  have I1 : Inv X pins σ H { s with heap := s.heap.push { cls := .type "range", data := .fields #[.int lo t, .int hi u, .int 1 v] }, toks := tk } := I.kept fun b o e => Zpu _ e
  refine ⟨(s.heap.push { cls := .type "range", data := .fields #[.int lo t, .int hi u, .int 1 v] }).objs.size, [(s.heap.push { cls := .type "range", data := .fields #[.int lo t, .int hi u, .int 1 v] }).objs.size], _, _, H, rfl,
    I1.kept (t' := tk) fun b o e => Zpu _ e, turn_range _ lo (hi - lo).toNat, ?_, fun b hb => ?_, q⟩
  . have e1 : lo + ((0 : Nat) : Int) * 1 = lo := by simp
    have e2 : (((hi - lo).toNat : Nat) : Int) - ((0 : Nat) : Int) = Builtin.Range.rangeSize lo hi 1 := by rw [rangeSize_one]; split <;> omega
    show IsRangeIter _ _ (lo + ((0 : Nat) : Int) * 1) ((((hi - lo).toNat : Nat) : Int) - ((0 : Nat) : Int)) 1
    rw [e1, e2]; exact Heap.get?_push_size _ rfl
  . have e : b = (s.heap.push { cls := .type "range", data := .fields #[.int lo t, .int hi u, .int 1 v] }).objs.size := by simpa using hb
    subst e; exact I1.fpOk (Znr _) (I1.hok.fresh (Znr _))
def iRng1 (ta : TA) : TI := fun σ H R => ta σ H fun vs H1 => ∃ j : Int, vs = [.int j] /\ -(2 ^ 62) <= j /\ j < 2 ^ 62 /\ R (Itr 0 j.toNat) H1
theorem pi_range1 {a : Expr} {ta : TA} {p pos : Pos} (hg : Gl X "range") (hm : X.mg "range" = none) (ha : PA X [a] ta) (hs : starEach [a] X.env = [(false, eval a X.env)] := by rfl) : PI X tg (.Call (.Name "range" p) [a] [] pos) (iRng1 ta) := by
  intro pins s σ H R I h; refine Call_ (ld_blt I hg hm boot_range (PyProof.Rows.callWith_type1 (thn (ha pos pins s σ H _ I h) fun us s1 ⟨vs, H1, I1, r1, q1⟩ => ?_) hs rfl))
  obtain ⟨j, e, q1, q2, q⟩ := q1
  subst e; cases r1 with
  | cons r rr =>
    cases rr
    obtain ⟨t, rfl⟩ := r
    exact call_range_1 (range_it I1 (by omega) (by omega) q1 q2 (by simpa using q))
def tFor (wi : TI) (g : TG) (tb : TS) : TS := fun D σ H => wi σ H fun J H1 => ∃ W : Nat -> Nat -> St -> Hp -> Prop, (∃ m, W 0 m σ H1) /\ ∀ i m σ H, W i m σ H →
  (J.stop i H /\ D.nx σ H) ∨ (J.go i H /\ ∃ N : St -> Hp -> Prop, (∀ σ' H', N σ' H' -> ∃ m', m' < m /\ W (i + 1) m' σ' H') /\ ∀ x H', J.yld i H x H' -> g x σ H' fun σ2 H2 => tb { D with nx := N, ct := N, bk := D.nx } σ2 H2)
def pinsAt (fp : List Addr) (h : Heap) : List (Addr × Obj) := fp.filterMap fun b => (h.get? b).map fun o => (b, o)
theorem mem_pinsAt {fp : List Addr} {h : Heap} {b : Addr} {o : Obj} (hb : b ∈ fp) (e : h.get? b = some o) : (b, o) ∈ pinsAt fp h := List.mem_filterMap.mpr ⟨b, hb, by rw [e]; rfl⟩
theorem of_pinsAt {fp : List Addr} {h : Heap} {p : Addr × Obj} (hp : p ∈ pinsAt fp h) : p.1 ∈ fp /\ h.get? p.1 = some p.2 := by
  obtain ⟨b, hb, e⟩ := List.mem_filterMap.mp hp
  cases q : h.get? b with
  | none => rw [q] at e; cases e
  | some o =>
    rw [q] at e; have e' : (b, o) = p := Option.some.inj e
    subst e'; exact ⟨hb, q⟩
theorem Inv.pinned {pins : List (Addr × Obj)} {σ : St} {H : Hp} {s : Shared} {fp : List Addr} (I : Inv X pins σ H s) (hf : ∀ b ∈ fp, FpOk X pins H b) (ho : ∀ b ∈ fp, ∃ o, s.heap.get? b = some o /\ ∀ v, o.data ≠ .cell v) : Inv X (pins ++ pinsAt fp s.heap) σ H s :=
  I.pins_of fun p hp => (Zma.mp hp).elim (fun z => I.pin p (List.mem_append_right _ z)) fun z => by
    obtain ⟨hb, e⟩ := of_pinsAt z
    obtain ⟨f0, f1, f2, _⟩ := hf p.1 hb
    obtain ⟨o, e', d⟩ := ho p.1 hb
    rw [e] at e'; cases e'
    exact ⟨e, f0, f1, f2, d⟩
theorem Inv.unpinned {pins pl : List (Addr × Obj)} {σ : St} {H : Hp} {s : Shared} (I : Inv X (pins ++ pl) σ H s) : Inv X pins σ H s := I.pins_of fun p hp => I.pin p (List.mem_append_right _ (List.mem_append_left _ hp))
theorem ps_for {iter : Expr} {body : List Stmt} {wi : TI} {g : TG} {tb : TS} {pos : Pos} (hp : PassesOwn (model X.prog X.w) X.A X.env X.xe) (hc : X.calm = true) (hi : PI X tg iter wi) (hg : PG X tg g) (hb : PSs X body tb)
    (hs : ∀ x, foldedSetIterable iter X.env x = pure x := by intro _; rfl) : PS X (.For tg iter body [] pos) (tFor wi g tb) := by
  intro pins s σ H D I h; refine wpAny_For (thn (hi pins s σ H _ I h) fun v s1 h1 => thn h1 fun itv s2 h2 => ?_) hs
  obtain ⟨it, fp, tn, J, H2, e, I2, T, st2, f2, W, ⟨m0, w0⟩, turn⟩ := h2
  subst e; have stat : ∀ {H' : Hp}, (∀ b ∈ fp, H' b = none) -> ∀ b ∈ fp, FpOk X pins H' b := fun hn b hb => ⟨hn b hb, (f2 b hb).2⟩
  refine codeAny_forLoop_any (fun n s' => ∃ i σ' H', Inv X pins σ' H' s' /\ tn i s'.heap /\ (∀ b ∈ fp, H' b = none) /\ W i n σ' H') ?_ m0 ⟨0, σ, H2, I2, st2, fun b hb => (f2 b hb).1, w0⟩
  rintro n s3 ⟨i, σ3, H3, I3, st3, fr3, w3⟩
  rcases turn i n σ3 H3 w3 with ⟨stop, qn⟩ | ⟨go, N, hN, step⟩
  . refine wpAny_passesOwn hp (thn (T.done X rfl rfl rfl hc i pins s3 σ3 H3 X.xe I3 (stat fr3) st3 stop) fun r s4 ⟨hr, I4⟩ => ?_)
    subst hr; exact wpAny_execs_nil ⟨σ3, H3, I4, qn⟩
  . refine wpAny_passesOwn hp (thn (T.item X rfl rfl rfl hc i pins s3 σ3 H3 X.xe I3 (stat fr3) st3 go) fun r s4 ⟨u, hr, h4⟩ => ?_)
    subst hr; refine wpAny_passesOwn hp (thn h4 fun _ s5 ⟨x, H5, I5, r5, y5, st5, fr5⟩ => ?_)
    have I5' := I5.pinned (stat fr5) (T.obj _ _ st5)
    refine wpAny_passesOwn hp (thn (hg _ s5 σ3 H5 x u _ I5' r5 (step x H5 y5)) fun _ s6 ⟨σ6, H6, I6, q6⟩ => ?_)
    refine wpAny_passesOwn hp (thn (hb _ s6 σ6 H6 _ I6 q6) fun f s7 q7 => ?_)
    have again : ∀ {σ7 : St} {H7 : Hp}, Inv X (pins ++ pinsAt fp s5.heap) σ7 H7 s7 -> N σ7 H7 -> ∃ m, m < n /\ ∃ i σ' H', Inv X pins σ' H' s7 /\ tn i s7.heap /\ (∀ b ∈ fp, H' b = none) /\ W i m σ' H' := fun {σ7 H7} I7 n7 => by
      obtain ⟨m', hm, w7⟩ := hN σ7 H7 n7
      refine ⟨m', hm, i + 1, σ7, H7, I7.unpinned, T.keep _ _ _ st5 fun b hb o e => (I7.pin (b, o) (List.mem_append_right _ (List.mem_append_right _ (mem_pinsAt hb e)))).1, fun b hb => ?_, w7⟩
      obtain ⟨o, e, d⟩ := T.obj _ _ st5 b hb
      exact (I7.pin (b, o) (List.mem_append_right _ (List.mem_append_right _ (mem_pinsAt hb e)))).2.1
    cases f with
    | next => obtain ⟨σ7, H7, I7, n7⟩ := q7; exact again I7 n7
    | cont => obtain ⟨σ7, H7, I7, n7⟩ := q7; exact again I7 n7
    | brk => obtain ⟨σ7, H7, I7, q7⟩ := q7; exact ⟨σ7, H7, I7.unpinned, q7⟩
    | ret v => obtain ⟨x7, σ7, H7, I7, r7, q7⟩ := q7; exact ⟨x7, σ7, H7, I7.unpinned, r7, q7⟩
end
end L2
namespace L2
open PySem PySem.Spec PyProof.Rows
abbrev R2 := V -> V -> Hp -> VK -> Prop
def OpR (X : Cx) (f : Value -> Value -> Sem Value) (r : R2) : Prop :=
  ∀ (pins : List (Addr × Obj)) (s : Shared) (σ : St) (H : Hp) (x y : V) (v u : Value) (Q : VK), Inv X pins σ H s -> RelV x v -> RelV y u -> r x y H Q →
    wpAny (model X.prog X.w) X.A (f v u) (EP X pins σ Q) X.xe s
def UnR (X : Cx) (f : Value -> Sem Value) (r : V -> Hp -> VK -> Prop) : Prop :=
  ∀ (pins : List (Addr × Obj)) (s : Shared) (σ : St) (H : Hp) (x : V) (v : Value) (Q : VK), Inv X pins σ H s -> RelV x v -> r x H Q →
    wpAny (model X.prog X.w) X.A (f v) (EP X pins σ Q) X.xe s
def CallR (X : Cx) (f : Value) (r : List V -> Hp -> VK -> Prop) : Prop :=
  ∀ (pins : List (Addr × Obj)) (s : Shared) (σ : St) (H : Hp) (xs : List V) (us : List Value) (Q : VK), Inv X pins σ H s -> Vals xs us -> r xs H Q →
    wpAny (model X.prog X.w) X.A (call f us) (EP X pins σ Q) X.xe s
def tOp (r : R2) (ta tb : TE) : TE := fun σ H Q => ta σ H fun x H1 => tb σ H1 fun y H2 => r x y H2 Q
def tUn (r : V -> Hp -> VK -> Prop) (ta : TE) : TE := fun σ H Q => ta σ H fun x H1 => r x H1 Q
def rI (C : Int -> Int -> Prop) (g : Int -> Int -> V) : R2 := fun x y H Q => ∃ i j, x = .int i /\ y = .int j /\ C i j /\ Q (g i j) H
def rI0 (g : Int -> Int -> V) : R2 := fun x y H Q => ∃ i j, x = .int i /\ y = .int j /\ Q (g i j) H
def rU (g : Int -> V) : V -> Hp -> VK -> Prop := fun x H Q => ∃ i, x = .int i /\ Q (g i) H
section
variable {X : Cx} {a b c : Expr} {ta tb tc : TE} {pos : Pos}
theorem binT (ha : PE X a ta) (hb : PE X b tb) {pins : List (Addr × Obj)} {s : Shared} {σ : St} {H : Hp} {R : V -> V -> Hp -> Prop} (I : Inv X pins σ H s)
    (h : ta σ H fun x H1 => tb σ H1 fun y H2 => R x y H2) {Q : Value -> Shared -> Prop} {f : Value -> Value -> Sem Value}
    (hf : ∀ v u s2 x y H2, Inv X pins σ H2 s2 -> RelV x v -> RelV y u -> R x y H2 -> wpAny (model X.prog X.w) X.A (f v u) Q X.xe s2) :
    wpAny (model X.prog X.w) X.A (eval a X.env) (fun v s₁ => wpAny (model X.prog X.w) X.A (eval b X.env) (fun u s₂ => wpAny (model X.prog X.w) X.A (f v u) Q X.xe s₂) X.xe s₁) X.xe s := by
  refine thn (ha pins s σ H _ I h) fun v s1 ⟨x, H1, I1, r1, q1⟩ => ?_
  refine thn (hb pins s1 σ H1 _ I1 q1) fun u s2 ⟨y, H2, I2, r2, q2⟩ => ?_
  exact hf v u s2 x y H2 I2 r1 r2 q2
theorem pe_op {op : Operator} {r : R2} (ho : OpR X (binaryOp op) r) (ha : PE X a ta) (hb : PE X b tb) : PE X (.BinOp a op b pos) (tOp r ta tb) := by
  intro pins s σ H Q I h; exact wpAny_BinOp (binT ha hb I h fun v u s2 x y H2 I2 rx ry q => ho pins s2 σ H2 x y v u Q I2 rx ry q)
theorem pe_un {op : UnaryOp} {r : V -> Hp -> VK -> Prop} (ho : UnR X (unaryOp op) r) (ha : PE X a ta) : PE X (.UnaryOp op a pos) (tUn r ta) := by
  intro pins s σ H Q I h; exact UnaryOp_ (thn (ha pins s σ H _ I h) fun v s1 ⟨x, H1, I1, r1, q1⟩ => ho pins s1 σ H1 x v Q I1 r1 q1)
theorem opI {f : Value -> Value -> Sem Value} {C : Int -> Int -> Prop} {g : Int -> Int -> Int}
    (rule : ∀ (i j : Int) (t u : Tok) (s : Shared) (Q : Value -> Shared -> Prop) (E : Value -> Shared -> Prop), C i j -> Q (.int (g i j) s.toks) { s with toks := s.toks + 1 } -> wpAny (model X.prog X.w) X.A (f (.int i t) (.int j u)) Q E s) :
    OpR X f (rI C fun i j => .int (g i j)) := by
  intro pins s σ H x y v u Q I rx ry h; obtain ⟨i, j, rfl, rfl, hc, q⟩ := h
  obtain ⟨t, rfl⟩ := rx
  obtain ⟨t', rfl⟩ := ry
  exact rule i j t t' s _ _ hc ⟨.int (g i j), H, I.tok _, ⟨_, rfl⟩, q⟩
theorem opI0 {f : Value -> Value -> Sem Value} {g : Int -> Int -> Int}
    (rule : ∀ (i j : Int) (t u : Tok) (s : Shared) (Q : Value -> Shared -> Prop) (E : Value -> Shared -> Prop), Q (.int (g i j) s.toks) { s with toks := s.toks + 1 } -> wpAny (model X.prog X.w) X.A (f (.int i t) (.int j u)) Q E s) :
    OpR X f (rI0 fun i j => .int (g i j)) := by
  intro pins s σ H x y v u Q I rx ry h; obtain ⟨i, j, rfl, rfl, q⟩ := h
  obtain ⟨t, rfl⟩ := rx
  obtain ⟨t', rfl⟩ := ry
  exact rule i j t t' s _ _ ⟨.int (g i j), H, I.tok _, ⟨_, rfl⟩, q⟩
theorem opB0 {f : Value -> Value -> Sem Value} {g : Int -> Int -> Bool}
    (rule : ∀ (i j : Int) (t u : Tok) (s : Shared) (Q : Value -> Shared -> Prop) (E : Value -> Shared -> Prop), Q (.bool (g i j)) s -> wpAny (model X.prog X.w) X.A (f (.int i t) (.int j u)) Q E s) :
    OpR X f (rI0 fun i j => .bl (g i j)) := by
  intro pins s σ H x y v u Q I rx ry h; obtain ⟨i, j, rfl, rfl, q⟩ := h
  obtain ⟨t, rfl⟩ := rx
  obtain ⟨t', rfl⟩ := ry
  exact rule i j t t' s _ _ ⟨.bl (g i j), H, I, rfl, q⟩
def CPow (i j : Int) : Prop := 0 <= j /\ j <= 1000000 /\ i.natAbs < 2 ^ 64
def CMul (i j : Int) : Prop := (-(2 ^ 64) < i /\ i < 2 ^ 64) ∨ (-(2 ^ 64) < j /\ j < 2 ^ 64)
theorem CMul.ok {i j : Int} (h : CMul i j) : IntMulOk i j := by
  rcases h with ⟨h1, h2⟩ | ⟨h1, h2⟩
  . exact .of_left (intBits_le_64 h1 h2)
  . exact .of_right (intBits_le_64 h1 h2)
theorem op_add : OpR X (binaryOp .Add) (rI0 fun i j => .int (i + j)) := opI0 fun _ _ _ _ _ _ _ q => add_int q
theorem op_sub : OpR X (binaryOp .Sub) (rI0 fun i j => .int (i - j)) := opI0 fun _ _ _ _ _ _ _ q => sub_int q
theorem op_mul : OpR X (binaryOp .Mult) (rI CMul fun i j => .int (i * j)) := opI fun _ _ _ _ _ _ _ hc q => mul_int q hc.ok
theorem op_mod : OpR X (binaryOp .Mod) (rI (fun _ j => 0 < j) fun i j => .int (i % j)) := opI fun i j _ _ _ _ _ hc q => by
  have h1 : (0 : Int) < j := hc
  exact mod_int' (by omega) (by rw [Int.fmod_eq_emod_of_nonneg i (by omega)]; exact q)
theorem op_pow : OpR X (binaryOp .Pow) (rI CPow fun i j => .int (i ^ j.toNat)) := opI fun _ _ _ _ _ _ _ hc q => pow_int_small hc.1 hc.2.1 hc.2.2 q
theorem unI {f : Value -> Sem Value} {g : Int -> Int}
    (rule : ∀ (i : Int) (t : Tok) (s : Shared) (Q : Value -> Shared -> Prop) (E : Value -> Shared -> Prop), Q (.int (g i) s.toks) { s with toks := s.toks + 1 } -> wpAny (model X.prog X.w) X.A (f (.int i t)) Q E s) :
    UnR X f (rU fun i => .int (g i)) := by
  intro pins s σ H x v Q I rx h; obtain ⟨i, rfl, q⟩ := h
  obtain ⟨t, rfl⟩ := rx
  exact rule i t s _ _ ⟨.int (g i), H, I.tok _, ⟨_, rfl⟩, q⟩
theorem un_neg : UnR X (unaryOp .USub) (rU fun i => .int (-i)) := unI fun _ _ _ _ _ q => neg_int q
end
def scal : V -> V -> Bool
  | .non, .non => true | .non, .int _ => true | .int _, .non => true | .non, .bl _ => true | .bl _, .non => true | .non, .str _ => true | .str _, .non => true
  | .int _, .int _ => true | .bl _, .bl _ => true | .str _, .str _ => true | .byt _, .byt _ => true
  | .int _, .str _ => true | .str _, .int _ => true | .bl _, .str _ => true | .str _, .bl _ => true
  | _, _ => false
def rEq : R2 := fun x y H Q => scal x y = true /\ Q (.bl (decide (x = y))) H
def rNe : R2 := fun x y H Q => scal x y = true /\ Q (.bl (!decide (x = y))) H
theorem dec_int {i j : Int} : decide (V.int i = V.int j) = (i == j) := by
  rw [Bool.eq_iff_iff]; simp
theorem dec_bl {i j : Bool} : decide (V.bl i = V.bl j) = (i == j) := by
  rw [Bool.eq_iff_iff]; simp
theorem dec_str {i j : Str} : decide (V.str i = V.str j) = (i == j) := by
  rw [Bool.eq_iff_iff]; simp
theorem dec_byt {i j : Array UInt8} : decide (V.byt i = V.byt j) = (i.toList == j.toList) := by
  rw [Bool.eq_iff_iff]; cases i
  cases j
  simp
section
variable {X : Cx} {a b c : Expr} {ta tb tc : TE} {pos : Pos}
theorem fin_bl {pins : List (Addr × Obj)} {σ : St} {H : Hp} {s : Shared} {Q : VK} {k k' : Bool} (I : Inv X pins σ H s) (q : Q (.bl k) H) (e : k = k') : EP X pins σ Q (.bool k') s := by
  subst e; exact ⟨.bl k, H, I, rfl, q⟩
theorem op_eq : OpR X (compareOp .Eq) rEq := by
  intro pins s σ H x y v u Q I rx ry h; obtain ⟨hs, q⟩ := h
  cases x with
  | non =>
    cases rx
    cases y with
    | non => cases ry; exact PySem.EqNone.eq_none_none (fin_bl I q (by simp))
    | bl j => cases ry; exact PySem.EqNone.eq_none_bool (fin_bl I q (by simp))
    | int j => obtain ⟨t', rfl⟩ := ry; exact PySem.EqNone.eq_none_int (fin_bl I q (by simp))
    | str j => obtain ⟨t', rfl⟩ := ry; exact PySem.EqNone.eq_none_str (fin_bl I q (by simp))
    | _ => exact absurd (show false = true from hs) Bool.false_ne_true
  | bl i =>
    cases rx
    cases y with
    | non => cases ry; exact PySem.EqNone.eq_bool_none (fin_bl I q (by simp))
    | bl j => cases ry; exact eq_bool (fin_bl I q dec_bl)
    | str j => obtain ⟨t', rfl⟩ := ry; exact PySem.EqMixed.eq_bool_str (fin_bl I q (by simp))
    | _ => exact absurd (show false = true from hs) Bool.false_ne_true
  | int i =>
    obtain ⟨t, rfl⟩ := rx
    cases y with
    | non => cases ry; exact PySem.EqNone.eq_int_none (fin_bl I q (by simp))
    | int j => obtain ⟨t', rfl⟩ := ry; exact eq_int (fin_bl I q dec_int)
    | str j => obtain ⟨t', rfl⟩ := ry; exact PySem.EqMixed.eq_int_str (fin_bl I q (by simp))
    | _ => exact absurd (show false = true from hs) Bool.false_ne_true
  | str i =>
    obtain ⟨t, rfl⟩ := rx
    cases y with
    | non => cases ry; exact PySem.EqNone.eq_str_none (fin_bl I q (by simp))
    | bl j => cases ry; exact PySem.EqMixed.eq_str_bool (fin_bl I q (by simp))
    | int j => obtain ⟨t', rfl⟩ := ry; exact PySem.EqMixed.eq_str_int (fin_bl I q (by simp))
    | str j => obtain ⟨t', rfl⟩ := ry; exact eq_str (fin_bl I q dec_str)
    | _ => exact absurd (show false = true from hs) Bool.false_ne_true
  | byt i =>
    obtain ⟨t, rfl⟩ := rx
    cases y with
    | byt j => obtain ⟨t', rfl⟩ := ry; exact W.eq_bytes (fin_bl I q dec_byt)
    | _ => exact absurd (show false = true from hs) Bool.false_ne_true
  | _ => cases y <;> exact absurd (show false = true from hs) Bool.false_ne_true
theorem op_ne : OpR X (compareOp .NotEq) rNe := by
  intro pins s σ H x y v u Q I rx ry h; obtain ⟨hs, q⟩ := h
  cases x with
  | non =>
    cases rx
    cases y with
    | non => cases ry; exact PySem.EqNone.ne_none_none (fin_bl I q (by simp))
    | bl j => cases ry; exact PySem.EqNone.ne_none_bool (fin_bl I q (by simp))
    | int j => obtain ⟨t', rfl⟩ := ry; exact PySem.EqNone.ne_none_int (fin_bl I q (by simp))
    | str j => obtain ⟨t', rfl⟩ := ry; exact PySem.EqNone.ne_none_str (fin_bl I q (by simp))
    | _ => exact absurd (show false = true from hs) Bool.false_ne_true
  | bl i =>
    cases rx
    cases y with
    | non => cases ry; exact PySem.EqNone.ne_bool_none (fin_bl I q (by simp))
    | bl j => cases ry; exact ne_bool (fin_bl I q (congrArg not dec_bl))
    | str j => obtain ⟨t', rfl⟩ := ry; exact PySem.EqMixed.ne_bool_str (fin_bl I q (by simp))
    | _ => exact absurd (show false = true from hs) Bool.false_ne_true
  | int i =>
    obtain ⟨t, rfl⟩ := rx
    cases y with
    | non => cases ry; exact PySem.EqNone.ne_int_none (fin_bl I q (by simp))
    | int j => obtain ⟨t', rfl⟩ := ry; exact ne_int (fin_bl I q (congrArg not dec_int))
    | str j => obtain ⟨t', rfl⟩ := ry; exact PySem.EqMixed.ne_int_str (fin_bl I q (by simp))
    | _ => exact absurd (show false = true from hs) Bool.false_ne_true
  | str i =>
    obtain ⟨t, rfl⟩ := rx
    cases y with
    | non => cases ry; exact PySem.EqNone.ne_str_none (fin_bl I q (by simp))
    | bl j => cases ry; exact PySem.EqMixed.ne_str_bool (fin_bl I q (by simp))
    | int j => obtain ⟨t', rfl⟩ := ry; exact PySem.EqMixed.ne_str_int (fin_bl I q (by simp))
    | str j => obtain ⟨t', rfl⟩ := ry; exact ne_str (fin_bl I q (congrArg not dec_str))
    | _ => exact absurd (show false = true from hs) Bool.false_ne_true
  | byt i =>
    obtain ⟨t, rfl⟩ := rx
    cases y with
    | byt j => obtain ⟨t', rfl⟩ := ry; exact W.ne_bytes (fin_bl I q (congrArg not dec_byt))
    | _ => exact absurd (show false = true from hs) Bool.false_ne_true
  | _ => cases y <;> exact absurd (show false = true from hs) Bool.false_ne_true
theorem op_lt : OpR X (compareOp .Lt) (rI0 fun i j => .bl (decide (i < j))) := opB0 fun _ _ _ _ _ _ _ q => lt_int q
theorem op_le : OpR X (compareOp .LtE) (rI0 fun i j => .bl (decide (i <= j))) := opB0 fun _ _ _ _ _ _ _ q => le_int q
theorem op_gt : OpR X (compareOp .Gt) (rI0 fun i j => .bl (decide (j < i))) := opB0 fun _ _ _ _ _ _ _ q => gt_int q
theorem op_ge : OpR X (compareOp .GtE) (rI0 fun i j => .bl (decide (j <= i))) := opB0 fun _ _ _ _ _ _ _ q => ge_int q
theorem op_in_str : OpR X (compareOp .In) (fun x y H Q => ∃ i j, x = .str i /\ y = .str j /\ Q (.bl (!(Builtin.Str.occurrences j i 0 j.length 1).isEmpty)) H) := by
  intro pins s σ H x y v u Q I rx ry h; obtain ⟨i, j, rfl, rfl, q⟩ := h
  obtain ⟨t, rfl⟩ := rx
  obtain ⟨t', rfl⟩ := ry
  exact in_str (fin_bl I q rfl)
theorem op_isN : OpR X (compareOp .Is) (fun x y H Q => y = .non /\ Q (.bl (decide (x = .non))) H) := by
  intro pins s σ H x y v u Q I rx ry h; obtain ⟨rfl, q⟩ := h
  cases ry
  refine is_none_gen (fin_bl I q ?_)
  cases x <;> first
    | (cases rx; rfl)
    | (obtain ⟨t, rfl⟩ := rx; rfl)
theorem op_notN : OpR X (compareOp .IsNot) (fun x y H Q => y = .non /\ Q (.bl (!decide (x = .non))) H) := by
  intro pins s σ H x y v u Q I rx ry h; obtain ⟨rfl, q⟩ := h
  cases ry
  refine isnot_none_gen (fin_bl I q ?_)
  cases x <;> first
    | (cases rx; rfl)
    | (obtain ⟨t, rfl⟩ := rx; rfl)
theorem nomark (b : Expr) {op : CmpOp} (h : op ≠ .In := by decide) (h2 : op ≠ .NotIn := by decide) : behindInMarks op b = false := by
  have e1 : (op == CmpOp.In) = false := by cases op <;> first | rfl | exact absurd rfl h
  have e2 : (op == CmpOp.NotIn) = false := by cases op <;> first | rfl | exact absurd rfl h2
  cases b <;> simp [behindInMarks, e1, e2]
theorem pe_cmpR {op : CmpOp} {r : R2} (ho : OpR X (compareOp op) r) (ha : PE X a ta) (hb : PE X b tb) (hm : behindInMarks op b = false) : PE X (.Compare a [op] [b] pos) (tOp r ta tb) := by
  intro pins s σ H Q I h; exact wpAny_Compare1 (binT ha hb I h fun v u s2 x y H2 I2 rx ry q => ho pins s2 σ H2 x y v u Q I2 rx ry q) hm
def tTest (t : TE) : TT := fun σ H Q => t σ H fun x H' => ∃ k, x = .bl k /\ Q k H'
theorem pt_cmpR {op : CmpOp} {r : R2} (ho : OpR X (compareOp op) r) (ha : PE X a ta) (hb : PE X b tb) (hm : behindInMarks op b = false) : PT X (.Compare a [op] [b] pos) (tTest (tOp r ta tb)) := by
  intro pins s σ H Q I h; refine wpAny_isTrue_Compare1 (thn (ha pins s σ H _ I h) fun v s1 ⟨x, H1, I1, r1, q1⟩ => thn (hb pins s1 σ H1 _ I1 q1) fun u s2 ⟨y, H2, I2, r2, q2⟩ =>
    thn (ho pins s2 σ H2 x y v u _ I2 r1 r2 q2) fun c s3 ⟨z, H3, I3, r3, k, e, q3⟩ => ?_) hm
  subst e; cases r3
  exact wpAny_truthy_bool ⟨H3, I3, q3⟩
def tChain (r r' : R2) (ta tb tc : TE) : TE := fun σ H Q => ta σ H fun x H1 => tb σ H1 fun y H2 => r x y H2 fun z H3 => ∃ k, z = .bl k ∧
  (if k = true then tc σ H3 fun w' H4 => r' y w' H4 Q else Q (.bl false) H3)
theorem pe_chain {op op' : CmpOp} {r r' : R2} (ho : OpR X (compareOp op) r) (ho' : OpR X (compareOp op') r') (ha : PE X a ta) (hb : PE X b tb) (hc : PE X c tc)
    (hm : lastMarks [op, op'] [b, c] = false := by with_unfolding_all rfl) : PE X (.Compare a [op, op'] [b, c] pos) (tChain r r' ta tb tc) := by
  intro pins s σ H Q I h; refine Compare_chain (thn (ha pins s σ H _ I h) fun v s1 ⟨x, H1, I1, r1, q1⟩ => chain_link (thn (hb pins s1 σ H1 _ I1 q1) fun u s2 ⟨y, H2, I2, r2, q2⟩ =>
    thn (ho pins s2 σ H2 x y v u _ I2 r1 r2 q2) fun d s3 ⟨z, H3, I3, r3, k, e, q3⟩ => ?_)) hm
  subst e; cases r3
  refine wpAny_truthy_bool ?_
  cases k with
  | false => exact ite_ff ⟨.bl false, H3, I3, rfl, q3⟩
  | true => exact ite_tt (chain_last (thn (hc pins s3 σ H3 _ I3 q3) fun w' s4 ⟨z', H4, I4, r4, q4⟩ => ho' pins s4 σ H4 y z' u w' Q I4 r2 r4 q4))
theorem pt_chain {op op' : CmpOp} {r r' : R2} (ho : OpR X (compareOp op) r) (ho' : OpR X (compareOp op') r') (ha : PE X a ta) (hb : PE X b tb) (hc : PE X c tc)
    (hm : lastMarks [op, op'] [b, c] = false := by with_unfolding_all rfl) : PT X (.Compare a [op, op'] [b, c] pos) (tTest (tChain r r' ta tb tc)) := by
  intro pins s σ H Q I h; refine isTrue_chain (thn (ha pins s σ H _ I h) fun v s1 ⟨x, H1, I1, r1, q1⟩ => test_link (thn (hb pins s1 σ H1 _ I1 q1) fun u s2 ⟨y, H2, I2, r2, q2⟩ =>
    thn (ho pins s2 σ H2 x y v u _ I2 r1 r2 q2) fun d s3 ⟨z, H3, I3, r3, k, e, q3⟩ => ?_)) hm
  subst e; cases r3
  refine wpAny_truthy_bool ?_
  cases k with
  | false =>
    obtain ⟨k', e', q'⟩ := q3
    cases e'
    exact ite_ff ⟨H3, I3, q'⟩
  | true =>
    refine ite_tt (test_last (thn (hc pins s3 σ H3 _ I3 q3) fun w' s4 ⟨z', H4, I4, r4, q4⟩ => thn (ho' pins s4 σ H4 y z' u w' _ I4 r2 r4 q4) fun d' s5 ⟨z2, H5, I5, r5, k2, e2, q5⟩ => ?_))
    subst e2; cases r5
    exact wpAny_truthy_bool ⟨H5, I5, q5⟩
theorem line63 : (sizeLine : Nat) < 2 ^ 63 := by rw [sizeLine_eq]; decide
theorem op_add_str : OpR X (binaryOp .Add) (fun x y H Q => ∃ i j, x = .str i /\ y = .str j /\ i.length + j.length <= sizeLine /\ Q (.str (i ++ j)) H) := by
  intro pins s σ H x y v u Q I rx ry h; obtain ⟨i, j, rfl, rfl, hz, q⟩ := h
  obtain ⟨t, rfl⟩ := rx
  obtain ⟨t', rfl⟩ := ry
  exact add_str (fun t' tk => ⟨.str (i ++ j), H, I.tok _, ⟨_, rfl⟩, q⟩) hz
theorem vals1 {x : V} {us : List Value} (r : Vals [x] us) : ∃ u, us = [u] /\ RelV x u := by
  cases r with
  | cons r1 r2 => cases r2; exact ⟨_, rfl, r1⟩
theorem vals2 {x y : V} {us : List Value} (r : Vals [x, y] us) : ∃ u w', us = [u, w'] /\ RelV x u /\ RelV y w' := by
  cases r with
  | cons r1 r2 =>
    cases r2 with
    | cons r3 r4 => cases r4; exact ⟨_, _, rfl, r1, r3⟩
theorem call_max2 (hc : X.calm = true) : CallR X (.builtin "max") (fun xs H Q => ∃ i j, xs = [.int i, .int j] /\ Q (.int (if j > i then j else i)) H) := by
  intro pins s σ H xs us Q I r h; obtain ⟨i, j, rfl, q⟩ := h
  obtain ⟨u, w', rfl, ⟨t, rfl⟩, ⟨t', rfl⟩⟩ := vals2 r
  refine max_two_ints (I.ok.hd hc) fun h' tk k => ⟨_, H, I.kept k, ?_, q⟩
  by_cases hj : j > i
  . rw [if_pos hj, if_pos hj]; exact ⟨_, rfl⟩
  . rw [if_neg hj, if_neg hj]; exact ⟨_, rfl⟩
theorem call_int1 : CallR X (.type "int") (fun xs H Q => (∃ i, xs = [.int i] /\ Q (.int i) H) ∨ ∃ k, xs = [.bl k] /\ Q (.int (if k then 1 else 0)) H) := by
  intro pins s σ H xs us Q I r h; rcases h with ⟨i, rfl, q⟩ | ⟨k, rfl, q⟩
  . obtain ⟨u, rfl, t, rfl⟩ := vals1 r
    exact call_int_int ⟨.int i, H, I, ⟨_, rfl⟩, q⟩
  . obtain ⟨u, rfl, r1⟩ := vals1 r
    cases r1
    exact call_int_bool ⟨.int (if k then 1 else 0), H, I.tok _, ⟨_, rfl⟩, q⟩
end
end L2
namespace L2
open PySem PySem.Spec PyProof.Rows
structure ObjM (h : Heap) (x dx C : Addr) (mA : Str -> Option Value) : Prop where
  obj : h.get? x = some (W.instObj C dx)
  ns : h.Ns1 dx mA
  ne : dx ≠ x
theorem lookIn_ns {h : Heap} {dx : Addr} {mA : Str -> Option Value} (n : h.Ns1 dx mA) : ∃ od, h.get? dx = some od /\ ∀ name, W.lookIn name od = some (mA name) := by
  obtain ⟨o, es, ep, ho, hd, hk, _, hm⟩ := n
  refine ⟨o, ho, fun name => ?_⟩
  have e := hm name
  unfold nsFind findBy at e; rw [<- Array.find?_toList] at e; unfold W.lookIn; rw [hd]; dsimp only; split
  . rename_i y q
    rw [q] at e; exact congrArg some e
  . rename_i q
    rw [q] at e; have a : es.toList.any (·.refKey) = false := by
      rw [List.any_eq_false]; intro y hy; obtain ⟨z, t, hkey⟩ := hk y (Array.mem_toList_iff.mp hy)
      simp [DictEntry.refKey, hkey]
    have a' : ¬ es.toList.any (·.refKey) = true := by rw [a]; exact Bool.false_ne_true
    rw [if_neg a']; exact congrArg some e
theorem ObjM.look {h : Heap} {x dx C : Addr} {mA : Str -> Option Value} (I : ObjM h x dx C mA) : ∃ od, W.InstAt h x (W.instObj C dx) C (some od) /\ ∀ name, W.lookIn name od = some (mA name) :=
  let ⟨od, ho, hl⟩ := lookIn_ns I.ns
  ⟨od, ⟨I.obj, rfl, rfl, ho⟩, hl⟩
section
variable {prog : Program} {w : World} {A : Around} {E : Value -> Shared -> Prop} {s : Shared} {K : W.Frag} {x dx C f : Addr} {mA : Str -> Option Value} {name : Str} {v : Value}
theorem get_map {expr : Bool} {Q : Value -> Shared -> Prop} (X : K.In s.heap) (I : ObjM s.heap x dx C mA) (hg : W.plainGet K C name = true) (hh : W.hasDictIn K C = true)
    (ha : W.findIn K (.ref C) name = some none) (hv : mA name = some v) (hv' : W.handedIn v = true) (h : Q v { s with toks := s.toks + 1 }) :
    wpAny (model prog w) A (getAttr (.ref x) name expr) Q E s := by
  obtain ⟨od, J, hl⟩ := I.look
  exact W.get_value X J (W.plainGet_of hg).1 (W.findObj_own hh ha rfl (by rw [hl, hv])) hv' h
theorem get_meth {pl : Sem Bool} {Q : Value × List Value -> Shared -> Prop} (X : K.In s.heap) (I : ObjM s.heap x dx C mA) (hg : W.plainGet K C name = true)
    (hf : W.findIn K (.ref C) name = some (some (.ref f))) (ht : W.isFn K (.ref f) = true) (hv : mA name = none) (h : Q (.ref f, [.ref x]) s) :
    wpAny (model prog w) A (getMethod (.ref x) name pl) Q E s := by
  obtain ⟨od, J, hl⟩ := I.look
  exact W.method_fn X J (W.plainGet_of hg).1 (W.plainGet_of hg).2 hf (beq_iff_eq.mp ht) (by show (W.lookIn name od).map (·.isSome) = some false; rw [hl, hv]; rfl) h
theorem set_map {ns : List Str} {Q : Unit -> Shared -> Prop} (X : K.In s.heap) (I : ObjM s.heap x dx C mA)
    (hs : W.findIn K (.ref C) "__setattr__" = some (some (.builtin "object.__setattr__"))) (hp : W.plainOver K C = true) (ht : W.takerIn K C name = some none) (hh : W.hasDictIn K C = true)
    (hw : PySem.Within mA ns) (hsz : ns.length <= sizeLine)
    (h : ∀ h', ObjM h' x dx C (fun y => if y = name then some v else mA y) -> Heap.SameBut dx s.heap h' -> Q () { s with heap := h', toks := s.toks + 2 }) :
    wpAny (model prog w) A (setAttr (.ref x) name v) Q E s := by
  obtain ⟨od, J, hl⟩ := I.look
  refine W.set_plain X J hs (W.osa_open (s := { s with toks := s.toks + 1 }) (r := none) X J hp ht fun b => ?_)
  obtain ⟨cd, hc, hd'⟩ := W.any_some hh
  have hx : s.heap.get? x = some ⟨.ref C, some dx, .plain, #[]⟩ := I.obj
  refine wpAny_bind (wpAny_pure (wpAny_bind (wpAny_bind (wpAny_loadPart hx (wpAny_bind (W.Looks.here (s := { s with toks := s.toks + 1 }) (W.looks_clsIn X hc) ?_))))))
  rw [hd']; refine wpAny_pure (a := some dx) (wpAny_bind (wpAny_pure (wpAny_bind ?_)))
  refine wpAny_nsSet1 (s := { s with toks := s.toks + 1 }) I.ns fun h' hn2 hs2 => ?_
  obtain ⟨oD, esD, epD, hoD, hdD, hcD⟩ := hn2.count (PySem.Within.cons name v hw)
  refine wpAny_bind (wpAny_lookBehind hoD (by rw [hdD]; exact pastItsLine_dict (Znt hcD (by rw [Zlc]; omega))) ?_)
  exact wpAny_pure (h _ ⟨(hs2.2 _ (Ne.symm I.ne)).trans I.obj, hn2, I.ne⟩ hs2)
theorem make_map {R : Result -> Shared -> Prop} {vs : List Value} {kw : List (Str × Value)} (X : K.In s.heap) (hm : W.makesIn K C = true)
    (hi : W.findIn K (.ref C) "__init__" = some (some (.ref f))) (hf : W.typeIn K (.ref f) = some (.type "function"))
    (h : codeAny (model prog w) (A.under (.builtin "type.__call__" ⟨.ref C :: vs, kw⟩)) (.call (.ref f) ⟨.ref (s.heap.objs.size + 1) :: vs, kw⟩) (W.InitBack (s.heap.objs.size + 1) R)
      { s with heap := (s.heap.push W.emptyDict).push (W.instObj C s.heap.objs.size) }) :
    codeAny (model prog w) A (.call (.ref C) ⟨vs, kw⟩) R s := by
  obtain ⟨hh, g, d, t, os⟩ := s
  exact W.make_core (W.makes_of X hm) (W.looks_findIn X hi) (fun self => W.bind_fn X self hf) (.inl rfl) h
end
def putF (f : Str) (v : V) : List (Str × V) -> List (Str × V)
  | [] => [(f, v)]
  | (g, x) :: r => if g = f then (g, v) :: r else (g, x) :: putF f v r
theorem lookup_putF (f g : Str) (v : V) : ∀ fs : List (Str × V), (putF f v fs).lookup g = if g = f then some v else fs.lookup g
  | [] => by
    show List.lookup g [(f, v)] = _
    by_cases h : g = f
    . have hb : (g == f) = true := beq_iff_eq.mpr h
      simp only [List.lookup, hb, if_pos h]
    . have hb : (g == f) = false := beq_eq_false_iff_ne.mpr h
      simp only [List.lookup, hb, if_neg h]
  | (k, x) :: r => by
    have ih := lookup_putF f g v r
    rw [show putF f v ((k, x) :: r) = (if k = f then (k, v) :: r else (k, x) :: putF f v r) from rfl]; by_cases hk : k = f
    . rw [if_pos hk]; by_cases h : g = k
      . have hb : (g == k) = true := beq_iff_eq.mpr h
        simp only [List.lookup, hb, if_pos (h.trans hk)]
      . have hb : (g == k) = false := beq_eq_false_iff_ne.mpr h
        simp only [List.lookup, hb, if_neg (fun e : g = f => h (e.trans hk.symm))]
    . rw [if_neg hk]; by_cases h : g = k
      . have hb : (g == k) = true := beq_iff_eq.mpr h
        simp only [List.lookup, hb, if_neg (fun e : g = f => hk (h.symm.trans e))]
      . have hb : (g == k) = false := beq_eq_false_iff_ne.mpr h
        simp only [List.lookup, hb]
        exact ih
theorem keys_putF (f : Str) (v : V) : ∀ fs : List (Str × V), f ∈ (putF f v fs).map (·.1) /\ ∀ g, g ∈ fs.map (·.1) -> g ∈ (putF f v fs).map (·.1)
  | [] => ⟨by simp [putF], fun g h => by simp at h⟩
  | (k, x) :: r => by
    obtain ⟨i1, i2⟩ := keys_putF f v r
    rw [show putF f v ((k, x) :: r) = (if k = f then (k, v) :: r else (k, x) :: putF f v r) from rfl]; by_cases hk : k = f
    . rw [if_pos hk]; subst hk; exact ⟨by simp, fun g h => by simpa using h⟩
    . rw [if_neg hk]; refine ⟨?_, fun g h => ?_⟩
      . rw [List.map_cons]; exact Zmc _ i1
      . rw [List.map_cons] at h ⊢; rcases List.mem_cons.mp h with e | e
        . exact List.mem_cons.mpr (.inl e)
        . exact Zmc _ (i2 g e)
theorem length_putF (f : Str) (v : V) : ∀ fs : List (Str × V), (putF f v fs).length <= fs.length + 1
  | [] => by simp [putF]
  | (k, x) :: r => by
    have ih := length_putF f v r
    rw [show putF f v ((k, x) :: r) = (if k = f then (k, v) :: r else (k, x) :: putF f v r) from rfl]; by_cases hk : k = f
    . rw [if_pos hk, Zlc, Zlc]; omega
    . rw [if_neg hk, Zlc, Zlc]; omega
theorem RelO.some_of {v : V} {o : Option Value} (r : RelO (some v) o) : ∃ u, o = some u /\ RelV v u := by
  cases o with
  | none => exact (show False from r).elim
  | some u => exact ⟨u, rfl, r⟩
theorem RelO.none_of {o : Option Value} (r : RelO none o) : o = none := by
  cases o with
  | none => rfl
  | some u => exact (show False from r).elim
theorem handed_of {v : V} {u : Value} (r : RelV v u) : W.handedIn u = true := by
  cases v with
  | non => cases (show u = Value.none from r); rfl
  | bl b => cases (show u = Value.bool b from r); rfl
  | int i => obtain ⟨t, e⟩ := (show ∃ t, u = Value.int i t from r); cases e; rfl
  | str x => obtain ⟨t, e⟩ := (show ∃ t, u = Value.str x t from r); cases e; rfl
  | byt b => obtain ⟨t, e⟩ := (show ∃ t, u = Value.bytes b t from r); cases e; rfl
  | flt b => obtain ⟨t, e⟩ := (show ∃ t, u = Value.float b t from r); cases e; rfl
  | ref a => cases (show u = Value.ref a from r); rfl
  | ty n => cases (show u = Value.type n from r); rfl
section
variable {P : Program} {w : World} {H H' : Hp} {h h' : Heap} {a C dx : Addr} {fs fs' : List (Str × V)}
theorem ins_get (hok : HOk P w H h) (e : H a = some (.ins C dx fs)) : ∃ mA, ObjM h a dx C mA /\ (∀ f, RelO (fs.lookup f) (mA f)) /\ PySem.Within mA (fs.map (·.1)) /\ fs.length <= 1000 /\ H dx = some (.own a) := by
  obtain ⟨d, z, ne, ob, mA, n, r, q⟩ := (show ObjOk P w H h a (.ins C dx fs) from hok a _ e)
  exact ⟨mA, ⟨ob, n, ne⟩, r, q, z, d⟩
end
structure Cls (K : W.Frag) (C : Addr) : Prop where
  pg : W.plainGet K C Str.empty = true
  hd : W.hasDictIn K C = true
  po : W.plainOver K C = true
  sa : W.findIn K (.ref C) "__setattr__" = some (some (.builtin "object.__setattr__"))
theorem Cls.get {K : W.Frag} {C : Addr} (c : Cls K C) (f : Str) : W.plainGet K C f = true := c.pg
def NoAttr (K : W.Frag) (C : Addr) (f : Str) : Prop := W.findIn K (.ref C) f = some none
theorem NoAttr.taker {K : W.Frag} {C : Addr} {f : Str} (n : NoAttr K C f) : W.takerIn K C f = some none := by
  unfold W.takerIn; rw [show W.findIn K (.ref C) f = some none from n]; rfl
structure Meth (K : W.Frag) (C : Addr) (m : Str) (f : Addr) : Prop where
  at_ : W.findIn K (.ref C) m = some (some (.ref f))
  fn : W.isFn K (.ref f) = true
  kp : W.keepIn K (.ref f) = true
section
variable {X : Cx} {pins : List (Addr × Obj)} {σ : St} {H : Hp} {s : Shared} {a C dx : Addr} {fs : List (Str × V)} {f : Str} {v : V} {A : Around} {E : Value -> Shared -> Prop}
theorem getattr_ok {b : Bool} {Q : Value -> Shared -> Prop} (I : Inv X pins σ H s) (e : H a = some (.ins C dx fs)) (c : Cls X.K C) (n : NoAttr X.K C f) (l : fs.lookup f = some v)
    (h : ∀ u s', Inv X pins σ H s' -> RelV v u -> Q u s') : wpAny (model X.prog X.w) A (getAttr (.ref a) f b) Q E s := by
  obtain ⟨mA, O, r, _, _, _⟩ := ins_get I.hok e
  obtain ⟨u, hu, ru⟩ := RelO.some_of (v := v) (o := mA f) (by rw [<- l]; exact r f)
  exact get_map I.kIn O (c.get f) c.hd n hu (handed_of ru) (h u _ (I.tok _) ru)
theorem getmeth_ok {m : Str} {g : Addr} {pl : Sem Bool} {Q : Value × List Value -> Shared -> Prop} (I : Inv X pins σ H s) (e : H a = some (.ins C dx fs)) (c : Cls X.K C) (k : Meth X.K C m g) (l : fs.lookup m = none)
    (h : Q (.ref g, [.ref a]) s) : wpAny (model X.prog X.w) A (getMethod (.ref a) m pl) Q E s := by
  obtain ⟨mA, O, r, _, _, _⟩ := ins_get I.hok e
  have hn : mA m = none := RelO.none_of (by rw [<- l]; exact r m)
  exact get_meth I.kIn O (c.get m) k.at_ k.fn hn h
theorem setattr_ok {y : V} {u : Value} {Q : Unit -> Shared -> Prop} (I : Inv X pins σ H s) (e : H a = some (.ins C dx fs)) (c : Cls X.K C) (n : NoAttr X.K C f) (hl : fs.length < 1000) (ry : RelV y u)
    (h : ∀ s', Inv X pins σ (upd H a (.ins C dx (putF f y fs))) s' -> Q () s') : wpAny (model X.prog X.w) A (setAttr (.ref a) f u) Q E s := by
  obtain ⟨mA, O, r, wi, _, ho⟩ := ins_get I.hok e
  have hz : (fs.map (·.1)).length <= sizeLine := by rw [Zlm, sizeLine_eq]; omega
  refine set_map I.kIn O c.sa c.po n.taker c.hd wi hz fun h' O' sb => h _ ?_
  have hd : ∃ o, h'.get? dx = some o := let ⟨o, _, _, e', _⟩ := O'.ns; ⟨o, e'⟩
  refine I.write (x := a) (e := dx) (by rw [e]; exact True.intro) (.inr ho) (fun b q hb z => (sb.2 b hb).trans z) hd ?_
  refine ⟨by rw [upd_ne O.ne]; exact ho, ?_, O.ne, O'.obj, _, O'.ns, fun g => ?_, fun g hg => ?_⟩
  . have := length_putF f y fs; omega
  . show RelO ((putF f y fs).lookup g) (if g = f then some u else mA g)
    rw [lookup_putF]; by_cases q : g = f
    . rw [if_pos q, if_pos q]; exact ry
    . rw [if_neg q, if_neg q]; exact r g
  . by_cases q : g = f
    . rw [q]; exact (keys_putF f y fs).1
    . refine (keys_putF f y fs).2 g (wi g fun z => hg ?_)
      show (if g = f then some u else mA g) = none
      rw [if_neg q]; exact z
theorem Inv.made (I : Inv X pins σ H s) : Inv X pins σ (upd (upd H s.heap.objs.size (.own (s.heap.objs.size + 1))) (s.heap.objs.size + 1) (.ins C s.heap.objs.size []))
    { s with heap := (s.heap.push W.emptyDict).push (W.instObj C s.heap.objs.size) } := by
  have e1 : (s.heap.push W.emptyDict).get? s.heap.objs.size = some W.emptyDict := Heap.get?_push_size s.heap rfl
  have e2 : ((s.heap.push W.emptyDict).push (W.instObj C s.heap.objs.size)).get? (s.heap.objs.size + 1) = some (W.instObj C s.heap.objs.size) := by
    have := Heap.get?_push_size (s.heap.push W.emptyDict) (o := W.instObj C s.heap.objs.size) rfl
    rwa [Heap.size_push] at this
  have e3 : (s.heap.push W.emptyDict).Ns s.heap.objs.size (fun _ => none) := ⟨W.emptyDict, #[], _, e1, rfl, (fun e he => absurd he (by simp)), fun _ => rfl⟩
  have I1 := I.laid (a := s.heap.objs.size) (o := .own (s.heap.objs.size + 1)) (h' := s.heap.push W.emptyDict) (t' := s.toks) (fun b u q => Zpu _ q) (Znr _) ⟨_, e1⟩
  refine I1.laid (a := s.heap.objs.size + 1) (o := .ins C s.heap.objs.size []) (t' := s.toks) (fun b u q => Zpu _ q) (Nat.le_of_eq (Heap.size_push _ _)) ?_
  have ne : s.heap.objs.size ≠ s.heap.objs.size + 1 := Nat.ne_of_lt (Nat.lt_succ_self _)
  refine ⟨by rw [upd_ne ne, upd_same], Nat.zero_le _, ne, e2, fun _ => none, (Heap.Ns1.of_empty e3).at fun o q => Zpu _ q, fun _ => True.intro, fun y hy => absurd rfl hy⟩
theorem attr_of {prog : Program} {w : World} {env : Env} {e : Expr} {f : Str} {pos : Pos} {s : Shared} {Q : Value -> Shared -> Prop} (hb : attributeBase e f env (eval e env) = eval e env)
    (h : wpAny (model prog w) A (eval e env) (fun o s₁ => wpAny (model prog w) A (getAttr o f true) Q E s₁) E s) : wpAny (model prog w) A (eval (.Attribute e f pos) env) Q E s :=
  Attribute_any_ h (by rw [arm_eval_Attribute, hb])
end
section
variable {X : Cx} {pins : List (Addr × Obj)} {σ : St} {H : Hp} {s : Shared} {A : Around} {E : Value -> Shared -> Prop} {Q : Value -> Shared -> Prop} {c : Value} {b : Bool}
inductive TyOf (K : W.Frag) (H : Hp) : V -> Value -> Prop where
  | non : TyOf K H .non (.type "NoneType")
  | bl (x : Bool) : TyOf K H (.bl x) (.type "bool")
  | int (i : Int) : TyOf K H (.int i) (.type "int")
  | str (x : Str) : TyOf K H (.str x) (.type "str")
  | flt (x : UInt64) : TyOf K H (.flt x) (.type "float")
  | lst {a : Addr} {xs : List V} (e : H a = some (.lst xs)) : TyOf K H (.ref a) (.type "list")
  | frz {a : Addr} {o : Obj} {xs : List V} (e : H a = some (.frz o (.lst xs))) : TyOf K H (.ref a) (.type "list")
  | tup {a : Addr} {xs : List V} (e : H a = some (.tup xs)) : TyOf K H (.ref a) (.type "tuple")
  | dK {a : Addr} {kvs : List (Key × V)} (e : H a = some (.dK kvs)) : TyOf K H (.ref a) (.type "dict")
  | dT {a : Addr} {kvs : List (List Key × V)} (e : H a = some (.dT kvs)) : TyOf K H (.ref a) (.type "dict")
  | ins {a C dx : Addr} {fs : List (Str × V)} (e : H a = some (.ins C dx fs)) (cl : Cls K C) (ha : W.findIn K (.ref C) "__class__" = some (some (.builtin "object.__class__")))
      (hn : W.specialIn K (.builtin "object.__class__") "__get__" = some (some (.builtin "getset_descriptor.__get__"))) (htk : W.takesIn K (.builtin "object.__class__") = some true)
      (hm : W.mroIn K C (.type "object") = some true) : TyOf K H (.ref a) (.ref C)
theorem isinst_ok {x : V} {u t : Value} (I : Inv X pins σ H s) (rx : RelV x u) (ty : TyOf X.K H x t) (e : W.kitOne X.K t c = some b) (h : ∀ tk, Q (.bool b) { s with toks := tk }) :
    wpAny (model X.prog X.w) A (call (.builtin "isinstance") [u, c]) Q E s := by
  cases ty with
  | non => cases (show u = Value.none from rx); exact W.kia_one W.kitx_none I.kIn True.intro e (fun z => nomatch z) h
  | bl y => cases (show u = Value.bool y from rx); exact W.kia_one W.kitx_bool I.kIn True.intro e (fun z => nomatch z) h
  | int i => obtain ⟨t, q⟩ := (show ∃ t, u = Value.int i t from rx); cases q; exact W.kia_one W.kitx_int I.kIn True.intro e (fun z => nomatch z) h
  | str y => obtain ⟨t, q⟩ := (show ∃ t, u = Value.str y t from rx); cases q; exact W.kia_one W.kitx_str I.kIn True.intro e (fun z => nomatch z) h
  | flt y => obtain ⟨t, q⟩ := (show ∃ t, u = Value.float y t from rx); cases q; exact W.kia_one W.kitx_float I.kIn True.intro e (fun z => nomatch z) h
  | @lst a xs ea =>
    cases (show u = Value.ref a from rx)
    obtain ⟨_, _, n, _, h1⟩ := (show ObjOk X.prog X.w H s.heap a (.lst xs) from I.hok a _ ea)
    exact W.kia_one W.kitx_list I.kIn ⟨_, h1, rfl⟩ e (fun z => nomatch z) h
  | @frz a ob xs ea =>
    cases (show u = Value.ref a from rx)
    obtain ⟨_, _, _, n, _, h1⟩ := (show ObjOk X.prog X.w H s.heap a (.frz ob (.lst xs)) from I.hok a _ ea)
    exact W.kia_one W.kitx_list I.kIn ⟨_, h1, rfl⟩ e (fun z => nomatch z) h
  | @tup a xs ea =>
    cases (show u = Value.ref a from rx)
    obtain ⟨_, _, _, p⟩ := (show ObjOk X.prog X.w H s.heap a (.tup xs) from I.hok a _ ea)
    obtain ⟨o, h1, h2, _⟩ := p
    exact W.kia_one W.kitx_tuple I.kIn ⟨o, h1, h2⟩ e (fun z => nomatch z) h
  | @dK a kvs ea =>
    cases (show u = Value.ref a from rx)
    obtain ⟨_, _, vs, _, p⟩ := (show ObjOk X.prog X.w H s.heap a (.dK kvs) from I.hok a _ ea)
    obtain ⟨o, es, ep, h1, h2, _⟩ := p
    exact W.kia_one W.kitx_dict I.kIn ⟨o, h1, h2.1⟩ e (fun z => nomatch z) h
  | @dT a kvs ea =>
    cases (show u = Value.ref a from rx)
    obtain ⟨_, _, xs, _, o, es, ep, h1, h2, _⟩ := (show ObjOk X.prog X.w H s.heap a (.dT kvs) from I.hok a _ ea)
    exact W.kia_one W.kitx_dict I.kIn ⟨o, h1, h2.1⟩ e (fun z => nomatch z) h
  | @ins a C dx fs ea cl ha hn htk hm =>
    cases (show u = Value.ref a from rx)
    obtain ⟨mA, O, _⟩ := ins_get I.hok ea
    obtain ⟨od, J, _⟩ := O.look
    exact W.kia_one (W.kitx_own (cl.get _) cl.hd ha hn htk hm) I.kIn J e (fun z => nomatch z) h
end
end L2
namespace L2
open PySem PySem.Spec PyProof.Rows
structure Room (k : Nat) (A : Around) : Prop where
  hd : A.handled = none
  dp : A.depth + 3 * k + 5 < recursionLimit
  un : A.units + 16 * k + 200 < cLine
theorem Room.mono {j k : Nat} {A : Around} (r : Room k A) (h : j <= k) : Room j A := ⟨r.hd, by have := r.dp; omega, by have := r.un; omega⟩
theorem Room.deeper {k : Nat} {A : Around} (r : Room (k + 1) A) (env : Env) : Room k (A.deeper env) :=
  ⟨r.hd, by have := r.dp; show A.depth + 1 + 3 * k + 5 < _; omega, by have := r.un; show A.units + 3 + 16 * k + 200 < _; omega⟩
theorem make_depth {A : Around} {C : Addr} {us : List Value} {kw : List (Str × Value)} : (A.under (.builtin "type.__call__" ⟨.ref C :: us, kw⟩)).depth = A.depth + 1 := by
  first | rfl | simp [Around.under, Code.weight, Code.isCreation, Code.isGuard, Code.isCaller, Code.frames, Code.isFrame, guardIds]
theorem make_units {A : Around} {C : Addr} {us : List Value} {kw : List (Str × Value)} : (A.under (.builtin "type.__call__" ⟨.ref C :: us, kw⟩)).units = A.units + 1 := by
  first | rfl | simp [Around.under, Code.cUnits, Code.frames, Code.isFrame]
theorem Room.make {k : Nat} {A : Around} (r : Room (k + 1) A) (C : Addr) (us : List Value) (kw : List (Str × Value)) : Room k (A.under (.builtin "type.__call__" ⟨.ref C :: us, kw⟩)) :=
  ⟨r.hd, by have := r.dp; rw [make_depth]; omega, by have := r.un; rw [make_units]; omega⟩
theorem Room.depth {k : Nat} {A : Around} (r : Room k A) : A.depth < recursionLimit := by have := r.dp; omega
theorem Room.units {k : Nat} {A : Around} (r : Room k A) : A.units + 64 < cLine := by have := r.un; omega
theorem Room.units0 {k : Nat} {A : Around} (r : Room k A) : A.units < cLine := by have := r.un; omega
def tNil : TA := fun _ H Q => Q [] H
def tCons (ta : TE) (tr : TA) : TA := fun σ H Q => ta σ H fun x H1 => tr σ H1 fun xs H2 => Q (x :: xs) H2
section
variable {X : Cx} {e : Expr} {es : List Expr} {te : TE} {t : TA} {pos : Pos}
theorem pa_nil : PA X [] tNil := fun _ _ _ _ H Q I h => Calls.spliced_nil ⟨[], H, I, .nil, h⟩
theorem pa_cons (ha : PE X e te) (hr : PA X es t) (hs : starEach (e :: es) X.env = (false, eval e X.env) :: starEach es X.env := by rfl) : PA X (e :: es) (tCons te t) := by
  intro pos pins s σ H Q I h; rw [hs]; show wpAny _ _ (spliced ((false, eval e X.env) :: backTo pos (starEach es X.env))) _ _ s
  refine Calls.spliced_cons (thn (ha pins s σ H _ I h) fun u s1 ⟨x, H1, I1, r1, q1⟩ => ?_)
  exact thn (hr pos pins s1 σ H1 _ I1 q1) fun us s2 ⟨xs, H2, I2, r2, q2⟩ => ⟨x :: xs, H2, I2, .cons r1 r2, q2⟩
def tTup (t : TA) : TE := fun σ H Q => t σ H fun xs H1 => xs.length <= sizeLine /\ ∀ p, H1 p = none -> Q (.ref p) (upd H1 p (.tup xs))
def tLst (t : TA) : TE := fun σ H Q => t σ H fun xs H1 => xs.length <= sizeLine /\ ∀ p, H1 p = none -> Q (.ref p) (upd H1 p (.lst xs))
theorem pe_tup {x1} (h : PA X es t) : PE X (.Tuple es x1 pos) (tTup t) := by
  intro pins s σ H Q I hq; refine wpAny_Tuple_spliced (thn (h pos pins s σ H _ I hq) fun us s1 ⟨xs, H1, I1, r, z, q⟩ => ⟨by rw [<- r.length]; exact z, ?_⟩)
  have hf : H1 s1.heap.objs.size = none := I1.hok.fresh (Znr _)
  refine ⟨.ref s1.heap.objs.size, upd H1 s1.heap.objs.size (.tup xs), I1.laid (t' := s1.toks) (fun b u e => Zpu _ e) (Znr _) ?_, rfl, q _ hf⟩
  exact ⟨z, us, r, ⟨_, Heap.get?_push_size _ rfl, rfl, _, rfl⟩⟩
theorem pe_lst (h : PA X es t) : PE X (.List es pos) (tLst t) := by
  intro pins s σ H Q I hq; refine wpAny_List_spliced (thn (h pos pins s σ H _ I hq) fun us s1 ⟨xs, H1, I1, r, z, q⟩ => ⟨by rw [<- r.length]; exact z, ?_⟩)
  have hf : H1 s1.heap.objs.size = none := I1.hok.fresh (Znr _)
  refine ⟨.ref s1.heap.objs.size, upd H1 s1.heap.objs.size (.lst xs), I1.laid (t' := s1.toks) (fun b u e => Zpu _ e) (Znr _) ?_, rfl, q _ hf⟩
  exact ⟨z, us, 0, r, Heap.get?_push_size _ rfl⟩
end
abbrev Sp := List V -> Hp -> VK -> XK -> Prop
abbrev CXT := List Env -> Hp -> Shared -> XK -> Value -> Shared -> Prop
structure Env0 (P : Program) (w : World) (K : W.Frag) (mg : Str -> Option Value) (base : Heap) (A : Around) (outer : List Env) (s : Shared) (H : Hp) : Prop where
  frames : A.frames = some outer
  mod : Mod K mg base
  bs : ∀ b o, base.get? b = some o -> s.heap.get? b = some o /\ H b = none
  bsz : base.objs.size <= s.heap.objs.size
  funs : s.heap.FunFrames base outer
  frf : ∀ b ∈ frs outer, H b = none
  hok : HOk P w H s.heap
  bare : AllBare s.gens
def CE (outer : List Env) (P : Program) (w : World) (H : Hp) (s : Shared) (Q : VK) (u : Value) (s' : Shared) : Prop :=
  ∃ v H', s'.os = s.os /\ AllBare s'.gens /\ Un (frs outer) [] H H' s.heap s'.heap /\ HOk P w H' s'.heap /\ RelV v u /\ Q v H'
def CR (CX : CXT) (outer : List Env) (P : Program) (w : World) (H : Hp) (s : Shared) (Q : VK) (E : XK) (r : Result) (s' : Shared) : Prop :=
  match r with
  | .ok (.ret u) => CE outer P w H s Q u s'
  | .ok _ => False
  | .error e => CX outer H s E e s'
structure FnOk (P : Program) (w : World) (K : W.Frag) (mg : Str -> Option Value) (base : Heap) (CX : CXT) (k : Nat) (f : Addr) (fd : FuncData) (ps : List Str) (sp : Sp) : Prop where
  len : ∀ vs H Q E, sp vs H Q E -> vs.length = ps.length
  run : ∀ (A : Around) (outer : List Env) (s : Shared) (H : Hp) (args : Args) (us : List Value) (vs : List V) (Q : VK) (E : XK), Room k A -> Env0 P w K mg base A outer s H -> BindsTo s fd args (ps.zip us) -> Vals vs us -> sp vs H Q E →
    codeAny (model P w) A (.call (.ref f) args) (CR CX outer P w H s Q E) s
theorem Env0.make {P : Program} {w : World} {K : W.Frag} {mg : Str -> Option Value} {base : Heap} {A : Around} {outer : List Env} {s : Shared} {H : Hp} (e : Env0 P w K mg base A outer s H) (C : Addr) (us : List Value) (kw : List (Str × Value)) :
    Env0 P w K mg base (A.under (.builtin "type.__call__" ⟨.ref C :: us, kw⟩)) outer s H := ⟨by first | exact e.frames | (simpa [Around.under, Code.envs, Code.isFrame, pushEnvs] using e.frames), e.mod, e.bs, e.bsz, e.funs, e.frf, e.hok, e.bare⟩
section
variable {X : Cx} {pins : List (Addr × Obj)} {σ : St} {H : Hp} {s s' : Shared}
theorem Inv.env0 (I : Inv X pins σ H s) : Env0 X.prog X.w X.K X.mg X.base X.A X.stack s H :=
  ⟨I.ok.frames, I.ok.mod, I.bs, Znt I.ok.bsz I.sz, I.stack, I.stkFree, I.hok, I.bare⟩
theorem Inv.after {Q : VK} {u : Value} (I : Inv X pins σ H s) (h : CE X.stack X.prog X.w H s Q u s') : EP X pins σ Q u s' := by
  obtain ⟨v, H', os, bare, un, hok, r, q⟩ := h
  obtain ⟨hh, g, d, t, os'⟩ := s'
  obtain rfl : os' = s.os := os
  exact ⟨v, H', I.call (h' := hh) (g' := g) (d' := d) (t' := t) (ch := []) un hok bare (fun b z => absurd z (by simp)), r, q⟩
end
def tCall (sp : Sp) (dvs : List V) (E : XK) (t : TA) : TE := fun σ H Q => t σ H fun vs H1 => sp (vs ++ dvs) H1 Q E
def tMake (C : Addr) (sp : Sp) (dvs : List V) (E : XK) (t : TA) : TE := fun σ H Q => t σ H fun vs H1 => ∀ x dx, H1 x = none -> H1 dx = none -> dx ≠ x →
  sp (.ref x :: (vs ++ dvs)) (upd (upd H1 dx (.own x)) x (.ins C dx [])) (fun v H2 => v = .non /\ Q (.ref x) H2) E
def Binds (K : W.Frag) (fd : FuncData) (ps : List Str) (ds : List Value) : Prop :=
  ∀ (s : Shared) (us : List Value), K.In s.heap -> (us ++ ds).length = ps.length -> BindsTo s fd ⟨us, []⟩ (ps.zip (us ++ ds))
theorem Binds.all {K : W.Frag} {fd : FuncData} {ps : List Str} (h : ∀ us : List Value, us.length = ps.length -> bindArgs fd ⟨us, []⟩ = pure (ps.zip us)) : Binds K fd ps [] := fun s us _ hl => by
  rw [List.append_nil] at hl ⊢; exact .of_eq (h us hl)
def Passes (CX : CXT) (X : Cx) (E : XK) : Prop := ∀ (pins : List (Addr × Obj)) (σ : St) (H : Hp) (s : Shared) (e : Value) (s' : Shared), Inv X pins σ H s -> CX X.stack H s E e s' -> X.xe e s'
section
variable {X : Cx} {CX : CXT} {k : Nat} {f C : Addr} {fd : FuncData} {ps : List Str} {sp : Sp} {dvs : List V} {ds : List Value} {E : XK} {x m : Str} {p pos apos : Pos} {e o : Expr} {es : List Expr} {ta : TE} {t : TA}
theorem run_fn {pins : List (Addr × Obj)} {σ : St} {H : Hp} {s : Shared} {Q : VK} {us : List Value} {vs : List V} (F : FnOk X.prog X.w X.K X.mg X.base CX k f fd ps sp) (hr : Room k X.A) (hb : Binds X.K fd ps ds) (hd : Vals dvs ds) (hx : Passes CX X E)
    (I : Inv X pins σ H s) (r : Vals vs us) (h : sp (vs ++ dvs) H Q E) : wpAny (model X.prog X.w) X.A (call (.ref f) us) (EP X pins σ Q) X.xe s := by
  have r2 : Vals (vs ++ dvs) (us ++ ds) := r.append hd
  have hl : (us ++ ds).length = ps.length := by rw [<- r2.length]; exact F.len _ _ _ _ h
  refine wpAny_call (codeAny_mono (F.run X.A X.stack s H ⟨us, []⟩ (us ++ ds) (vs ++ dvs) Q E hr I.env0 (hb s us I.kIn hl) r2 h) fun r s' hq => ?_)
  cases r with
  | error e => exact hx pins σ H s e s' I hq
  | ok fl =>
    cases fl with
    | ret u => exact I.after hq
    | next => exact False.elim hq
    | brk => exact False.elim hq
    | cont => exact False.elim hq
theorem pe_call (F : FnOk X.prog X.w X.K X.mg X.base CX k f fd ps sp) (hr : Room k X.A) (hg : Gl X x) (hm : X.mg x = some (.ref f)) (hk : W.keepIn X.K (.ref f) = true) (hb : Binds X.K fd ps ds) (hd : Vals dvs ds) (hx : Passes CX X E)
    (ha : PA X (e :: es) t) (hdb : (x == ("__debug__" : Str)) = false := by decide) (he : starEach (e :: es) X.env = (false, eval e X.env) :: starEach es X.env := by rfl) (hpl : (backTo pos (starEach es X.env)).any (·.1) = false := by rfl) :
    PE X (.Call (.Name x p) (e :: es) [] pos) (tCall sp dvs E t) := by
  intro pins s σ H Q I h; refine wpAny_Call_Name_kw (ld_glob I hg hm ?_ hdb)
  refine W.callWith_K (h₀ := X.base) I.ok.mod.kin hk (thn (ha pos pins s σ H _ I h) fun us s1 ⟨vs, H1, I1, r, q⟩ => ⟨I1.kIn, ?_⟩) he hpl
  exact run_fn F hr hb hd hx I1 r q
structure Mk (K : W.Frag) (C f : Addr) : Prop where
  makes : W.makesIn K C = true
  init : W.findIn K (.ref C) "__init__" = some (some (.ref f))
  fn : W.isFn K (.ref f) = true
  kp : W.keepIn K (.ref C) = true
theorem run_make {pins : List (Addr × Obj)} {σ : St} {H : Hp} {s : Shared} {Q : VK} {us : List Value} {vs : List V} (M : Mk X.K C f) (F : FnOk X.prog X.w X.K X.mg X.base CX k f fd ps sp) (hr : Room (k + 1) X.A) (hb : Binds X.K fd ps ds) (hd : Vals dvs ds)
    (hx : Passes CX X E) (I : Inv X pins σ H s) (r : Vals vs us)
    (h : ∀ x dx, H x = none -> H dx = none -> dx ≠ x -> sp (.ref x :: (vs ++ dvs)) (upd (upd H dx (.own x)) x (.ins C dx [])) (fun v H2 => v = .non /\ Q (.ref x) H2) E) :
    wpAny (model X.prog X.w) X.A (call (.ref C) us) (EP X pins σ Q) X.xe s := by
  have hq := h (s.heap.objs.size + 1) s.heap.objs.size (I.hok.fresh (Nat.le_succ _)) (I.hok.fresh (Znr _)) (Nat.ne_of_lt (Nat.lt_succ_self _))
  have I2 := Inv.made (C := C) I
  have r2 : Vals (V.ref (s.heap.objs.size + 1) :: (vs ++ dvs)) (Value.ref (s.heap.objs.size + 1) :: (us ++ ds)) := .cons rfl (r.append hd)
  have hl : (Value.ref (s.heap.objs.size + 1) :: us ++ ds).length = ps.length := by
    have e := r2.length
    rw [F.len _ _ _ _ hq] at e; exact e.symm
  refine wpAny_call (make_map (f := f) I.kIn M.makes M.init (beq_iff_eq.mp M.fn) (codeAny_mono (F.run _ X.stack _ _ ⟨Value.ref (s.heap.objs.size + 1) :: us, []⟩ (Value.ref (s.heap.objs.size + 1) :: (us ++ ds)) _ _ E (hr.make C us [])
    (I2.env0.make C us []) (hb _ (Value.ref (s.heap.objs.size + 1) :: us) I2.kIn hl) r2 hq) fun r s' hq' => ?_))
  cases r with
  | error e => exact hx pins σ _ _ e s' I2 hq'
  | ok fl =>
    cases fl with
    | ret u =>
      obtain ⟨v, H', I3, rv, ev, q3⟩ := I2.after hq'
      subst ev; exact ⟨rv, ⟨V.ref (s.heap.objs.size + 1), H', I3, rfl, q3⟩⟩
    | next => exact False.elim hq'
    | brk => exact False.elim hq'
    | cont => exact False.elim hq'
theorem pe_make (M : Mk X.K C f) (F : FnOk X.prog X.w X.K X.mg X.base CX k f fd ps sp) (hr : Room (k + 1) X.A) (hg : Gl X x) (hm : X.mg x = some (.ref C)) (hb : Binds X.K fd ps ds) (hd : Vals dvs ds) (hx : Passes CX X E)
    (ha : PA X (e :: es) t) (hdb : (x == ("__debug__" : Str)) = false := by decide) (he : starEach (e :: es) X.env = (false, eval e X.env) :: starEach es X.env := by rfl) (hpl : (backTo pos (starEach es X.env)).any (·.1) = false := by rfl) :
    PE X (.Call (.Name x p) (e :: es) [] pos) (tMake C sp dvs E t) := by
  intro pins s σ H Q I h; refine wpAny_Call_Name_kw (ld_glob I hg hm ?_ hdb)
  refine W.callWith_K (h₀ := X.base) I.ok.mod.kin M.kp (thn (ha pos pins s σ H _ I h) fun us s1 ⟨vs, H1, I1, r, q⟩ => ⟨I1.kIn, ?_⟩) he hpl
  exact run_make M F hr hb hd hx I1 r q
end
structure FnScope (N P : List Str) (sc : Scope) : Prop where
  kind : sc.kind = .function
  co : sc.isCoroutine = false
  gen : sc.isGenerator = false
  nd : N.Nodup
  pre : N.take P.length = P
  par : ∀ x ∈ P, sc.names.lookup x = some .local ∨ sc.names.lookup x = some .cell
  nofree : ∀ y ∈ sc.names, y.2 ≠ .free
theorem bindL_out {kindOf : Str -> Option NameKind} {x : Str} : ∀ {binds : List (Str × Value)} {m : Str -> Option Value}, (∀ v, (x, v) ∉ binds) -> bindL kindOf binds m x = m x
  | [], _, _ => rfl
  | (n, v) :: r, m, h => by
    unfold bindL; rw [bindL_out fun w hw => h w (Zmc _ hw)]
    split
    . have : x ≠ n := by rintro rfl; exact h v Zcs
      simp [this]
    . rfl
theorem bindC_out {kindOf : Str -> Option NameKind} {x : Str} : ∀ {binds : List (Str × Value)} {m : Str -> Option Value}, (∀ v, (x, v) ∉ binds) -> bindC kindOf binds m x = m x
  | [], _, _ => rfl
  | (n, v) :: r, m, h => by
    unfold bindC; rw [bindC_out fun w hw => h w (Zmc _ hw)]
    split
    . rfl
    . have : x ≠ n := by rintro rfl; exact h v Zcs
      simp [this]
theorem bindL_get {kindOf : Str -> Option NameKind} {x : Str} {v : Value} : ∀ {P : List Str} {vs : List Value} {i : Nat} {m : Str -> Option Value}, P.Nodup -> P[i]? = some x -> vs[i]? = some v -> kindOf x = some .local →
    bindL kindOf (P.zip vs) m x = some v
  | [], _, _, _, _, h, _, _ => by simp at h
  | _ :: _, [], _, _, _, _, h, _ => by simp at h
  | p :: P, w :: vs, 0, m, nd, h1, h2, hk => by
    simp at h1 h2; subst h1; subst h2
    show bindL kindOf ((p, w) :: P.zip vs) m p = _
    unfold bindL; rw [bindL_out fun v hv => (List.nodup_cons.mp nd).1 (List.of_mem_zip hv).1, if_pos hk]
    simp
  | p :: P, w :: vs, i + 1, m, nd, h1, h2, hk => by
    show bindL kindOf ((p, w) :: P.zip vs) m x = _
    unfold bindL; exact bindL_get (i := i) (List.nodup_cons.mp nd).2 (by simpa using h1) (by simpa using h2) hk
theorem bindC_get {kindOf : Str -> Option NameKind} {x : Str} {v : Value} : ∀ {P : List Str} {vs : List Value} {i : Nat} {m : Str -> Option Value}, P.Nodup -> P[i]? = some x -> vs[i]? = some v -> kindOf x ≠ some .local →
    bindC kindOf (P.zip vs) m x = some v
  | [], _, _, _, _, h, _, _ => by simp at h
  | _ :: _, [], _, _, _, _, h, _ => by simp at h
  | p :: P, w :: vs, 0, m, nd, h1, h2, hk => by
    simp at h1 h2; subst h1; subst h2
    show bindC kindOf ((p, w) :: P.zip vs) m p = _
    unfold bindC; rw [bindC_out fun v hv => (List.nodup_cons.mp nd).1 (List.of_mem_zip hv).1, if_neg hk]
    simp
  | p :: P, w :: vs, i + 1, m, nd, h1, h2, hk => by
    show bindC kindOf ((p, w) :: P.zip vs) m x = _
    unfold bindC; exact bindC_get (i := i) (List.nodup_cons.mp nd).2 (by simpa using h1) (by simpa using h2) hk
def start (N : List Str) (vs : List V) : St := vs.map some ++ List.replicate (N.length - vs.length) none
def cxOf (CX : CXT) (P : Program) (w : World) (K : W.Frag) (mg : Str -> Option Value) (base : Heap) (N : List Str) (qual : Str) (scope : Scope) (f : Addr) (cd : Value) (A : Around) (outer : List Env) (s : Shared) (H : Hp) (E : XK) : Cx where
  prog := P
  w := w
  K := K
  mg := mg
  base := base
  A := A.deeper (envOfC qual scope s.heap.objs.size f cd)
  N := N
  s₀ := s
  H₀ := H
  env := envOfC qual scope s.heap.objs.size f cd
  outer := outer
  stack := envOfC qual scope s.heap.objs.size f cd :: outer
  ex := []
  calm := true
  fn := fun _ => true
  pn := []
  xe := fun e s' => wpAny (model P w) (A.deeper (envOfC qual scope s.heap.objs.size f cd)) (leaving (envOfC qual scope s.heap.objs.size f cd) e) (fun _ s'' => CX outer H s E e s'') (fun e' s'' => CX outer H s E e' s'') s'
theorem cell_has {sc : Scope} {n : Nat} {x : Str} (h : sc.names.lookup x = some .cell) : ∃ c, (cellsFrom n sc.names []).lookup x = some c := by
  have q := W.cellsFrom_some sc.names n [] (.inl h)
  exact Option.isSome_iff_exists.mp q
theorem inv_start {CX : CXT} {P : Program} {w : World} {K : W.Frag} {mg : Str -> Option Value} {base : Heap} {N ps : List Str} {qual : Str} {scope : Scope} {f : Addr} {cd : Value} {A : Around} {outer : List Env} {s s1 : Shared} {H : Hp} {E : XK} {us : List Value} {vs : List V}
    (S : FnScope N ps scope) (hd : A.handled = none) (e0 : Env0 P w K mg base A outer s H) (hl : vs.length = ps.length) (r : Vals vs us)
    (x : InCallC s s.heap.objs.size (bindL (envOfC qual scope s.heap.objs.size f cd).kindOf (ps.zip us) fun _ => none) (cellsFrom (s.heap.objs.size + 1) scope.names []) (bindC (envOfC qual scope s.heap.objs.size f cd).kindOf (ps.zip us) fun _ => none) s1) :
    Inv (cxOf CX P w K mg base N qual scope f cd A outer s H E) [] (start N vs) H s1 := by
  have hpl : ps.length <= N.length := by have := congrArg List.length S.pre; rw [Zlk] at this; omega
  obtain ⟨h1, tk, rfl, hk⟩ := x.done
  have noA : ∀ b : Addr, b ∉ (cxOf CX P w K mg base N qual scope f cd A outer s H E).ex := fun b z => absurd (show b ∈ ([] : List Addr) from z) (by simp)
  refine ⟨⟨e0.mod, S.kind, rfl, rfl, Znr _, fun y z c h1 h2 => ?_, fun y hy => ?_, fun y c _ h => ?_, fun _ => hd, Around.frames_deeper e0.frames, .inr ⟨rfl, rfl⟩, fun b z => absurd z (noA b), e0.bs, e0.bsz, fun b _ _ => noA b, fun b z => absurd z (noA b), e0.funs, e0.frf⟩,
    rfl, e0.bare, Un.kept hk, ⟨_, x.toInCall.ns, fun i y v h1 h2 h3 => ?_⟩, fun y c h => ⟨_, x.cell y c h⟩, e0.hok.fresh (Znr _), fun y c h => ?_, fun p hp => absurd (show p ∈ ([] : List (Addr × Obj)) from hp) (by simp), e0.hok.kept hk, ?_⟩
  . exact name_of_addr x.apart (PySem.mem_of_lookup h1) (PySem.mem_of_lookup h2)
  . have hy : scope.names.lookup y = some .cell ∨ scope.names.lookup y = some .free := hy
    rcases hy with hy | hy
    . exact cell_has hy
    . exact absurd rfl (S.nofree _ (PySem.mem_of_lookup hy))
  . exact Nat.le_of_lt (x.above y c (PySem.mem_of_lookup h))
  . have hi : i < vs.length := by
      unfold start at h2; by_cases hi : i < vs.length
      . exact hi
      . rw [List.getElem?_append_right (by simpa using hi)] at h2
        rw [List.getElem?_replicate] at h2; split at h2 <;> cases h2
    have ha : vs[i]? = some v := by
      unfold start at h2; rw [List.getElem?_append_left (by simpa using hi), Zgm] at h2
      cases e : vs[i]? with
      | none => rw [e] at h2; cases h2
      | some a => rw [e] at h2; cases h2; rfl
    obtain ⟨u, hu, rv⟩ := r.get ha
    have hp : ps[i]? = some y := by
      rw [<- S.pre, List.getElem?_take_of_lt (by omega)]; exact h1
    have ndP : ps.Nodup := by rw [<- S.pre]; exact S.nd.sublist (List.take_sublist _ _)
    refine ⟨u, rv, ?_⟩
    rcases S.par y (Zmg hp) with k | k
    . exact .inl ⟨k, bindL_get ndP hp hu k⟩
    . obtain ⟨c, e⟩ := cell_has (n := s.heap.objs.size + 1) k
      refine .inr ⟨.inl k, c, e, ?_⟩
      have q := x.cell y c e
      rw [bindC_get ndP hp hu (by show scope.names.lookup y ≠ _; rw [k]; decide)] at q
      exact q
  . exact e0.hok.fresh (Nat.le_of_lt (x.above y c (PySem.mem_of_lookup h)))
  . unfold start; show _ = N.length
    rw [Zla, Zlm, List.length_replicate]; omega
theorem fn_of {CX : CXT} {P : Program} {w : World} {K : W.Frag} {mg : Str -> Option Value} {base : Heap} {k : Nat} {f : Addr} {name qual : Str} {params : Arguments} {body : List Stmt} {scope : Scope} {dV kV doc pm cdv ct oc : Value} {an od : Option Addr}
    {osl : Array (Option Value)} {N ps : List Str} {sp : Sp} (lk : K.lookup f = some ⟨oc, od, .func (W.fnOf name qual params body scope dV kV doc pm an cdv ct), osl⟩) (hcd : W.codeIn K cdv qual = true) (S : FnScope N ps scope)
    (len : ∀ vs H Q E, sp vs H Q E -> vs.length = ps.length)
    (hbody : ∀ (A : Around) (outer : List Env) (s : Shared) (H : Hp) (vs : List V) (Q : VK) (E : XK), Room k (A.deeper (envOfC qual scope s.heap.objs.size f cdv)) -> sp vs H Q E →
      ∃ t, PSs (cxOf CX P w K mg base N qual scope f cdv A outer s H E) body t /\ t { nx := fun _ H' => Q .non H', rt := Q } (start N vs) H) :
    FnOk P w K mg base CX (k + 1) f (W.fnOf name qual params body scope dV kV doc pm an cdv ct) ps sp := by
  refine ⟨len, fun A outer s H args us vs Q E hr e0 hb r hsp => ?_⟩
  have hl := len _ _ _ _ hsp
  have KX : K.In s.heap := e0.mod.kin.keeps fun b o e => (e0.bs b o e).1
  have lim : s.heap.NoLimit := e0.mod.nolimit.keeps fun b o e => (e0.bs b o e).1
  have hkind : ∀ y ∈ ps.zip us, scope.names.lookup y.1 = some .local ∨ (scope.names.lookup y.1 = some .cell /\ ((cellsFrom (s.heap.objs.size + 1) scope.names []).lookup y.1).isSome = true) := fun ⟨n, v⟩ hy => by
    rcases S.par n (List.of_mem_zip hy).1 with q | q
    . exact .inl q
    . exact .inr ⟨q, W.cellsFrom_some _ _ _ (.inl q)⟩
  refine codeAny_call_function hr.depth (KX _ _ lk) rfl S.co S.gen rfl (W.codeRec_of KX hcd) (hb _ _ _ _ ?_)
  refine wpAny_newFunctionEnv_cells S.kind hkind fun env he s1 x => ?_
  subst he; refine ⟨lim.keeps x.toInCall.keep, codeAny_func ?_⟩
  obtain ⟨t, ht, hq⟩ := hbody A outer s H vs Q E (hr.deeper _) hsp
  have I : Inv (cxOf CX P w K mg base N qual scope f cdv A outer s H E) [] (start N vs) H s1 := inv_start S hr.hd e0 hl r x
  refine wpAny_mono (ht [] s1 (start N vs) H _ I hq) (fun fl s' hs => ?_) fun e s' hs => hs
  have fin : ∀ {σ' : St} {H' : Hp} {v : V} {u : Value}, Inv (cxOf CX P w K mg base N qual scope f cdv A outer s H E) [] σ' H' s' -> RelV v u -> Q v H' -> CE outer P w H s Q u s' :=
    fun {σ' H' v u} J rv q => ⟨v, H', J.os, J.bare, J.base, J.hok, rv, q⟩
  cases fl with
  | ret u =>
    obtain ⟨v, σ', H', J, rv, q⟩ := hs
    exact fin J rv q
  | next =>
    obtain ⟨σ', H', J, q⟩ := hs
    exact fin (v := V.non) (u := Value.none) J rfl q
  | brk =>
    obtain ⟨_, _, _, q⟩ := hs
    exact False.elim q
  | cont =>
    obtain ⟨_, _, _, q⟩ := hs
    exact False.elim q
end L2
namespace L2
open PySem PySem.Spec PyProof.Rows
section
variable {X : Cx} {x : Str} {p pos : Pos} {e : Expr} {es : List Expr} {t : TA} {id T : String} {r : List V -> Hp -> VK -> Prop}
def tCB (r : List V -> Hp -> VK -> Prop) (t : TA) : TE := fun σ H Q => t σ H fun vs H1 => r vs H1 Q
theorem pe_callB (hc : CallR X (.builtin id) r) (hg : Gl X x) (hm : X.mg x = none) (hv : bootBuiltins x = some (.builtin id)) (ha : PA X (e :: es) t) (hn : x ≠ "__name__" := by decide) (hdb : (x == ("__debug__" : Str)) = false := by decide)
    (he : starEach (e :: es) X.env = (false, eval e X.env) :: starEach es X.env := by rfl) (hpl : (backTo pos (starEach es X.env)).any (·.1) = false := by rfl) : PE X (.Call (.Name x p) (e :: es) [] pos) (tCB r t) := by
  intro pins s σ H Q I h; refine wpAny_Call_Name_kw (ld_blt I hg hm hv ?_ hn hdb)
  exact PyProof.Rows.callWith_builtin1 (thn (ha pos pins s σ H _ I h) fun us s1 ⟨vs, H1, I1, r1, q1⟩ => hc pins s1 σ H1 vs us Q I1 r1 q1) he hpl
theorem pe_callTy (hc : CallR X (.type T) r) (hg : Gl X x) (hm : X.mg x = none) (hv : bootBuiltins x = some (.type T)) (ha : PA X (e :: es) t) (hn : x ≠ "__name__" := by decide) (hdb : (x == ("__debug__" : Str)) = false := by decide)
    (he : starEach (e :: es) X.env = (false, eval e X.env) :: starEach es X.env := by rfl) (hpl : (backTo pos (starEach es X.env)).any (·.1) = false := by rfl) : PE X (.Call (.Name x p) (e :: es) [] pos) (tCB r t) := by
  intro pins s σ H Q I h; refine wpAny_Call_Name_kw (ld_blt I hg hm hv ?_ hn hdb)
  exact PyProof.Rows.callWith_type1 (thn (ha pos pins s σ H _ I h) fun us s1 ⟨vs, H1, I1, r1, q1⟩ => hc pins s1 σ H1 vs us Q I1 r1 q1) he hpl
end
end L2
namespace HT
open PySem PyProof.Rows
section
variable {prog : Program} {w : World} {A : Around} {E : Value -> Shared -> Prop} {s : Shared}
theorem cat_tup {t b : Addr} {vs ws : List Value} {Q : Value -> Shared -> Prop} (ht : IsTup s.heap t vs.toArray) (hb : IsTup s.heap b ws.toArray) (hv : vs ≠ [])
    (h1 : ws = [] -> Q (.ref t) s) (h2 : ws ≠ [] -> Q (.ref s.heap.objs.size) { s with heap := s.heap.push { cls := .type "tuple", data := .seq (vs ++ ws).toArray } })
    (hsz : vs.length + ws.length <= sizeLine) : wpAny (model prog w) A (binaryOp .Add (.ref t) (.ref b)) Q E s := by
  obtain ⟨⟨cls, dd, data, sl⟩, ho, hc, n, hd⟩ := id ht
  obtain ⟨⟨cls2, dd2, data2, sl2⟩, ho2, hc2, n2, hd2⟩ := id hb
  simp only at hc hd hc2 hd2
  subst hc hd hc2 hd2; have e : vs.toArray ++ ws.toArray = (vs ++ ws).toArray := by simp
  by_cases hw : ws = []
  . exact concat_meets ⟨_, ho, rfl⟩ ⟨_, ho2, rfl⟩ noFill_tuple_add seq_tuple_add PySem.F.slot_tuple_add PySem.F.entry_tuple_add (PySem.F.args_tuple_add_2 _ _)
      (tuple_addW1 t b vs.toArray ws.toArray n n2 dd dd2 sl sl2 (by simpa using hv) (by simp [hw])) ⟨ho, ho2, h1 hw⟩
  . refine concat_meets ⟨_, ho, rfl⟩ ⟨_, ho2, rfl⟩ noFill_tuple_add seq_tuple_add PySem.F.slot_tuple_add PySem.F.entry_tuple_add (PySem.F.args_tuple_add_2 _ _)
      (tuple_addW2 t b vs.toArray ws.toArray n n2 dd dd2 sl sl2 (by simpa using hv) (by simpa using hw) (by rw [Zst, Zst]; exact hsz)) ⟨ho, ho2, ?_⟩
    rw [e]; exact h2 hw
def sIx (n d : Nat) : Option Int -> Nat
  | none => d
  | some v => if v < 0 then (v + (n : Int)).toNat else min v.toNat n
theorem sIx_none (n d : Nat) : sIx n d none = d := rfl
theorem sIx_nat (n d k : Nat) : sIx n d (some (k : Int)) = min k n := by
  show (if (k : Int) < 0 then ((k : Int) + (n : Int)).toNat else min (k : Int).toNat n) = min k n
  rw [if_neg (by omega), Int.toNat_natCast]
theorem sIx_le (n d : Nat) (hd : d <= n) (o : Option Int) : sIx n d o <= n := by
  cases o with
  | none => exact hd
  | some v =>
    show (if v < 0 then (v + (n : Int)).toNat else min v.toNat n) <= n
    by_cases hv : v < 0
    . rw [if_pos hv]; omega
    . rw [if_neg hv]; exact Nat.min_le_right _ _
theorem clip_eq (v : Int) (n d : Nat) : (if v < 0 then max (v + (n : Int)) 0 else min v (n : Int)) = ((sIx n d (some v) : Nat) : Int) := by
  show (if v < 0 then max (v + (n : Int)) 0 else min v (n : Int)) = (((if v < 0 then (v + (n : Int)).toNat else min v.toNat n) : Nat) : Int)
  by_cases hv : v < 0
  . simp only [if_pos hv]; omega
  . simp only [if_neg hv]; omega
theorem adjust_gen (lo hi : Option Int) (n : Nat) : Builtin.Slice.sliceAdjust lo hi 1 (n : Int) = (((sIx n 0 lo : Nat) : Int), ((sIx n n hi : Nat) : Int)) := by
  have h1 : ¬ ((1 : Int) < 0) := by omega
  unfold Builtin.Slice.sliceAdjust; simp only [h1, if_false]
  refine Prod.ext ?_ ?_
  . cases lo with
    | none => rfl
    | some v => exact clip_eq v n 0
  . cases hi with
    | none => rfl
    | some v => exact clip_eq v n n
theorem places_gen (i j : Nat) : Builtin.Slice.slicePlaces (i : Int) (j : Int) 1 = j - i := by
  unfold Builtin.Slice.slicePlaces; have h1 : (1 : Int) > 0 := by omega
  simp only [h1, if_true, Int.ediv_one]
  split <;> omega
theorem slicePart_ {v : Value} {o : Option Int} {Q : Option Int -> Shared -> Prop} (p : IsPart v o) (h : Q o s) : wpAny (model prog w) A (Builtin.Slice.slicePartIndex v) Q E s := by
  cases p with
  | none => exact slicePart_none h
  | int i t => exact slicePart_int h
theorem sliceApplied_gen {sl : Addr} {vl vu : Value} {lo hi : Option Int} {n : Nat} {Q : Int × Int × Nat -> Shared -> Prop} (hs : s.heap.IsSliceOf sl vl vu .none) (pl : IsPart vl lo) (pu : IsPart vu hi)
    (h : Q (((sIx n 0 lo : Nat) : Int), 1, sIx n n hi - sIx n 0 lo) s) : wpAny (model prog w) A (Builtin.Slice.sliceApplied (.ref sl) (pure (n : Int))) Q E s := by
  obtain ⟨os, hos, hcs, hds⟩ := id hs
  unfold Builtin.Slice.sliceApplied Builtin.Slice.sliceFields; refine wpAny_bind (wpAny_bind (wpAny_field hos hds (x := vl) rfl (wpAny_bind (wpAny_field hos hds (x := vu) rfl (wpAny_bind (wpAny_field hos hds (x := .none) rfl (wpAny_pure ?_)))))))
  refine wpAny_bind (slicePart_none ?_)
  show wpAny _ _ (if ((1 : Int) == 0) = true then _ else _) _ _ s
  rw [if_neg (by decide)]
  refine wpAny_bind (slicePart_ pl (wpAny_bind (slicePart_ pu (wpAny_bind (wpAny_pure ?_)))))
  show wpAny _ _ (match Builtin.Slice.sliceAdjust lo hi 1 (n : Int) with | (lo, hi) => pure (lo, (1 : Int), Builtin.Slice.slicePlaces lo hi 1)) _ _ s
  rw [adjust_gen lo hi n]; show wpAny _ _ (pure (((sIx n 0 lo : Nat) : Int), (1 : Int), Builtin.Slice.slicePlaces ((sIx n 0 lo : Nat) : Int) ((sIx n n hi : Nat) : Int) 1)) _ _ s
  rw [places_gen]; exact wpAny_pure h
theorem pick_gen (xs : Array Value) (i k : Nat) : ((List.range k).filterMap fun (m : Nat) => xs[((i : Int) + (m : Int) * 1).toNat]?).toArray = ((xs.toList.drop i).take k).toArray := by
  have e : (fun (m : Nat) => xs[((i : Int) + (m : Int) * 1).toNat]?) = fun m => xs[i + m]? := by
    funext m
    have : ((i : Int) + (m : Int) * 1).toNat = i + m := by omega
    rw [this]
  rw [e]; have := pick_run xs i k
  rw [List.filterMap_map] at this; have e2 : ((fun x => xs[x]?) ∘ fun x => i + x) = fun m => xs[i + m]? := rfl
  rw [e2] at this; rw [this]
theorem getItem_tuple_cut {t sl : Addr} {items : Array Value} {vl vu : Value} {lo hi : Option Int} {Q : Value -> Shared -> Prop} (ht : IsTup s.heap t items) (hs : s.heap.IsSliceOf sl vl vu .none) (pl : IsPart vl lo) (pu : IsPart vu hi)
    (hw : ¬ (sIx items.size 0 lo = 0 /\ sIx items.size items.size hi = items.size))
    (h : Q (.ref s.heap.objs.size) { s with heap := s.heap.push { cls := .type "tuple", data := .seq ((items.toList.drop (sIx items.size 0 lo)).take (sIx items.size items.size hi - sIx items.size 0 lo)).toArray } })
    (hsz : items.size <= sizeLine) : wpAny (model prog w) A (getItem (.ref t) (.ref sl)) Q E s := by
  have htake : sizeOk (.seq ((items.toList.drop (sIx items.size 0 lo)).take (sIx items.size items.size hi - sIx items.size 0 lo)).toArray) := by
    show ((items.toList.drop (sIx items.size 0 lo)).take (sIx items.size items.size hi - sIx items.size 0 lo)).toArray.size <= sizeLine
    rw [Zst, Zlk, List.length_drop, Array.length_toList]; omega
  have hj : sIx items.size items.size hi <= items.size := sIx_le _ _ (Znr _) hi
  obtain ⟨os, hos, hcs, hds⟩ := id hs
  have hTs : s.TypeIs (.ref sl) "slice" := ⟨os, hos, hcs⟩
  unfold getItem; try with_reducible refine wpAny_holding ?_
  first | refine wpAny_bind (wpAny_pure ?_) | skip
  refine wpAny_bind (wpAny_sequenceKey ht.typeIs (by decide) ?_)
  refine wpAny_bind (wpAny_callSpecial?_slot (name := Str.ofString "__getitem__") ht.typeIs PyProof.Rows.slot_tuple_getitem
    (wpAny_call_entry PyProof.Rows.slot_tuple_getitem ht.typeIs entry_tuple_getitem ?_ (args_tuple_getitem _ _)))
  show wpAny _ _ (Builtin.Tuple.tupleItemsOf (.ref t) >>= _) _ _ s
  refine wpAny_bind (tupleItemsOf_ ht ?_)
  refine wpAny_bind (wpAny_typeOf hTs ?_)
  rw [if_pos (by decide)]
  refine wpAny_bind (sliceApplied_gen hs pl pu ?_)
  have hno : ¬ ((((sIx items.size 0 lo : Nat) : Int) == 0 && (1 : Int) == 1 && (sIx items.size items.size hi - sIx items.size 0 lo) == items.size) = true) := by
    intro q; rw [Bool.and_eq_true, Bool.and_eq_true] at q; have q1 : ((sIx items.size 0 lo : Nat) : Int) = 0 := eq_of_beq q.1.1
    have q2 : sIx items.size items.size hi - sIx items.size 0 lo = items.size := eq_of_beq q.2
    exact hw ⟨by omega, by omega⟩
  show wpAny _ _ (if (((sIx items.size 0 lo : Nat) : Int) == 0 && (1 : Int) == 1 && (sIx items.size items.size hi - sIx items.size 0 lo) == items.size) = true then _ else _) _ _ s
  rw [if_neg hno, pick_gen]; first
    | exact wpAny_bind (m := Builtin.Tuple.tupleExact _) (wpAny_newObj_type (wpAny_pure ⟨_, rfl, wpAny_pure h⟩) htake)
    | exact wpAny_bind (m := Builtin.Tuple.tupleExact _) (wpAny_newObj_type (wpAny_bind (wpAny_pure (wpAny_pure ⟨_, rfl, wpAny_pure h⟩))) htake)
    | exact wpAny_bind (wpAny_bind (m := Builtin.Tuple.tupleExact _) (wpAny_newObj_type (wpAny_pure (wpAny_pure ⟨_, rfl, wpAny_pure h⟩)) htake))
    | exact wpAny_bind (wpAny_bind (m := Builtin.Tuple.tupleExact _) (wpAny_newObj_type (wpAny_pure ⟨_, rfl, wpAny_pure h⟩) htake))
end
end HT
namespace L2
open PySem PySem.Spec PyProof.Rows
abbrev TO := St -> Hp -> (Option Int -> Hp -> Prop) -> Prop
def PO (X : Cx) (e : Option Expr) (t : TO) : Prop :=
  ∀ (pins : List (Addr × Obj)) (s : Shared) (σ : St) (H : Hp) (Q : Option Int -> Hp -> Prop), Inv X pins σ H s -> t σ H Q →
    wpAny (model X.prog X.w) X.A (evalPart e X.env) (fun u s' => ∃ o H', Inv X pins σ H' s' /\ IsPart u o /\ Q o H') X.xe s
def tNoPart : TO := fun _ H Q => Q none H
def tPart (t : TE) : TO := fun σ H Q => t σ H fun x H1 => ∃ i, x = .int i /\ Q (some i) H1
theorem intsAre_of {ns : List Int} : ∀ {us : List Value}, Vals (ns.map V.int) us -> IntsAre us ns := by
  induction ns with
  | nil => intro us r; rw [List.map_nil] at r; cases r; exact .nil
  | cons n ns ih =>
    intro us r; rw [List.map_cons] at r; cases r with
    | cons r1 r2 =>
      obtain ⟨t, e⟩ := r1
      subst e; exact .cons n t (ih r2)
section
variable {X : Cx} {e : Expr} {te : TE} {lo hi : Option Expr} {tl th : TO} {pos p2 : Pos}
theorem po_none : PO X none tNoPart := by
  intro pins s σ H Q I h; rw [evalPart_none]; exact wpAny_pure ⟨none, H, I, .none, h⟩
theorem po_some (h : PE X e te) : PO X (some e) (tPart te) := by
  intro pins s σ H Q I hw; rw [evalPart_some]; refine thn (h pins s σ H _ I hw) fun u s1 ⟨x, H1, I1, r1, q1⟩ => ?_
  obtain ⟨i, rfl, q⟩ := q1
  obtain ⟨t, rfl⟩ := r1
  exact ⟨some i, H1, I1, .int i t, q⟩
def SlR (X : Cx) (r : V -> Option Int -> Option Int -> Hp -> VK -> Prop) : Prop :=
  ∀ (pins : List (Addr × Obj)) (s : Shared) (σ : St) (H : Hp) (x : V) (v vl vu : Value) (lo hi : Option Int) (sl : Addr) (Q : VK), Inv X pins σ H s -> RelV x v -> s.heap.IsSliceOf sl vl vu .none -> IsPart vl lo -> IsPart vu hi -> r x lo hi H Q →
    ∃ T id, typeLookup (.type T) "__getitem__" = pure (some (.builtin id)) /\ s.TypeIs v T /\ wpAny (model X.prog X.w) X.A (getItem v (.ref sl)) (EP X pins σ Q) X.xe s
def tSl (r : V -> Option Int -> Option Int -> Hp -> VK -> Prop) (te : TE) (tl th : TO) : TE := fun σ H Q => te σ H fun x H1 => tl σ H1 fun l H2 => th σ H2 fun u H3 => r x l u H3 Q
theorem pe_slice {r : V -> Option Int -> Option Int -> Hp -> VK -> Prop} (hr : SlR X r) (he : PE X e te) (hl : PO X lo tl) (hu : PO X hi th) : PE X (.Subscript e (.Slice lo hi none p2) pos) (tSl r te tl th) := by
  intro pins s σ H Q I h; refine Subscript_ (thn (he pins s σ H _ I h) fun v s1 ⟨x, H1, I1, r1, q1⟩ => ?_)
  refine wpAny_Slice (thn (hl pins s1 σ H1 _ I1 q1) fun vl s2 ⟨l, H2, I2, pl, q2⟩ => thn (hu pins s2 σ H2 _ I2 q2) fun vu s3 ⟨u, H3, I3, pu, q3⟩ => ?_)
  rw [evalPart_none]; refine wpAny_pure ?_
  have I4 : Inv X pins σ H3 { s3 with heap := s3.heap.push { cls := .type "slice", data := .fields #[vl, vu, .none] } } := I3.kept (t' := s3.toks) fun b ob q => Zpu _ q
  obtain ⟨T, id, hT, ht, hg⟩ := hr pins { s3 with heap := s3.heap.push { cls := .type "slice", data := .fields #[vl, vu, .none] } } σ H3 x v vl vu l u s3.heap.objs.size Q I4 r1 (Heap.IsSliceOf.new ..) pl pu q3
  show wpAny (model X.prog X.w) X.A (subscriptTail e (.Slice lo hi none p2) v (.ref s3.heap.objs.size)) (EP X pins σ Q) X.xe { s3 with heap := s3.heap.push { cls := .type "slice", data := .fields #[vl, vu, .none] } }
  exact tail_any (ops := [.ref s3.heap.objs.size, v]) ht hT hg (by with_unfolding_all rfl)
def cutV (xs : List V) (lo hi : Option Int) : List V := (xs.drop (HT.sIx xs.length 0 lo)).take (HT.sIx xs.length xs.length hi - HT.sIx xs.length 0 lo)
theorem cutV_length (xs : List V) (lo hi : Option Int) : (cutV xs lo hi).length <= xs.length := by
  unfold cutV; rw [Zlk, List.length_drop]; omega
def rSlT (K : W.Frag) : V -> Option Int -> Option Int -> Hp -> VK -> Prop := fun x lo hi H Q => ∃ a xs, x = .ref a /\ SqT K H a xs ∧
  ¬ (HT.sIx xs.length 0 lo = 0 /\ HT.sIx xs.length xs.length hi = xs.length) /\ ∀ p, H p = none -> Q (.ref p) (upd H p (.tup (cutV xs lo hi)))
theorem sl_tup : SlR X (rSlT X.K) := by
  intro pins s σ H x v vl vu lo hi sl Q I rx hs pl pu h; obtain ⟨a, xs, rfl, hx, hw, q⟩ := h
  cases rx
  obtain ⟨its, r, ht, hz⟩ := I.tuple hx
  have hlen : its.toArray.size = xs.length := by rw [Zst]; exact r.length.symm
  refine ⟨"tuple", _, PyProof.Rows.slot_tuple_getitem.lookup, ht.typeIs, ?_⟩
  refine HT.getItem_tuple_cut ht hs pl pu (by rw [hlen]; exact hw) ?_ (by rw [hlen]; exact hz)
  rw [hlen]; refine ⟨.ref s.heap.objs.size, _, I.laid (t' := s.toks) (o := .tup (cutV xs lo hi)) (fun b ob q => Zpu _ q) (Znr _) ?_, rfl, q _ (I.hok.fresh (Znr _))⟩
  exact ⟨Znt (cutV_length xs lo hi) hz, _, (r.drop (HT.sIx xs.length 0 lo)).take (HT.sIx xs.length xs.length hi - HT.sIx xs.length 0 lo), IsTup.new _ _⟩
def rCatT (K : W.Frag) : R2 := fun x y H Q => ∃ a b xs ys, x = .ref a /\ y = .ref b /\ SqT K H a xs /\ SqT K H b ys /\ xs ≠ [] /\ xs.length + ys.length <= sizeLine ∧
  (ys = [] -> Q (.ref a) H) /\ (ys ≠ [] -> ∀ p, H p = none -> Q (.ref p) (upd H p (.tup (xs ++ ys))))
theorem Vals.nil_iff {xs : List V} {us : List Value} (r : Vals xs us) : us = [] ↔ xs = [] := by
  cases r with
  | nil => simp
  | cons _ _ => simp
theorem op_catT : OpR X (binaryOp .Add) (rCatT X.K) := by
  intro pins s σ H x y v u Q I rx ry h; obtain ⟨a, b, xs, ys, rfl, rfl, ha, hb, hx, hz, q1, q2⟩ := h
  cases rx
  cases ry
  obtain ⟨its, r1, p1, _⟩ := I.tuple ha
  obtain ⟨its2, r2, p2, _⟩ := I.tuple hb
  refine HT.cat_tup p1 p2 (fun z => hx (r1.nil_iff.mp z)) (fun z => ⟨.ref a, H, I, rfl, q1 (r2.nil_iff.mp z)⟩) (fun z => ?_) (by rw [<- r1.length, <- r2.length]; exact hz)
  refine ⟨.ref s.heap.objs.size, _, I.laid (t' := s.toks) (o := .tup (xs ++ ys)) (fun b ob q => Zpu _ q) (Znr _) ?_, rfl, q2 (fun w => z (r2.nil_iff.mpr w)) _ (I.hok.fresh (Znr _))⟩
  exact ⟨by rw [Zla]; exact hz, _, r1.append r2, IsTup.new _ _⟩
end
end L2
namespace L2
open PySem PySem.Spec PyProof.Rows
def ixN (n : Nat) (i : Int) : Option Nat := if 0 <= i then (if i < n then some i.toNat else none) else if -(n : Int) <= i then some (i + n).toNat else none
def atI {α : Type} (xs : List α) (i : Int) : Option α := (ixN xs.length i).bind fun j => xs[j]?
theorem ixN_seq {n : Nat} {i : Int} {j : Nat} (h : ixN n i = some j) : seqIndex? i n = some j /\ j < n /\ -(n : Int) <= i /\ i < n := by
  unfold ixN at h; by_cases h0 : 0 <= i
  . rw [if_pos h0] at h; by_cases h1 : i < n
    . rw [if_pos h1] at h; have e : i.toNat = j := Option.some.inj h
      exact ⟨by rw [seqIndex_of h0 h1, e], by omega, by omega, h1⟩
    . rw [if_neg h1] at h; cases h
  . rw [if_neg h0] at h; by_cases h1 : -(n : Int) <= i
    . rw [if_pos h1] at h; have e : (i + n).toNat = j := Option.some.inj h
      exact ⟨by rw [seqIndex_neg (by omega) h1, e], by omega, h1, by omega⟩
    . rw [if_neg h1] at h; cases h
theorem atI_get {α : Type} {xs : List α} {i : Int} {v : α} (h : atI xs i = some v) : ∃ j, seqIndex? i xs.length = some j /\ xs[j]? = some v /\ j < xs.length /\ -(xs.length : Int) <= i /\ i < xs.length := by
  unfold atI at h; cases e : ixN xs.length i with
  | none => rw [e] at h; cases h
  | some j =>
    rw [e] at h; obtain ⟨h1, h2, h3, h4⟩ := ixN_seq e
    exact ⟨j, h1, h, h2, h3, h4⟩
theorem atI_nat {α : Type} {xs : List α} {j : Nat} {v : α} (h : xs[j]? = some v) : atI xs (j : Int) = some v := by
  have hj : j < xs.length := (Zgs.mp h).1
  have e : ixN xs.length (j : Int) = some j := by
    unfold ixN; rw [if_pos (by omega), if_pos (by omega)]; simp
  unfold atI; rw [e]; exact h
def PlainIx (b : Expr) : Prop := ∀ o i, subscripted b false o i = operate [o, i] (getItem o i)
def IxR (X : Cx) (r : R2) : Prop :=
  ∀ (value slice : Expr) (pins : List (Addr × Obj)) (s : Shared) (σ : St) (H : Hp) (x y : V) (v u : Value) (Q : VK), Inv X pins σ H s -> RelV x v -> RelV y u -> r x y H Q →
    subscripted slice false v u = operate [v, u] (getItem v u) -> wpAny (model X.prog X.w) X.A (subscriptTail value slice v u) (EP X pins σ Q) X.xe s
def MtR (X : Cx) (id : String) (r : V -> List V -> Hp -> VK -> Prop) : Prop :=
  ∀ (pins : List (Addr × Obj)) (s : Shared) (σ : St) (H : Hp) (x : V) (xs : List V) (v : Value) (us : List Value) (Q : VK), Inv X pins σ H s -> RelV x v -> Vals xs us -> r x xs H Q →
    wpAny (model X.prog X.w) X.A (call (.builtin id) (v :: us)) (EP X pins σ Q) X.xe s
section
variable {X : Cx} {a b : Expr} {ta tb : TE} {pos : Pos}
theorem pe_ix {r : R2} (hr : IxR X r) (ha : PE X a ta) (hb : PE X b tb) (hs : PlainIx b) : PE X (.Subscript a b pos) (tOp r ta tb) := by
  intro pins s σ H Q I h; exact Subscript_ (binT ha hb I h fun v u s2 x y H2 I2 rx ry q => hr a b pins s2 σ H2 x y v u Q I2 rx ry q (hs _ _))
def rIxL (K : W.Frag) : R2 := fun x y H Q => ∃ p xs i v, x = .ref p /\ y = .int i /\ SqL K H p xs /\ atI xs i = some v /\ Q v H
def rIxT (K : W.Frag) : R2 := fun x y H Q => ∃ p xs i v, x = .ref p /\ y = .int i /\ SqT K H p xs /\ atI xs i = some v /\ Q v H
def rIxS : R2 := fun x y H Q => ∃ z i c, x = .str z /\ y = .int i /\ z.length <= sizeLine /\ atI z.cps.toList i = some c /\ Q (.str ⟨#[c]⟩) H
theorem ix_list : IxR X (rIxL X.K) := by
  intro value slice pins s σ H x y v u Q I rx ry h hs; obtain ⟨p, xs, i, z, rfl, rfl, hq, he, q⟩ := h
  cases rx
  obtain ⟨t, rfl⟩ := ry
  obtain ⟨its, r, pl, hz⟩ := I.list hq
  obtain ⟨j, h1, h2, h3, h4, h5⟩ := atI_get he
  obtain ⟨w, ew, rw'⟩ := r.get h2
  have hl := r.length
  have hn := line63
  have fin : EP X pins σ Q w s := ⟨z, H, I, rw', q⟩
  by_cases h0 : 0 <= i
  . have hj : i.toNat = j := by
      rw [seqIndex_of h0 h5] at h1; exact Option.some.inj h1
    exact item_listR pl.isList h0 (by omega) (by rw [hj]; simpa using ew) fin hs
  . have hj : (i + (its.toArray.size : Int)).toNat = j := by
      rw [seqIndex_neg (by omega) h4] at h1
      rw [Zst, <- hl]; exact Option.some.inj h1
    exact subscriptTail_builtinR (x := w) pl.isList.typeIs slot_list_getitem.lookup
      (wpAny_getItem_list_neg (Q := fun r s' => r = w /\ EP X pins σ Q r s') pl.isList (by omega) (by rw [Zst] <;> omega) (by omega) (by rw [hj]; simpa using ew) ⟨rfl, fin⟩) hs
theorem ix_tup : IxR X (rIxT X.K) := by
  intro value slice pins s σ H x y v u Q I rx ry h hs; obtain ⟨p, xs, i, z, rfl, rfl, hq, he, q⟩ := h
  cases rx
  obtain ⟨t, rfl⟩ := ry
  obtain ⟨its, r, pl, hz⟩ := I.tuple hq
  obtain ⟨j, h1, h2, h3, h4, h5⟩ := atI_get he
  obtain ⟨w, ew, rw'⟩ := r.get h2
  have hl := r.length
  have hn := line63
  have fin : EP X pins σ Q w s := ⟨z, H, I, rw', q⟩
  exact subscriptTail_builtinR (x := w) pl.typeIs slot_tuple_getitem.lookup
    (getItem_tuple (j := j) (Q := fun r s' => r = w /\ EP X pins σ Q r s') pl (by omega) (by omega) (by rw [Zst, <- hl]; exact h1) (by simpa using ew) ⟨rfl, fin⟩) hs
theorem ix_str : IxR X rIxS := by
  intro value slice pins s σ H x y v u Q I rx ry h hs; obtain ⟨z, i, c, rfl, rfl, hz, he, q⟩ := h
  obtain ⟨t, rfl⟩ := rx
  obtain ⟨t', rfl⟩ := ry
  obtain ⟨j, h1, h2, h3, h4, h5⟩ := atI_get he
  have hl : z.cps.toList.length = z.length := by simp [Str.length]
  rw [hl] at h1 h4 h5; have hn := line63
  exact tail_any (typeIs_str s z t) slot_str_getitem.lookup (getItem_str (c := c) (by
    have e1 : decide (i < -(2 ^ 63 : Int)) = false := decide_eq_false (by omega)
    have e2 : decide (i ≥ 2 ^ 63) = false := decide_eq_false (by omega)
    rw [e1, e2, Bool.or_false]) (by rw [h1]; simpa using h2) ⟨.str ⟨#[c]⟩, H, I.tok _, ⟨_, rfl⟩, q⟩) hs
theorem mapSeq_set (its : List Value) (n j : Nat) (u : Value) : Obj.mapSeq (·.setIfInBounds j u) { cls := .type "list", data := .seq its.toArray n } = { cls := .type "list", data := .seq (its.set j u).toArray n } := by
  simp [Obj.mapSeq]
theorem Inv.lst {pins : List (Addr × Obj)} {σ : St} {H : Hp} {s : Shared} {p : Addr} {xs : List V} (I : Inv X pins σ H s) (h : H p = some (.lst xs)) :
    ∃ (its : List Value) (n : Nat), Vals xs its /\ s.heap.get? p = some { cls := .type "list", data := .seq its.toArray n } /\ xs.length <= sizeLine := by
  obtain ⟨z, its, n, r, e⟩ := I.hok p _ h
  exact ⟨its, n, r, e, z⟩
theorem Inv.lstUpd {pins : List (Addr × Obj)} {σ : St} {H : Hp} {s : Shared} {p : Addr} {xs ys : List V} {its its' : List Value} {n n' : Nat} {f : Obj -> Obj} (I : Inv X pins σ H s) (h : H p = some (.lst xs))
    (ho : s.heap.get? p = some { cls := .type "list", data := .seq its.toArray n }) (hf : f { cls := .type "list", data := .seq its.toArray n } = { cls := .type "list", data := .seq its'.toArray n' }) (r : Vals ys its') (hz : ys.length <= sizeLine) (t : Nat) :
    Inv X pins σ (upd H p (.lst ys)) { s with heap := s.heap.update p f, toks := t } := by
  have e : (s.heap.update p f).get? p = some { cls := .type "list", data := .seq its'.toArray n' } := by
    rw [Heap.get?_update_self f ho (by rw [hf] <;> rfl), hf]
  refine I.write (x := p) (e := p) (by rw [h]; trivial) (.inl rfl) (fun b u hb q => (Heap.get?_update_other _ _ (Ne.symm hb)).trans q) ⟨_, e⟩ ?_
  exact ⟨hz, its', n', r, e⟩
def rSetL : V -> V -> V -> Hp -> (Hp -> Prop) -> Prop := fun o i v H Q => ∃ p xs k j, o = .ref p /\ i = .int k /\ H p = some (.lst xs) /\ ixN xs.length k = some j /\ Q (upd H p (.lst (xs.set j v)))
theorem set_list : PSet X rSetL := by
  intro pins s σ H o i v ov iv u Q I ro ri rv h; obtain ⟨p, xs, k, j, rfl, rfl, hp, hj, q⟩ := h
  cases ro
  obtain ⟨t, rfl⟩ := ri
  obtain ⟨its, n, r, ho, hz⟩ := I.lst hp
  obtain ⟨h1, h2, h3, h4⟩ := ixN_seq hj
  have hl := r.length
  have hn := line63
  have I' : Inv X pins σ (upd H p (.lst (xs.set j v))) { s with heap := s.heap.update p (Obj.mapSeq (·.setIfInBounds j u)) } :=
    I.lstUpd hp ho (mapSeq_set its n j u) (r.set rv j) (by rw [List.length_set]; exact hz) s.toks
  by_cases h0 : 0 <= k
  . have hk : k.toNat = j := by
      rw [seqIndex_of h0 h4] at h1; exact Option.some.inj h1
    exact W.ki_setAt ho h0 (by omega) (by rw [Zst, <- hl]; exact h4) (by rw [hk]; exact ⟨_, I', q⟩)
  . have hk : (k + (its.toArray.size : Int)).toNat = j := by
      rw [seqIndex_neg (by omega) h3] at h1
      rw [Zst, <- hl]; exact Option.some.inj h1
    exact W.ki_setBack ho (by omega) (by rw [Zst, <- hl]; exact h3) (by omega) (by rw [hk]; exact ⟨_, I', q⟩)
theorem slice_bounds (lo hi : Option Int) (n : Nat) : (sliceBounds lo hi none n).1 = ((HT.sIx n 0 lo : Nat) : Int) /\ (sliceBounds lo hi none n).2.1 = ((HT.sIx n n hi : Nat) : Int) /\ (sliceBounds lo hi none n).2.2 = 1 := by
  refine ⟨?_, ?_, rfl⟩
  . cases lo with
    | none => simp [sliceBounds, HT.sIx]
    | some i =>
      simp only [sliceBounds, HT.sIx, Option.getD_none, show (1 : Int) > 0 by decide, if_true]
      by_cases h : i < 0
      . simp only [h, if_true] <;> omega
      . simp only [h, if_false] <;> omega
  . cases hi with
    | none => simp [sliceBounds, HT.sIx]
    | some i =>
      simp only [sliceBounds, HT.sIx, Option.getD_none, show (1 : Int) > 0 by decide, if_true]
      by_cases h : i < 0
      . simp only [h, if_true] <;> omega
      . simp only [h, if_false] <;> omega
theorem slicePick_cut (its : List Value) (lo hi : Option Int) : slicePick its.toArray lo hi none = ((its.drop (HT.sIx its.length 0 lo)).take (HT.sIx its.length its.length hi - HT.sIx its.length 0 lo)).toArray := by
  obtain ⟨h1, h2, h3⟩ := slice_bounds lo hi its.toArray.size
  unfold slicePick; rw [h1, h2, h3]; simp only [sliceRange_one, pick_run, Zst] <;> rfl
def rSlL (K : W.Frag) : V -> Option Int -> Option Int -> Hp -> VK -> Prop := fun x lo hi H Q => ∃ a xs, x = .ref a /\ SqL K H a xs /\ ∀ p, H p = none -> Q (.ref p) (upd H p (.lst (cutV xs lo hi)))
theorem sl_list : SlR X (rSlL X.K) := by
  intro pins s σ H x v vl vu lo hi sl Q I rx hs pl pu h; obtain ⟨a, xs, rfl, hx, q⟩ := h
  cases rx
  obtain ⟨its, r, ht, hz⟩ := I.list hx
  have hlen := r.length
  refine ⟨"list", _, slot_list_getitem.lookup, ht.isList.typeIs, ?_⟩
  refine wpAny_getItem_list_slice ht.isList hs pl pu .none (by simp) ?_ (by rw [Zst] <;> omega)
  rw [slicePick_cut, <- hlen]; refine ⟨.ref s.heap.objs.size, _, I.laid (t' := s.toks) (o := .lst (cutV xs lo hi)) (fun b ob q => Zpu _ q) (Znr _) ?_, rfl, q _ (I.hok.fresh (Znr _))⟩
  exact ⟨Znt (cutV_length xs lo hi) hz, _, 0, (r.drop (HT.sIx xs.length 0 lo)).take (HT.sIx xs.length xs.length hi - HT.sIx xs.length 0 lo), Heap.get?_push_size _ rfl⟩
def flatV : V -> Bool
  | .non => true
  | .bl _ => true
  | .int _ => true
  | .str _ => true
  | _ => false
def eqV : V -> V -> Bool
  | .non, .non => true
  | .bl a, .bl b => a == b
  | .bl a, .int b => (if a then 1 else 0) == b
  | .int a, .bl b => a == (if b then 1 else 0)
  | .int a, .int b => a == b
  | .str a, .str b => a == b
  | _, _ => false
theorem eqAt_V {A : Around} {s : Shared} {y x : V} {u v : Value} (ry : RelV y u) (rx : RelV x v) (fy : flatV y = true) (fx : flatV x = true) : SeqAt.EqAt A s u v (eqV y x) := by
  cases y with
  | non =>
    cases ry
    cases x with
    | non => cases rx; exact SeqAt.EqAt.same _
    | bl b => cases rx; exact SeqAt.EqAt.none_bool b
    | int b => obtain ⟨t, rfl⟩ := rx; exact SeqAt.EqAt.none_int b t
    | str b => obtain ⟨t, rfl⟩ := rx; exact SeqAt.EqAt.none_str b t
    | _ => exact absurd (show false = true from fx) Bool.false_ne_true
  | bl a =>
    cases ry
    cases x with
    | non => cases rx; exact SeqAt.EqAt.bool_none a
    | bl b => cases rx; exact SeqAt.EqAt.bool_bool a b
    | int b => obtain ⟨t, rfl⟩ := rx; exact SeqAt.EqAt.bool_int a b t
    | str b => obtain ⟨t, rfl⟩ := rx; exact SeqAt.EqAt.bool_str a b t
    | _ => exact absurd (show false = true from fx) Bool.false_ne_true
  | int a =>
    obtain ⟨t', rfl⟩ := ry
    cases x with
    | non => cases rx; exact SeqAt.EqAt.int_none a t'
    | bl b => cases rx; exact SeqAt.EqAt.int_bool a t' b
    | int b => obtain ⟨t, rfl⟩ := rx; exact SeqAt.EqAt.int_int a t' b t
    | str b => obtain ⟨t, rfl⟩ := rx; exact SeqAt.EqAt.int_str a t' b t
    | _ => exact absurd (show false = true from fx) Bool.false_ne_true
  | str a =>
    obtain ⟨t', rfl⟩ := ry
    cases x with
    | non => cases rx; exact SeqAt.EqAt.str_none a t'
    | bl b => cases rx; exact SeqAt.EqAt.str_bool a t' b
    | int b => obtain ⟨t, rfl⟩ := rx; exact SeqAt.EqAt.str_int a t' b t
    | str b => obtain ⟨t, rfl⟩ := rx; exact SeqAt.EqAt.str_str a t' b t
    | _ => exact absurd (show false = true from fx) Bool.false_ne_true
  | _ => exact absurd (show false = true from fy) Bool.false_ne_true
def eqU (x : V) (u : Value) : Bool := match u with
  | .none => eqV .non x
  | .bool b => eqV (.bl b) x
  | .int i _ => eqV (.int i) x
  | .str z _ => eqV (.str z) x
  | _ => false
theorem eqU_of {x y : V} {u : Value} (r : RelV y u) (f : flatV y = true) : eqU x u = eqV y x := by
  cases y with
  | non => cases r; rfl
  | bl b => cases r; rfl
  | int i => obtain ⟨t, rfl⟩ := r; rfl
  | str z => obtain ⟨t, rfl⟩ := r; rfl
  | _ => exact absurd (show false = true from f) Bool.false_ne_true
theorem any_eqU {x : V} : ∀ {xs : List V} {us : List Value}, Vals xs us -> xs.all flatV = true -> us.any (eqU x) = xs.any fun y => eqV y x
  | _, _, .nil, _ => rfl
  | y :: xs, u :: us, .cons r t, f => by
    rw [List.all_cons, Bool.and_eq_true] at f; rw [List.any_cons, List.any_cons, eqU_of r f.1, any_eqU t f.2]
theorem mem_eqAt {A : Around} {s : Shared} {x : V} {v : Value} (rx : RelV x v) (fx : flatV x = true) : ∀ {xs : List V} {us : List Value}, Vals xs us -> xs.all flatV = true -> ∀ u ∈ us, SeqAt.EqAt A s u v (eqU x u)
  | _, _, .nil, _ => fun u hu => by cases hu
  | y :: xs, u :: us, .cons r t, f => fun u' hu => by
    rw [List.all_cons, Bool.and_eq_true] at f; rcases List.mem_cons.mp hu with rfl | hu
    . rw [eqU_of r f.1]; exact eqAt_V r rx f.1 fx
    . exact mem_eqAt rx fx t f.2 u' hu
def inV (x : V) (xs : List V) : Bool := xs.any fun y => eqV y x
def rIn (K : W.Frag) (neg : Bool) : R2 := fun x y H Q => ∃ p xs, y = .ref p /\ (SqL K H p xs ∨ SqT K H p xs) /\ flatV x = true /\ xs.all flatV = true /\ Q (.bl (if neg then !inV x xs else inV x xs)) H
theorem op_in_seq : OpR X (compareOp .In) (rIn X.K false) := by
  intro pins s σ H x y v u Q I rx ry h; obtain ⟨p, xs, rfl, hq, fx, fs, q⟩ := h
  cases ry
  rcases hq with hq | hq
  . obtain ⟨its, r, pl, hz⟩ := I.list hq
    refine SeqAt.in_listAt (eqU x) pl.isList (fun w hw => mem_eqAt rx fx r fs w (by simpa using hw)) ⟨.bl _, H, I, rfl, ?_⟩
    rw [show its.toArray.any (eqU x) = its.any (eqU x) by simp, any_eqU r fs]
    exact q
  . obtain ⟨its, r, pl, hz⟩ := I.tuple hq
    refine SeqAt.in_tupleAt (eqU x) pl (fun w hw => mem_eqAt rx fx r fs w (by simpa using hw)) ⟨.bl _, H, I, rfl, ?_⟩
    rw [show its.toArray.any (eqU x) = its.any (eqU x) by simp, any_eqU r fs]
    exact q
theorem op_notIn_seq : OpR X (compareOp .NotIn) (rIn X.K true) := by
  intro pins s σ H x y v u Q I rx ry h; obtain ⟨p, xs, rfl, hq, fx, fs, q⟩ := h
  cases ry
  rcases hq with hq | hq
  . obtain ⟨its, r, pl, hz⟩ := I.list hq
    refine SeqAt.notIn_listAt (eqU x) pl.isList (fun w hw => mem_eqAt rx fx r fs w (by simpa using hw)) ⟨.bl _, H, I, rfl, ?_⟩
    rw [show its.toArray.any (eqU x) = its.any (eqU x) by simp, any_eqU r fs]
    exact q
  . obtain ⟨its, r, pl, hz⟩ := I.tuple hq
    refine SeqAt.notIn_tupleAt (eqU x) pl (fun w hw => mem_eqAt rx fx r fs w (by simpa using hw)) ⟨.bl _, H, I, rfl, ?_⟩
    rw [show its.toArray.any (eqU x) = its.any (eqU x) by simp, any_eqU r fs]
    exact q
theorem op_notIn_str : OpR X (compareOp .NotIn) (fun x y H Q => ∃ i j, x = .str i /\ y = .str j /\ Q (.bl (!(!(Builtin.Str.occurrences j i 0 j.length 1).isEmpty))) H) := by
  intro pins s σ H x y v u Q I rx ry h; obtain ⟨i, j, rfl, rfl, q⟩ := h
  obtain ⟨t, rfl⟩ := rx
  obtain ⟨t', rfl⟩ := ry
  exact notIn_str ⟨.bl _, H, I, rfl, q⟩
theorem call_len_seq : CallR X (.builtin "len") (fun xs H Q => ∃ p ys, xs = [.ref p] /\ (SqL X.K H p ys ∨ SqT X.K H p ys) /\ Q (.int ys.length) H) := by
  intro pins s σ H xs us Q I r h; obtain ⟨p, ys, rfl, hq, q⟩ := h
  obtain ⟨u, rfl, rx⟩ := vals1 r
  cases rx
  have hn := line63
  rcases hq with hq | hq
  . obtain ⟨its, r', pl, hz⟩ := I.list hq
    have hlen := r'.length
    exact Calls.call_len_list pl.isList (by simp only [Zst] <;> omega) ⟨.int ys.length, H, I.tok _, ⟨s.toks + 1, by rw [Zst, hlen]⟩, q⟩
  . obtain ⟨its, r', pl, hz⟩ := I.tuple hq
    have hlen := r'.length
    exact len_tuple pl (by simp only [Zst] <;> omega) ⟨.int ys.length, H, I.tok _, ⟨s.toks + 1, by rw [Zst, hlen]⟩, q⟩
theorem call_len_str : CallR X (.builtin "len") (fun xs H Q => ∃ z, xs = [.str z] /\ z.length <= sizeLine /\ Q (.int z.length) H) := by
  intro pins s σ H xs us Q I r h; obtain ⟨z, rfl, hz, q⟩ := h
  obtain ⟨u, rfl, t, rfl⟩ := vals1 r
  have hn := line63
  exact len_str (by omega) ⟨.int z.length, H, I.tok _, ⟨_, rfl⟩, q⟩
theorem call_list_of : CallR X (.type "list") (fun xs H Q => ∃ p ys, xs = [.ref p] /\ (SqL X.K H p ys ∨ SqT X.K H p ys) /\ ∀ l, H l = none -> Q (.ref l) (upd H l (.lst ys))) := by
  intro pins s σ H xs us Q I r h; obtain ⟨p, ys, rfl, hq, q⟩ := h
  obtain ⟨u, rfl, rx⟩ := vals1 r
  cases rx
  have fin : ∀ (its : List Value), Vals ys its -> ys.length <= sizeLine -> ∀ (h' : Heap) (c' : Nat), (∀ b o', s.heap.get? b = some o' -> h'.get? b = some o') →
      h'.get? s.heap.objs.size = some { cls := .type "list", dict := none, data := .seq its.toArray c', slots := #[] } -> EP X pins σ Q (.ref s.heap.objs.size) { s with heap := h' } := fun its r' hz h' c' kp e =>
    ⟨.ref s.heap.objs.size, _, I.laid (t' := s.toks) kp (Znr _) (show ObjOk X.prog X.w _ h' _ (.lst ys) from ⟨hz, its, c', r', e⟩), rfl, q _ (I.hok.fresh (Znr _))⟩
  rcases hq with hq | hq
  . obtain ⟨its, r', pl, hz⟩ := I.list hq
    have hlen := r'.length
    obtain ⟨o, ho, hc, n, hd⟩ := pl.isList
    exact call_list_seq p (.inl rfl) ho hc hd (fun h' c' kp e => fin its r' hz h' c' kp e) (by simp only [Zst] <;> omega)
  . obtain ⟨its, r', pl, hz⟩ := I.tuple hq
    have hlen := r'.length
    obtain ⟨o, ho, hc, n, hd⟩ := pl
    exact call_list_seq p (.inr rfl) ho hc hd (fun h' c' kp e => fin its r' hz h' c' kp e) (by simp only [Zst] <;> omega)
def tyV (K : W.Frag) (T : String) (x : V) (H : Hp) : Prop := match x with
  | .str _ => T = "str"
  | .int _ => T = "int"
  | .ref p => (T = "list" /\ ∃ xs, SqL K H p xs) ∨ (T = "tuple" /\ ∃ o, K.lookup p = some o /\ o.cls = .type "tuple" /\ o.dict = none) ∨
      (T = "dict" /\ ((∃ kvs, H p = some (.dK kvs)) ∨ ∃ kvs, H p = some (.dT kvs))) ∨ (T = "set" /\ ∃ S n, H p = some (.set S n))
  | _ => False
theorem tyV_is {pins : List (Addr × Obj)} {σ : St} {H : Hp} {s : Shared} {T : String} {x : V} {v : Value} (I : Inv X pins σ H s) (r : RelV x v) (ty : tyV X.K T x H) :
    s.TypeIs v T /\ ∀ a, v = .ref a -> ∃ ob, s.heap.get? a = some ob /\ ob.dict = none := by
  cases x with
  | str z =>
    obtain ⟨t, rfl⟩ := r
    cases (show T = "str" from ty)
    exact ⟨typeIs_str s z t, fun _ e => nomatch e⟩
  | int i =>
    obtain ⟨t, rfl⟩ := r
    cases (show T = "int" from ty)
    exact ⟨typeIs_int s i t, fun _ e => nomatch e⟩
  | ref p =>
    cases r
    rcases ty with ⟨rfl, xs, hq⟩ | ⟨rfl, o, hk, hc, hd⟩ | ⟨rfl, hk⟩ | ⟨rfl, S, n, hk⟩
    . obtain ⟨its, _, pl, _⟩ := I.list hq
      refine ⟨pl.isList.typeIs, fun a e => ?_⟩
      cases e
      obtain ⟨o, n, e, c, hd, _⟩ := pl
      exact ⟨o, e, hd⟩
    . refine ⟨⟨o, I.kIn p o hk, hc⟩, fun a e => ?_⟩
      cases e
      exact ⟨o, I.kIn _ o hk, hd⟩
    . have z : ∃ o, s.heap.get? p = some o /\ o.ExactDict := by
        rcases hk with ⟨kvs, hk⟩ | ⟨kvs, hk⟩
        . obtain ⟨_, _, _, _, o, _, _, e, ex, _⟩ := I.hok p _ hk
          exact ⟨o, e, ex⟩
        . obtain ⟨_, _, _, _, o, _, _, e, ex, _⟩ := I.hok p _ hk
          exact ⟨o, e, ex⟩
      obtain ⟨o, e, ex⟩ := z
      refine ⟨⟨o, e, ex.1⟩, fun a e2 => ?_⟩
      cases e2
      exact ⟨o, e, ex.2.1⟩
    . obtain ⟨o, _, _, _, e, ex, _⟩ := I.hok p _ hk
      refine ⟨⟨o, e, ex.1⟩, fun a e2 => ?_⟩
      cases e2
      exact ⟨o, e, ex.2.1⟩
  | _ => exact False.elim ty
def tBM0 (K : W.Frag) (T : String) (r : V -> List V -> Hp -> VK -> Prop) (to : TE) : TE := fun σ H Q => to σ H fun x H1 => tyV K T x H1 /\ r x [] H1 Q
def tBM (K : W.Frag) (T : String) (r : V -> List V -> Hp -> VK -> Prop) (to : TE) (t : TA) : TE := fun σ H Q => to σ H fun x H1 => tyV K T x H1 /\ t σ H1 fun xs H2 => r x xs H2 Q
variable {o e : Expr} {es : List Expr} {to : TE} {t : TA} {name : Str} {apos cpos : Pos} {T id : String} {r : V -> List V -> Hp -> VK -> Prop}
theorem pe_bm0 (pa : PlainAttrs T) (slot : Slot T name id) (hty : typeOf (.builtin id) = pure (.type "method_descriptor")) (hm : MtR X id r) (ho : PE X o to)
    (hbase : attributeBase o name X.env (eval o X.env) = eval o X.env := by rfl) (hline : (apos.endLine == cpos.line) = true := by rfl) : PE X (.Call (.Attribute o name apos) [] [] cpos) (tBM0 X.K T r to) := by
  intro pins s σ H Q I h; refine wpAny_Call_method0_late hbase hline (thn (ho pins s σ H _ I h) fun v s1 ⟨x, H1, I1, r1, ty, q1⟩ => ?_)
  obtain ⟨h1, h2⟩ := tyV_is I1 r1 ty
  exact ⟨T, id, pa, slot, hty, h1, h2, Calls.callWith_builtin rfl (PySem.evalArgs_none (hm pins s1 σ H1 x [] v [] Q I1 r1 .nil q1))⟩
theorem pe_bm (pa : PlainAttrs T) (slot : Slot T name id) (hty : typeOf (.builtin id) = pure (.type "method_descriptor")) (hm : MtR X id r) (ho : PE X o to) (ha : PA X (e :: es) t)
    (hbase : attributeBase o name X.env (eval o X.env) = eval o X.env := by rfl)
    (hfew : ((backTo cpos (starEach (e :: es) X.env)).all (fun x => !x.1) && (backToKw cpos (keywordEach [] X.env)).all (fun x => x.1.isSome)
      && decide ((e :: es).length + ([] : List Keyword).length + (if ([] : List Keyword).isEmpty then 0 else 1) < 30)) = true := by rfl)
    (hline : (apos.endLine == cpos.line) = true := by rfl) (hs : starEach (e :: es) X.env = (false, eval e X.env) :: starEach es X.env := by rfl) (hplain : (backTo cpos (starEach es X.env)).any (·.1) = false := by rfl) :
    PE X (.Call (.Attribute o name apos) (e :: es) [] cpos) (tBM X.K T r to t) := by
  intro pins s σ H Q I h; refine wpAny_Call_method_late hbase hfew hline rfl (thn (ho pins s σ H _ I h) fun v s1 ⟨x, H1, I1, r1, ty, q1⟩ => ?_)
  obtain ⟨h1, h2⟩ := tyV_is I1 r1 ty
  refine ⟨T, id, pa, slot, hty, h1, h2, ?_⟩
  have hA := ha cpos pins s1 σ H1 _ I1 q1
  rw [hs] at hA ⊢; refine Calls.callWith_builtin (by show (false || (backTo cpos (starEach es X.env)).any (·.1)) = false; rw [hplain] <;> rfl) (Calls.evalArgs_plain ?_)
  exact thn hA fun us s2 ⟨vs, H2, I2, r2, q2⟩ => hm pins s2 σ H2 x vs v us Q I2 r1 r2 q2
/- xs.append(e), list.index on a module's tuple .. are MtR facts of 06m -/
end
end L2
namespace L2
open PySem PySem.Spec PyProof.Rows
def MtM (X : Cx) (id : String) (r : V -> List V -> Hp -> VK -> Prop) : Prop :=
  ∀ (pins : List (Addr × Obj)) (s : Shared) (σ : St) (H : Hp) (x : V) (xs : List V) (v : Value) (us : List Value) (Q : VK), Inv X pins σ H s -> RelV x v -> Vals xs us -> r x xs H Q →
    wpAny (model X.prog X.w) X.A (call (.builtin id) (v :: us)) (EP X pins σ Q) X.xe s
theorem Vals.one : ∀ {x : V} {us : List Value}, Vals [x] us -> ∃ u, us = [u] /\ RelV x u
  | _, _, .cons r .nil => ⟨_, rfl, r⟩
theorem Vals.rep {xs : List V} {us : List Value} (h : Vals xs us) : ∀ k : Nat, Vals (List.replicate k xs).flatten (List.replicate k us).flatten
  | 0 => .nil
  | k + 1 => by
    rw [List.replicate_succ, List.replicate_succ, List.flatten_cons, List.flatten_cons]; exact Vals.append h (Vals.rep h k)
theorem foldl_rep (its : List Value) : ∀ (k : Nat) (acc : List Value),
    List.foldl (fun x1 x2 => x1 ++ x2) acc.toArray (List.replicate k its.toArray) = (acc ++ (List.replicate k its).flatten).toArray
  | 0, acc => by simp
  | k + 1, acc => by
    have e : acc.toArray ++ its.toArray = (acc ++ its).toArray := by simp
    have e2 : (acc ++ its) ++ (List.replicate k its).flatten = acc ++ (List.replicate (k + 1) its).flatten := by
      rw [List.replicate_succ, List.flatten_cons, List.append_assoc]
    rw [<- e2, <- foldl_rep its k (acc ++ its), <- e, List.replicate_succ, List.foldl_cons]
section
variable {X : Cx} {pins : List (Addr × Obj)} {σ : St} {H : Hp} {s : Shared} {l b : Addr} {xs ys zs : List V}
theorem Inv.lset {its its' : List Value} {n : Nat} {f : Array Value -> Array Value} {t' : Nat} (I : Inv X pins σ H s) (hH : H l = some (.lst xs))
    (e : s.heap.get? l = some { cls := .type "list", data := .seq its.toArray n }) (hf : f its.toArray = its'.toArray) (hv : Vals ys its') (hz : ys.length <= sizeLine) :
    Inv X pins σ (upd H l (.lst ys)) { s with heap := s.heap.update l (Obj.mapSeq f), toks := t' } := by
  have q := PySem.IsL.update e f
  rw [hf] at q; refine I.write (x := l) (e := l) (by rw [hH]; exact trivial) (.inl rfl) (fun b' u hb hu => (Heap.get?_update_other s.heap (Obj.mapSeq f) (Ne.symm hb)).trans hu) ⟨_, q⟩ ?_
  exact ⟨hz, its', _, hv, q⟩
theorem Inv.lnew {its : List Value} {t' : Nat} (I : Inv X pins σ H s) (hv : Vals ys its) (hz : ys.length <= sizeLine) :
    Inv X pins σ (upd H s.heap.objs.size (.lst ys)) { s with heap := s.heap.push { cls := .type "list", data := .seq its.toArray }, toks := t' } :=
  I.laid (fun _ _ q => Zpu _ q) (Znr _) ⟨hz, its, 0, hv, Heap.get?_push_size _ rfl⟩
theorem Inv.fresh (I : Inv X pins σ H s) : H s.heap.objs.size = none := I.hok.fresh (Znr _)
theorem Inv.lstM (I : Inv X pins σ H s) (hH : H l = some (.lst xs)) : xs.length <= sizeLine /\ ∃ (its : List Value) (n : Nat), Vals xs its /\ xs.length = its.length /\ s.heap.get? l = some { cls := .type "list", data := .seq its.toArray n } := by
  obtain ⟨z, its, n, r, e⟩ := I.hok l _ hH
  exact ⟨z, its, n, r, r.length, e⟩
theorem notLongL {n : Nat} (h : n <= sizeLine) : Builtin.List.listTooLong n = false := by
  unfold Builtin.List.listTooLong; exact decide_eq_false (by omega)
end
section
variable {X : Cx}
def rAppend : V -> List V -> Hp -> VK -> Prop := fun x vs H Q => ∃ l xs y, x = .ref l /\ vs = [y] /\ H l = some (.lst xs) /\ xs.length < sizeLine /\ Q .non (upd H l (.lst (xs ++ [y])))
theorem mt_append : MtM X "list.append" rAppend := by
  intro pins s σ H x vs v us Q I rx rv h; obtain ⟨l, xs, y, rfl, rfl, hH, hz, q⟩ := h
  cases rx
  obtain ⟨u, rfl, ru⟩ := rv.one
  obtain ⟨z, its, n, r, hl, e⟩ := I.lstM hH
  refine call_meets F.slot_list_append ⟨_, e, rfl⟩ F.entry_list_append (F.args_list_append_2 _ _) (PySem.list_append l its.toArray n u (by rw [Zst]; omega)) ⟨e, ?_⟩
  refine ⟨.non, _, I.lset (its' := its ++ [u]) hH e (by simp) (r.append (.cons ru .nil)) ?_, rfl, q⟩
  rw [Zla, List.length_singleton]; omega
def rExtend : V -> List V -> Hp -> VK -> Prop := fun x vs H Q => ∃ l b xs zs, x = .ref l /\ vs = [.ref b] /\ H l = some (.lst xs) /\ H b = some (.lst zs) /\ xs.length + zs.length <= sizeLine /\ Q .non (upd H l (.lst (xs ++ zs)))
theorem mt_extend : MtM X "list.extend" rExtend := by
  intro pins s σ H x vs v us Q I rx rv h; obtain ⟨l, b, xs, zs, rfl, rfl, hH, hB, hz, q⟩ := h
  cases rx
  obtain ⟨u, rfl, ru⟩ := rv.one
  cases ru
  obtain ⟨z, its, n, r, hl, e⟩ := I.lstM hH
  obtain ⟨z2, its2, n2, r2, hl2, e2⟩ := I.lstM hB
  have hsz : its.toArray.size + its2.toArray.size <= sizeLine := by rw [Zst, Zst]; omega
  have hlong : ¬ (!its.toArray.isEmpty && Builtin.List.listTooLong (its.toArray.size + its2.toArray.size)) = true := by
    rw [notLongL hsz, Bool.and_false]; exact Bool.false_ne_true
  refine call_meets F.slot_list_extend ⟨_, e, rfl⟩ F.entry_list_extend (F.args_list_extend_2 _ _)
    (AutoSeq1.list_extend_list_list_0 l its.toArray n b its2.toArray n2 hlong (by rw [Zst]; omega) (by omega)) ⟨e, e2, ?_⟩
  refine ⟨.non, _, I.lset (its' := its ++ its2) hH e (by simp) (r.append r2) ?_, rfl, q⟩
  rw [Zla]; omega
def rCat : R2 := fun x y H Q => ∃ l b xs zs, x = .ref l /\ y = .ref b /\ H l = some (.lst xs) /\ H b = some (.lst zs) /\ xs.length + zs.length <= sizeLine /\ ∀ p, H p = none -> Q (.ref p) (upd H p (.lst (xs ++ zs)))
theorem op_cat : OpR X (binaryOp .Add) rCat := by
  intro pins s σ H x y v u Q I rx ry h; obtain ⟨l, b, xs, zs, rfl, rfl, hH, hB, hz, q⟩ := h
  cases rx
  cases ry
  obtain ⟨z, its, n, r, hl, e⟩ := I.lstM hH
  obtain ⟨z2, its2, n2, r2, hl2, e2⟩ := I.lstM hB
  refine PySem.P.add_list e e2 ?_ (by rw [Zst, Zst]; omega)
  have ea : its.toArray ++ its2.toArray = (its ++ its2).toArray := by simp
  rw [ea]; exact ⟨.ref _, _, I.lnew (t' := s.toks) (r.append r2) (by rw [Zla]; omega), rfl, q _ I.fresh⟩
def rRep : R2 := fun x y H Q => ∃ l k xs, x = .ref l /\ y = .int k /\ H l = some (.lst xs) /\ -(2 ^ 63) <= k /\ k < 2 ^ 63 /\ xs.length * k.toNat <= sizeLine ∧
  ∀ p, H p = none -> Q (.ref p) (upd H p (.lst (List.replicate k.toNat xs).flatten))
theorem len_rep {α : Type} (xs : List α) (k : Nat) : (List.replicate k xs).flatten.length = k * xs.length := by
  induction k with
  | zero => simp
  | succ k ih => rw [List.replicate_succ, List.flatten_cons, Zla, ih, Nat.succ_mul, Nat.add_comm]
theorem op_rep : OpR X (binaryOp .Mult) rRep := by
  intro pins s σ H x y v u Q I rx ry h; obtain ⟨l, k, xs, rfl, rfl, hH, h1, h2, hz, q⟩ := h
  cases rx
  obtain ⟨t, rfl⟩ := ry
  obtain ⟨z, its, n, r, hl, e⟩ := I.lstM hH
  have hlen : its.toArray.size * k.toNat <= sizeLine := by rw [Zst, <- hl]; exact hz
  have hcap : ¬ its.toArray.size * k.toNat > (2 ^ 63 - 1) / 8 := by
    have : (sizeLine : Nat) <= (2 ^ 63 - 1) / 8 := by decide
    omega
  have hfit : ¬ (!Builtin.List.listFitsIndex k) = true := by
    rw [fitsIndex_both h1 h2]; exact Bool.false_ne_true
  have hlong : ¬ Builtin.List.listTooLong (its.toArray.size * k.toNat) = true := by
    rw [notLongL hlen]; exact Bool.false_ne_true
  have hnew : List.foldl (fun x1 x2 => x1 ++ x2) #[] (List.replicate (if its.toArray.isEmpty = true then 0 else k.toNat) its.toArray) = (List.replicate k.toNat its).flatten.toArray := by
    have f0 : ∀ m : Nat, List.foldl (fun x1 x2 => x1 ++ x2) #[] (List.replicate m its.toArray) = (List.replicate m its).flatten.toArray := fun m => by
      have := foldl_rep its m []
      rw [List.nil_append] at this; exact this
    rw [f0]; cases its with
    | nil => simp
    | cons a r' => rw [if_neg (by simp)]
  refine wpAny_binaryOp_repeat_ref (T := "list") (U := "int") (by decide) ⟨_, e, rfl⟩ (fun s' => typeIs_int s' k t) noFill_list_mul F.fills_int_mul F.slot_int_rmul repeat_list F.slot_int_index.lookup
    (call_meets F.slot_int_rmul (typeIs_int s k t) F.entry_int_rmul (F.args_int_rmul_2 _ _) (int___rmul___int_list k t l its.toArray n)
      ⟨e, rfl, ⟨_, e, rfl⟩, call_meets F.slot_list_mul ⟨_, e, rfl⟩ F.entry_list_mul (F.args_list_mul_2 _ _) (AutoListH.list___mul___list_int_3 l its.toArray n k t hfit hcap hlong) ⟨e, ?_⟩⟩)
  rw [hnew]; exact ⟨.ref _, _, I.lnew (t' := s.toks) (r.rep k.toNat) (by rw [len_rep, Nat.mul_comm]; exact hz), rfl, q _ I.fresh⟩
end
end L2
namespace L2
open PySem PySem.Spec PyProof.Rows
section
variable {κ : Type} [DecidableEq κ]
def valV (kvs : List (κ × V)) (k : κ) : Option V := (kvs.find? fun kv => decide (kv.1 = k)).map (·.2)
def putK (kvs : List (κ × V)) (k : κ) (v : V) : List (κ × V) :=
  if (kvs.any fun kv => decide (kv.1 = k)) = true then kvs.map (fun kv => if kv.1 = k then (kv.1, v) else kv) else kvs ++ [(k, v)]
theorem valV_pos {p : κ × V} {r : List (κ × V)} {k : κ} (e : p.1 = k) : valV (p :: r) k = some p.2 := by simp [valV, List.find?_cons, e]
theorem valV_neg {p : κ × V} {r : List (κ × V)} {k : κ} (e : ¬ p.1 = k) : valV (p :: r) k = valV r k := by simp [valV, List.find?_cons, e]
theorem valV_any (k : κ) : ∀ kvs : List (κ × V), (kvs.any fun kv => decide (kv.1 = k)) = (valV kvs k).isSome
  | [] => rfl
  | p :: r => by
    rw [List.any_cons]; by_cases e : p.1 = k
    . simp only [valV_pos e, decide_eq_true e, Bool.true_or, Option.isSome_some]
    . rw [valV_neg e, decide_eq_false e, Bool.false_or]; exact valV_any k r
theorem valV_map (k j : κ) (y : V) : ∀ kvs : List (κ × V), valV (kvs.map fun kv => if kv.1 = k then (kv.1, y) else kv) j = (valV kvs j).map fun x => if j = k then y else x
  | [] => rfl
  | p :: r => by
    have ih := valV_map k j y r
    rw [List.map_cons]; by_cases h : p.1 = k
    . rw [if_pos h]; by_cases e : p.1 = j
      . rw [valV_pos (p := (p.1, y)) e, valV_pos e, Option.map_some, if_pos (e.symm.trans h)]
      . rw [valV_neg (p := (p.1, y)) e, valV_neg e, ih]
    . rw [if_neg h]; by_cases e : p.1 = j
      . rw [valV_pos (p := p) e, valV_pos e, Option.map_some, if_neg (fun z => h (e.trans z))]
      . rw [valV_neg (p := p) e, valV_neg e, ih]
theorem valV_snoc (k j : κ) (y : V) : ∀ kvs : List (κ × V), valV kvs k = none -> valV (kvs ++ [(k, y)]) j = if j = k then some y else valV kvs j
  | [], _ => by
    by_cases e : k = j
    . rw [if_pos e.symm]; exact valV_pos (p := (k, y)) e
    . rw [if_neg (fun z => e z.symm)]; exact valV_neg (p := (k, y)) e
  | p :: r, hn => by
    rw [List.cons_append]; have hk : ¬ p.1 = k := fun z => by rw [valV_pos z] at hn; cases hn
    rw [valV_neg hk] at hn; have ih := valV_snoc k j y r hn
    by_cases e : p.1 = j
    . rw [valV_pos e, valV_pos e, if_neg (fun z => hk (e.trans z))]
    . rw [valV_neg e, valV_neg e, ih]
theorem valV_put (kvs : List (κ × V)) (k j : κ) (y : V) : valV (putK kvs k y) j = if j = k then some y else valV kvs j := by
  unfold putK; by_cases a : (kvs.any fun kv => decide (kv.1 = k)) = true
  . rw [if_pos a, valV_map]; rw [valV_any] at a; by_cases e : j = k
    . obtain ⟨x, hx⟩ := Option.isSome_iff_exists.mp a
      rw [if_pos e, e, hx, Option.map_some, if_pos rfl]
    . rw [if_neg e]; cases valV kvs j with
      | none => rfl
      | some x => rw [Option.map_some, if_neg e]
  . rw [if_neg a]; refine valV_snoc k j y kvs ?_
    rw [valV_any] at a; cases q : valV kvs k with
    | none => rfl
    | some x => rw [q] at a; exact (a rfl).elim
theorem length_putK (kvs : List (κ × V)) (k : κ) (v : V) : (putK kvs k v).length <= kvs.length + 1 := by
  unfold putK; split
  . rw [Zlm]; omega
  . rw [Zla, Zlc, List.length_nil]; omega
theorem putK_new {kvs : List (κ × V)} {k : κ} (v : V) (h : valV kvs k = none) : putK kvs k v = kvs ++ [(k, v)] := by
  unfold putK; rw [valV_any, h]; exact if_neg (by decide)
theorem RelO.isSome_eq {o : Option V} {u : Option Value} (r : RelO o u) : o.isSome = u.isSome := by
  cases o with
  | none => cases u with
    | none => rfl
    | some _ => exact (show False from r).elim
  | some _ => cases u with
    | none => exact (show False from r).elim
    | some _ => rfl
theorem RelO.getD {o : Option V} {u : Option Value} {d : V} {d' : Value} (r : RelO o u) (rd : RelV d d') : RelV (o.getD d) (u.getD d') := by
  cases o with
  | none => cases u with
    | none => exact rd
    | some _ => exact (show False from r).elim
  | some _ => cases u with
    | none => exact (show False from r).elim
    | some _ => exact r
theorem KV.val {kvs : List (κ × V)} {vs : List (κ × Value)} (r : KV kvs vs) (k : κ) : RelO (valV kvs k) (valueAt vs k) := by
  unfold KV at r; induction r with
  | nil => exact True.intro
  | @cons p q ps qs h t ih =>
    obtain ⟨h1, h2⟩ := h
    by_cases e : p.1 = k
    . have e' : q.1 = k := h1.symm.trans e
      have b : valueAt (q :: qs) k = some q.2 := by simp [valueAt, List.find?_cons, e']
      rw [valV_pos e, b]; exact h2
    . have e' : ¬ q.1 = k := fun z => e (h1.trans z)
      have b : valueAt (q :: qs) k = valueAt qs k := by simp [valueAt, List.find?_cons, e']
      rw [valV_neg e, b]; exact ih
theorem KV.any {kvs : List (κ × V)} {vs : List (κ × Value)} (r : KV kvs vs) (k : κ) : (kvs.any fun kv => decide (kv.1 = k)) = vs.any fun kv => decide (kv.1 = k) := by
  unfold KV at r; induction r with
  | nil => rfl
  | cons h t ih => rw [List.any_cons, List.any_cons, ih, h.1]
theorem KV.repl {kvs : List (κ × V)} {vs : List (κ × Value)} (r : KV kvs vs) (k : κ) {y : V} {u : Value} (ry : RelV y u) :
    KV (kvs.map fun kv => if kv.1 = k then (kv.1, y) else kv) (vs.map fun kv => if kv.1 = k then (kv.1, u) else kv) := by
  unfold KV at r ⊢
  induction r with
  | nil => exact .nil
  | @cons p q ps qs h t ih =>
    rw [List.map_cons, List.map_cons]; refine .cons ?_ ih
    obtain ⟨h1, h2⟩ := h
    by_cases e : p.1 = k
    . rw [if_pos e, if_pos (h1.symm.trans e)]; exact ⟨h1, ry⟩
    . rw [if_neg e, if_neg (fun z => e (h1.trans z))]; exact ⟨h1, h2⟩
theorem KV.put {kvs : List (κ × V)} {vs : List (κ × Value)} (r : KV kvs vs) (k : κ) {y : V} {u : Value} (ry : RelV y u) : KV (putK kvs k y) (stored vs k u) := by
  unfold putK stored; rw [r.any k]; by_cases e : (vs.any fun kv => decide (kv.1 = k)) = true
  . rw [if_pos e, if_pos e]; exact r.repl k ry
  . rw [if_neg e, if_neg e]; exact Paired.snoc r ⟨rfl, ry⟩
theorem KV.keys {kvs : List (κ × V)} {vs : List (κ × Value)} (r : KV kvs vs) : kvs.map (·.1) = vs.map (·.1) := by
  unfold KV at r; induction r with
  | nil => rfl
  | cons h t ih => rw [List.map_cons, List.map_cons, ih, h.1]
theorem KV.length {kvs : List (κ × V)} {vs : List (κ × Value)} (r : KV kvs vs) : kvs.length = vs.length := Paired.length r
end
theorem kV_is {P : Program} {w : World} {k : Key} {u : Value} (r : RelV (kV k) u) : (mixKind P w).is k u = true := by
  cases k with
  | inl i => obtain ⟨t, e⟩ := (show ∃ t, u = Value.int i t from r); subst e; exact mixKind_int P w i t
  | inr x => obtain ⟨t, e⟩ := (show ∃ t, u = Value.str x t from r); subst e; exact mixKind_str P w x t
theorem items_are {P : Program} {w : World} : ∀ {ks : List Key} {us : List Value}, Vals (ks.map kV) us -> ItemsAre (mixKind P w) ks us
  | [], _, r => by rw [List.map_nil] at r; cases r; exact .nil
  | k :: ks, _, r => by
    rw [List.map_cons] at r; cases r with
    | cons h t => exact .cons (kV_is h) (items_are t)
abbrev KT (H : Hp) : List (List Key × V) -> List (List Key × Addr × Value) -> Prop := Paired fun p q => p.1 = q.1 /\ H q.2.1 = some (.tup (p.1.map kV)) /\ RelV p.2 q.2.2
theorem KT.val {H : Hp} {kvs : List (List Key × V)} {xs : List (List Key × Addr × Value)} (r : KT H kvs xs) (k : List Key) : RelO (valV kvs k) ((atKey xs k).map (·.2)) := by
  induction r with
  | nil => exact True.intro
  | @cons p q ps qs h t ih =>
    obtain ⟨h1, _, h2⟩ := h
    by_cases e : p.1 = k
    . have e' : q.1 = k := h1.symm.trans e
      have b : atKey (q :: qs) k = some q.2 := by simp [atKey, List.find?_cons, e']
      rw [valV_pos e, b]; exact h2
    . have e' : ¬ q.1 = k := fun z => e (h1.trans z)
      have b : atKey (q :: qs) k = atKey qs k := by simp [atKey, List.find?_cons, e']
      rw [valV_neg e, b]; exact ih
theorem KT.repl {H : Hp} {kvs : List (List Key × V)} {xs : List (List Key × Addr × Value)} (r : KT H kvs xs) (k : List Key) {y : V} {u : Value} (ry : RelV y u) :
    KT H (kvs.map fun kv => if kv.1 = k then (kv.1, y) else kv) (xs.map (putAt k u)) := by
  induction r with
  | nil => exact .nil
  | @cons p q ps qs h t ih =>
    rw [List.map_cons, List.map_cons]; refine .cons ?_ ih
    obtain ⟨h1, h2, h3⟩ := h
    unfold putAt; by_cases e : p.1 = k
    . rw [if_pos e, if_pos (h1.symm.trans e)]; exact ⟨h1, h2, ry⟩
    . rw [if_neg e, if_neg (fun z => e (h1.trans z))]; exact ⟨h1, h2, h3⟩
theorem KT.put {H : Hp} {kvs : List (List Key × V)} {xs : List (List Key × Addr × Value)} (r : KT H kvs xs) (k : List Key) {b : Addr} {y : V} {u : Value} (hb : H b = some (.tup (k.map kV))) (ry : RelV y u) :
    KT H (putK kvs k y) (storedH xs k b u) := by
  have e : (kvs.any fun kv => decide (kv.1 = k)) = (atKey xs k).isSome := by
    rw [valV_any, (r.val k).isSome_eq, Option.isSome_map]
  unfold putK storedH; rw [e]; by_cases q : (atKey xs k).isSome = true
  . rw [if_pos q, if_pos q]; exact r.repl k ry
  . rw [if_neg q, if_neg q]; exact Paired.snoc r ⟨rfl, hb, ry⟩
theorem KT.keeps {H H' : Hp} {kvs : List (List Key × V)} {xs : List (List Key × Addr × Value)} (r : KT H kvs xs) (ht : ∀ b ys, H b = some (.tup ys) -> H' b = some (.tup ys)) : KT H' kvs xs :=
  Paired.mapP r fun _ _ z => ⟨z.1, ht _ _ z.2.1, z.2.2⟩
section
variable {P : Program} {w : World} {H : Hp} {h : Heap} {a : Addr}
theorem rd_of {u : HO} (ok : HOk P w H h) (e : Rd H a u) : ObjOk P w H h a u := e.ok ok
theorem dk_rd {kvs : List (Key × V)} (ok : HOk P w H h) (e : Rd H a (.dK kvs)) : kvs.length <= sizeLine /\ (a == sysModules) = false /\ ∃ vs, KV kvs vs /\ h.DictOf (mixKind P w) a vs :=
  show ObjOk P w H h a (.dK kvs) from rd_of ok e
theorem dk_of {kvs : List (Key × V)} (ok : HOk P w H h) (e : H a = some (.dK kvs)) : kvs.length <= sizeLine /\ (a == sysModules) = false /\ ∃ vs, KV kvs vs /\ h.DictOf (mixKind P w) a vs := dk_rd ok (.inl e)
theorem key_of {ks : List Key} (ok : HOk P w H h) (e : H a = some (.tup (ks.map kV))) : (tupleKind (mixKind P w)).is h ks a := by
  obtain ⟨_, its, r, o, h1, h2, n, h3⟩ := (show ObjOk P w H h a (.tup (ks.map kV)) from ok a _ e)
  exact ⟨o, its.toArray, n, h1, h2, h3, by simpa using items_are r⟩
theorem dt_rd {kvs : List (List Key × V)} (ok : HOk P w H h) (e : Rd H a (.dT kvs)) : kvs.length <= sizeLine /\ (a == sysModules) = false ∧
    ∃ xs, KT H kvs xs /\ h.DictOfH (tupleKind (mixKind P w)) a xs := by
  obtain ⟨z, y, xs, r, o, es, ep, h1, h2, h3, h4, h5⟩ := (show ObjOk P w H h a (.dT kvs) from rd_of ok e)
  refine ⟨z, y, xs, r, o, es, ep, h1, h2, h3, h4, fun x hx => ?_, h5⟩
  have all : ∀ {l : List (List Key × V)} {m : List (List Key × Addr × Value)}, KT H l m -> ∀ x ∈ m, (tupleKind (mixKind P w)).is h x.1 x.2.1 := by
    intro l m q; induction q with
    | nil => intro x hx; exact nomatch hx
    | @cons p q ps qs hq t ih =>
      intro x hx; rcases List.mem_cons.mp hx with e | hx
      . subst e; exact key_of ok (by rw [<- hq.1]; exact hq.2.1)
      . exact ih x hx
  exact all r x hx
theorem dt_of {kvs : List (List Key × V)} (ok : HOk P w H h) (e : H a = some (.dT kvs)) : kvs.length <= sizeLine /\ (a == sysModules) = false ∧
    ∃ xs, KT H kvs xs /\ h.DictOfH (tupleKind (mixKind P w)) a xs := dt_rd ok (.inl e)
end
def DGet (H : Hp) (a : Addr) (y : V) (r : Option V) : Prop :=
  (∃ kvs k, Rd H a (.dK kvs) /\ y = kV k /\ r = valV kvs k) ∨ ∃ kvs k b, Rd H a (.dT kvs) /\ y = .ref b /\ H b = some (.tup (k.map kV)) /\ r = valV kvs k
def DPut (H : Hp) (a : Addr) (y v : V) (H' : Hp) : Prop :=
  (∃ kvs k, H a = some (.dK kvs) /\ y = kV k /\ kvs.length < sizeLine /\ H' = upd H a (.dK (putK kvs k v))) ∨
  ∃ kvs k b, H a = some (.dT kvs) /\ y = .ref b /\ H b = some (.tup (k.map kV)) /\ kvs.length < sizeLine /\ H' = upd H a (.dT (putK kvs k v))
theorem DGet.k {H : Hp} {a : Addr} {kvs : List (Key × V)} {k : Key} (e : H a = some (.dK kvs)) : DGet H a (kV k) (valV kvs k) := .inl ⟨kvs, k, .inl e, rfl, rfl⟩
theorem DPut.k {H : Hp} {a : Addr} {kvs : List (Key × V)} {k : Key} {v : V} (e : H a = some (.dK kvs)) (hl : kvs.length < sizeLine) : DPut H a (kV k) v (upd H a (.dK (putK kvs k v))) := .inl ⟨kvs, k, e, rfl, hl, rfl⟩
section
variable {X : Cx} {pins : List (Addr × Obj)} {σ : St} {H : Hp} {s : Shared} {a : Addr} {y v : V} {u r : Value} {o : Option V} {A : Around} {E : Value -> Shared -> Prop}
theorem Inv.big (I : Inv X pins σ H s) : sysModules < s.heap.objs.size := by
  have h : mainGlobals < s.heap.objs.size := (I.mod.glob.keeps I.bk).lt
  exact Nat.lt_trans (by decide) h
theorem d_getItem {Q : Value -> Shared -> Prop} (hu : A.units + 1 < cLine) (I : Inv X pins σ H s) (g : DGet H a y (some v)) (ry : RelV y u) (h : ∀ w' s', Inv X pins σ H s' -> RelV v w' -> Q w' s') :
    wpAny (model X.prog X.w) A (getItem (.ref a) u) Q E s := by
  rcases g with ⟨kvs, k, e, ey, l⟩ | ⟨kvs, k, b, e, ey, eb, l⟩
  . subst ey; obtain ⟨z, hd, vs, rel, dd⟩ := dk_rd I.hok e
    obtain ⟨w', hw, rw'⟩ := RelO.some_of (v := v) (o := valueAt vs k) (by rw [l]; exact rel.val k)
    exact wpAny_getItem_of (kV_is ry) dd.mapOf hw (h w' _ (I.tok _) rw')
  . subst ey; cases (show u = Value.ref b from ry)
    obtain ⟨z, hd, xs, rel, dd⟩ := dt_rd I.hok e
    obtain ⟨w', hw, rw'⟩ := RelO.some_of (v := v) (o := (atKey xs k).map (·.2)) (by rw [l]; exact rel.val k)
    obtain ⟨p, hp, hp2⟩ := Option.map_eq_some_iff.mp hw
    refine wpAny_getItem_heap (tupleKind_room_in1 hu) (key_of I.hok eb) dd hp ?_
    rw [hp2]; exact h w' _ (I.tok _) rw'
theorem d_in {Q : Value -> Shared -> Prop} (hu : A.units + 1 < cLine) (I : Inv X pins σ H s) (g : DGet H a y o) (ry : RelV y u) (h : ∀ s', Inv X pins σ H s' -> Q (.bool o.isSome) s') :
    wpAny (model X.prog X.w) A (compareOp .In u (.ref a)) Q E s := by
  rcases g with ⟨kvs, k, e, ey, l⟩ | ⟨kvs, k, b, e, ey, eb, l⟩
  . subst ey; obtain ⟨z, hd, vs, rel, dd⟩ := dk_rd I.hok e
    refine wpAny_in_of (kV_is ry) hd dd.mapOf ?_
    rw [<- (rel.val k).isSome_eq, <- l]; exact h _ (I.tok _)
  . subst ey; cases (show u = Value.ref b from ry)
    obtain ⟨z, hd, xs, rel, dd⟩ := dt_rd I.hok e
    refine wpAny_in_heap (tupleKind_room_in1 hu) (key_of I.hok eb) hd dd ?_
    have q := (rel.val k).isSome_eq
    rw [Option.isSome_map] at q; rw [<- q, <- l]; exact h _ (I.tok _)
theorem d_notIn {Q : Value -> Shared -> Prop} (hu : A.units + 1 < cLine) (I : Inv X pins σ H s) (g : DGet H a y o) (ry : RelV y u) (h : ∀ s', Inv X pins σ H s' -> Q (.bool (!o.isSome)) s') :
    wpAny (model X.prog X.w) A (compareOp .NotIn u (.ref a)) Q E s := by
  rcases g with ⟨kvs, k, e, ey, l⟩ | ⟨kvs, k, b, e, ey, eb, l⟩
  . subst ey; obtain ⟨z, hd, vs, rel, dd⟩ := dk_rd I.hok e
    refine wpAny_notIn_of (kV_is ry) hd dd.mapOf ?_
    rw [<- (rel.val k).isSome_eq, <- l]; exact h _ (I.tok _)
  . subst ey; cases (show u = Value.ref b from ry)
    obtain ⟨z, hd, xs, rel, dd⟩ := dt_rd I.hok e
    refine wpAny_notIn_heap (tupleKind_room_in1 hu) (key_of I.hok eb) hd dd ?_
    have q := (rel.val k).isSome_eq
    rw [Option.isSome_map] at q; rw [<- q, <- l]; exact h _ (I.tok _)
theorem d_write {h' : Heap} {t' : Nat} {ob : HO} (I : Inv X pins σ H s) (mu : Mut (H a)) (hs : Heap.SameBut a s.heap h') (he : ∃ q, h'.get? a = some q) (new : ObjOk X.prog X.w (upd H a ob) h' a ob) :
    Inv X pins σ (upd H a ob) { s with heap := h', toks := t' } :=
  I.write (x := a) (e := a) mu (.inl rfl) (fun b q hb z => (hs.2 b hb).trans z) he new
theorem dk_new {P : Program} {w : World} {H' : Hp} {h' : Heap} {kvs : List (Key × V)} {vs : List (Key × Value)} (z : kvs.length <= sizeLine) (hd : (a == sysModules) = false) (rel : KV kvs vs) (dd : h'.DictOf (mixKind P w) a vs) :
    ObjOk P w H' h' a (.dK kvs) := ⟨z, hd, vs, rel, dd⟩
theorem d_setItem {H' : Hp} {Q : Unit -> Shared -> Prop} (hu : A.units + 1 < cLine) (I : Inv X pins σ H s) (g : DPut H a y v H') (ry : RelV y u) (rv : RelV v r) (h : ∀ s', Inv X pins σ H' s' -> Q () s') :
    wpAny (model X.prog X.w) A (setItem (.ref a) u r) Q E s := by
  rcases g with ⟨kvs, k, e, ey, l, eH⟩ | ⟨kvs, k, b, e, ey, eb, l, eH⟩
  . subst ey eH; obtain ⟨z, hd, vs, rel, dd⟩ := dk_of I.hok e
    have hz : vs.length <= sizeLine := by rw [<- rel.length]; exact z
    have hl : (putK kvs k v).length <= sizeLine := by have := length_putK kvs k v; omega
    refine wpAny_setItem_pairs (hsz := hz) (kV_is ry) dd fun h' dd' hs => h _ ?_
    have he : ∃ q, h'.get? a = some q := let ⟨q, _, _, hq, _⟩ := dd'; ⟨q, hq⟩
    exact d_write I (by rw [e]; exact True.intro) hs he (dk_new hl hd (rel.put k rv) dd')
  . subst ey eH; cases (show u = Value.ref b from ry)
    obtain ⟨z, hd, xs, rel, dd⟩ := dt_of I.hok e
    have hz : xs.length <= sizeLine := by rw [<- Paired.length rel]; exact z
    have hl : (putK kvs k v).length <= sizeLine := by have := length_putK kvs k v; omega
    refine wpAny_setItem_heap (hsz := hz) (tupleKind_room_in1 hu) (key_of I.hok eb) dd fun h' dd' hs => h _ ?_
    obtain ⟨q, es, ep, hq, h2, h3, h4, _, h5⟩ := dd'
    refine d_write I (by rw [e]; exact True.intro) hs ⟨q, hq⟩ ⟨hl, hd, _, (rel.put k eb rv).keeps fun c ys ec => ?_, q, es, ep, hq, h2, h3, h4, h5⟩
    rw [upd_ne (ne_of ec e (fun z => nomatch z))]
    exact ec
end
def NoSl (i : Expr) : Prop := ∀ ov iv, subscripted i false ov iv = operate [ov, iv] (getItem ov iv)
theorem subD_of {prog : Program} {w : World} {A : Around} {E : Value -> Shared -> Prop} {s : Shared} {env : Env} {value slice : Expr} {pos : Pos} {T id : String} {Q : Value -> Shared -> Prop}
    (hl : typeLookup (.type T) "__getitem__" = pure (some (.builtin id))) (hs : NoSl slice)
    (h : wpAny (model prog w) A (eval value env) (fun o s₁ => wpAny (model prog w) A (eval slice env) (fun i s₂ => s₂.TypeIs o T /\ wpAny (model prog w) A (getItem o i) Q E s₂) E s₁) E s) :
    wpAny (model prog w) A (eval (.Subscript value slice pos) env) Q E s := by
  refine Subscript_ (wpAny_mono h (fun o s₁ h₁ => wpAny_mono h₁ (fun i s₂ h₂ => ?_) fun _ _ x => x) fun _ _ x => x)
  obtain ⟨hT, h₂⟩ := h₂
  unfold subscriptTail; refine wpAny_bind ?_
  rw [getitemInPython_of_ne hT.not_modules]; refine wpAny_bind (wpAny_specialOf hT hl ?_)
  have fin : wpAny (model prog w) A (subscripted slice false o i) (fun r s₃ => wpAny (model prog w) A (letTemporaryGo value o r >>= fun _ => pure r) Q E s₃) E s₂ := by
    rw [hs o i]; exact wpAny_operating (wpAny_mono h₂ (fun r s₃ h₃ => wpAny_bind (wpAny_letTemporaryGo (wpAny_pure h₃))) fun _ _ x => x)
  first
    | exact wpAny_pure (wpAny_bind fin)
    | exact wpAny_bind (wpAny_pure (wpAny_bind fin))
    | exact wpAny_bind fin
theorem dict_typeIs {X : Cx} {pins : List (Addr × Obj)} {σ : St} {H : Hp} {s : Shared} {a : Addr} {y : V} {o : Option V} (I : Inv X pins σ H s) (g : DGet H a y o) : s.TypeIs (.ref a) "dict" := by
  rcases g with ⟨kvs, k, e, _, _⟩ | ⟨kvs, k, b, e, _, _, _⟩
  . obtain ⟨_, _, vs, _, dd⟩ := dk_rd I.hok e
    exact dd.typeIs
  . obtain ⟨_, _, xs, _, dd⟩ := dt_rd I.hok e
    exact dd.typeIs
def tDGet (td ty : TE) : TE := fun σ H Q => td σ H fun x H1 => ty σ H1 fun y H2 => ∃ a v, x = .ref a /\ DGet H2 a y (some v) /\ Q v H2
section
variable {X : Cx} {o i e value : Expr} {pos pos' tpos : Pos} {td ty tv : TE}
theorem pe_dget (hu : X.A.units + 1 < cLine) (ho : PE X o td) (hi : PE X i ty) (hs : NoSl i) : PE X (.Subscript o i pos) (tDGet td ty) := by
  intro pins s σ H Q I h; refine subD_of PySem.F.slot_dict_getitem.lookup hs (thn (ho pins s σ H _ I h) fun u s1 ⟨x, H1, I1, rx, q1⟩ => thn (hi pins s1 σ H1 _ I1 q1) fun iv s2 ⟨y, H2, I2, ry, a, v, ex, g, q2⟩ => ?_)
  subst ex; obtain rfl : u = Value.ref a := rx
  exact ⟨dict_typeIs I2 g, d_getItem hu I2 g ry fun w' s3 I3 rw' => ⟨v, H2, I3, rw', q2⟩⟩
end
theorem dk_empty {P : Program} {w : World} {H : Hp} (h : Heap) (hb : sysModules < h.objs.size) : ObjOk P w H (h.push { cls := .type "dict", data := .dict #[] }) h.objs.size (.dK []) :=
  ⟨Nat.zero_le _, beq_eq_false_iff_ne.mpr (Ne.symm (Nat.ne_of_lt hb)), [], .nil, Heap.DictOf.new h⟩
def tDNewK : TE := fun _ H Q => ∀ p, H p = none -> Q (.ref p) (upd H p (.dK []))
section
variable {X : Cx} {pos : Pos}
theorem pe_dnewK : PE X (.Dict [] [] pos) tDNewK := fun pins s σ H Q I h =>
  wpAny_Dict_empty ⟨.ref s.heap.objs.size, _, I.laid (a := s.heap.objs.size) (o := .dK []) (t' := s.toks) (fun _ _ q => Zpu _ q) (Znr _) (dk_empty s.heap I.big), rfl, h _ (I.hok.fresh (Znr _))⟩
end
def tPairs : List (TE × TE) -> St -> Hp -> (List (V × V) -> Hp -> Prop) -> Prop
  | [], _, H, Q => Q [] H
  | (tk, tv) :: r, σ, H, Q => tk σ H fun x H1 => tv σ H1 fun y H2 => tPairs r σ H2 fun ps H3 => Q ((x, y) :: ps) H3
abbrev VV : List (V × V) -> List (Value × Value) -> Prop := Paired fun p q => RelV p.1 q.1 /\ RelV p.2 q.2
def PPs (X : Cx) (pos : Pos) (keys : List (Option Expr)) (values : List Expr) (trs : List (TE × TE)) : Prop :=
  ∀ (pins : List (Addr × Obj)) (s : Shared) (σ : St) (H : Hp) (Q : List (V × V) -> Hp -> Prop), Inv X pins σ H s -> tPairs trs σ H Q →
    wpAny (model X.prog X.w) X.A (evalPairs (pairTrees keys values X.env pos)) (fun vs s' => ∃ ps H', Inv X pins σ H' s' /\ VV ps vs /\ Q ps H') X.xe s
theorem pps_nil {X : Cx} {pos : Pos} : PPs X pos [] [] [] := fun pins s σ H Q I h => pairTrees_nil_walk ⟨[], H, I, .nil, h⟩
theorem pps_cons {X : Cx} {pos : Pos} {k v : Expr} {ks : List (Option Expr)} {vs : List Expr} {tk tv : TE} {trs : List (TE × TE)} (hk : PE X k tk) (hv : PE X v tv) (hr : PPs X pos ks vs trs) :
    PPs X pos (some k :: ks) (v :: vs) ((tk, tv) :: trs) := fun pins s σ H Q I h =>
  pairTrees_cons_walk (thn (hk pins s σ H _ I h) fun u s1 ⟨x, H1, I1, rx, q1⟩ => thn (hv pins s1 σ H1 _ I1 q1) fun w2 s2 ⟨y, H2, I2, ry, q2⟩ =>
    thn (hr pins s2 σ H2 _ I2 q2) fun ws s3 ⟨ps, H3, I3, rel, q3⟩ => ⟨(x, y) :: ps, H3, I3, .cons ⟨rx, ry⟩ rel, q3⟩)
def mergeK (kvs more : List (Key × V)) : List (Key × V) := more.foldl (fun acc kv => putK acc kv.1 kv.2) kvs
theorem KV.merge : ∀ {more : List (Key × V)} {rs : List (Key × Value)} {kvs : List (Key × V)} {vs : List (Key × Value)}, KV more rs -> KV kvs vs -> KV (mergeK kvs more) (merged vs rs) := by
  intro more rs kvs vs r; unfold KV at r; induction r generalizing kvs vs with
  | nil => intro q; exact q
  | @cons p q ps qs h t ih =>
    intro r0; have e : KV (putK kvs p.1 p.2) (stored vs q.1 q.2) := by
      have := r0.put p.1 h.2
      rw [<- h.1]; exact this
    exact ih e
theorem length_mergeK : ∀ (more kvs : List (Key × V)), (mergeK kvs more).length <= kvs.length + more.length
  | [], kvs => by show kvs.length <= kvs.length + 0; omega
  | p :: r, kvs => by
    have h1 := length_mergeK r (putK kvs p.1 p.2)
    have h2 := length_putK kvs p.1 p.2
    show (mergeK (putK kvs p.1 p.2) r).length <= _
    rw [Zlc]; omega
theorem carries_of {P : Program} {w : World} : ∀ {kvs : List (Key × V)} {ws : List (Value × Value)}, VV (kvs.map fun kv => (kV kv.1, kv.2)) ws -> ∃ rs, Carries (mixKind P w) ws rs /\ KV kvs rs
  | [], _, r => by rw [List.map_nil] at r; cases r; exact ⟨[], True.intro, .nil⟩
  | p :: kvs, _, r => by
    rw [List.map_cons] at r; cases r with
    | @cons a b as bs h t =>
      obtain ⟨rs, c, q⟩ := carries_of (P := P) (w := w) t
      obtain ⟨b1, b2⟩ := b
      exact ⟨(p.1, b2) :: rs, ⟨kV_is h.1, rfl, c⟩, .cons ⟨rfl, h.2⟩ q⟩
def tDisp (trs : List (TE × TE)) : TE := fun σ H Q => ∀ p, H p = none -> tPairs trs σ (upd H p (.dK [])) fun ps H2 => H2 p = some (.dK []) /\ ∃ kvs : List (Key × V), ps = kvs.map (fun kv => (kV kv.1, kv.2)) /\ kvs.length <= 15 /\ Q (.ref p) (upd H2 p (.dK (mergeK [] kvs)))
theorem pe_disp {X : Cx} {pos : Pos} {keys : List (Option Expr)} {values : List Expr} {trs : List (TE × TE)} (h : PPs X pos keys values trs) (hall : keys.all (·.isSome) = true) (hl : keys.length = values.length) (h0 : keys ≠ [])
    (h15 : keys.length <= 15) : PE X (.Dict keys values pos) (tDisp trs) := by
  intro pins s σ H Q I q; have hn := I.hok.fresh (Znr s.heap.objs.size)
  have I1 := I.laid (a := s.heap.objs.size) (o := .dK []) (h' := s.heap.push { cls := .type "dict", data := .dict #[] }) (t' := s.toks) (fun _ _ q => Zpu _ q) (Znr _) (dk_empty s.heap I.big)
  refine wpAny_Dict_walk (knd := mixKind X.prog X.w) hall hl h0 h15 (thn (h pins _ σ _ _ I1 (q _ hn)) fun ws s2 ⟨ps, H2, I2, rel, e, kvs, ep, lk, q2⟩ => ?_)
  subst ep; obtain ⟨rs, c, rk⟩ := carries_of (P := X.prog) (w := X.w) rel
  obtain ⟨z, hd, vs0, r0, dd⟩ := dk_of I2.hok e
  cases r0
  refine ⟨rs, c, dd, fun h' dd' hs => ⟨.ref s.heap.objs.size, _, ?_, rfl, q2⟩⟩
  have hz : (mergeK [] kvs).length <= sizeLine := by
    have h1 := length_mergeK kvs []
    rw [List.length_nil] at h1; rw [sizeLine_eq]; omega
  have he : ∃ q, h'.get? s.heap.objs.size = some q := let ⟨q, _, _, hq, _⟩ := dd'; ⟨q, hq⟩
  exact d_write I2 (by rw [e]; exact True.intro) hs he (dk_new hz hd (rk.merge .nil) dd')
structure M2 (X : Cx) (o : Expr) (m : Str) (apos : Pos) (e f : Expr) (cpos : Pos) : Prop where
  base : attributeBase o m X.env (eval o X.env) = eval o X.env
  few : ((backTo cpos (starEach [e, f] X.env)).all (fun x => !x.1) && (backToKw cpos (keywordEach [] X.env)).all (fun x => x.1.isSome)
    && decide (([e, f] : List Expr).length + ([] : List Keyword).length + (if ([] : List Keyword).isEmpty then 0 else 1) < 30)) = true
  line : (apos.endLine == cpos.line) = true
  trees : backTo cpos (starEach [e, f] X.env) = [(false, eval e X.env), (false, eval f X.env)]
def IsD (H : Hp) (a : Addr) : Prop := (∃ kvs, Rd H a (.dK kvs)) ∨ ∃ kvs, Rd H a (.dT kvs)
theorem isD_at {X : Cx} {pins : List (Addr × Obj)} {σ : St} {H : Hp} {s : Shared} {a : Addr} (I : Inv X pins σ H s) (d : IsD H a) :
    s.TypeIs (.ref a) "dict" /\ (∀ b, Value.ref a = .ref b -> ∃ ob, s.heap.get? b = some ob /\ ob.dict = none) /\ (a == sysModules) = false := by
  rcases d with ⟨kvs, e⟩ | ⟨kvs, e⟩
  . obtain ⟨_, hd, vs, _, dd⟩ := dk_rd I.hok e
    refine ⟨dd.typeIs, fun b q => ?_, hd⟩
    cases q
    obtain ⟨ob, _, _, h1, h2, _⟩ := dd
    exact ⟨ob, h1, h2.2.1⟩
  . obtain ⟨_, hd, xs, _, dd⟩ := dt_rd I.hok e
    refine ⟨dd.typeIs, fun b q => ?_, hd⟩
    cases q
    obtain ⟨ob, _, _, h1, h2, _⟩ := dd
    exact ⟨ob, h1, h2.2.1⟩
section
variable {X : Cx} {pins : List (Addr × Obj)} {σ : St} {H : Hp} {s : Shared} {a : Addr} {y d : V} {u r : Value} {o : Option V} {A : Around} {E : Value -> Shared -> Prop}
theorem d_get2 {Q : Value -> Shared -> Prop} (hu : A.units + 1 < cLine) (I : Inv X pins σ H s) (g : DGet H a y o) (ry : RelV y u) (rd : RelV d r) (h : ∀ w' s', Inv X pins σ H s' -> RelV (o.getD d) w' -> Q w' s') :
    wpAny (model X.prog X.w) A (call (.builtin "dict.get") [.ref a, u, r]) Q E s := by
  rcases g with ⟨kvs, k, e, ey, l⟩ | ⟨kvs, k, b, e, ey, eb, l⟩
  . subst ey; obtain ⟨z, hd, vs, rel, dd⟩ := dk_rd I.hok e
    refine call_meetsIn PySem.F.slot_dict_get dd.typeIs PySem.F.entry_dict_get (PySem.F.args_dict_get_3 _ _ _) (meets_dict_get_default (mixKind X.prog X.w) a (kV_is ry) hd r) ⟨_, dd.mapOf, h _ _ (I.tok _) ?_⟩
    rw [l]; exact (rel.val k).getD rd
  . subst ey; cases (show u = Value.ref b from ry)
    obtain ⟨z, hd, xs, rel, dd⟩ := dt_rd I.hok e
    refine call_meetsIn PySem.F.slot_dict_get dd.typeIs PySem.F.entry_dict_get (PySem.F.args_dict_get_3 _ _ _) (meetsH_dict_get_default (tupleKind (mixKind X.prog X.w)) a b hd r) ⟨tupleKind_room_in1 hu, k, xs, key_of I.hok eb, dd, h _ _ (I.tok _) ?_⟩
    rw [l]; exact (rel.val k).getD rd
end
def tDGet2 (td ty tx : TE) : TE := fun σ H Q => td σ H fun x H1 => ∃ a, x = .ref a /\ IsD H1 a /\ ty σ H1 fun y H2 => tx σ H2 fun z H3 => ∃ o, DGet H3 a y o /\ Q (o.getD z) H3
section
variable {X : Cx} {o e f : Expr} {apos cpos : Pos} {td ty tx : TE}
theorem pe_dget2 (hu : X.A.units + 1 < cLine) (ho : PE X o td) (he : PE X e ty) (hf : PE X f tx) (m : M2 X o "get" apos e f cpos) : PE X (.Call (.Attribute o "get" apos) [e, f] [] cpos) (tDGet2 td ty tx) := by
  intro pins s σ H Q I h; refine wpAny_Call_method m.base m.few m.line PySem.F.plainAttrs_dict PySem.F.slot_dict_get PySem.F.type_dict_get (thn (ho pins s σ H _ I h) fun u s1 ⟨x, H1, I1, rx, a, ex, d, q1⟩ => ?_)
  subst ex; obtain rfl : u = Value.ref a := rx
  obtain ⟨t1, t2, _⟩ := isD_at I1 d
  refine ⟨t1, t2, ?_⟩
  rw [m.trees]; refine Calls.callWith_builtin rfl (Calls.evalArgs_plain (Calls.spliced_cons (thn (he pins s1 σ H1 _ I1 q1) fun iv s2 ⟨y, H2, I2, ry, q2⟩ =>
    Calls.spliced_cons (thn (hf pins s2 σ H2 _ I2 q2) fun fv s3 ⟨z, H3, I3, rz, ov, g, q3⟩ => Calls.spliced_nil ?_))))
  exact d_get2 hu I3 g ry rz fun w' s4 I4 rw' => ⟨_, H3, I4, rw', q3⟩
end
end L2
namespace Att
open PySem PySem.W PySem.Calls PyProof.Rows
theorem ints_of_wellAll {P : Params} {h : Heap} : ∀ (ns : List Int) (vs : List Value), WellAll P h vs (ns.map WData.int) -> IntsAre vs ns := by
  intro ns; induction ns with
  | nil =>
    intro vs w; rw [List.map_nil] at w; cases w
    exact .nil
  | cons n ns ih =>
    intro vs w; rw [List.map_cons] at w; cases w with
    | cons a b =>
      cases a
      exact .cons _ _ (ih _ b)
theorem script_of {l : OpenLaw} {n : Nat} (hn : l.most = some n) {P : Params} {h : Heap} {args : List WData} {vals : List Value}
    (hpre : l.row.toRowW.claim.pre args = true) (hwl : WellAll P h vals args) :
    ∃ a vs ns, vals = [Value.ref a] /\ args = [WData.list (ns.map WData.int)] /\ h.get? a = some { cls := .type "list", data := .seq vs.toArray } /\ IntsAre vs ns /\ ns.length <= n := by
  have hsh : WShape.hasAll [] args [.list .int] = true := (pre_splitW hpre).1
  have hc : l.pre.holds [] { args := args } = true := (pre_splitW hpre).2
  obtain ⟨d, r, rfl, h1, h2⟩ := hasAllW_cons hsh
  obtain rfl := hasAllW_nil h2
  obtain ⟨xs, rfl, h3⟩ := hasW_list h1
  obtain ⟨ns, rfl⟩ := items_int h3
  have hlen : ns.length <= n := by
    unfold OpenLaw.pre at hc; have h4 : (WTm.not (.lt (.lit (.int (n : Int))) (.len (.arg 0)))).holds [] { args := [.list (ns.map .int)] } = true := by
      have h4 := (holds_andW hc).1
      rw [hn] at h4; exact h4
    have h5 := condW_of h4 (w_not (w_lt w_lit (w_len_list (w_arg rfl))))
    rw [Zlm] at h5; refine Nat.le_of_not_lt fun q => ?_
    have q' : (n : Int) < ((ns.length : Nat) : Int) := by omega
    first
      | (rw [decide_eq_true q'] at h5; exact absurd h5 (by decide))
      | (simp at h5; omega)
  cases hwl with
  | cons w1 w2 =>
    cases w2
    cases w1 with
    | list ho hall => exact ⟨_, _, ns, rfl, rfl, ho, ints_of_wellAll ns _ hall, hlen⟩
theorem post_true (l : OpenLaw) (args : List WData) : l.row.toRowW.claim.post args (.bool true) args = true :=
  postW_of (r := l.row.toRowW) (X := (true == true))
    (show WShape.has [] (.bool true) .bool = true by first | rfl | decide | simp [WShape.has, WShape.arms, WShape.armsAll])
    (show (WTm.eq .res (.lit (.bool true))).value [] { args := args, res := some (.bool true), after := args } = some (.bool (true == true)) from w_eq_bool (w_res rfl) w_lit) rfl
theorem attach_call {l : OpenLaw} {n : Nat} {q : Program} {loose : List Str} {XP : (Str -> Option Value) -> Heap -> Prop} {YP : World -> Heap -> Prop} {d : DefRec}
    (hn : l.most = some n) (hdf : d.params.defaults = [])
    (call : ∀ (w : World) (s₀ s₁ : Shared) (mg mb : Str -> Option Value) (fa : Addr) (o : Obj) (pm cd doc : Value) (a : Addr) (vs : List Value) (ns : List Int),
      Ground q loose [] XP w s₀ mg mb s₁.heap -> YP w s₁.heap →
      s₁.heap.get? fa = some o -> o.data = .func (docDef d.name d.params d.body d.scope pm cd doc) -> s₁.heap.CodeRec cd d.name -> mg d.name = some (.ref fa) →
      s₁.heap.get? a = some { cls := .type "list", data := .seq vs.toArray } -> IntsAre vs ns -> ns.length <= n -> s₁.gens = #[] →
      codeAny (model l.prog w) callerA (.call (.ref fa) ⟨[.ref a], []⟩) (fun r s' => r = .ok (.ret (.bool true)) /\ OldK s₁.heap s'.heap /\ s'.os = s₁.os /\ AllBare s'.gens) s₁) :
    WalkO q loose XP YP l.row.toRowW d [] (fun f vs => PySem.call f vs) := by
  intro w s₀ s₁ mg mb G Y fa o pm cd doc dV kV ho hd hcd hD hmg hg args vals as hpre hlay hrd hwl hlo; obtain rfl : dV = .none := Dflts.none hD hdf
  obtain rfl : kV = .none := Dflts.noKw hD
  obtain ⟨a, vs, ns, rfl, rfl, hobj, hints, hlen⟩ := script_of hn hpre hwl
  refine enter_call (codeAny_mono (call w s₀ s₁ mg mb fa o pm cd doc a vs ns G Y ho (fd_plain hd) hcd hmg hobj hints hlen hg) fun r s' hq => ?_)
  obtain ⟨rfl, h2, h3, h4⟩ := hq
  exact ⟨.inl ⟨.bool true, .bool true, [], rfl, fun _ => rfl, .bool true, post_true l _, fun _ => ⟨List.Pairwise.nil, fun _ hm => (nomatch hm)⟩⟩, h2, h3, h4⟩
end Att
namespace L2
open PySem PySem.Spec PyProof.Rows
theorem vals_ints : ∀ {vs : List Value} {ns : List Int}, IntsAre vs ns -> Vals (ns.map V.int) vs
  | _, _, .nil => .nil
  | _, _, .cons n t h => .cons ⟨t, rfl⟩ (vals_ints h)
def Only (H : Hp) : Prop := ∀ b, H b = none ∨ ∃ o xs, H b = some (.frz o (.lst xs))
theorem law_call {P : Program} {w : World} {K : W.Frag} {mg mb : Str -> Option Value} {CX : CXT} {k : Nat} {fa a : Addr} {fd : FuncData} {x : Str} {sp : Sp} {s₁ : Shared} {vs : List Value} {ns : List Int}
    (KX : K.In s₁.heap) (hns : s₁.heap.Ns mainGlobals mg) (hb : s₁.heap.Ns builtinsNs mb) (hbb : ∀ x : Str, x ≠ "__name__" -> mb x = bootBuiltins x) (hlim : s₁.heap.NoLimit) (hg : s₁.gens = #[])
    (ha : s₁.heap.get? a = some { cls := .type "list", data := .seq vs.toArray }) (hi : IntsAre vs ns) (hl : ns.length <= sizeLine) (hr : Room k callerA)
    (F : ∀ base : Heap, K.In base -> base.Ns mainGlobals mg -> FnOk P w K mg base CX k fa fd [x] sp) (hbind : ∀ (s : Shared) (u : Value), BindsTo s fd ⟨[u], []⟩ [(x, u)])
    (hsp : ∀ H : Hp, Only H -> SqL K H a (ns.map V.int) -> sp [.ref a] H (fun v _ => v = .bl true) fun _ _ _ => False)
    (hCX : ∀ H e s', CX [] H s₁ (fun _ _ _ => False) e s' -> False) :
    codeAny (model P w) callerA (.call (.ref fa) ⟨[.ref a], []⟩) (fun r s' => r = .ok (.ret (.bool true)) /\ OldK s₁.heap s'.heap /\ s'.os = s₁.os /\ AllBare s'.gens) s₁ := by
  have rv := vals_ints hi
  have lenV := hi.length
  have core : ∀ H : Hp, Only H -> SqL K H a (ns.map V.int) -> HOk P w H s₁.heap -> (∀ b, H b ≠ none -> b = a) -> (H a ≠ none -> K.lookup a = none) →
      codeAny (model P w) callerA (.call (.ref fa) ⟨[.ref a], []⟩) (fun r s' => r = .ok (.ret (.bool true)) /\ OldK s₁.heap s'.heap /\ s'.os = s₁.os /\ AllBare s'.gens) s₁ := by
    intro H hO hS hok hA hK; have base_of : ∀ {b : Addr} {o : Obj}, s₁.heap.get? b = some o -> H b = none -> (hidT s₁.heap H).get? b = some o := fun e n => hidT_get e n
    have noA : ∀ {b : Addr} {o : Obj} {es : Array DictEntry} {ep : Nat}, s₁.heap.get? b = some o -> o.data = .dict es ep -> H b = none := fun {b o es ep} e d => by
      cases q : H b with
      | none => rfl
      | some u =>
        have e' : b = a := hA b (by rw [q]; simp)
        subst e'; rw [ha] at e; cases e
        have d' : Data.seq vs.toArray _ = Data.dict es ep := d
        cases d'
    have nsK : ∀ {b : Addr} {m : Str -> Option Value}, s₁.heap.Ns b m -> (hidT s₁.heap H).Ns b m := fun {b m} ⟨o, es, ep, e, d, r⟩ => ⟨o, es, ep, base_of e (noA e d), d, r⟩
    have hKb : K.In (hidT s₁.heap H) := fun b o e => base_of (KX b o e) (by
      cases q : H b with
      | none => rfl
      | some u =>
        have e' : b = a := hA b (by rw [q]; simp)
        subst e'; rw [hK (by rw [q]; simp)] at e; cases e)
    have hM : Mod K mg (hidT s₁.heap H) := ⟨hKb, nsK hns, ⟨mb, nsK hb, hbb⟩, let ⟨mc, h1, h2⟩ := hlim; ⟨mc, nsK h1, h2⟩⟩
    have e0 : Env0 P w K mg (hidT s₁.heap H) callerA [] s₁ H := ⟨rfl, hM, fun b o e => of_hidT e, Nat.le_of_eq (hidT_size _ _), trivial, fun b hb => absurd (show b ∈ ([] : List Addr) from hb) (by simp), hok, .of_eq hg⟩
    refine codeAny_mono ((F _ hKb (nsK hns)).run callerA [] s₁ H ⟨[.ref a], []⟩ [.ref a] [.ref a] _ _ hr e0 (hbind s₁ (.ref a)) (.cons rfl .nil) (hsp H hO hS)) fun r s' h => ?_
    cases r with
    | error e => exact (hCX H e s' h).elim
    | ok fl =>
      cases fl with
      | next => exact False.elim h
      | brk => exact False.elim h
      | cont => exact False.elim h
      | ret u =>
        obtain ⟨v, H', os, bare, un, hok', r', q⟩ := h
        have q' : v = .bl true := q
        subst q'; obtain rfl : u = Value.bool true := r'
        refine ⟨rfl, OldK.of_keep fun b o e => ?_, os, bare⟩
        cases q : H b with
        | none => exact un.keep b o e q (by intro z; exact absurd (show b ∈ ([] : List Addr) from z) (by simp)) (by simp)
        | some u =>
          rcases hO b with z | ⟨ob, xs, z⟩
          . rw [q] at z; cases z
          . have z2 := un.frzs b ob _ z
            obtain ⟨e1, _⟩ := hok b _ z
            obtain ⟨e2, _⟩ := hok' b _ z2
            rw [e] at e1; cases e1
            exact e2
  cases hk : K.lookup a with
  | some o =>
    have e := KX a o hk
    rw [ha] at e; cases e
    refine core (fun _ => none) (fun _ => .inl rfl) (.inr ⟨_, vs.toArray, _, hk, rfl, rfl, rfl, by rw [Zst, lenV]; exact hl, by simpa using rv⟩) (fun b u z => by have z' : (none : Option HO) = some u := z; cases z') (fun b z => absurd rfl z) fun z => absurd rfl z
  | none =>
    refine core (fun b => if b = a then some (.frz { cls := .type "list", data := .seq vs.toArray } (.lst (ns.map V.int))) else none) (fun b => ?_) (.inl (.inr ⟨{ cls := .type "list", data := .seq vs.toArray }, if_pos rfl⟩)) (fun b u z => ?_) (fun b z => ?_) fun _ => hk
    . by_cases hb : b = a
      . exact .inr ⟨_, _, if_pos hb⟩
      . exact .inl (if_neg hb)
    . by_cases hb : b = a
      . have z' := (if_pos hb).symm.trans z
        cases z'
        subst hb; exact ⟨ha, by rw [Zlm]; exact hl, vs, _, rv, ha⟩
      . have z' := (if_neg hb).symm.trans z
        cases z'
    . by_cases hb : b = a
      . exact hb
      . exact absurd (if_neg hb) z
end L2
namespace L2
open PySem PySem.Spec PyProof.Rows
theorem walk_of {l : W.OpenLaw} {n k : Nat} {q : Program} {loose : List Str} {XP : (Str -> Option Value) -> Heap -> Prop} {YP : World -> Heap -> Prop} {d : DefRec} {K : Params -> W.Frag} {CX : World -> CXT} {sp : World -> Sp} {x : Str}
    (hn : l.most = some n) (hn2 : n <= sizeLine) (hdf : d.params.defaults = []) (hr : Room k callerA)
    (hY : ∀ (w : World) (h : Heap), YP w h -> (K w.params).In h)
    (F : ∀ (w : World) (mg : Str -> Option Value) (fa : Addr) (h : Heap), (K w.params).In h -> h.Ns mainGlobals mg -> mg d.name = some (.ref fa) →
      ∃ fd : FuncData, (∀ (s : Shared) (u : Value), BindsTo s fd ⟨[u], []⟩ [(x, u)]) ∧
        ∀ base : Heap, (K w.params).In base -> base.Ns mainGlobals mg -> FnOk l.prog w (K w.params) mg base (CX w) k fa fd [x] (sp w))
    (hsp : ∀ (w : World) (H : Hp) (a : Addr) (ns : List Int), ns.length <= n -> Only H -> SqL (K w.params) H a (ns.map V.int) -> sp w [.ref a] H (fun v _ => v = .bl true) fun _ _ _ => False)
    (hCX : ∀ (w : World) (H : Hp) (s : Shared) (e : Value) (s' : Shared), CX w [] H s (fun _ _ _ => False) e s' -> False) :
    W.WalkO q loose XP YP l.row.toRowW d [] (fun f vs => PySem.call f vs) := by
  refine Att.attach_call hn hdf fun w s₀ s₁ mg mb fa o pm cd doc a vs ns G Y ho hd hcd hmg hobj hints hlen hg => ?_
  have KX := hY w _ Y
  obtain ⟨fd, hb, hF⟩ := F w mg fa _ KX G.T.g hmg
  exact law_call KX G.T.g G.T.b G.T.builtins G.T.nolimit hg hobj hints (Znt hlen hn2) hr hF hb (fun H hO hS => hsp w H a ns hlen hO hS) fun H e s' => hCX w H s₁ e s'
end L2
/- THE LAST THEOREM (shape; LID, My.* are yours):
   My.Adr: a structure of the addresses that your layer names (classes, functions); My.Txt K t: a structure (Prop) of the equations over K;
   My.txt_mk : {K} {implicit addresses ..} (e1 : nsIn K mainGlobals "law" = some (some (.ref f))) (e2 : K.lookup f = some ⟨oc, od, .func (fnOf "law" "law" params body scope dV kV doc pm an cdv ct), sl⟩) (e3 : codeIn K cdv "law" = true) .. : ∃ t, My.Txt K t
set_option maxRecDepth 100000 in
set_option maxHeartbeats 0 in
theorem PySem.Challenge.cw_LID_holds : PySem.Challenge.rw_LID.Holds := by
  w_on; o_law; k_head; (case hw => w_witness2)
  k_fill
  refine L2.walk_of (l := PySem.Challenge.rw_LID) (n := 63) (k := 40) (x := "script") (CX := fun w => ..) (sp := fun _ => My.sp_law) rfl (by decide) rfl ⟨rfl, by decide, by decide⟩ (fun w h Y => W.kIn_of Y) ?F ?S ?C
  case F =>
    intro w mg fa h KX G hmg; have T : ∃ t, My.Txt (L2.KOf KX) t := by
      dsimp only [L2.KOf]                          -- K must stand as «<heap const> w.params» for k_is
      refine' My.txt_mk ?e1 ?e2 ?e3 ..
      (case e1 => W.k_is)                    -- in the order: a name -> its address -> its object -> its parts
      (case e2 => W.k_is)
      ..
    obtain ⟨t, T⟩ := T
    have e0 := hmg.symm.trans (W.mg_of KX G T.law)
    cases e0                                       -- fa is the law's own address
    exact ⟨_, fun s u => .of_eq rfl, fun base kb nb => My.law_fn T kb nb⟩     -- if «.of_eq rfl» comes too early: refine' ⟨_, ?b, fun base kb nb => My.law_fn T kb nb⟩; exact fun s u => .of_eq rfl
  case S => exact fun w H a ns hl hO hS => ..
  case C => exact ..
(the tactic k_is has no namespace: write k_is) -/
namespace L2
open PySem PySem.Spec PyProof.Rows
def inClass (s : Stmt) (j : Nat) : Stmt := match s with
  | .ClassDef _ _ _ body _ _ _ _ _ _ _ => body.getD j (.Pass ⟨0, 0, 0, 0⟩)
  | _ => .Pass ⟨0, 0, 0, 0⟩
def defArgs (s : Stmt) : Arguments := match s with
  | .FunctionDef _ a _ _ _ _ _ _ _ _ => a
  | _ => { posonlyargs := [], args := [], vararg := none, kwonlyargs := [], kw_defaults := [], kwarg := none, defaults := [] }
def defBody (s : Stmt) : List Stmt := match s with
  | .FunctionDef _ _ b _ _ _ _ _ _ _ => b
  | _ => []
def defScope (s : Stmt) : Scope := match s with
  | .FunctionDef _ _ _ _ _ _ sc _ _ _ => sc
  | _ => { kind := .function, names := [], isGenerator := false, isCoroutine := false }
abbrev CX0 : CXT := fun _ _ _ _ _ _ => False
abbrev E0 : XK := fun _ _ _ => False
theorem pass0 {X : Cx} : Passes CX0 X E0 := fun _ _ _ _ _ _ _ h => h.elim
structure Fun (K : W.Frag) (x qual : Str) (st : Stmt) (f : Addr) (fd : FuncData) : Prop where
  ex : ∃ (oc : Value) (od : Option Addr) (kV doc pm : Value) (an : Option Addr) (cdv ct : Value) (osl : Array (Option Value)),
    fd = W.fnOf x qual (defArgs st) (defBody st) (defScope st) .none kV doc pm an cdv ct /\ K.lookup f = some ⟨oc, od, .func fd, osl⟩ /\ W.codeIn K cdv qual = true
  kp : W.keepIn K (.ref f) = true
section
variable {P : Program} {w : World} {K : W.Frag} {mg : Str -> Option Value} {base : Heap}
theorem Fun.ok {x qual : Str} {st : Stmt} {f : Addr} {fd : FuncData} {N ps : List Str} {k : Nat} {sp : Sp} (F : Fun K x qual st f fd) (S : FnScope N ps (defScope st)) (len : ∀ vs H Q E, sp vs H Q E -> vs.length = ps.length)
    (hbody : ∀ (cdv : Value) (A : Around) (outer : List Env) (s : Shared) (H : Hp) (vs : List V) (Q : VK) (E : XK), Room k (A.deeper (envOfC qual (defScope st) s.heap.objs.size f cdv)) -> sp vs H Q E →
      ∃ t, PSs (cxOf CX0 P w K mg base N qual (defScope st) f cdv A outer s H E).nox (defBody st) t /\ t { nx := fun _ H' => Q .non H', rt := Q } (start N vs) H) : FnOk P w K mg base CX0 (k + 1) f fd ps sp := by
  obtain ⟨oc, od, kV, doc, pm, an, cdv, ct, osl, rfl, lk, hcd⟩ := F.ex
  refine fn_of lk hcd S len fun A outer s H vs Q E hr hsp => ?_
  obtain ⟨t, h, q⟩ := hbody cdv A outer s H vs Q E hr hsp
  exact ⟨t, h.nox, q⟩
theorem Fun.binds {x qual : Str} {st : Stmt} {f : Addr} {fd : FuncData} {ps : List Str} (F : Fun K x qual st f fd)
    (h : ∀ (kV doc pm : Value) (an : Option Addr) (cdv ct : Value) (us : List Value), us.length = ps.length -> bindArgs (W.fnOf x qual (defArgs st) (defBody st) (defScope st) .none kV doc pm an cdv ct) ⟨us, []⟩ = pure (ps.zip us)) : Binds K fd ps [] := by
  obtain ⟨oc, od, kV, doc, pm, an, cdv, ct, osl, rfl, lk, hcd⟩ := F.ex
  exact .all (h kV doc pm an cdv ct)
theorem fun_mk {x qual : Str} {st : Stmt} {f : Addr} {oc : Value} {od an : Option Addr} {osl : Array (Option Value)} {kV doc pm cdv ct : Value} (l : K.lookup f = some ⟨oc, od, .func (W.fnOf x qual (defArgs st) (defBody st) (defScope st) .none kV doc pm an cdv ct), osl⟩)
    (c : W.codeIn K cdv qual = true) (k : W.keepIn K (.ref f) = true) : Fun K x qual st f (W.fnOf x qual (defArgs st) (defBody st) (defScope st) .none kV doc pm an cdv ct) := ⟨⟨oc, od, kV, doc, pm, an, cdv, ct, osl, rfl, l, c⟩, k⟩
end
theorem hu_of {A : Around} {k : Nat} (hr : Room k A) : A.units + 1 < cLine := Znl (Nat.add_le_add_left (by decide : 1 <= 64) _) hr.units
def Same (H H' : Hp) : Prop := ∀ b o, H b = some o -> H' b = some o
theorem Same.refl (H : Hp) : Same H H := fun _ _ h => h
theorem Same.trans {H H1 H2 : Hp} (a : Same H H1) (b : Same H1 H2) : Same H H2 := fun c o h => b c o (a c o h)
theorem Same.free {H H' : Hp} (e : Same H H') {l : Addr} (h : H' l = Option.none) : H l = Option.none := by
  cases q : H l with
  | none => rfl
  | some o =>
    rw [e l o q] at h; cases h
section
variable {κ : Type} [DecidableEq κ]
theorem nd_snoc : ∀ {l : List κ} {k : κ}, l.Nodup -> ¬ k ∈ l -> (l ++ [k]).Nodup
  | [], k, _, _ => by simp
  | a :: r, k, h, hk => by
    obtain ⟨h1, h2⟩ := List.nodup_cons.mp h
    show (a :: (r ++ [k])).Nodup
    refine List.nodup_cons.mpr ⟨fun m => ?_, nd_snoc h2 fun m => hk (List.mem_cons.mpr (Or.inr m))⟩
    rcases Zma.mp m with q | q
    . exact h1 q
    . exact hk (List.mem_cons.mpr (Or.inl (Zms.mp q).symm))
end
end L2
namespace L2
open PySem PySem.Spec PyProof.Rows
def clOf (env : Env) : List (Str × NameKind) -> List (Str × Addr) -> List (Str × Addr)
  | [], cs => cs
  | (n, k) :: r, cs => clOf env r (if k = .free then (match env.cells.lookup n with | some c => (n, c) :: cs | none => cs) else cs)
theorem closure_go {env : Env} : ∀ (names : List (Str × NameKind)) (cs : List (Str × Addr)), (∀ x ∈ names, x.2 = .free -> ∃ c, env.cells.lookup x.1 = some c) →
    (forIn names cs fun (x : Str × NameKind) (r : List (Str × Addr)) => (do
      if x.2 == .free then do
        let c ← cellOf env x.1
        pure (ForInStep.yield ((x.1, c) :: r))
      else pure (ForInStep.yield r) : Sem _)) = pure (clOf env names cs)
  | [], cs, _ => rfl
  | (n, k) :: r, cs, h => by
    rw [List.forIn_cons]; by_cases hk : k = .free
    . subst hk; obtain ⟨c, hc⟩ := h (n, .free) Zcs rfl
      have hc' : env.cells.lookup n = some c := hc
      have e1 : cellOf env n = pure c := by unfold cellOf; rw [hc']
      simp only [beq_self_eq_true, if_true, e1, pure_bind]
      rw [closure_go r ((n, c) :: cs) fun x hx => h x (Zmc _ hx)]
      simp [clOf, hc']
    . have hb : (k == NameKind.free) = false := by simpa using hk
      simp only [hb, Bool.false_eq_true, if_false, pure_bind]
      rw [closure_go r cs fun x hx => h x (Zmc _ hx)]
      simp [clOf, hk]
theorem closure_ok {scope : Scope} {env : Env} (h : ∀ x ∈ scope.names, x.2 = .free -> ∃ c, env.cells.lookup x.1 = some c) : closureFor scope env = pure (clOf env scope.names []) := by
  have e := closure_go scope.names [] h
  unfold closureFor; exact (congrArg (fun z => z >>= fun (r : List (Str × Addr)) => (pure r : Sem _)) e).trans (pure_bind _ _)
theorem cl_sound {env : Env} : ∀ (names : List (Str × NameKind)) (cs : List (Str × Addr)), (∀ y d, (y, d) ∈ cs -> env.cells.lookup y = some d) -> ∀ y d, (y, d) ∈ clOf env names cs -> env.cells.lookup y = some d
  | [], _, h => h
  | (n, k) :: r, cs, h => by
    unfold clOf; refine cl_sound r _ fun y d hm => ?_
    split at hm
    . split at hm
      . rename_i c hc
        rcases List.mem_cons.mp hm with e | e
        . cases e; exact hc
        . exact h y d e
      . exact h y d hm
    . exact h y d hm
theorem cl_from {env : Env} : ∀ (names : List (Str × NameKind)) (cs : List (Str × Addr)) (y : Str) (d : Addr), (y, d) ∈ clOf env names cs -> (y, .free) ∈ names ∨ (y, d) ∈ cs
  | [], _, _, _, h => .inr h
  | (n, k) :: r, cs, y, d, h => by
    unfold clOf at h; rcases cl_from r _ y d h with e | hm
    . exact .inl (Zmc _ e)
    . split at hm
      . rename_i hk
        split at hm
        . rcases List.mem_cons.mp hm with e | e
          . cases e; subst hk; exact .inl Zcs
          . exact .inr e
        . exact .inr hm
      . exact .inr hm
theorem cl_has {env : Env} : ∀ (names : List (Str × NameKind)) (cs : List (Str × Addr)) (y : Str), ((∃ d, (y, d) ∈ cs) ∨ (y, .free) ∈ names) -> (∀ x ∈ names, x.2 = .free -> ∃ c, env.cells.lookup x.1 = some c) -> ∃ d, (y, d) ∈ clOf env names cs
  | [], _, _, h, _ => by
    rcases h with h | h
    . exact h
    . cases h
  | (n, k) :: r, cs, y, h, hf => by
    unfold clOf; refine cl_has r _ y ?_ fun x hx => hf x (Zmc _ hx)
    rcases h with ⟨d, hd⟩ | h
    . refine .inl ⟨d, ?_⟩
      split
      . split
        . exact Zmc _ hd
        . exact hd
      . exact hd
    . rcases List.mem_cons.mp h with e | e
      . have e1 : y = n := congrArg Prod.fst e
        have e2 : NameKind.free = k := congrArg Prod.snd e
        subst e1 e2; obtain ⟨c, hc⟩ := hf (y, .free) Zcs rfl
        have hc' : env.cells.lookup y = some c := hc
        refine .inl ⟨c, ?_⟩
        rw [if_pos rfl, hc']; exact Zcs
      . exact .inr e
theorem mem_lookup {α : Type} : ∀ {l : List (Str × α)} {y : Str} {d : α}, (y, d) ∈ l -> ∃ d', l.lookup y = some d' /\ (y, d') ∈ l
  | (n, c) :: r, y, d, h => by
    by_cases e : y = n
    . subst e; exact ⟨c, by simp [List.lookup_cons], Zcs⟩
    . rcases List.mem_cons.mp h with q | q
      . cases q; exact absurd rfl e
      . obtain ⟨d', h1, h2⟩ := mem_lookup q
        have hb : (y == n) = false := by simpa using e
        exact ⟨d', by rw [List.lookup_cons, hb]; exact h1, Zmc _ h2⟩
theorem cl_lookup {env : Env} {names : List (Str × NameKind)} {y : Str} {c : Addr} (h : (clOf env names []).lookup y = some c) : env.cells.lookup y = some c /\ (y, .free) ∈ names := by
  have hm := PySem.mem_of_lookup h
  refine ⟨cl_sound names [] (fun _ _ z => nomatch z) y c hm, ?_⟩
  rcases cl_from names [] y c hm with e | e
  . exact e
  . cases e
theorem cl_some {env : Env} {names : List (Str × NameKind)} {y : Str} (h : (y, .free) ∈ names) (hf : ∀ x ∈ names, x.2 = .free -> ∃ c, env.cells.lookup x.1 = some c) : ∃ c, (clOf env names []).lookup y = some c /\ env.cells.lookup y = some c := by
  obtain ⟨d, hd⟩ := cl_has names [] y (.inr h) hf
  obtain ⟨c, hc, _⟩ := mem_lookup hd
  exact ⟨c, hc, (cl_lookup hc).1⟩
theorem relabel_free {scope : Scope} {env : Env} (hcell : ∀ y ∈ scope.names, y.2 ≠ .cell) {x : Str} (h : (relabel scope env).names.lookup x = some .cell ∨ (relabel scope env).names.lookup x = some .free) : (x, .free) ∈ scope.names := by
  have go : ∀ {k : NameKind}, k = .cell ∨ k = .free -> (relabel scope env).names.lookup x = some k -> (x, .free) ∈ scope.names := fun {k} hk h => by
    have hm := PySem.mem_of_lookup h
    unfold relabel at hm; obtain ⟨⟨n, j⟩, hp, e⟩ := Zmm.mp hm
    dsimp only at e
    split at e
    . rename_i hc
      cases e
      have : j = .free := by
        have := (Bool.and_eq_true_iff.mp (Bool.and_eq_true_iff.mp hc).1).1
        simpa using this
      subst this; exact hp
    . cases e
      rcases hk with q | q
      . exact absurd q (hcell _ hp)
      . subst q; exact hp
  rcases h with h | h
  . exact go (.inl rfl) h
  . exact go (.inr rfl) h
theorem relabel_some {env : Env} : ∀ {names : List (Str × NameKind)} {x : Str}, names.lookup x = some .free →
    (names.map fun (n, k) => if (k == NameKind.free && env.scope.kind == .function && env.kindOf n == some .cell) then (n, NameKind.cell) else (n, k)).lookup x = some .cell ∨
    (names.map fun (n, k) => if (k == NameKind.free && env.scope.kind == .function && env.kindOf n == some .cell) then (n, NameKind.cell) else (n, k)).lookup x = some .free
  | [], _, h => by simp at h
  | (n, k) :: r, x, h => by
    have ih := @relabel_some env r x
    rw [List.map_cons]; dsimp only; cases hx : x == n with
    | true =>
      simp only [List.lookup_cons, hx] at h
      cases h
      split
      . left; simp [List.lookup_cons, hx]
      . right; simp [List.lookup_cons, hx]
    | false =>
      simp only [List.lookup_cons, hx] at h
      split
      . simp only [List.lookup_cons, hx]; exact ih h
      . simp only [List.lookup_cons, hx]; exact ih h
def cxC (X : Cx) (scope : Scope) (C : Addr) (N : List Str) (s₂ : Shared) (H₂ : Hp) (fp : List Addr) : Cx where
  prog := X.prog
  w := X.w
  K := X.K
  mg := X.mg
  base := X.base
  A := X.A
  N := N
  s₀ := s₂
  H₀ := H₂
  env := compEnvC scope (clOf X.env scope.names []) C X.env
  outer := X.stack
  stack := X.stack
  ex := fp
  fn := fun _ => false
  calm := X.calm
  pn := []
  xe := fun _ _ => False
def stC (js : List (Option Nat)) (σ : St) : St := js.map fun o => match o with | some j => (σ[j]?).getD none | none => none
structure CompScope (X : Cx) (scope : Scope) (N : List Str) (js : List (Option Nat)) : Prop where
  kind : scope.kind = .function
  nocell : ∀ y ∈ scope.names, y.2 ≠ .cell
  loc : ∀ y ∈ scope.names, y.2 = .local -> scope.names.lookup y.1 = some .local
  len : js.length = N.length
  cap : ∀ (i j : Nat), js[i]? = some (some j) -> ∃ x, N[i]? = some x /\ X.N[j]? = some x /\ scope.names.lookup x = some .free
  out : ∀ y ∈ scope.names, y.2 = .free -> X.env.kindOf y.1 = some .cell ∨ X.env.kindOf y.1 = some .free
def GOwn (js : List (Option Nat)) (g : TG) : Prop := ∀ x σ H Q, g x σ H Q -> g x σ H fun σ2 H2 => Q σ2 H2 /\ σ2.length = σ.length /\ ∀ (i j : Nat), js[i]? = some (some j) -> σ2[i]? = σ[i]?
def GOwns (js : List (Option Nat)) (g : TGs) : Prop := ∀ xs σ H Q, g xs σ H Q -> g xs σ H fun σ2 H2 => Q σ2 H2 /\ σ2.length = σ.length /\ ∀ (i j : Nat), js[i]? = some (some j) -> σ2[i]? = σ[i]?
theorem gown_name {js : List (Option Nat)} {k : Nat} (h : js[k]? = some none) : GOwn js (gName k) := fun x σ H Q q => by
  refine ⟨q, by simp, fun i j e => ?_⟩
  have : k ≠ i := fun z => by subst z; rw [h] at e; cases e
  rw [List.getElem?_set_ne this]
theorem gowns_nil {js : List (Option Nat)} : GOwns js gNil := fun xs σ H Q q => ⟨q.1, q.2, rfl, fun _ _ _ => rfl⟩
theorem gowns_cons {js : List (Option Nat)} {k : Nat} {u : TGs} (h : js[k]? = some none) (hu : GOwns js u) : GOwns js (gCons (gName k) u) := fun xs σ H Q q => by
  obtain ⟨v, r, e, q⟩ := q
  refine ⟨v, r, e, ?_⟩
  obtain ⟨_, h2⟩ := gown_name h v σ H (fun _ _ => True) trivial
  have q2 := hu r _ _ _ q
  have e2 : (fun σ2 H2 => Q σ2 H2 /\ σ2.length = (σ.set k (some v)).length /\ ∀ (i j : Nat), js[i]? = some (some j) -> σ2[i]? = (σ.set k (some v))[i]?) = (fun σ2 (H2 : Hp) => Q σ2 H2 /\ σ2.length = σ.length /\ ∀ (i j : Nat), js[i]? = some (some j) -> σ2[i]? = σ[i]?) := by
    funext σ2 H2
    have e3 : ∀ (i j : Nat), js[i]? = some (some j) -> (σ.set k (some v))[i]? = σ[i]? := h2.2
    apply propext
    constructor
    . rintro ⟨a, b, c⟩
      exact ⟨a, by simpa using b, fun i j e => (c i j e).trans (e3 i j e)⟩
    . rintro ⟨a, b, c⟩
      exact ⟨a, by simpa using b, fun i j e => (c i j e).trans (e3 i j e).symm⟩
  show u r (σ.set k (some v)) H _
  rw [<- e2]; exact q2
theorem gown_tup {K : W.Frag} {n : Nat} {js : List (Option Nat)} {t : TGs} (h : GOwns js t) : GOwn js (gTup K n t) := fun x σ H Q q => by
  obtain ⟨a, xs, e, hq, hl, q⟩ := q
  exact ⟨a, xs, e, hq, hl, h xs σ H Q q⟩
section
variable {X : Cx} {pins : List (Addr × Obj)} {σ : St} {H H' : Hp} {s : Shared}
theorem Un.more {fs ex : List Addr} {H H' : Hp} {h h' : Heap} {D : Addr} {o : HO} (u : Un fs ex H H' h h') (hD : h.get? D = none) (hH : H D = none) : Un fs ex H (upd H' D o) h h' where
  keep := u.keep
  slot := u.slot
  free := fun b ob q n hx => by
    have : b ≠ D := fun z => by rw [z, hD] at q; cases q
    rw [upd_ne this]; exact u.free b ob q n hx
  there := u.there
  tups := fun b xs q => by rw [upd_ne (ne_of_none q hH)]; exact u.tups b xs q
  frzs := fun b ob xs q => by rw [upd_ne (ne_of_none q hH)]; exact u.frzs b ob xs q
  tbls := fun b ps q => by rw [upd_ne (ne_of_none q hH)]; exact u.tbls b ps q
theorem HOk.more {P : Program} {w : World} {h : Heap} {D : Addr} {o : HO} (k : HOk P w H h) (hH : H D = none) (new : ObjOk P w (upd H D o) h D o) : HOk P w (upd H D o) h := fun b u e => by
  by_cases hb : b = D
  . subst hb; rw [upd_same] at e; cases e; exact new
  . rw [upd_ne hb] at e; exact (k b u e).stay (fun _ _ _ q => q) (fun c q => by rw [upd_ne (ne_of_none q hH)]; exact q) fun c xs q => by rw [upd_ne (ne_of_none q hH)]; exact q
theorem CompScope.ok {scope : Scope} {N : List Str} {js : List (Option Nat)} {C : Addr} {fp : List Addr} (S : CompScope X scope N js) (I : Inv X pins σ H s) (hC : s.heap.objs.size <= C) (hf : ∀ b ∈ fp, FpOk X pins H b) (hl : ∀ b ∈ fp, b < s.heap.objs.size) :
    (cxC X scope C N s H fp).Ok where
  mod := I.ok.mod
  kind := S.kind
  glob := I.ok.glob
  blt := I.ok.blt
  above := hC
  inj := fun x y c h1 h2 => I.ok.inj x y c (cl_lookup h1).1 (cl_lookup h2).1
  has := fun x hx => by
    have hm : (x, .free) ∈ scope.names := relabel_free S.nocell hx
    obtain ⟨c, h1, _⟩ := cl_some (env := X.env) hm fun y hy hk => I.ok.has y.1 (S.out y hy hk)
    exact ⟨c, h1⟩
  cab := fun x c z => nomatch z
  hd := I.ok.hd
  frames := I.ok.frames
  stk := .inl rfl
  exf := fun b hb => ⟨Nat.ne_of_lt (Nat.lt_of_lt_of_le (hl b hb) hC), fun x c e => (hf b hb).2.2.2.2.1 x c (cl_lookup e).1⟩
  bs := I.bs
  bsz := Znt I.ok.bsz I.sz
  noex := fun b o e hb => by
    rcases (hf b hb).2.2.2.1 with z | z
    . exact I.ok.noex b o e z
    . exact absurd (Nat.lt_of_lt_of_le (Heap.lt_size e) (Znt I.ok.bsz z)) (Nat.lt_irrefl _)
  exfs := fun b hb hm => by
    rcases List.mem_cons.mp (I.stkSub b hm) with z | z
    . exact (hf b hb).2.1 z
    . exact (hf b hb).2.2.1 z
  funs := I.stack
  frf := I.stkFree
theorem CompScope.start {scope : Scope} {N : List Str} {js : List (Option Nat)} {C D : Addr} {fp : List Addr} {ob : Obj} {h₁ : Heap} {m : Str -> Option Value} {tk : Nat} (S : CompScope X scope N js) (I : Inv X pins σ H s) (hC : s.heap.objs.size <= C) (hD : s.heap.objs.size <= D) (hDC : D ≠ C)
    (hf : ∀ b ∈ fp, FpOk X pins H b) (hl : ∀ b ∈ fp, b < s.heap.objs.size) (k : ∀ b o, s.heap.get? b = some o -> h₁.get? b = some o) (hns : h₁.Ns C m) (eD : h₁.get? D = some ob) (nc : ∀ v, ob.data ≠ .cell v) :
    Inv (cxC X scope C N s H fp) [(D, ob)] (stC js σ) H { s with heap := h₁, toks := tk } where
  ok := S.ok I hC hf hl
  os := rfl
  bare := I.bare
  base := Un.kept k
  loc := by
    refine ⟨m, hns, fun i x v h1 h2 h3 => ?_⟩
    have h1 : N[i]? = some x := h1
    unfold stC at h2; rw [Zgm] at h2; cases e : js[i]? with
    | none => rw [e] at h2; cases h2
    | some o =>
      rw [e] at h2; cases o with
      | none => cases h2
      | some j =>
        have h2' : (σ[j]?).getD none = some v := Option.some.inj h2
        have hσ : σ[j]? = some (some v) := by
          cases q : σ[j]? with
          | none => rw [q] at h2'; cases h2'
          | some z => rw [q] at h2'; exact congrArg some h2'
        obtain ⟨y, e1, e2, e3⟩ := S.cap i j e
        rw [h1] at e1; cases e1
        have hfree : (x, .free) ∈ scope.names := PySem.mem_of_lookup e3
        have ho := S.out (x, .free) hfree rfl
        obtain ⟨mX, _, hlX⟩ := I.loc
        have hvX : Vis X.env.scope x := by
          rcases ho with z | z
          . exact .inr (.inl z)
          . exact .inr (.inr z)
        obtain ⟨u, r, l⟩ := hlX j x v e2 hσ hvX
        refine ⟨u, r, .inr ?_⟩
        rcases l with ⟨hk, _⟩ | ⟨hk, c, hc, hcell⟩
        . rcases ho with z | z
          . have z' : X.env.kindOf x = some .cell := z
            rw [hk] at z'; cases z'
          . have z' : X.env.kindOf x = some .free := z
            rw [hk] at z'; cases z'
        . obtain ⟨c', h1', h2''⟩ := cl_some (env := X.env) hfree fun y hy hk => I.ok.has y.1 (S.out y hy hk)
          rw [hc] at h2''; cases h2''
          refine ⟨relabel_some e3, c, h1', ?_⟩
          obtain ⟨oc, q1, q2⟩ := hcell
          exact ⟨oc, k c oc q1, q2⟩
  cell := fun x c e => by
    obtain ⟨v, oc, q1, q2⟩ := I.cell x c (cl_lookup e).1
    exact ⟨v, oc, k c oc q1, q2⟩
  free := I.hok.fresh hC
  freeC := fun x c e => I.freeC x c (cl_lookup e).1
  pin := fun p hp => by
    have e : p = (D, ob) := by
      rcases Zma.mp hp with z | z
      . exact absurd (show p ∈ ([] : List (Addr × Obj)) from z) (by simp)
      . simpa using z
    subst e; refine ⟨eD, I.hok.fresh hD, hDC, fun hm => ?_, nc⟩
    rcases List.mem_cons.mp (I.stkSub D hm) with z | z
    . have z : D = X.env.locals := z
      have := I.lt
      rw [<- z] at this; exact absurd (Nat.lt_of_lt_of_le this hD) (Nat.lt_irrefl _)
    . exact I.nofs hD z
  hok := I.hok.kept k
  len := by
    unfold stC; rw [Zlm]; exact S.len
end
def PTs (X : Cx) (cs : List Expr) (t : TT) : Prop :=
  ∀ (pins : List (Addr × Obj)) (s : Shared) (σ : St) (H : Hp) (Q : Bool -> Hp -> Prop) (E : Value -> Shared -> Prop), Inv X pins σ H s -> t σ H Q →
    wpAny (model X.prog X.w) X.A (forIn cs true fun c r => if r = true then do let ok ← isTrue c X.env (eval c X.env); pure (ForInStep.yield ok) else pure (ForInStep.yield r)) (TP X pins σ Q) E s
def tTrue : TT := fun _ H Q => Q true H
theorem pts_nil {X : Cx} : PTs X [] tTrue := fun pins s σ H Q E I h => wpAny_tests_nil ⟨H, I, h⟩
theorem pts_one {X : Cx} {c : Expr} {t : TT} (h : PT X c t) (hx : X.xe = fun _ _ => False := by rfl) : PTs X [c] t := fun pins s σ H Q E I q =>
  wpAny_tests_one (wpAny_mono (h pins s σ H Q I q) (fun _ _ z => z) fun e s' z => by rw [hx] at z; exact z.elim)
def wComp (js : List (Option Nat)) (g : TG) (tt : TT) (te : TE) (σ : St) (J : It) (H1 : Hp) (Q : List V -> Hp -> Prop) : Prop :=
  ∃ W : Nat -> Nat -> List V -> Hp -> Prop, (∃ m, W 0 m [] H1) /\ ∀ i m ys H, W i m ys H →
    (J.stop i H /\ Q ys H) ∨
    (J.go i H /\ ys.length < sizeLine /\ ∃ N : List V -> Hp -> Prop, (∀ ys' H', N ys' H' -> ∃ m', m' < m /\ W (i + 1) m' ys' H') ∧
      ∀ x H', J.yld i H x H' -> g x (stC js σ) H' fun σ2 H2 => tt σ2 H2 fun b H3 => if b = true then te σ2 H3 fun y H4 => N (ys ++ [y]) H4 else N ys H3)
def tComp (wi : TI) (js : List (Option Nat)) (g : TG) (tt : TT) (te : TE) : TE := fun σ H Q => wi σ H fun J H1 =>
  wComp js g tt te σ J H1 fun ys H2 => ∀ p, H2 p = none -> Q (.ref p) (upd H2 p (.lst ys))
def sComp (i : Nat) (wi : TI) (js : List (Option Nat)) (g : TG) (tt : TT) (te : TE) : TS := fun D σ H => wi σ H fun J H1 =>
  wComp js g tt te σ J H1 fun ys H2 => ∀ p, H2 p = none -> D.nx (σ.set i (some (.ref p))) (upd H2 p (.lst ys))
section
variable {X : Cx} {tg iter elt : Expr} {ifs : List Expr} {scope : Scope} {N : List Str} {js : List (Option Nat)} {wi : TI} {g : TG} {tt : TT} {te : TE} {pos : Pos}
theorem comp_block {pins : List (Addr × Obj)} {σ : St} {H2 : Hp} {s2 : Shared} {it : Addr} {fp : List Addr} {tn : Nat -> Heap -> Prop} {J : It} {Qf : List V -> Hp -> Prop} {RR : Value -> Addr -> Result -> Shared -> Prop} {E : Value -> Shared -> Prop} (hc : X.calm = true) (S : CompScope X scope N js) (go : GOwn js g)
    (hb : ∀ (C : Addr) (s₂ : Shared) (H₂ : Hp) (fp : List Addr), PG (cxC X scope C N s₂ H₂ fp) tg g /\ PTs (cxC X scope C N s₂ H₂ fp) ifs tt /\ PE (cxC X scope C N s₂ H₂ fp) elt te)
    (I2 : Inv X pins σ H2 s2) (T : Turn X.prog X.w X.K tg J fp it tn) (st2 : tn 0 s2.heap) (f2 : ∀ b ∈ fp, FpOk X pins H2 b) (hw : wComp js g tt te σ J H2 Qf)
    (hRR : ∀ (C D : Addr) (ys : List V) (H3 : Hp) (s3 : Shared) (m : Str -> Option Value), s2.heap.objs.size <= C -> s2.heap.objs.size <= D -> D ≠ C -> Inv X pins σ (upd H3 D (.lst ys)) s3 -> H3 C = none -> H3 D = none -> s3.heap.Ns C m -> Qf ys H3 -> RR (.ref D) C (.ok .next) s3) :
    wpAny (model X.prog X.w) X.A (newList []) (fun acc s₃ => wpAny (model X.prog X.w) X.A (newFunctionEnv scope X.env.globals (clOf X.env scope.names []) [] X.env.qual none .none (some X.env)) (fun cenv s₄ =>
      codeAny (model X.prog X.w) X.A (.compStart (.ListComp elt [⟨tg, iter, ifs, 0⟩] scope pos) 0 (.ref it) acc { cenv with scope := relabel scope X.env }) (RR acc cenv.locals) s₄) E s₃) E s2 := by
  obtain ⟨W, ⟨m0, w0⟩, turn⟩ := hw
  refine wpAny_newObj_type (wpAny_newFunctionEnv S.nocell (by intro y hy; simp at hy) (fun h₁ hns₁ hsb₁ => ?_) S.kind)
  dsimp only at hns₁ hsb₁ ⊢
  generalize hH2 : s2.heap.push { cls := .type "list", dict := none, data := .seq ([] : List Value).toArray } = HP at hns₁ hsb₁ ⊢; have hC : HP.objs.size = s2.heap.objs.size + 1 := by rw [<- hH2, Heap.size_push]
  have hDC : s2.heap.objs.size ≠ HP.objs.size := by rw [hC]; exact Nat.ne_of_lt (Nat.lt_succ_self _)
  have hCle : s2.heap.objs.size <= HP.objs.size := by rw [hC]; exact Nat.le_succ _
  have old : ∀ b o, s2.heap.get? b = some o -> h₁.get? b = some o := fun b o e => hsb₁.extBut b o (by rw [hC]; exact Nat.ne_of_lt (Nat.lt_succ_of_lt (Heap.lt_size e))) (Zpu _ (hH2 ▸ Zpu _ e))
  have hacc : h₁.get? s2.heap.objs.size = some { cls := .type "list", data := .seq ([] : List Value).toArray 0 } := hsb₁.extBut _ _ hDC (Zpu _ (hH2 ▸ Heap.get?_push_size _ rfl))
  have hfl : ∀ b ∈ fp, b < s2.heap.objs.size := fun b hb => by
    obtain ⟨o, e, _⟩ := T.obj _ _ st2 b hb
    exact Heap.lt_size e
  generalize hDn : s2.heap.objs.size = D at hDC hCle hacc ⊢; generalize hCn : HP.objs.size = C at hDC hCle hns₁ ⊢; have hCs : s2.heap.objs.size <= C := by rw [hDn]; exact hCle
  have hDs : s2.heap.objs.size <= D := Nat.le_of_eq hDn
  obtain ⟨pg, pt, pe⟩ := hb C s2 H2 fp
  have I0 := S.start (D := D) (fp := fp) (tk := s2.toks + ([] : List (Str × Value)).length) I2 hCs hDs hDC f2 hfl old hns₁ hacc (fun v z => nomatch z)
  have fpY : ∀ {H' : Hp} {pl : List (Addr × Obj)}, (∀ b ∈ fp, H' b = none) -> (∀ p ∈ pl, p.1 ∉ fp) -> ∀ b ∈ fp, FpOk (cxC X scope C N s2 H2 fp) pl H' b := fun hn hp b hb =>
    ⟨hn b hb, Nat.ne_of_lt (Nat.lt_of_lt_of_le (hfl b hb) hCs), (S.ok I2 hCs f2 hfl).exfs b hb, .inl hb, fun x c e => (f2 b hb).2.2.2.2.1 x c (cl_lookup e).1, fun p hm z => by
      rcases Zma.mp hm with q | q
      . exact absurd (show p ∈ ([] : List (Addr × Obj)) from q) (by simp)
      . exact hp p q (z ▸ hb)⟩
  have dfp : D ∉ fp := fun z => absurd (Nat.lt_of_lt_of_le (hfl D z) hDs) (Nat.lt_irrefl _)
  have one : ∀ {ob : Obj}, ∀ p ∈ [(D, ob)], p.1 ∉ fp := fun p hp => by
    have e := Zms.mp hp
    subst e; exact dfp
  have loop : ∀ s₃ : Shared, s₃ = { s2 with heap := h₁, toks := s2.toks + ([] : List (Str × Value)).length } →
      codeAny (model X.prog X.w) X.A (.compLoop (.ListComp elt [⟨tg, iter, ifs, 0⟩] scope pos) 0 (.ref it) (.ref D) (compEnvC scope (clOf X.env scope.names []) C X.env)) (RR (.ref D) C) s₃ := by
    rintro s₃ rfl
    refine codeAny_loop rfl (fun n s' => ∃ (i : Nat) (ys : List V) (H' : Hp) (its : List Value) (k : Nat), Inv (cxC X scope C N s2 H2 fp) [(D, { cls := .type "list", data := .seq its.toArray k })] (stC js σ) H' s' /\ Vals ys its /\ ys.length <= sizeLine /\ tn i s'.heap /\ (∀ b ∈ fp, H' b = none) /\ W i n ys H') ?_ m0 ?_
    . rintro n s3 ⟨i, ys, H3, its, k, I3, rv, hz, st3, fr3, w3⟩
      show wpAny _ X.A ((compTurn (.ListComp elt [⟨tg, iter, ifs, 0⟩] scope pos) 0 (.ref it) (.ref D) (compEnvC scope (clOf X.env scope.names []) C X.env)).onRaise (fun x => do noteFrame x _; theTreesLotGoes x)) _ _ s3
      refine wpAny_noted (wpAny_noRaise ?_)
      rw [compTurn_list]; rcases turn i n ys H3 w3 with ⟨stop, qn⟩ | ⟨goes, hlt, Nx, hN, step⟩
      . refine wpAny_bind (wpAny_standAt (wpAny_bind (thn (T.done (cxC X scope C N s2 H2 fp) rfl rfl rfl hc i _ s3 (stC js σ) H3 (fun _ _ => False) I3 (fpY fr3 one) st3 stop) fun r s4 ⟨hr, I4⟩ => ?_)))
        subst hr; refine wpAny_pure ?_
        have pD := I4.pin (D, { cls := .type "list", data := .seq its.toArray k }) (by simp [cxC])
        obtain ⟨mC, hnC, _⟩ := id I4.loc
        have IX : Inv X pins σ (upd H3 D (.lst ys)) s4 := by
          refine I2.call' (ch := fp) I4.os (Un.more I4.base (Heap.get?_none_of_le hDs) (I2.hok.fresh hDs)) (HOk.more I4.hok pD.2.1 ⟨hz, its, k, rv, pD.1⟩) I4.bare fun b hb => ?_
          obtain ⟨_, f1, _, f3, f4, f5⟩ := f2 b hb
          exact ⟨f3, f1, f4, f5⟩
        exact hRR C D ys H3 s4 mC hCs hDs hDC IX I4.free pD.2.1 hnC qn
      . refine wpAny_bind (wpAny_standAt (wpAny_bind (thn (T.item (cxC X scope C N s2 H2 fp) rfl rfl rfl hc i _ s3 (stC js σ) H3 (fun _ _ => False) I3 (fpY fr3 one) st3 goes) fun r s4 ⟨u, hr, h4⟩ => ?_)))
        subst hr; refine wpAny_bind (thn h4 fun _ s5 ⟨x, H5, I5, r5, y5, st5, fr5⟩ => ?_)
        have I5' := I5.pinned (fpY fr5 one) (T.obj _ _ st5)
        refine wpAny_bind (thn (pg _ s5 (stC js σ) H5 x u _ I5' r5 (go _ _ _ _ (step x H5 y5))) fun _ s6 ⟨σ6, H6, I6, ⟨q6, l6, e6⟩⟩ => ?_)
        have weak : ∀ {pl : List (Addr × Obj)} {H7 : Hp} {s7 : Shared}, Inv (cxC X scope C N s2 H2 fp) pl σ6 H7 s7 -> Inv (cxC X scope C N s2 H2 fp) pl (stC js σ) H7 s7 := fun {pl H7 s7} I7 => by
          refine I7.weak l6.symm fun j v hj => ?_
          cases e : js[j]? with
          | none => unfold stC at hj; rw [Zgm, e] at hj; cases hj
          | some o =>
            cases o with
            | none => unfold stC at hj; rw [Zgm, e] at hj; cases hj
            | some j' => rw [e6 j j' e]; exact hj
        have keepN : ∀ {H7 : Hp} {s7 : Shared} {pl : List (Addr × Obj)}, Inv (cxC X scope C N s2 H2 fp) (pl ++ pinsAt fp s5.heap) (stC js σ) H7 s7 -> tn (i + 1) s7.heap /\ ∀ b ∈ fp, H7 b = none := fun {H7 s7 pl} I7 => by
          refine ⟨T.keep _ _ _ st5 fun b hb o e => (I7.pin (b, o) (List.mem_append_right _ (List.mem_append_right _ (mem_pinsAt hb e)))).1, fun b hb => ?_⟩
          obtain ⟨o, e, d⟩ := T.obj _ _ st5 b hb
          exact (I7.pin (b, o) (List.mem_append_right _ (List.mem_append_right _ (mem_pinsAt hb e)))).2.1
        refine wpAny_bind (thn (pt _ s6 σ6 H6 _ _ I6 q6) fun ok s7 ⟨H7, I7, q7⟩ => ?_)
        cases ok with
        | false =>
          rw [if_neg Bool.false_ne_true] at q7; refine wpAny_pure ⟨rfl, ?_⟩
          obtain ⟨m', hm, w7⟩ := hN ys H7 q7
          have I7' := weak I7
          obtain ⟨k1, k2⟩ := keepN I7'
          exact ⟨m', hm, i + 1, ys, H7, its, k, I7'.unpinned, rv, hz, k1, k2, w7⟩
        | true =>
          rw [if_pos rfl] at q7; show wpAny _ _ ((eval elt _ >>= fun x => call (.builtin "list.append") [.ref D, x] >>= fun _ => pure ()) >>= fun _ => again _) _ _ _
          refine wpAny_bind (wpAny_bind (thn (pe _ s7 σ6 H7 _ I7 q7) fun y s8 ⟨yv, H8, I8, r8, q8⟩ => ?_))
          obtain ⟨m', hm, w8⟩ := hN (ys ++ [yv]) H8 q8
          have I8' := weak I8
          obtain ⟨k1, k2⟩ := keepN I8'
          have pD := I8'.pin (D, { cls := .type "list", data := .seq its.toArray k }) (by simp [cxC])
          have hln := rv.length
          refine wpAny_bind (call_meets F.slot_list_append ⟨_, pD.1, rfl⟩ F.entry_list_append (F.args_list_append_2 _ _) (PySem.list_append D its.toArray k y (by rw [Zst]; omega)) ⟨pD.1, ?_⟩)
          refine wpAny_pure (wpAny_pure ⟨rfl, m', hm, i + 1, ys ++ [yv], H8, its ++ [y], ?_⟩)
          have q := PySem.IsL.update pD.1 (fun z => z.push y)
          have eA : its.toArray.push y = (its ++ [y]).toArray := by simp
          rw [eA] at q; have I9 : Inv (cxC X scope C N s2 H2 fp) [] (stC js σ) H8 s8 := I8'.pins_of fun p hp => absurd hp (by simp)
          have hob : ∀ b o, b ≠ D -> s8.heap.get? b = some o -> (s8.heap.update D (Obj.mapSeq fun z => z.push y)).get? b = some o := fun b o hb hu => (Heap.get?_update_other s8.heap _ (Ne.symm hb)).trans hu
          have I10 : Inv (cxC X scope C N s2 H2 fp) [] (stC js σ) H8 { s8 with heap := s8.heap.update D (Obj.mapSeq fun z => z.push y), toks := s8.toks } := I9.turned hob pD.2.1 pD.2.2.1 (.inr hDs)
            (fun x c e z => by
              obtain ⟨v, oc, q1, q2⟩ := I2.cell x c (cl_lookup e).1
              rw [z] at q1; exact absurd (Nat.lt_of_lt_of_le (Heap.lt_size q1) hDs) (Nat.lt_irrefl _))
            (fun p hp => by
              rcases Zma.mp hp with q | q
              . exact absurd (show p ∈ ([] : List (Addr × Obj)) from q) (by simp)
              . exact absurd q (by simp))
          refine ⟨(if ((its ++ [y]).toArray).size == its.toArray.size then k else k + 1), I10.pins_of fun p hp => ?_, rv.append (.cons r8 .nil), ?_, ?_, k2, w8⟩
          . have e := Zms.mp hp
            subst e; exact ⟨q, pD.2.1, pD.2.2.1, pD.2.2.2.1, fun v z => nomatch z⟩
          . rw [Zla, List.length_singleton]; omega
          . exact T.keep _ _ _ k1 fun b hb o e => hob b o (fun z => dfp (z ▸ hb)) e
    . exact ⟨0, [], H2, [], 0, I0, .nil, Nat.zero_le _, T.keep _ _ _ st2 fun b _ o e => old b o e, fun b hb => (f2 b hb).1, w0⟩
  exact codeAny_compStart_list (loop _ rfl) (T.self _ 0 _ _ _ (T.keep _ _ _ st2 fun b _ o e => old b o e) (loop _ rfl))
theorem pe_comp (hc : X.calm = true) (S : CompScope X scope N js) (go : GOwn js g) (hi : PI X tg iter wi)
    (hb : ∀ (C : Addr) (s₂ : Shared) (H₂ : Hp) (fp : List Addr), PG (cxC X scope C N s₂ H₂ fp) tg g /\ PTs (cxC X scope C N s₂ H₂ fp) ifs tt /\ PE (cxC X scope C N s₂ H₂ fp) elt te)
    (hs : ∀ x, foldedSetIterable iter X.env x = pure x := by intro _; rfl) : PE X (.ListComp elt [⟨tg, iter, ifs, 0⟩] scope pos) (tComp wi js g tt te) := by
  intro pins s σ H Q I h; rw [eval_ListComp]; refine wpAny_comprehension_free (use := none) rfl hs (closure_ok fun y hy hk => I.ok.has y.1 (S.out y hy hk)) S.kind S.loc (thn (hi pins s σ H _ I h) fun v s1 h1 => thn h1 fun itv s2 h2 => ?_)
  obtain ⟨it, fp, tn, J, H2, e, I2, T, st2, f2, hw⟩ := h2
  subst e; refine comp_block (RR := fun acc C => compPost (model X.prog X.w) X.A X.xe none (EP X pins σ Q) acc C) hc S go hb I2 T st2 f2 hw ?_
  intro C D ys H3 s3 m hC hD hDC I3 fC fD hn q; refine ⟨m, hn, fun h' hs' => ?_⟩
  refine ⟨.ref D, upd H3 D (.lst ys), I3.turned (it := C) (t' := s3.toks) (fun b o hb e => (hs'.2 b hb).trans e) (by rw [upd_ne (Ne.symm hDC)]; exact fC) ?_ (.inr (Znt I2.sz hC)) ?_ ?_, rfl, q D fD⟩
  . exact Nat.ne_of_gt (Nat.lt_of_lt_of_le I2.lt hC)
  . intro x c e z; obtain ⟨v, oc, q1, q2⟩ := I2.cell x c e
    rw [z] at q1; exact absurd (Nat.lt_of_lt_of_le (Heap.lt_size q1) hC) (Nat.lt_irrefl _)
  . intro p hp z; have := Heap.lt_size (I2.pin p hp).1
    rw [z] at this; exact absurd (Nat.lt_of_lt_of_le this hC) (Nat.lt_irrefl _)
theorem ps_comp {i : Nat} {y : Str} {py spos : Pos} (hN : X.N.Nodup) (hy : X.N[i]? = some y) (hx : Loc X.env.scope y) (hc : X.calm = true) (S : CompScope X scope N js) (go : GOwn js g) (hi : PI X tg iter wi)
    (hb : ∀ (C : Addr) (s₂ : Shared) (H₂ : Hp) (fp : List Addr), PG (cxC X scope C N s₂ H₂ fp) tg g /\ PTs (cxC X scope C N s₂ H₂ fp) ifs tt /\ PE (cxC X scope C N s₂ H₂ fp) elt te)
    (hsw : swapsWith (.ListComp elt [⟨tg, iter, ifs, 0⟩] scope pos) (some (.Name y py)) spos.line X.env = pure true)
    (hs : ∀ x, foldedSetIterable iter X.env x = pure x := by intro _; rfl) (hf : X.fn y = true ∨ X.env.scope.names.lookup y = some .local := by first | exact .inl rfl | exact .inr rfl | assumption) :
    PS X (.Assign [.Name y py] (.ListComp elt [⟨tg, iter, ifs, 0⟩] scope pos) spos) (sComp i wi js g tt te) := by
  intro pins s σ H D I h; rw [exec_Assign_Name_used _ _ _ _ hsw]; refine wpAny_bind (wpAny_standAt (wpAny_bind ?_))
  show wpAny _ X.A (do let _ ← comprehension (.ListComp elt [⟨tg, iter, ifs, 0⟩] scope pos) scope X.env _ (newList []) false (eval iter X.env) (some (assign (.Name y py) X.env))) _ _ s
  refine wpAny_bind (thn (wpAny_comprehension_free (use := some (assign (.Name y py) X.env)) (Q := fun _ s' => SP X pins D .next s') rfl hs (closure_ok fun y hy hk => I.ok.has y.1 (S.out y hy hk)) S.kind S.loc
    (thn (hi pins s σ H _ I h) fun v s1 h1 => thn h1 fun itv s2 h2 => ?_)) fun _ s' hq => wpAny_pure (wpAny_pure hq))
  obtain ⟨it, fp, tn, J, H2, e, I2, T, st2, f2, hw⟩ := h2
  subst e; refine comp_block (RR := fun acc C => compPost (model X.prog X.w) X.A X.xe (some (assign (.Name y py) X.env)) (fun _ s' => SP X pins D .next s') acc C) hc S go hb I2 T st2 f2 hw ?_
  intro C Da ys H3 s3 m hC hD hDC I3 fC fD hn q; have cne : ∀ x c, X.env.cells.lookup x = some c -> c ≠ C := fun x c e z => by
    obtain ⟨v, oc, q1, q2⟩ := I2.cell x c e
    rw [z] at q1; exact absurd (Nat.lt_of_lt_of_le (Heap.lt_size q1) hC) (Nat.lt_irrefl _)
  have lne : C ≠ X.env.locals := Nat.ne_of_gt (Nat.lt_of_lt_of_le I2.lt hC)
  show wpAny _ X.A (assign (.Name y py) X.env (.ref Da)) _ _ _
  refine wpAny_assign_Name (store_ok2 (v := .ref Da) I3 hN hy hx rfl (fun s4 I4 hs4 => ?_) hf)
  obtain ⟨a, hsb, ha⟩ := hs4
  have aC : C ≠ a := by
    rcases ha with z | z
    . rw [z]; exact lne
    . exact Ne.symm (cne y a z)
  refine ⟨m, hn.sameBut hsb aC, fun h' hs' => ?_⟩
  refine ⟨_, _, I4.turned (it := C) (t' := s4.toks) (fun b o hb e => (hs'.2 b hb).trans e) (by rw [upd_ne (Ne.symm hDC)]; exact fC) lne (.inr (Znt I2.sz hC)) cne ?_, q Da fD⟩
  intro p hp z; have := Heap.lt_size (I2.pin p hp).1
  rw [z] at this; exact absurd (Nat.lt_of_lt_of_le this hC) (Nat.lt_irrefl _)
end
end L2
namespace L2
open PySem PySem.Spec PyProof.Rows
def Its (x : Str) : It := ⟨fun i _ => i < x.cps.size, fun i H v H' => H' = H /\ ∃ c, x.cps[i]? = some c /\ v = .str ⟨#[c]⟩, fun i _ => x.cps.size <= i⟩
theorem turn_ascii {P : Program} {w : World} {K : W.Frag} {tg : Expr} (it : Addr) (x : Str) (t : Tok) : Turn P w K tg (Its x) [it] it (fun i h => h.IsStrIter it "str_ascii_iterator" x t i) where
  mem := by simp
  obj := fun i h st b hb => by
    have e : b = it := by simpa using hb
    subst e; obtain ⟨o, e, c, d⟩ := st
    exact ⟨o, e, fun v z => by rw [d] at z; cases z⟩
  keep := fun i h h' st k => let ⟨o, ho, r⟩ := st; ⟨o, k it (by simp) o ho, r⟩
  item := by
    intro X hP hw hK hc i pins s σ H E I hf st hg; subst hP hw hK; obtain ⟨f0, f1, f2, f3, f4, f5⟩ := hf it (by simp)
    have hi : i < x.cps.size := hg
    refine wpAny_pyNext_ascii_item st (c := x.cps[i]) (by simp [hi]) fun h' st' sb => ?_
    have I1 : Inv X pins σ H { s with heap := h', toks := s.toks + 1 } := I.turned (fun b o hb e => (sb.2 b hb).trans e) f0 f1 f3 f4 f5
    obtain ⟨o, e, c, d⟩ := id st'
    exact ⟨_, rfl, go_of (s := { s with heap := h', toks := s.toks + 1 }) e c d (by decide) ⟨.str ⟨#[x.cps[i]]⟩, H, I1, ⟨_, rfl⟩, ⟨rfl, _, by simp [hi], rfl⟩, st', fun b hb => (hf b hb).1⟩⟩
  done := by
    intro X hP hw hK hc i pins s σ H E I hf st hg; subst hP hw hK; obtain ⟨f0, f1, f2, f3, f4, f5⟩ := hf it (by simp)
    have hi : x.cps.size <= i := hg
    exact wpAny_pyNext_ascii_end (I.ok.hd hc) st (by simp [hi]) fun h' eb => ⟨rfl, I.turned (t' := s.toks) (fun b o hb e => eb b o hb e) f0 f1 f3 f4 f5⟩
  self := fun _ _ _ _ _ st h => wpAny_pyIter_striter_ascii st h
theorem turn_wide {P : Program} {w : World} {K : W.Frag} {tg : Expr} (it : Addr) (x : Str) (t : Tok) : Turn P w K tg (Its x) [it] it (fun i h => h.IsStrIter it "str_iterator" x t i) where
  mem := by simp
  obj := fun i h st b hb => by
    have e : b = it := by simpa using hb
    subst e; obtain ⟨o, e, c, d⟩ := st
    exact ⟨o, e, fun v z => by rw [d] at z; cases z⟩
  keep := fun i h h' st k => let ⟨o, ho, r⟩ := st; ⟨o, k it (by simp) o ho, r⟩
  item := by
    intro X hP hw hK hc i pins s σ H E I hf st hg; subst hP hw hK; obtain ⟨f0, f1, f2, f3, f4, f5⟩ := hf it (by simp)
    have hi : i < x.cps.size := hg
    refine wpAny_pyNext_wide_item st (c := x.cps[i]) (by simp [hi]) fun h' st' sb => ?_
    have I1 : Inv X pins σ H { s with heap := h', toks := s.toks + 1 } := I.turned (fun b o hb e => (sb.2 b hb).trans e) f0 f1 f3 f4 f5
    obtain ⟨o, e, c, d⟩ := id st'
    exact ⟨_, rfl, go_of (s := { s with heap := h', toks := s.toks + 1 }) e c d (by decide) ⟨.str ⟨#[x.cps[i]]⟩, H, I1, ⟨_, rfl⟩, ⟨rfl, _, by simp [hi], rfl⟩, st', fun b hb => (hf b hb).1⟩⟩
  done := by
    intro X hP hw hK hc i pins s σ H E I hf st hg; subst hP hw hK; obtain ⟨f0, f1, f2, f3, f4, f5⟩ := hf it (by simp)
    have hi : x.cps.size <= i := hg
    exact wpAny_pyNext_wide_end (I.ok.hd hc) st (by simp [hi]) fun h' eb => ⟨rfl, I.turned (t' := s.toks) (fun b o hb e => eb b o hb e) f0 f1 f3 f4 f5⟩
  self := fun _ _ _ _ _ st h => wpAny_pyIter_striter_wide st h
section
variable {X : Cx} {tg : Expr}
def iStr (tl : TE) : TI := fun σ H R => tl σ H fun x H1 => ∃ z, x = .str z /\ R (Its z) H1
theorem pi_str {l : Expr} {tl : TE} (hl : PE X l tl) : PI X tg l (iStr tl) := by
  intro pins s σ H R I h; refine thn (hl pins s σ H _ I h) fun v s1 ⟨x, H1, I1, r1, q1⟩ => ?_
  obtain ⟨z, rfl, q⟩ := q1
  obtain ⟨t, rfl⟩ := r1
  have fp : ∀ b ∈ [s1.heap.objs.size], FpOk X pins H1 b := fun b hb => by
    have e : b = s1.heap.objs.size := by simpa using hb
    subst e; exact I1.fpOk (Znr _) (I1.hok.fresh (Znr _))
  cases ha : z.cps.all (· < 128)
  . refine wpAny_pyIter_wide ha ?_
    exact ⟨s1.heap.objs.size, [s1.heap.objs.size], _, _, H1, rfl, I1.kept (t' := s1.toks) fun b o e => Zpu _ e, turn_wide _ z t, ⟨_, Heap.get?_push_size _ rfl, rfl, rfl⟩, fp, q⟩
  . refine wpAny_pyIter_ascii ha ?_
    exact ⟨s1.heap.objs.size, [s1.heap.objs.size], _, _, H1, rfl, I1.kept (t' := s1.toks) fun b o e => Zpu _ e, turn_ascii _ z t, ⟨_, Heap.get?_push_size _ rfl, rfl, rfl⟩, fp, q⟩
end
abbrev tx (l : List Nat) : Str := ⟨l.toArray⟩
theorem tx_cps (x : Str) : tx x.cps.toList = x := by cases x; simp
theorem tx_len (l : List Nat) : (tx l).length = l.length := by simp [Str.length]
theorem app_cps (x y : Str) : (x ++ y).cps.toList = x.cps.toList ++ y.cps.toList := by
  show (Str.append x y).cps.toList = _
  unfold Str.append; simp
def cut {α : Type} (xs : List α) (lo hi : Option Int) : List α := (xs.drop (HT.sIx xs.length 0 lo)).take (HT.sIx xs.length xs.length hi - HT.sIx xs.length 0 lo)
theorem cut_len {α : Type} (xs : List α) (lo hi : Option Int) : (cut xs lo hi).length <= xs.length := by
  unfold cut; rw [Zlk, List.length_drop]; omega
theorem clip_ix (n d : Nat) (v : Option Int) : (match v with | none => (d : Int) | some i => max 0 (min (if i < 0 then i + (n : Int) else i) (n : Int))) = ((HT.sIx n d v : Nat) : Int) := by
  cases v with
  | none => rfl
  | some i =>
    show max 0 (min (if i < 0 then i + (n : Int) else i) (n : Int)) = (((if i < 0 then (i + (n : Int)).toNat else min i.toNat n) : Nat) : Int)
    by_cases h : i < 0
    . rw [if_pos h, if_pos h]; omega
    . rw [if_neg h, if_neg h]; omega
theorem slice_ix (lo hi : Option Int) (n : Nat) : Builtin.Str.strSliceIndices lo hi 1 n = (List.range (HT.sIx n n hi - HT.sIx n 0 lo)).map (HT.sIx n 0 lo + ·) := by
  rw [<- sliceRange_one, <- clip_ix n 0 lo, <- clip_ix n n hi]; unfold Builtin.Str.strSliceIndices; simp only [show (1 : Int) > 0 by decide, if_true]
  cases lo <;> cases hi <;> rfl
theorem sIx_le' (n d : Nat) (hd : d <= n) (v : Option Int) : HT.sIx n d v <= n := by
  cases v with
  | none => exact hd
  | some i =>
    show (if i < 0 then (i + (n : Int)).toNat else min i.toNat n) <= n
    split <;> omega
theorem slice_cps (x : Str) (lo hi : Option Int) : (Txt.slice x lo hi).cps.toList = cut x.cps.toList lo hi := by
  have hl : x.cps.toList.length = x.length := by simp [Str.length]
  unfold Txt.slice cut; rw [hl, slice_ix]; have key := pick_run x.cps (HT.sIx x.length 0 lo) (HT.sIx x.length x.length hi - HT.sIx x.length 0 lo)
  split
  . rename_i h
    have h2 : (HT.sIx x.length x.length hi - HT.sIx x.length 0 lo) = x.length := by simpa using h
    have h3 := sIx_le' x.length x.length (Znr _) hi
    have h4 : HT.sIx x.length 0 lo = 0 ∨ x.length = 0 := by omega
    rw [h2]; rcases h4 with h4 | h4
    . rw [h4, List.drop_zero, Ztl (by rw [hl]; exact Znr _)]
    . have e : x.cps.toList = [] := List.eq_nil_of_length_eq_zero (by rw [hl]; exact h4)
      rw [e]; simp
  . simpa using key
theorem slice_tx (x : Str) (lo hi : Option Int) : Txt.slice x lo hi = tx (cut x.cps.toList lo hi) := by
  rw [<- slice_cps, tx_cps]
section
variable {X : Cx}
def rSlS : V -> Option Int -> Option Int -> Hp -> VK -> Prop := fun x lo hi H Q => ∃ z, x = .str z /\ z.length <= sizeLine /\ Q (.str (tx (cut z.cps.toList lo hi))) H
theorem isSlice_of {h : Heap} {sl : Addr} {vl vu : Value} {lo hi : Option Int} (hs : h.IsSliceOf sl vl vu .none) (pl : IsPart vl lo) (pu : IsPart vu hi) : ∃ l u : Option (Int × Tok), h.IsSlice sl l u none /\ l.map (·.1) = lo /\ u.map (·.1) = hi := by
  cases pl with
  | none =>
    cases pu with
    | none => exact ⟨none, none, hs, rfl, rfl⟩
    | int j t => exact ⟨none, some (j, t), hs, rfl, rfl⟩
  | int i t =>
    cases pu with
    | none => exact ⟨some (i, t), none, hs, rfl, rfl⟩
    | int j u => exact ⟨some (i, t), some (j, u), hs, rfl, rfl⟩
theorem sl_str : SlR X rSlS := by
  intro pins s σ H x v vl vu lo hi sl Q I rx hs pl pu h; obtain ⟨z, rfl, hz, q⟩ := h
  obtain ⟨t, rfl⟩ := rx
  obtain ⟨l, u, hS, e1, e2⟩ := isSlice_of hs pl pu
  refine ⟨"str", _, F.slot_str_getitem.lookup, typeIs_str _ _ _, wpAny_getItem_str_slice hS rfl ?_⟩
  have fin : ∀ t' k, EP X pins σ Q (.str (Txt.slice z lo hi) t') { s with toks := k } := fun t' k => ⟨.str (tx (cut z.cps.toList lo hi)), H, I.tok _, ⟨t', by rw [slice_tx]⟩, q⟩
  subst e1 e2; exact post_val_or_str ⟨Znt (Txt.slice_le z _ _) hz, fun t' k => fin t' k⟩
theorem strsAre_of {ns : List Str} : ∀ {us : List Value}, Vals (ns.map V.str) us -> StrsAre us ns := by
  induction ns with
  | nil => intro us r; rw [List.map_nil] at r; cases r; exact .nil
  | cons n ns ih =>
    intro us r; rw [List.map_cons] at r; cases r with
    | cons r1 r2 =>
      obtain ⟨t, e⟩ := r1
      subst e; exact .cons n t (ih r2)
def rJoin (K : W.Frag) : V -> List V -> Hp -> VK -> Prop := fun x vs H Q => ∃ sep p ys, x = .str sep /\ vs = [.ref p] /\ SqL K H p (ys.map V.str) /\ (ys.map (·.length)).sum + ys.length * sep.length <= 16777216 /\ Q (.str (Txt.join sep ys)) H
theorem mt_join : MtR X "str.join" (rJoin X.K) := by
  intro pins s σ H x vs v us Q I rx rv h; obtain ⟨sep, p, ys, rfl, rfl, hq, hz, q⟩ := h
  obtain ⟨t, rfl⟩ := rx
  obtain ⟨u, rfl, ru⟩ := rv.one
  cases ru
  obtain ⟨its, r, pl, _⟩ := I.list hq
  exact join_list pl.isList (by simpa using strsAre_of r) hz fun t' k => ⟨.str _, H, I.tok _, ⟨_, rfl⟩, q⟩
def rIsi (K : W.Frag) : List V -> Hp -> VK -> Prop := fun vs H Q => ∃ x T t b, vs = [x, .ty T] /\ TyOf K H x t /\ W.kitOne K t (.type T) = some b /\ Q (.bl b) H
theorem call_isi : CallR X (.builtin "isinstance") (rIsi X.K) := by
  intro pins s σ H xs us Q I r h; obtain ⟨x, T, t, b, rfl, ty, e, q⟩ := h
  obtain ⟨u, c, rfl, ru, rc⟩ : ∃ u c, us = [u, c] /\ RelV x u /\ RelV (.ty T) c := by
    cases r with
    | cons p q =>
      cases q with
      | cons p' q' =>
        cases q'
        exact ⟨_, _, rfl, p, p'⟩
  cases (show c = Value.type T from rc)
  exact isinst_ok I ru ty e fun tk => ⟨.bl b, H, I.tok _, rfl, q⟩
theorem boolsAre_of {ns : List Bool} : ∀ {us : List Value}, Vals (ns.map V.bl) us -> PyProof.Rows.LSm.BoolsAre us ns := by
  induction ns with
  | nil => intro us r; rw [List.map_nil] at r; cases r; exact .nil
  | cons n ns ih =>
    intro us r; rw [List.map_cons] at r; cases r with
    | cons r1 r2 =>
      have e := r1
      cases (show _ = Value.bool n from e)
      exact .cons n (ih r2)
def rAll (K : W.Frag) : List V -> Hp -> VK -> Prop := fun vs H Q => ∃ (p : Addr) (bs : List Bool), vs = [.ref p] /\ SqL K H p (bs.map V.bl) /\ Q (.bl (bs.all id)) H
def rSum (K : W.Frag) : List V -> Hp -> VK -> Prop := fun vs H Q => ∃ (p : Addr) (ns : List Int), vs = [.ref p] /\ SqL K H p (ns.map V.int) /\ Q (.int (List.sum ns)) H
theorem call_all (hc : X.calm = true) : CallR X (.builtin "all") (rAll X.K) := by
  intro pins s σ H xs us Q I r h; obtain ⟨p, bs, rfl, hq, q⟩ := h
  obtain ⟨u, rfl, ru⟩ := vals1 r
  cases ru
  obtain ⟨its, rv, pl, hz⟩ := I.list hq
  have hl := pl.isList
  have hb := boolsAre_of rv
  have hlt : p < s.heap.objs.size := by obtain ⟨_, e, _⟩ := hl; exact Heap.lt_size e
  refine call_all_walk (wpAny_pyIter_list hl ?_)
  refine ⟨s.heap.objs.size, [s.heap.objs.size, p], [s.heap.objs.size], its.toArray.size, _, _, fun i => (bs[i]?).getD true, rfl, Walks.list (A := X.A.in1) (I.ok.hd hc) _ p (Nat.ne_of_lt hlt) its.toArray,
    ⟨⟨_, Heap.get?_push_size _ rfl, rfl, rfl⟩, hl.push _⟩, fun i v s' Q' E' hP hQ => ?_, fun h' tk hk => ?_⟩
  . obtain ⟨b, e, rfl⟩ := hb.get i v (by simpa using hP)
    simp only [e, Option.getD_some] at hQ
    exact wpAny_truthy_bool hQ
  . have e : ((List.range its.toArray.size).all fun i => (bs[i]?).getD true) = bs.all id := by
      rw [Zst, hb.length]; exact PyProof.Rows.LSm.range_all bs
    rw [e]; exact ⟨.bl _, H, I.kept (PyProof.Rows.LSm.kept_iter hk), rfl, q⟩
theorem call_sum (hc : X.calm = true) : CallR X (.builtin "sum") (rSum X.K) := by
  intro pins s σ H xs us Q I r h; obtain ⟨p, ns, rfl, hq, q⟩ := h
  obtain ⟨u, rfl, ru⟩ := vals1 r
  cases ru
  obtain ⟨its, rv, pl, hz⟩ := I.list hq
  have hi := intsAre_of rv
  obtain ⟨xs, hx⟩ := hi.allInts.items
  have hl' : s.heap.IsList p (intItems xs) := hx ▸ pl.isList
  refine sum_intListG (I.ok.hd hc) hl' fun h' tk t' hk => ?_
  have e1 : ns = xs.toList.map (·.1) := by
    rw [<- nums_intItems, <- hx]; exact (show numsOf its.toArray.toList = ns from hi.numsOf).symm
  have e2 : preSum (numAt xs) xs.size = ns.sum := by
    rw [preSum_eq, Ztl (by simp), e1]
  rw [e2]; exact ⟨.int _, H, I.kept hk, ⟨_, rfl⟩, q⟩
end
section
variable {X : Cx}
def rEqNil (K : W.Frag) (neg : Bool) : R2 := fun x y H Q => ∃ (a b : Addr) (xs : List V), x = .ref a /\ y = .ref b /\ SqL K H a xs /\ SqL K H b [] /\ Q (.bl (if neg then !xs.isEmpty else xs.isEmpty)) H
theorem nil_items {us : List Value} (r : Vals [] us) : us = [] := by cases r; rfl
theorem op_eqNil (hu : X.A.units < cLine) : OpR X (compareOp .Eq) (rEqNil X.K false) := by
  intro pins s σ H x y v u Q I rx ry h; obtain ⟨a, b, xs, rfl, rfl, h1, h2, q⟩ := h
  cases rx
  cases ry
  obtain ⟨its, r1, p1, _⟩ := I.list h1
  obtain ⟨its2, r2, p2, _⟩ := I.list h2
  have e2 := nil_items r2
  subst e2; have hl := r1.length
  cases xs with
  | nil =>
    have e1 := nil_items r1
    subst e1; exact SeqAt.eq_listAt (e := fun _ => true) p1.isList p2.isList rfl hu (fun j h => absurd h (by simp)) ⟨.bl true, H, I, rfl, q⟩
  | cons z zs =>
    exact SeqAt.eq_list_lengthsAt p1.isList p2.isList (by simp only [Zst, <- hl]; simp) hu ⟨.bl false, H, I, rfl, q⟩
end
end L2
namespace L2
open PySem PySem.Spec PyProof.Rows
def mB (x : V) (k : Bool -> Prop) : Prop := match x with | .bl b => k b | _ => False
def mI (x : V) (k : Int -> Prop) : Prop := match x with | .int b => k b | _ => False
def mS (x : V) (k : Str -> Prop) : Prop := match x with | .str b => k b | _ => False
def mR (x : V) (k : Addr -> Prop) : Prop := match x with | .ref b => k b | _ => False
theorem mB_eq (x : V) (k : Bool -> Prop) : mB x k = ∃ b, x = .bl b /\ k b := by
  cases x <;> simp [mB]
theorem mI_eq (x : V) (k : Int -> Prop) : mI x k = ∃ b, x = .int b /\ k b := by
  cases x <;> simp [mI]
theorem mS_eq (x : V) (k : Str -> Prop) : mS x k = ∃ b, x = .str b /\ k b := by
  cases x <;> simp [mS]
theorem mR_eq (x : V) (k : Addr -> Prop) : mR x k = ∃ b, x = .ref b /\ k b := by
  cases x <;> simp [mR]
theorem szl {n : Nat} (h : Nat.ble n 1000 = true) : n <= sizeLine := Znt (Nat.le_of_ble_eq_true h) (by decide)
theorem szl' {n : Nat} (h : n <= 1000) : n <= sizeLine := Znt h (by decide)
section
variable {X : Cx} {a b c e : Expr} {ta tb tc te : TE} {pos : Pos}
def vr (i : Nat) : TE := fun σ H Q => match σ[i]? with | some (some v) => Q v H | _ => False
theorem vr_eq (i : Nat) : vr i = tVar i := by
  funext σ H Q
  unfold vr tVar; apply propext
  cases σ[i]? with
  | none => simp
  | some o => cases o <;> simp
theorem xv (i : Nat) {x : Str} {pos : Pos} (hN : X.N[i]? = some x := by rfl) (hv : Vis X.env.scope x := by first | exact Or.inl rfl | exact Or.inr (Or.inl rfl) | exact Or.inr (Or.inr rfl)) (hd : (x == ("__debug__" : Str)) = false := by decide)
    (hcd : (x == ("__classdict__" : Str)) = false := by decide) : PE X (.Name x pos) (vr i) := by
  rw [vr_eq]; exact pe_var hN hv hd hcd
theorem OpR.imp {f : Value -> Value -> Sem Value} {r r' : R2} (h : OpR X f r) (hi : ∀ x y H Q, r' x y H Q -> r x y H Q) : OpR X f r' := fun pins s σ H x y v u Q I rx ry q => h pins s σ H x y v u Q I rx ry (hi x y H Q q)
theorem UnR.imp {f : Value -> Sem Value} {r r' : V -> Hp -> VK -> Prop} (h : UnR X f r) (hi : ∀ x H Q, r' x H Q -> r x H Q) : UnR X f r' := fun pins s σ H x v Q I rx q => h pins s σ H x v Q I rx (hi x H Q q)
theorem CallR.imp {f : Value} {r r' : List V -> Hp -> VK -> Prop} (h : CallR X f r) (hi : ∀ xs H Q, r' xs H Q -> r xs H Q) : CallR X f r' := fun pins s σ H xs us Q I rs q => h pins s σ H xs us Q I rs (hi xs H Q q)
theorem IxR.imp {r r' : R2} (h : IxR X r) (hi : ∀ x y H Q, r' x y H Q -> r x y H Q) : IxR X r' := fun value slice pins s σ H x y v u Q I rx ry q => h value slice pins s σ H x y v u Q I rx ry (hi x y H Q q)
theorem SlR.imp {r r' : V -> Option Int -> Option Int -> Hp -> VK -> Prop} (h : SlR X r) (hi : ∀ x l u H Q, r' x l u H Q -> r x l u H Q) : SlR X r' := fun pins s σ H x v vl vu lo hi' sl Q I rx hs pl pu q => h pins s σ H x v vl vu lo hi' sl Q I rx hs pl pu (hi x lo hi' H Q q)
def m2 (C : Int -> Int -> Prop) (g : Int -> Int -> V) : R2 := fun x y H Q => mI x fun i => mI y fun j => C i j /\ Q (g i j) H
def m20 (g : Int -> Int -> V) : R2 := fun x y H Q => mI x fun i => mI y fun j => Q (g i j) H
theorem m20_imp {g : Int -> Int -> V} (x y : V) (H : Hp) (Q : VK) (h : m20 g x y H Q) : rI0 g x y H Q := by
  unfold m20 at h; rw [mI_eq] at h; obtain ⟨i, rfl, h⟩ := h
  rw [mI_eq] at h; obtain ⟨j, rfl, h⟩ := h
  exact ⟨i, j, rfl, rfl, h⟩
theorem m2_imp {C : Int -> Int -> Prop} {g : Int -> Int -> V} (x y : V) (H : Hp) (Q : VK) (h : m2 C g x y H Q) : rI C g x y H Q := by
  unfold m2 at h; rw [mI_eq] at h; obtain ⟨i, rfl, h⟩ := h
  rw [mI_eq] at h; obtain ⟨j, rfl, hc, h⟩ := h
  exact ⟨i, j, rfl, rfl, hc, h⟩
theorem o_add : OpR X (binaryOp .Add) (m20 fun i j => .int (i + j)) := op_add.imp m20_imp
theorem o_sub : OpR X (binaryOp .Sub) (m20 fun i j => .int (i - j)) := op_sub.imp m20_imp
theorem o_mul : OpR X (binaryOp .Mult) (m2 CMul fun i j => .int (i * j)) := op_mul.imp m2_imp
theorem o_mod : OpR X (binaryOp .Mod) (m2 (fun _ j => 0 < j) fun i j => .int (i % j)) := op_mod.imp m2_imp
theorem o_pow : OpR X (binaryOp .Pow) (m2 CPow fun i j => .int (i ^ j.toNat)) := op_pow.imp m2_imp
theorem o_lt : OpR X (compareOp .Lt) (m20 fun i j => .bl (decide (i < j))) := op_lt.imp m20_imp
theorem o_le : OpR X (compareOp .LtE) (m20 fun i j => .bl (decide (i <= j))) := op_le.imp m20_imp
theorem o_gt : OpR X (compareOp .Gt) (m20 fun i j => .bl (decide (j < i))) := op_gt.imp m20_imp
theorem o_ge : OpR X (compareOp .GtE) (m20 fun i j => .bl (decide (j <= i))) := op_ge.imp m20_imp
def mAddS : R2 := fun x y H Q => mS x fun i => mS y fun j => i.length + j.length <= sizeLine /\ Q (.str (i ++ j)) H
theorem o_addS : OpR X (binaryOp .Add) mAddS := op_add_str.imp fun x y H Q h => by
  unfold mAddS at h; rw [mS_eq] at h; obtain ⟨i, rfl, h⟩ := h
  rw [mS_eq] at h; obtain ⟨j, rfl, hc, h⟩ := h
  exact ⟨i, j, rfl, rfl, hc, h⟩
def mEq : R2 := fun x y H Q => match x, y with
  | .int i, .int j => Q (.bl (decide (i = j))) H
  | .str i, .str j => Q (.bl (decide (i = j))) H
  | .bl i, .bl j => Q (.bl (decide (i = j))) H
  | .non, .non => Q (.bl true) H
  | .int _, .non => Q (.bl false) H | .non, .int _ => Q (.bl false) H
  | .str _, .non => Q (.bl false) H | .non, .str _ => Q (.bl false) H
  | .bl _, .non => Q (.bl false) H | .non, .bl _ => Q (.bl false) H
  | .int _, .str _ => Q (.bl false) H | .str _, .int _ => Q (.bl false) H
  | .bl _, .str _ => Q (.bl false) H | .str _, .bl _ => Q (.bl false) H
  | _, _ => False
def mNe : R2 := fun x y H Q => match x, y with
  | .int i, .int j => Q (.bl (!decide (i = j))) H
  | .str i, .str j => Q (.bl (!decide (i = j))) H
  | .bl i, .bl j => Q (.bl (!decide (i = j))) H
  | .non, .non => Q (.bl false) H
  | .int _, .non => Q (.bl true) H | .non, .int _ => Q (.bl true) H
  | .str _, .non => Q (.bl true) H | .non, .str _ => Q (.bl true) H
  | .bl _, .non => Q (.bl true) H | .non, .bl _ => Q (.bl true) H
  | .int _, .str _ => Q (.bl true) H | .str _, .int _ => Q (.bl true) H
  | .bl _, .str _ => Q (.bl true) H | .str _, .bl _ => Q (.bl true) H
  | _, _ => False
theorem o_eq : OpR X (compareOp .Eq) mEq := op_eq.imp fun x y H Q h => by
  unfold mEq at h; unfold rEq; split at h <;> first | exact h.elim | (refine ⟨rfl, ?_⟩; first | simpa using h | exact h)
theorem o_ne : OpR X (compareOp .NotEq) mNe := op_ne.imp fun x y H Q h => by
  unfold mNe at h; unfold rNe; split at h <;> first | exact h.elim | (refine ⟨rfl, ?_⟩; first | simpa using h | exact h)
def mInS (neg : Bool) : R2 := fun x y H Q => mS x fun i => mS y fun j => ∃ c, i = tx [c] /\ Q (.bl (if neg then !decide (c ∈ j.cps.toList) else decide (c ∈ j.cps.toList))) H
theorem o_inS : OpR X (compareOp .In) (mInS false) := op_in_str.imp fun x y H Q h => by
  unfold mInS at h; rw [mS_eq] at h; obtain ⟨i, rfl, h⟩ := h
  rw [mS_eq] at h; obtain ⟨j, rfl, c, rfl, h⟩ := h
  refine ⟨_, j, rfl, rfl, ?_⟩
  have e := StrLaws.found_one j c
  have e' : (!(Builtin.Str.occurrences j (tx [c]) 0 j.length 1).isEmpty) = decide (c ∈ j.cps.toList) := e
  rw [e']; exact h
theorem o_notInS : OpR X (compareOp .NotIn) (mInS true) := op_notIn_str.imp fun x y H Q h => by
  unfold mInS at h; rw [mS_eq] at h; obtain ⟨i, rfl, h⟩ := h
  rw [mS_eq] at h; obtain ⟨j, rfl, c, rfl, h⟩ := h
  refine ⟨_, j, rfl, rfl, ?_⟩
  have e := StrLaws.found_one j c
  have e' : (!(Builtin.Str.occurrences j (tx [c]) 0 j.length 1).isEmpty) = decide (c ∈ j.cps.toList) := e
  rw [e']; exact h
theorem o_isN : OpR X (compareOp .Is) (fun x y H Q => match y with | .non => Q (.bl (decide (x = .non))) H | _ => False) := op_isN.imp fun x y H Q h => by
  cases y <;> first | exact ⟨rfl, h⟩ | exact h.elim
theorem o_notN : OpR X (compareOp .IsNot) (fun x y H Q => match y with | .non => Q (.bl (!decide (x = .non))) H | _ => False) := op_notN.imp fun x y H Q h => by
  cases y <;> first | exact ⟨rfl, h⟩ | exact h.elim
def mT (t : TE) : TT := fun σ H Q => t σ H fun x H' => mB x fun k => Q k H'
theorem mT_eq (t : TE) : mT t = tTest t := by
  funext σ H Q
  unfold mT tTest; congr 1
  funext x H'
  exact mB_eq x _
theorem mT_eqB (t : TE) : mT t = tB t := by
  funext σ H Q
  unfold mT tB; congr 1
  funext x H'
  exact mB_eq x _
theorem t_cmp {op : CmpOp} {r : R2} (ho : OpR X (compareOp op) r) (ha : PE X a ta) (hb : PE X b tb) (hm : behindInMarks op b = false := by first | exact nomark _ | rfl) : PT X (.Compare a [op] [b] pos) (mT (tOp r ta tb)) := by
  rw [mT_eq]; exact pt_cmpR ho ha hb hm
theorem x_cmp {op : CmpOp} {r : R2} (ho : OpR X (compareOp op) r) (ha : PE X a ta) (hb : PE X b tb) (hm : behindInMarks op b = false := by first | exact nomark _ | rfl) : PE X (.Compare a [op] [b] pos) (tOp r ta tb) := pe_cmpR ho ha hb hm
def mChain (r r' : R2) (ta tb tc : TE) : TE := fun σ H Q => ta σ H fun x H1 => tb σ H1 fun y H2 => r x y H2 fun z H3 => mB z fun k => (if k = true then tc σ H3 fun w' H4 => r' y w' H4 Q else Q (.bl false) H3)
theorem mChain_eq (r r' : R2) (ta tb tc : TE) : mChain r r' ta tb tc = tChain r r' ta tb tc := by
  funext σ H Q
  unfold mChain tChain; congr 1
  funext x H1
  congr 1
  funext y H2
  congr 1
  funext z H3
  exact mB_eq z _
theorem x_chain {op op' : CmpOp} {r r' : R2} (ho : OpR X (compareOp op) r) (ho' : OpR X (compareOp op') r') (ha : PE X a ta) (hb : PE X b tb) (hc : PE X c tc)
    (hm : lastMarks [op, op'] [b, c] = false := by with_unfolding_all rfl) : PE X (.Compare a [op, op'] [b, c] pos) (mChain r r' ta tb tc) := by
  rw [mChain_eq]; exact pe_chain ho ho' ha hb hc hm
theorem t_chain {op op' : CmpOp} {r r' : R2} (ho : OpR X (compareOp op) r) (ho' : OpR X (compareOp op') r') (ha : PE X a ta) (hb : PE X b tb) (hc : PE X c tc)
    (hm : lastMarks [op, op'] [b, c] = false := by with_unfolding_all rfl) : PT X (.Compare a [op, op'] [b, c] pos) (mT (mChain r r' ta tb tc)) := by
  rw [mT_eq, mChain_eq]; exact pt_chain ho ho' ha hb hc hm
theorem t_val {t : TE} (h : PE X e t) (he : ∀ whole, isTrue e X.env whole = (do let v ← whole; standAt e.pos; holding [v] (truthy v)) := by intro _; rfl) : PT X e (mT t) := by
  rw [mT_eqB]; exact pt_val h he
def mAndV (ta tb : TE) : TE := fun σ H Q => ta σ H fun x H1 => mB x fun c => if c = true then tb σ H1 Q else Q (.bl false) H1
def mOrV (ta tb : TE) : TE := fun σ H Q => ta σ H fun x H1 => mB x fun c => if c = true then Q (.bl true) H1 else tb σ H1 Q
def mNotV (ta : TE) : TE := fun σ H Q => ta σ H fun x H1 => mB x fun c => Q (.bl (!c)) H1
theorem x_and {rest : List Expr} (ha : PE X a ta) (hb : PE X (.BoolOp .And (b :: rest) pos) tb) : PE X (.BoolOp .And (a :: b :: rest) pos) (mAndV ta tb) := by
  have : mAndV ta tb = tAndV ta tb := by
    funext σ H Q; unfold mAndV tAndV; congr 1; funext x H1; exact mB_eq x _
  rw [this]; exact pe_and ha hb
theorem x_or {rest : List Expr} (ha : PE X a ta) (hb : PE X (.BoolOp .Or (b :: rest) pos) tb) : PE X (.BoolOp .Or (a :: b :: rest) pos) (mOrV ta tb) := by
  have : mOrV ta tb = tOrV ta tb := by
    funext σ H Q; unfold mOrV tOrV; congr 1; funext x H1; exact mB_eq x _
  rw [this]; exact pe_or ha hb
theorem x_not (ha : PE X a ta) : PE X (.UnaryOp .Not a pos) (mNotV ta) := by
  have : mNotV ta = tNotV ta := by
    funext σ H Q; unfold mNotV tNotV; congr 1; funext x H1; exact mB_eq x _
  rw [this]; exact pe_not ha
theorem x_neg (ha : PE X a ta) : PE X (.UnaryOp .USub a pos) (tUn (fun x H Q => mI x fun i => Q (.int (-i)) H) ta) := pe_un (un_neg.imp fun x H Q h => by
  rw [mI_eq] at h; obtain ⟨i, rfl, h⟩ := h
  exact ⟨i, rfl, h⟩) ha
def mIxL (K : W.Frag) : R2 := fun x y H Q => mR x fun p => mI y fun i => ∃ xs, SqL K H p xs /\ ∃ v, atI xs i = some v /\ Q v H
def mIxT (K : W.Frag) : R2 := fun x y H Q => mR x fun p => mI y fun i => ∃ xs, SqT K H p xs /\ ∃ v, atI xs i = some v /\ Q v H
def mIxS : R2 := fun x y H Q => mS x fun z => mI y fun i => z.length <= sizeLine /\ ∃ c, atI z.cps.toList i = some c /\ Q (.str (tx [c])) H
theorem i_list : IxR X (mIxL X.K) := ix_list.imp fun x y H Q h => by
  unfold mIxL at h; rw [mR_eq] at h; obtain ⟨p, rfl, h⟩ := h
  rw [mI_eq] at h; obtain ⟨i, rfl, xs, hq, v, hv, h⟩ := h
  exact ⟨p, xs, i, v, rfl, rfl, hq, hv, h⟩
theorem i_tup : IxR X (mIxT X.K) := ix_tup.imp fun x y H Q h => by
  unfold mIxT at h; rw [mR_eq] at h; obtain ⟨p, rfl, h⟩ := h
  rw [mI_eq] at h; obtain ⟨i, rfl, xs, hq, v, hv, h⟩ := h
  exact ⟨p, xs, i, v, rfl, rfl, hq, hv, h⟩
theorem i_str : IxR X mIxS := ix_str.imp fun x y H Q h => by
  unfold mIxS at h; rw [mS_eq] at h; obtain ⟨z, rfl, h⟩ := h
  rw [mI_eq] at h; obtain ⟨i, rfl, hz, c, hc, h⟩ := h
  exact ⟨z, i, c, rfl, rfl, hz, hc, h⟩
theorem x_ix {r : R2} (hr : IxR X r) (ha : PE X a ta) (hb : PE X b tb) (hs : PlainIx b := by exact fun _ _ => rfl) : PE X (.Subscript a b pos) (tOp r ta tb) := pe_ix hr ha hb hs
def mPart (t : TE) : TO := fun σ H Q => t σ H fun x H1 => mI x fun i => Q (some i) H1
theorem p_some (h : PE X e te) : PO X (some e) (mPart te) := by
  have : mPart te = tPart te := by
    funext σ H Q; unfold mPart tPart; congr 1; funext x H1; exact mI_eq x _
  rw [this]; exact po_some h
def mSlS : V -> Option Int -> Option Int -> Hp -> VK -> Prop := fun x lo hi H Q => mS x fun z => z.length <= sizeLine /\ Q (.str (tx (cut z.cps.toList lo hi))) H
theorem s_str : SlR X mSlS := sl_str.imp fun x l u H Q h => by
  unfold mSlS at h; rw [mS_eq] at h; obtain ⟨z, rfl, hz, h⟩ := h
  exact ⟨z, rfl, hz, h⟩
def mSlL (K : W.Frag) : V -> Option Int -> Option Int -> Hp -> VK -> Prop := fun x lo hi H Q => mR x fun a => ∃ xs, SqL K H a xs /\ ∀ p, H p = none -> Q (.ref p) (upd H p (.lst (cut xs lo hi)))
theorem s_list : SlR X (mSlL X.K) := sl_list.imp fun x l u H Q h => by
  unfold mSlL at h; rw [mR_eq] at h; obtain ⟨a, rfl, xs, hq, h⟩ := h
  exact ⟨a, xs, rfl, hq, h⟩
theorem c_lenS : CallR X (.builtin "len") (fun vs H Q => match vs with | [.str z] => z.length <= sizeLine /\ Q (.int z.length) H | _ => False) := call_len_str.imp fun vs H Q h => by
  split at h
  . rename_i z
    exact ⟨z, rfl, h.1, h.2⟩
  . exact h.elim
theorem c_lenL : CallR X (.builtin "len") (fun vs H Q => match vs with | [.ref p] => ∃ ys, (SqL X.K H p ys ∨ SqT X.K H p ys) /\ Q (.int ys.length) H | _ => False) := call_len_seq.imp fun vs H Q h => by
  split at h
  . rename_i p
    obtain ⟨ys, hq, h⟩ := h
    exact ⟨p, ys, rfl, hq, h⟩
  . exact h.elim
theorem c_int : CallR X (.type "int") (fun vs H Q => match vs with | [.bl k] => Q (.int (if k then 1 else 0)) H | _ => False) := call_int1.imp fun vs H Q h => by
  split at h
  . rename_i k
    exact .inr ⟨k, rfl, h⟩
  . exact h.elim
end
inductive Kd where | non | bl | int | str | lst | tup | dct
def kdT : Kd -> String | .non => "NoneType" | .bl => "bool" | .int => "int" | .str => "str" | .lst => "list" | .tup => "tuple" | .dct => "dict"
def Kof (H : Hp) : V -> Kd -> Prop
  | .non, .non => True | .bl _, .bl => True | .int _, .int => True | .str _, .str => True
  | .ref a, .lst => (∃ xs, H a = some (.lst xs)) ∨ ∃ o xs, H a = some (.frz o (.lst xs))
  | .ref a, .tup => ∃ xs, H a = some (.tup xs)
  | .ref a, .dct => ∃ kvs, H a = some (.dK kvs)
  | _, _ => False
def isK : Kd -> Kd -> Bool | .non, .non => true | .bl, .bl => true | .int, .int => true | .int, .bl => true | .str, .str => true | .lst, .lst => true | .tup, .tup => true | .dct, .dct => true | _, _ => false
theorem kit_K (K : W.Frag) (want k : Kd) : W.kitOne K (.type (kdT k)) (.type (kdT want)) = some (isK want k) := by
  cases want <;> cases k <;> first | rfl | kernel_rfl
theorem ty_K {K : W.Frag} {H : Hp} {x : V} {k : Kd} (h : Kof H x k) : TyOf K H x (.type (kdT k)) := by
  cases x <;> cases k <;> first
    | exact h.elim
    | exact .non
    | exact .bl _
    | exact .int _
    | exact .str _
    | (obtain ⟨xs, e⟩ := h; exact .tup e)
    | (obtain ⟨xs, e⟩ := h; exact .dK e)
    | (rcases h with ⟨xs, e⟩ | ⟨o, xs, e⟩
       . exact .lst e
       . exact .frz e)
def mIsi (want : Kd) : List V -> Hp -> VK -> Prop := fun vs H Q => match vs with
  | [x, y] => y = .ty (kdT want) /\ ∃ k, Kof H x k /\ Q (.bl (isK want k)) H
  | _ => False
section
variable {X : Cx}
theorem c_isi (want : Kd) : CallR X (.builtin "isinstance") (mIsi want) := call_isi.imp fun vs H Q h => by
  unfold mIsi at h; split at h
  . rename_i x y
    obtain ⟨rfl, k, hk, h⟩ := h
    exact ⟨x, _, _, _, rfl, ty_K hk, kit_K X.K want k, h⟩
  . exact h.elim
variable {e : Expr} {te : TE} {p p2 pos : Pos} {T : Str}
def tIsi (want : Kd) (te : TE) : TE := fun σ H Q => te σ H fun x H1 => ∃ k, Kof H1 x k /\ Q (.bl (isK want k)) H1
theorem x_isi (want : Kd) (he : PE X e te) (hg : Gl X "isinstance") (hm : X.mg "isinstance" = none) (hgT : Gl X T) (hmT : X.mg T = none) (hT : bootBuiltins T = some (.type (kdT want)))
    (hs : starEach [e, .Name T p2] X.env = (false, eval e X.env) :: starEach [.Name T p2] X.env := by rfl) (hs2 : starEach [.Name T p2] X.env = (false, eval (.Name T p2) X.env) :: starEach [] X.env := by rfl)
    (hn : T ≠ "__name__" := by decide) (hd : (T == ("__debug__" : Str)) = false := by decide) (hpl : (backTo pos (starEach [.Name T p2] X.env)).any (·.1) = false := by rfl) :
    PE X (.Call (.Name "isinstance" p) [e, .Name T p2] [] pos) (tIsi want te) := by
  have h := pe_callB (X := X) (x := "isinstance") (p := p) (pos := pos) (c_isi want) hg hm PyProof.Rows.boot_isinstance (pa_cons he (pa_cons (pe_bltn (v := .ty (kdT want)) (pos := p2) hgT hmT hT rfl hn hd) pa_nil hs2) hs) (by decide) (by decide) hs hpl
  intro pins s σ H Q I q; exact h pins s σ H Q I (by
    show te σ H _
    have : (fun (x : V) (H1 : Hp) => mIsi want [x, .ty (kdT want)] H1 Q) = (fun x H1 => ∃ k, Kof H1 x k /\ Q (.bl (isK want k)) H1) := by
      funext x H1
      apply propext
      constructor
      . rintro ⟨_, z⟩; exact z
      . intro z; exact ⟨rfl, z⟩
    exact this ▸ q)
end
structure Callee (P : Program) (w : World) (K : W.Frag) (mg : Str -> Option Value) (base : Heap) (n : Nat) (x : Str) (ps : List Str) (sp : Sp) : Prop where
  ex : ∃ (f : Addr) (fd : FuncData), FnOk P w K mg base CX0 n f fd ps sp /\ mg x = some (.ref f) /\ W.keepIn K (.ref f) = true /\ Binds K fd ps []
section
variable {X : Cx} {n : Nat} {x : Str} {ps : List Str} {sp : Sp} {p pos : Pos} {e : Expr} {es : List Expr} {t : TA}
def tFn (sp : Sp) (t : TA) : TE := fun σ H Q => t σ H fun vs H1 => sp vs H1 Q E0
theorem x_fn (c : Callee X.prog X.w X.K X.mg X.base n x ps sp) (hr : Room n X.A) (hg : Gl X x) (ha : PA X (e :: es) t) (hdb : (x == ("__debug__" : Str)) = false := by decide)
    (he : starEach (e :: es) X.env = (false, eval e X.env) :: starEach es X.env := by rfl) (hpl : (backTo pos (starEach es X.env)).any (·.1) = false := by rfl) : PE X (.Call (.Name x p) (e :: es) [] pos) (tFn sp t) := by
  obtain ⟨f, fd, F, hm, hk, hb⟩ := c.ex
  have h := pe_call (X := X) (p := p) (pos := pos) (E := E0) F hr hg hm hk hb (dvs := []) .nil pass0 ha hdb he hpl
  intro pins s σ H Q I q; exact h pins s σ H Q I (by
    show t σ H _
    have : (fun (vs : List V) (H1 : Hp) => sp (vs ++ []) H1 Q E0) = (fun vs H1 => sp vs H1 Q E0) := by
      funext vs H1; rw [List.append_nil]
    rw [this]; exact q)
end
structure DefAt (K : W.Frag) (mg : Str -> Option Value) (x : Str) (st : Stmt) (ps : List Str) : Prop where
  ex : ∃ (f : Addr) (fd : FuncData), Fun K x x st f fd /\ mg x = some (.ref f) /\ Binds K fd ps []
theorem DefAt.ok {P : Program} {w : World} {K : W.Frag} {mg : Str -> Option Value} {base : Heap} {x : Str} {st : Stmt} {N ps : List Str} {k : Nat} {sp : Sp} (D : DefAt K mg x st ps) (S : FnScope N ps (defScope st)) (len : ∀ vs H Q E, sp vs H Q E -> vs.length = ps.length)
    (hbody : ∀ (f : Addr) (cdv : Value) (A : Around) (outer : List Env) (s : Shared) (H : Hp) (vs : List V) (Q : VK) (E : XK), Room k (A.deeper (envOfC x (defScope st) s.heap.objs.size f cdv)) -> sp vs H Q E →
      ∃ t, PSs (cxOf CX0 P w K mg base N x (defScope st) f cdv A outer s H E).nox (defBody st) t /\ t { nx := fun _ H' => Q .non H', rt := Q } (start N vs) H) : Callee P w K mg base (k + 1) x ps sp := by
  obtain ⟨f, fd, F, hm, hb⟩ := D.ex
  exact ⟨f, fd, F.ok S len (hbody f), hm, F.kp, hb⟩
def compOk (sc0 : Scope) (N0 : List Str) (scope : Scope) (N : List Str) (js : List (Option Nat)) : Bool :=
  (scope.kind == .function) && scope.names.all (fun y => y.2 != .cell) && scope.names.all (fun y => y.2 != .local || scope.names.lookup y.1 == some .local) && (js.length == N.length) &&
  (List.range js.length).all (fun i => match js[i]? with | some (some j) => (match N[i]? with | some x => N0[j]? == some x && scope.names.lookup x == some .free | none => false) | _ => true) &&
  scope.names.all (fun y => y.2 != .free || sc0.names.lookup y.1 == some .cell || sc0.names.lookup y.1 == some .free)
theorem CompScope.by {X : Cx} {scope : Scope} {N : List Str} {js : List (Option Nat)} (sc0 : Scope) (N0 : List Str) (h0 : X.env.scope = sc0) (hN : X.N = N0) (ok : compOk sc0 N0 scope N js = true) : CompScope X scope N js := by
  unfold compOk at ok; simp only [Bool.and_eq_true] at ok
  obtain ⟨⟨⟨⟨⟨h1, h2⟩, h3⟩, h4⟩, h5⟩, h6⟩ := ok
  refine ⟨by simpa using h1, fun y hy => ?_, fun y hy hk => ?_, by simpa using h4, fun i j e => ?_, fun y hy hk => ?_⟩
  . have := List.all_eq_true.mp h2 y hy
    simpa using this
  . have := List.all_eq_true.mp h3 y hy
    rw [hk] at this; simpa using this
  . have hi : i < js.length := (Zgs.mp e).1
    have := List.all_eq_true.mp h5 i (List.mem_range.mpr hi)
    rw [e] at this; cases q : N[i]? with
    | none => simp [q] at this
    | some x =>
      simp only [q, Bool.and_eq_true, beq_iff_eq] at this
      exact ⟨x, rfl, by rw [hN]; exact this.1, this.2⟩
  . have := List.all_eq_true.mp h6 y hy
    rw [hk] at this; have z : (sc0.names.lookup y.1 == some .cell) = true ∨ (sc0.names.lookup y.1 == some .free) = true := by simpa using this
    have ek : X.env.kindOf y.1 = sc0.names.lookup y.1 := by rw [<- h0]; rfl
    rw [ek]; rcases z with z | z
    . exact .inl (by simpa using z)
    . exact .inr (by simpa using z)
end L2
namespace L2
open PySem PySem.Spec PyProof.Rows
def notStar : Expr -> Bool | .Starred _ _ => false | _ => true
theorem star_cons {e : Expr} {es : List Expr} {env : Env} (h : notStar e = true) : starEach (e :: es) env = (false, eval e env) :: starEach es env := by
  cases e <;> first | rfl | cases h
theorem star_any {es : List Expr} {env : Env} {pos : Pos} (h : es.all notStar = true) : (backTo pos (starEach es env)).any (·.1) = false := by
  induction es with
  | nil => rfl
  | cons e es ih =>
    rw [List.all_cons, Bool.and_eq_true] at h; rw [star_cons h.1]; have := ih h.2
    show (false || (backTo pos (starEach es env)).any (·.1)) = false
    rw [this]; rfl
section
variable {X : Cx} {e o : Expr} {es : List Expr} {te to : TE} {t : TA} {x : Str} {p pos apos cpos : Pos} {id T : String} {r : List V -> Hp -> VK -> Prop}
theorem a_cons (ha : PE X e te) (hr : PA X es t) (h : notStar e = true := by rfl) : PA X (e :: es) (tCons te t) := pa_cons ha hr (star_cons h)
theorem x_callB (hc : CallR X (.builtin id) r) (hg : Gl X x) (hm : X.mg x = none) (hv : bootBuiltins x = some (.builtin id)) (ha : PA X (e :: es) t) (hn : x ≠ "__name__" := by decide) (hdb : (x == ("__debug__" : Str)) = false := by decide)
    (h1 : notStar e = true := by rfl) (h2 : es.all notStar = true := by rfl) : PE X (.Call (.Name x p) (e :: es) [] pos) (tCB r t) := pe_callB hc hg hm hv ha hn hdb (star_cons h1) (star_any h2)
theorem x_callTy (hc : CallR X (.type T) r) (hg : Gl X x) (hm : X.mg x = none) (hv : bootBuiltins x = some (.type T)) (ha : PA X (e :: es) t) (hn : x ≠ "__name__" := by decide) (hdb : (x == ("__debug__" : Str)) = false := by decide)
    (h1 : notStar e = true := by rfl) (h2 : es.all notStar = true := by rfl) : PE X (.Call (.Name x p) (e :: es) [] pos) (tCB r t) := pe_callTy hc hg hm hv ha hn hdb (star_cons h1) (star_any h2)
theorem x_fnc {n : Nat} {ps : List Str} {sp : Sp} (c : Callee X.prog X.w X.K X.mg X.base n x ps sp) (hr : Room n X.A) (hg : Gl X x) (ha : PA X (e :: es) t) (hdb : (x == ("__debug__" : Str)) = false := by decide)
    (h1 : notStar e = true := by rfl) (h2 : es.all notStar = true := by rfl) : PE X (.Call (.Name x p) (e :: es) [] pos) (tFn sp t) := x_fn c hr hg ha hdb (star_cons h1) (star_any h2)
theorem star_few {es : List Expr} {env : Env} {cpos : Pos} (h : es.all notStar = true) : (backTo cpos (starEach es env)).all (fun x => !x.1) = true := by
  induction es with
  | nil => rfl
  | cons e es ih =>
    rw [List.all_cons, Bool.and_eq_true] at h; rw [star_cons h.1]; show (!false && (backTo cpos (starEach es env)).all (fun x => !x.1)) = true
    rw [ih h.2]; rfl
theorem x_bm {name : Str} {r : V -> List V -> Hp -> VK -> Prop} (pa : PlainAttrs T) (slot : Slot T name id) (hty : typeOf (.builtin id) = pure (.type "method_descriptor")) (hm : MtR X id r) (ho : PE X o to) (ha : PA X (e :: es) t)
    (hbase : attributeBase o name X.env (eval o X.env) = eval o X.env := by rfl) (hline : (apos.endLine == cpos.line) = true := by rfl) (h1 : notStar e = true := by rfl) (h2 : es.all notStar = true := by rfl) (hn : es.length + 1 < 30 := by decide) :
    PE X (.Call (.Attribute o name apos) (e :: es) [] cpos) (tBM X.K T r to t) := by
  refine pe_bm pa slot hty hm ho ha hbase ?_ hline (star_cons h1) (star_any h2)
  rw [star_few (by rw [List.all_cons, h1, h2]; rfl)]
  show (true && true && decide (es.length + 1 + 0 + 0 < 30)) = true
  simp
  omega
theorem x_isin {p2 : Pos} {T : Str} (want : Kd) (he : PE X e te) (hg : Gl X "isinstance") (hm : X.mg "isinstance" = none) (hgT : Gl X T) (hmT : X.mg T = none) (hT : bootBuiltins T = some (.type (kdT want)))
    (hn : T ≠ "__name__" := by decide) (hd : (T == ("__debug__" : Str)) = false := by decide) (h1 : notStar e = true := by rfl) : PE X (.Call (.Name "isinstance" p) [e, .Name T p2] [] pos) (tIsi want te) :=
  x_isi want he hg hm hgT hmT hT (star_cons h1) (star_cons rfl) hn hd (star_any rfl)
end
end L2
namespace L2
open PySem PySem.Spec PyProof.Rows
theorem bb_len : bootBuiltins "len" = some (.builtin "len") := by decide +kernel
theorem bb_isinstance : bootBuiltins "isinstance" = some (.builtin "isinstance") := by decide +kernel
theorem bb_all : bootBuiltins "all" = some (.builtin "all") := by decide +kernel
theorem bb_sum : bootBuiltins "sum" = some (.builtin "sum") := by decide +kernel
theorem bb_sorted : bootBuiltins "sorted" = some (.builtin "sorted") := by decide +kernel
theorem bb_max : bootBuiltins "max" = some (.builtin "max") := by decide +kernel
theorem bb_list : bootBuiltins "list" = some (.type "list") := by decide +kernel
theorem bb_str : bootBuiltins "str" = some (.type "str") := by decide +kernel
theorem bb_int : bootBuiltins "int" = some (.type "int") := by decide +kernel
theorem bb_bool : bootBuiltins "bool" = some (.type "bool") := by decide +kernel
theorem bb_tuple : bootBuiltins "tuple" = some (.type "tuple") := by decide +kernel
theorem bb_dict : bootBuiltins "dict" = some (.type "dict") := by decide +kernel
end L2
namespace L2
theorem if_t {c : Bool} {A B : Prop} (h : c = true) (k : A) : if c = true then A else B := by rw [if_pos h]; exact k
theorem if_f {c : Bool} {A B : Prop} (h : c = false) (k : B) : if c = true then A else B := by rw [if_neg (by rw [h]; exact Bool.false_ne_true)]; exact k
theorem if_b {c : Bool} {A B : Prop} (ht : c = true -> A) (hf : c = false -> B) : if c = true then A else B := by
  cases h : c with
  | true => rw [if_pos rfl]; exact ht h
  | false => rw [if_neg Bool.false_ne_true]; exact hf h
end L2
namespace L2
open PySem PySem.Spec PyProof.Rows
structure Seqs (J : It) (xs : List V) (A : Hp -> Prop) : Prop where
  go : ∀ i H, i < xs.length -> A H -> J.go i H
  yld : ∀ i H x H', i < xs.length -> A H -> J.yld i H x H' -> H' = H /\ xs[i]? = some x
  stop : ∀ H, A H -> J.stop xs.length H
def signs (x : Str) : List V := x.cps.toList.map fun c => V.str (tx [c])
theorem seq_str (x : Str) : Seqs (Its x) (signs x) (fun _ => True) := by
  have hl : (signs x).length = x.cps.size := by simp [signs]
  refine ⟨fun i H hi _ => by rw [hl] at hi; exact hi, fun i H v H' _ _ ⟨e, c, hc, ev⟩ => ⟨e, ?_⟩, fun H _ => by rw [hl]; exact Znr _⟩
  subst ev; unfold signs; rw [Zgm, Array.getElem?_toList, hc]; rfl
def rangeV (lo : Int) (n : Nat) : List V := (List.range n).map fun (i : Nat) => V.int (lo + (i : Int))
theorem seq_range (lo : Int) (n : Nat) : Seqs (Itr lo n) (rangeV lo n) (fun _ => True) := by
  have hl : (rangeV lo n).length = n := by simp [rangeV]
  refine ⟨fun i H hi _ => by rw [hl] at hi; exact hi, fun i H v H' hi _ ⟨e, ev⟩ => ⟨e, ?_⟩, fun H _ => by rw [hl]; exact Znr _⟩
  subst ev; rw [hl] at hi; unfold rangeV; rw [Zgm, List.getElem?_range hi]; rfl
theorem seq_list (K : W.Frag) (a : Addr) (xs : List V) : Seqs (Itl K a) xs (fun H => SqL K H a xs) :=
  ⟨fun i H hi h => ⟨xs, xs[i], h, by simp [hi]⟩, fun i H x H' _ h ⟨e, y⟩ => ⟨e, y xs h⟩, fun H h => ⟨xs, h, Znr _⟩⟩
theorem seq_tup (K : W.Frag) (a : Addr) (xs : List V) : Seqs (Itt K a) xs (fun H => SqT K H a xs) :=
  ⟨fun i H hi h => ⟨xs, xs[i], h, by simp [hi]⟩, fun i H x H' _ h ⟨e, y⟩ => ⟨e, y xs h⟩, fun H h => ⟨xs, h, Znr _⟩⟩
theorem comp_seq {J : It} {xs : List V} {A : Hp -> Prop} {js : List (Option Nat)} {g : TG} {tt : TT} {te : TE} {σ : St} {H : Hp} {Q : List V -> Hp -> Prop} (S : Seqs J xs A) (hz : xs.length <= 100000) (Pv : Nat -> List V -> Hp -> Prop) (hA : ∀ i ys H, Pv i ys H -> A H /\ ys.length <= i) (h0 : Pv 0 [] H)
    (hs : ∀ i x ys H, xs[i]? = some x -> Pv i ys H -> g x (stC js σ) H fun σ2 H2 => tt σ2 H2 fun b H3 => if b = true then te σ2 H3 fun y H4 => Pv (i + 1) (ys ++ [y]) H4 else Pv (i + 1) ys H3)
    (hd : ∀ ys H, Pv xs.length ys H -> Q ys H) : wComp js g tt te σ J H Q := by
  refine ⟨fun i m ys H => m = xs.length - i /\ i <= xs.length /\ Pv i ys H, ⟨xs.length, by simp, Nat.zero_le _, h0⟩, ?_⟩
  rintro i m ys H ⟨rfl, hi, p⟩
  obtain ⟨pa, hy⟩ := hA i ys H p
  by_cases hlt : i < xs.length
  . refine .inr ⟨S.go i H hlt pa, Znl (m := 100000) (by omega) (by decide), Pv (i + 1), fun ys' H' p' => ⟨xs.length - (i + 1), by omega, rfl, hlt, p'⟩, fun x H' y => ?_⟩
    obtain ⟨rfl, hx⟩ := S.yld i H x H' hlt pa y
    exact hs i x ys H' hx p
  . have e : i = xs.length := by omega
    subst e; exact .inl ⟨S.stop H pa, hd ys H p⟩
theorem comp_pure {J : It} {xs : List V} {A : Hp -> Prop} {js : List (Option Nat)} {g : TG} {tt : TT} {te : TE} {σ : St} {H : Hp} {Q : List V -> Hp -> Prop} (S : Seqs J xs A) (hz : xs.length <= 100000) (p : V -> Bool) (f : V -> V) (hA : A H)
    (hs : ∀ (x : V) (ys : List V) (N : List V -> Hp -> Prop), x ∈ xs -> (p x = true -> N (ys ++ [f x]) H) -> (p x = false -> N ys H) -> g x (stC js σ) H fun σ2 H2 => tt σ2 H2 fun b H3 => if b = true then te σ2 H3 fun y H4 => N (ys ++ [y]) H4 else N ys H3)
    (hd : Q ((xs.filter p).map f) H) : wComp js g tt te σ J H Q := by
  refine comp_seq S hz (fun i ys H' => ys = ((xs.take i).filter p).map f /\ H' = H) (fun i ys H' ⟨e, e2⟩ => ⟨by rw [e2]; exact hA, ?_⟩) ⟨by simp, rfl⟩ (fun i x ys H' hx ⟨e, e2⟩ => ?_) (fun ys H' ⟨e, e2⟩ => ?_)
  . rw [e, Zlm]; exact Znt (List.length_filter_le _ _) (by rw [Zlk]; exact Nat.min_le_left _ _)
  . subst e2; have key : (xs.take (i + 1)).filter p = (xs.take i).filter p ++ (if p x = true then [x] else []) := take_succ_filter p xs i x hx
    refine hs x ys (fun ys' H3 => ys' = ((xs.take (i + 1)).filter p).map f /\ H3 = H') (Zmg hx) (fun h => ⟨?_, rfl⟩) (fun h => ⟨?_, rfl⟩)
    . rw [key, if_pos h, Zap, e]; rfl
    . rw [key, if_neg (by rw [h]; exact Bool.false_ne_true), List.append_nil, e]
  . subst e2; rw [e, Ztl (Znr _)]; exact hd
theorem for_seq {J : It} {xs : List V} {A : Hp -> Prop} {g : TG} {tb : TS} {D : Ends} {σ : St} {H : Hp} (S : Seqs J xs A) (Pv : Nat -> St -> Hp -> Prop) (hA : ∀ i σ H, Pv i σ H -> A H) (h0 : Pv 0 σ H)
    (hs : ∀ (i : Nat) (x : V) σ H, xs[i]? = some x -> Pv i σ H -> g x σ H fun σ2 H2 => tb { D with nx := Pv (i + 1), ct := Pv (i + 1), bk := D.nx } σ2 H2) (hd : ∀ σ H, Pv xs.length σ H -> D.nx σ H) :
    ∃ W : Nat -> Nat -> St -> Hp -> Prop, (∃ m, W 0 m σ H) /\ ∀ i m σ H, W i m σ H →
      (J.stop i H /\ D.nx σ H) ∨ (J.go i H /\ ∃ N : St -> Hp -> Prop, (∀ σ' H', N σ' H' -> ∃ m', m' < m /\ W (i + 1) m' σ' H') /\ ∀ x H', J.yld i H x H' -> g x σ H' fun σ2 H2 => tb { D with nx := N, ct := N, bk := D.nx } σ2 H2) := by
  refine ⟨fun i m σ H => m = xs.length - i /\ i <= xs.length /\ Pv i σ H, ⟨xs.length, by simp, Nat.zero_le _, h0⟩, ?_⟩
  rintro i m σ H ⟨rfl, hi, p⟩
  have pa := hA i σ H p
  by_cases hlt : i < xs.length
  . refine .inr ⟨S.go i H hlt pa, Pv (i + 1), fun σ' H' p' => ⟨xs.length - (i + 1), by omega, rfl, hlt, p'⟩, fun x H' y => ?_⟩
    obtain ⟨rfl, hx⟩ := S.yld i H x H' hlt pa y
    exact hs i x σ H' hx p
  . have e : i = xs.length := by omega
    subst e; exact .inl ⟨S.stop H pa, hd σ H p⟩
end L2
namespace L2
open PySem
theorem same_upd {H : Hp} {p : Addr} {o : HO} (h : H p = none) : Same H (upd H p o) := fun b u q => by rw [upd_ne (ne_of_none q h)]; exact q
theorem cut_to {α : Type} (xs : List α) (k : Nat) : cut xs none (some (k : Int)) = xs.take k := by
  unfold cut; rw [HT.sIx_none, HT.sIx_nat, List.drop_zero, Nat.sub_zero, <- List.take_take, Ztl (Znr _)]
theorem cut_map {α β : Type} (f : α -> β) (xs : List α) (lo hi : Option Int) : cut (xs.map f) lo hi = (cut xs lo hi).map f := by
  unfold cut; rw [Zlm, <- List.map_drop, <- List.map_take]
end L2
namespace L2
open PySem PySem.Spec PyProof.Rows
theorem at_upd {H : Hp} {p q : Addr} {o u : HO} (h : H p = some o) (hq : H q = none) : upd H q u p = some o := by rw [upd_ne (ne_of_none h hq)]; exact h
theorem atI_some {α : Type} {xs : List α} {i : Int} (h0 : 0 <= i) (h1 : i < xs.length) : ∃ v, atI xs i = some v /\ v ∈ xs := by
  obtain ⟨j, rfl⟩ := Zio h0
  have hj : j < xs.length := by omega
  exact ⟨xs[j], atI_nat (by simp [hj]), List.getElem_mem hj⟩
theorem glue_go (g : Array Nat) : ∀ (ps : List Str) (acc : Array Nat), (ps.foldl (fun acc p => acc ++ g ++ p.cps) acc).toList = acc.toList ++ (ps.map fun p => g.toList ++ p.cps.toList).flatten
  | [], acc => by simp
  | p :: ps, acc => by
    rw [List.foldl_cons, glue_go g ps]; simp
theorem join_cps (ps : List Str) : (Txt.join (tx []) ps).cps.toList = (ps.map fun p => p.cps.toList).flatten := by
  unfold Txt.join Builtin.Str.glued; rw [glue_go]; cases ps with
  | nil => simp [Str.empty]
  | cons p ps => simp
theorem join_tx (ps : List Str) : Txt.join (tx []) ps = tx (ps.map fun p => p.cps.toList).flatten := by rw [<- join_cps, tx_cps]
theorem join_signs (ts : List Nat) : Txt.join (tx []) (ts.map fun c => tx [c]) = tx ts := by
  rw [join_tx, List.map_map]; congr 1
  congr 1
  induction ts with
  | nil => rfl
  | cons c r ih => rw [List.map_cons, List.flatten_cons, ih]; rfl
theorem emp_eq : ("" : Str) = tx [] := by decide +kernel
end L2
namespace L2
open PySem PySem.Spec PyProof.Rows
theorem comp_str {js : List (Option Nat)} {g : TG} {tt : TT} {te : TE} {σ : St} {z : Str} {H : Hp} {Q : List V -> Hp -> Prop} (hz : z.length <= 100000) (p : Nat -> Bool) (f : Nat -> V)
    (hs : ∀ (c : Nat) (ys : List V) (N : List V -> Hp -> Prop), c ∈ z.cps.toList -> (p c = true -> N (ys ++ [f c]) H) -> (p c = false -> N ys H) -> g (.str (tx [c])) (stC js σ) H fun σ2 H2 => tt σ2 H2 fun b H3 => if b = true then te σ2 H3 fun y H4 => N (ys ++ [y]) H4 else N ys H3)
    (hd : Q ((z.cps.toList.filter p).map f) H) : wComp js g tt te σ (Its z) H Q := by
  have hl : (signs z).length = z.cps.toList.length := by simp [signs]
  refine comp_seq (seq_str z) (by rw [hl]; simpa [Str.length] using hz) (fun i ys H' => ys = ((z.cps.toList.take i).filter p).map f /\ H' = H) (fun i ys H' ⟨e, e2⟩ => ⟨trivial, ?_⟩) ⟨by simp, rfl⟩ (fun i x ys H' hx ⟨e, e2⟩ => ?_) (fun ys H' ⟨e, e2⟩ => ?_)
  . rw [e, Zlm]; exact Znt (List.length_filter_le _ _) (by rw [Zlk]; exact Nat.min_le_left _ _)
  . subst e2; unfold signs at hx; rw [Zgm] at hx; cases hc : z.cps.toList[i]? with
    | none => rw [hc] at hx; cases hx
    | some c =>
      rw [hc] at hx; cases hx
      have key : (z.cps.toList.take (i + 1)).filter p = (z.cps.toList.take i).filter p ++ (if p c = true then [c] else []) := take_succ_filter p _ i c hc
      refine hs c ys (fun ys' H3 => ys' = ((z.cps.toList.take (i + 1)).filter p).map f /\ H3 = H') (Zmg hc) (fun h => ⟨?_, rfl⟩) (fun h => ⟨?_, rfl⟩)
      . rw [key, if_pos h, Zap, e]; rfl
      . rw [key, if_neg (by rw [h]; exact Bool.false_ne_true), List.append_nil, e]
  . subst e2; rw [e, hl, Ztl (Znr _)]; exact hd
theorem all_filter {α : Type} (p : α -> Bool) : ∀ l : List α, (l.filter fun c => !p c).isEmpty = l.all p
  | [] => rfl
  | c :: l => by
    rw [List.filter_cons, List.all_cons]; cases h : p c with
    | true => simp [all_filter p l]
    | false => simp
end L2
namespace L2
open PySem
theorem tx_of (x : Str) : x = tx x.cps.toList := (tx_cps x).symm
end L2
namespace L2
open PySem
theorem sum_ones : ∀ ts : List Nat, ((ts.map fun c => tx [c]).map (·.length)).sum = ts.length
  | [] => rfl
  | c :: ts => by
    rw [List.map_cons, List.map_cons, List.sum_cons, sum_ones ts, Zlc]; show 1 + ts.length = _
    omega
end L2
namespace L2
open PySem
theorem cutE {t : TE} {σ : St} {H : Hp} {Q : VK} (R : VK) (h : ∀ k : VK, (∀ v H', R v H' -> k v H') -> t σ H k) (h2 : ∀ v H', R v H' -> Q v H') : t σ H Q := h Q h2
theorem cutT {t : TT} {σ : St} {H : Hp} {Q : Bool -> Hp -> Prop} (R : Bool -> Hp -> Prop) (h : ∀ k : Bool -> Hp -> Prop, (∀ v H', R v H' -> k v H') -> t σ H k) (h2 : ∀ v H', R v H' -> Q v H') : t σ H Q := h Q h2
theorem cutS {t : TS} {D : Ends} {σ : St} {H : Hp} (R : St -> Hp -> Prop) (h : ∀ nx : St -> Hp -> Prop, (∀ σ' H', R σ' H' -> nx σ' H') -> t { D with nx := nx } σ H) (h2 : ∀ σ' H', R σ' H' -> D.nx σ' H') : t D σ H := h D.nx h2
theorem Kof.same {H H' : Hp} {x : V} {k : Kd} (s : Same H H') (h : Kof H x k) : Kof H' x k := by
  cases x <;> cases k <;> first
    | exact h
    | (obtain ⟨xs, e⟩ := h; exact ⟨xs, s _ _ e⟩)
    | (rcases h with ⟨xs, e⟩ | ⟨o, xs, e⟩
       . exact .inl ⟨xs, s _ _ e⟩
       . exact .inr ⟨o, xs, s _ _ e⟩)
end L2
namespace L2
open PySem PySem.Spec PyProof.Rows
structure XE (X : Cx) (e : Expr) (t : TE) : Prop where
  h : PE X e t
structure XT (X : Cx) (e : Expr) (t : TT) : Prop where
  h : PT X e t
structure XW (X : Cx) (e : Expr) (t : TT) : Prop where
  h : PW X e t
structure XA (X : Cx) (es : List Expr) (t : TA) : Prop where
  h : PA X es t
structure XS (X : Cx) (st : Stmt) (t : TS) : Prop where
  h : PS X st t
structure XB (X : Cx) (st : List Stmt) (t : TS) : Prop where
  h : PSs X st t
structure XI (X : Cx) (tg iter : Expr) (t : TI) : Prop where
  h : PI X tg iter t
structure XG (X : Cx) (e : Expr) (t : TG) : Prop where
  h : PG X e t
structure XGs (X : Cx) (es : List Expr) (t : TGs) : Prop where
  h : PGs X es t
structure XO (X : Cx) (e : Option Expr) (t : TO) : Prop where
  h : PO X e t
structure XTs (X : Cx) (cs : List Expr) (t : TT) : Prop where
  h : PTs X cs t
structure XSet (X : Cx) (t : TSet) : Prop where
  h : PSet X t
structure XOp (X : Cx) (f : Value -> Value -> Sem Value) (r : R2) : Prop where
  h : OpR X f r
structure XIx (X : Cx) (r : R2) : Prop where
  h : IxR X r
structure XSl (X : Cx) (r : V -> Option Int -> Option Int -> Hp -> VK -> Prop) : Prop where
  h : SlR X r
structure XC (X : Cx) (f : Value) (r : List V -> Hp -> VK -> Prop) : Prop where
  h : CallR X f r
structure XM (X : Cx) (id : String) (r : V -> List V -> Hp -> VK -> Prop) : Prop where
  h : MtR X id r
namespace R
section
variable {X : Cx} {a b c e o i : Expr} {es rest : List Expr} {ta tb tc te to ti : TE} {tA tB' : TT} {t u : TA} {pos p p2 apos cpos pos' : Pos} {x : Str} {n : Nat} {r r' : R2}
theorem v (i : Nat) {x : Str} {pos : Pos} (hN : X.N[i]? = some x := by rfl) (hv : Vis X.env.scope x := by first | exact Or.inl rfl | exact Or.inr (Or.inl rfl) | exact Or.inr (Or.inr rfl)) (hd : (x == ("__debug__" : Str)) = false := by decide)
    (hcd : (x == ("__classdict__" : Str)) = false := by decide) : XE X (.Name x pos) (vr i) := ⟨xv i hN hv hd hcd⟩
theorem int {i j pos} : XE X (.Constant (.int i) j pos) (tC (.int i)) := ⟨pe_int⟩
theorem bl {b j pos} : XE X (.Constant (.bool b) j pos) (tC (.bl b)) := ⟨pe_bl⟩
theorem non {j pos} : XE X (.Constant .none j pos) (tC .non) := ⟨pe_non⟩
theorem str {x j pos} : XE X (.Constant (.str x) j pos) (tC (.str x)) := ⟨pe_str⟩
theorem gS {z : Str} (hg : Gl X x) (hm : ∃ t, X.mg x = some (.str z t)) (hd : (x == ("__debug__" : Str)) = false := by decide) : XE X (.Name x pos) (tC (.str z)) := by
  obtain ⟨t, hm⟩ := hm; exact ⟨pe_glob hg hm ⟨t, rfl⟩ hd⟩
theorem gI {z : Int} (hg : Gl X x) (hm : ∃ t, X.mg x = some (.int z t)) (hd : (x == ("__debug__" : Str)) = false := by decide) : XE X (.Name x pos) (tC (.int z)) := by
  obtain ⟨t, hm⟩ := hm; exact ⟨pe_glob hg hm ⟨t, rfl⟩ hd⟩
theorem gR {a : Addr} (hg : Gl X x) (hm : X.mg x = some (.ref a)) (hd : (x == ("__debug__" : Str)) = false := by decide) : XE X (.Name x pos) (tC (.ref a)) := ⟨pe_glob hg hm rfl hd⟩
theorem op {op : Operator} (ho : XOp X (binaryOp op) r) (ha : XE X a ta) (hb : XE X b tb) : XE X (.BinOp a op b pos) (tOp r ta tb) := ⟨pe_op ho.h ha.h hb.h⟩
theorem add : XOp X (binaryOp .Add) (m20 fun i j => .int (i + j)) := ⟨o_add⟩
theorem sub : XOp X (binaryOp .Sub) (m20 fun i j => .int (i - j)) := ⟨o_sub⟩
theorem mul : XOp X (binaryOp .Mult) (m2 CMul fun i j => .int (i * j)) := ⟨o_mul⟩
theorem mod : XOp X (binaryOp .Mod) (m2 (fun _ j => 0 < j) fun i j => .int (i % j)) := ⟨o_mod⟩
theorem pow : XOp X (binaryOp .Pow) (m2 CPow fun i j => .int (i ^ j.toNat)) := ⟨o_pow⟩
theorem addS : XOp X (binaryOp .Add) mAddS := ⟨o_addS⟩
theorem lt : XOp X (compareOp .Lt) (m20 fun i j => .bl (decide (i < j))) := ⟨o_lt⟩
theorem le : XOp X (compareOp .LtE) (m20 fun i j => .bl (decide (i <= j))) := ⟨o_le⟩
theorem gt : XOp X (compareOp .Gt) (m20 fun i j => .bl (decide (j < i))) := ⟨o_gt⟩
theorem ge : XOp X (compareOp .GtE) (m20 fun i j => .bl (decide (j <= i))) := ⟨o_ge⟩
theorem eq : XOp X (compareOp .Eq) mEq := ⟨o_eq⟩
theorem ne : XOp X (compareOp .NotEq) mNe := ⟨o_ne⟩
theorem inS : XOp X (compareOp .In) (mInS false) := ⟨o_inS⟩
theorem notInS : XOp X (compareOp .NotIn) (mInS true) := ⟨o_notInS⟩
theorem inQ : XOp X (compareOp .In) (rIn X.K false) := ⟨op_in_seq⟩
theorem notInQ : XOp X (compareOp .NotIn) (rIn X.K true) := ⟨op_notIn_seq⟩
theorem isN : XOp X (compareOp .Is) (fun x y H Q => match y with | .non => Q (.bl (decide (x = .non))) H | _ => False) := ⟨o_isN⟩
theorem notN : XOp X (compareOp .IsNot) (fun x y H Q => match y with | .non => Q (.bl (!decide (x = .non))) H | _ => False) := ⟨o_notN⟩
theorem eqNil (hu : X.A.units < cLine) : XOp X (compareOp .Eq) (rEqNil X.K false) := ⟨op_eqNil hu⟩
theorem cmp {op : CmpOp} (ho : XOp X (compareOp op) r) (ha : XE X a ta) (hb : XE X b tb) (hm : behindInMarks op b = false := by first | exact nomark _ | rfl) : XE X (.Compare a [op] [b] pos) (tOp r ta tb) := ⟨x_cmp ho.h ha.h hb.h hm⟩
theorem tcmp {op : CmpOp} (ho : XOp X (compareOp op) r) (ha : XE X a ta) (hb : XE X b tb) (hm : behindInMarks op b = false := by first | exact nomark _ | rfl) : XT X (.Compare a [op] [b] pos) (mT (tOp r ta tb)) := ⟨t_cmp ho.h ha.h hb.h hm⟩
theorem chain {op op' : CmpOp} (ho : XOp X (compareOp op) r) (ho' : XOp X (compareOp op') r') (ha : XE X a ta) (hb : XE X b tb) (hc : XE X c tc) (hm : lastMarks [op, op'] [b, c] = false := by with_unfolding_all rfl) : XE X (.Compare a [op, op'] [b, c] pos) (mChain r r' ta tb tc) := ⟨x_chain ho.h ho'.h ha.h hb.h hc.h hm⟩
theorem tchain {op op' : CmpOp} (ho : XOp X (compareOp op) r) (ho' : XOp X (compareOp op') r') (ha : XE X a ta) (hb : XE X b tb) (hc : XE X c tc) (hm : lastMarks [op, op'] [b, c] = false := by with_unfolding_all rfl) : XT X (.Compare a [op, op'] [b, c] pos) (mT (mChain r r' ta tb tc)) := ⟨t_chain ho.h ho'.h ha.h hb.h hc.h hm⟩
theorem neg (ha : XE X a ta) : XE X (.UnaryOp .USub a pos) (tUn (fun x H Q => mI x fun i => Q (.int (-i)) H) ta) := ⟨x_neg ha.h⟩
theorem val {t : TE} (h : XE X e t) (he : ∀ whole, isTrue e X.env whole = (do let v ← whole; standAt e.pos; holding [v] (truthy v)) := by intro _; rfl) : XT X e (mT t) := ⟨t_val h.h he⟩
theorem tnot (ha : XT X a tA) : XT X (.UnaryOp .Not a pos) (tNot tA) := ⟨pt_not ha.h⟩
theorem wand1 (ha : XT X a tA) : XW X (.BoolOp .And [a] pos) tA := ⟨pw_and1 ha.h⟩
theorem wor1 (ha : XT X a tA) : XW X (.BoolOp .Or [a] pos) tA := ⟨pw_or1 ha.h⟩
theorem wand (ha : XT X a tA) (hb : XW X (.BoolOp .And (b :: rest) pos) tB') : XW X (.BoolOp .And (a :: b :: rest) pos) (tAnd tA tB') := ⟨pw_and ha.h hb.h⟩
theorem wor (ha : XT X a tA) (hb : XW X (.BoolOp .Or (b :: rest) pos) tB') : XW X (.BoolOp .Or (a :: b :: rest) pos) (tOr tA tB') := ⟨pw_or ha.h hb.h⟩
theorem tw (h : XW X e tA) : XT X e tA := ⟨h.h.pt⟩
theorem one {op} (h : XE X a ta) : XE X (.BoolOp op [a] pos) ta := ⟨pe_one h.h⟩
theorem and (ha : XE X a ta) (hb : XE X (.BoolOp .And (b :: rest) pos) tb) : XE X (.BoolOp .And (a :: b :: rest) pos) (mAndV ta tb) := ⟨x_and ha.h hb.h⟩
theorem or (ha : XE X a ta) (hb : XE X (.BoolOp .Or (b :: rest) pos) tb) : XE X (.BoolOp .Or (a :: b :: rest) pos) (mOrV ta tb) := ⟨x_or ha.h hb.h⟩
theorem not (ha : XE X a ta) : XE X (.UnaryOp .Not a pos) (mNotV ta) := ⟨x_not ha.h⟩
theorem ix (hr : XIx X r) (ha : XE X a ta) (hb : XE X b tb) (hs : PlainIx b := by exact fun _ _ => rfl) : XE X (.Subscript a b pos) (tOp r ta tb) := ⟨x_ix hr.h ha.h hb.h hs⟩
theorem iL : XIx X (mIxL X.K) := ⟨i_list⟩
theorem iT : XIx X (mIxT X.K) := ⟨i_tup⟩
theorem iS : XIx X mIxS := ⟨i_str⟩
theorem pn : XO X none tNoPart := ⟨po_none⟩
theorem ps (h : XE X e te) : XO X (some e) (mPart te) := ⟨p_some h.h⟩
theorem sl {r : V -> Option Int -> Option Int -> Hp -> VK -> Prop} {lo hi : Option Expr} {tl th : TO} (hr : XSl X r) (he : XE X e te) (hl : XO X lo tl) (hu : XO X hi th) : XE X (.Subscript e (.Slice lo hi none p2) pos) (tSl r te tl th) := ⟨pe_slice hr.h he.h hl.h hu.h⟩
theorem sS : XSl X mSlS := ⟨s_str⟩
theorem sL : XSl X (mSlL X.K) := ⟨s_list⟩
theorem nil : XA X [] tNil := ⟨pa_nil⟩
theorem cons (ha : XE X e te) (hr : XA X es t) (h : notStar e = true := by rfl) : XA X (e :: es) (tCons te t) := ⟨a_cons ha.h hr.h h⟩
theorem tup {x1} (h : XA X es t) : XE X (.Tuple es x1 pos) (tTup t) := ⟨pe_tup h.h⟩
theorem lst (h : XA X es t) : XE X (.List es pos) (tLst t) := ⟨pe_lst h.h⟩
theorem callB {id : String} {r : List V -> Hp -> VK -> Prop} (hc : XC X (.builtin id) r) (hg : Gl X x) (hm : X.mg x = none) (hv : bootBuiltins x = some (.builtin id)) (ha : XA X (e :: es) t) (hn : x ≠ "__name__" := by decide) (hdb : (x == ("__debug__" : Str)) = false := by decide)
    (h1 : notStar e = true := by rfl) (h2 : es.all notStar = true := by rfl) : XE X (.Call (.Name x p) (e :: es) [] pos) (tCB r t) := ⟨x_callB hc.h hg hm hv ha.h hn hdb h1 h2⟩
theorem callTy {T : String} {r : List V -> Hp -> VK -> Prop} (hc : XC X (.type T) r) (hg : Gl X x) (hm : X.mg x = none) (hv : bootBuiltins x = some (.type T)) (ha : XA X (e :: es) t) (hn : x ≠ "__name__" := by decide) (hdb : (x == ("__debug__" : Str)) = false := by decide)
    (h1 : notStar e = true := by rfl) (h2 : es.all notStar = true := by rfl) : XE X (.Call (.Name x p) (e :: es) [] pos) (tCB r t) := ⟨x_callTy hc.h hg hm hv ha.h hn hdb h1 h2⟩
theorem lenS : XC X (.builtin "len") (fun vs H Q => match vs with | [.str z] => z.length <= sizeLine /\ Q (.int z.length) H | _ => False) := ⟨c_lenS⟩
theorem lenL : XC X (.builtin "len") (fun vs H Q => match vs with | [.ref p] => ∃ ys, (SqL X.K H p ys ∨ SqT X.K H p ys) /\ Q (.int ys.length) H | _ => False) := ⟨c_lenL⟩
theorem toInt : XC X (.type "int") (fun vs H Q => match vs with | [.bl k] => Q (.int (if k then 1 else 0)) H | _ => False) := ⟨c_int⟩
theorem all (hc : X.calm = true) : XC X (.builtin "all") (rAll X.K) := ⟨call_all hc⟩
theorem sum (hc : X.calm = true) : XC X (.builtin "sum") (rSum X.K) := ⟨call_sum hc⟩
theorem fn {n : Nat} {ps : List Str} {sp : Sp} (c : Callee X.prog X.w X.K X.mg X.base n x ps sp) (hr : Room n X.A) (hg : Gl X x) (ha : XA X (e :: es) t) (hdb : (x == ("__debug__" : Str)) = false := by decide)
    (h1 : notStar e = true := by rfl) (h2 : es.all notStar = true := by rfl) : XE X (.Call (.Name x p) (e :: es) [] pos) (tFn sp t) := ⟨x_fnc c hr hg ha.h hdb h1 h2⟩
theorem bm {T id : String} {name : Str} {r : V -> List V -> Hp -> VK -> Prop} (pa : PlainAttrs T) (slot : Slot T name id) (hty : typeOf (.builtin id) = pure (.type "method_descriptor")) (hm : XM X id r) (ho : XE X o to) (ha : XA X (e :: es) t)
    (hbase : attributeBase o name X.env (eval o X.env) = eval o X.env := by rfl) (hline : (apos.endLine == cpos.line) = true := by rfl) (h1 : notStar e = true := by rfl) (h2 : es.all notStar = true := by rfl) (hn : es.length + 1 < 30 := by decide) :
    XE X (.Call (.Attribute o name apos) (e :: es) [] cpos) (tBM X.K T r to t) := ⟨x_bm pa slot hty hm.h ho.h ha.h hbase hline h1 h2 hn⟩
theorem bm0 {T id : String} {name : Str} {r : V -> List V -> Hp -> VK -> Prop} (pa : PlainAttrs T) (slot : Slot T name id) (hty : typeOf (.builtin id) = pure (.type "method_descriptor")) (hm : XM X id r) (ho : XE X o to)
    (hbase : attributeBase o name X.env (eval o X.env) = eval o X.env := by rfl) (hline : (apos.endLine == cpos.line) = true := by rfl) : XE X (.Call (.Attribute o name apos) [] [] cpos) (tBM0 X.K T r to) := ⟨pe_bm0 pa slot hty hm.h ho.h hbase hline⟩
theorem append : XM X "list.append" rAppend := ⟨mt_append⟩
theorem join : XM X "str.join" (rJoin X.K) := ⟨mt_join⟩
theorem isi {T : Str} (want : Kd) (he : XE X e te) (hg : Gl X "isinstance") (hm : X.mg "isinstance" = none) (hgT : Gl X T) (hmT : X.mg T = none) (hT : bootBuiltins T = some (.type (kdT want)))
    (hn : T ≠ "__name__" := by decide) (hd : (T == ("__debug__" : Str)) = false := by decide) (h1 : notStar e = true := by rfl) : XE X (.Call (.Name "isinstance" p) [e, .Name T p2] [] pos) (tIsi want te) := ⟨x_isin want he.h hg hm hgT hmT hT hn hd h1⟩
theorem dnew : XE X (.Dict [] [] pos) (tDNewK) := ⟨pe_dnewK⟩
variable {tg : Expr}
theorem wL (hl : XE X e te) : XI X tg e (iList X.K te) := ⟨pi_list hl.h⟩
theorem wT (hl : XE X e te) : XI X tg e (iTup X.K te) := ⟨pi_tup hl.h⟩
theorem wS (hl : XE X e te) : XI X tg e (iStr te) := ⟨pi_str hl.h⟩
theorem range1 (hg : Gl X "range") (hm : X.mg "range" = none) (ha : XA X [a] t) (h1 : notStar a = true := by rfl) : XI X tg (.Call (.Name "range" p) [a] [] pos) (iRng1 t) := ⟨pi_range1 hg hm ha.h (star_cons h1)⟩
theorem gn {i : Nat} (hN : X.N.Nodup) (hi : X.N[i]? = some x := by rfl) (hx : Loc X.env.scope x := by first | exact Or.inl rfl | exact Or.inr rfl) (hf : X.fn x = true ∨ X.env.scope.names.lookup x = some .local := by first | exact .inl rfl | exact .inr rfl | assumption) : XG X (.Name x pos) (gName i) := ⟨pg_name hN hi hx hf⟩
theorem gsn : XGs X [] gNil := ⟨pgs_nil⟩
theorem gsc {tg1 : TG} {tgs : TGs} (h1 : XG X e tg1) (h2 : XGs X es tgs) (hs : (assignEach (e :: es) X.env).map (·.2) = assign e X.env :: (assignEach es X.env).map (·.2) := by rfl) : XGs X (e :: es) (gCons tg1 tgs) := ⟨pgs_cons h1.h h2.h hs⟩
theorem gt' {k : Nat} {tgs : TGs} (hc : X.calm = true) (h : XGs X es tgs) (hn : (assignEach es X.env).length = n := by rfl) (hst : (assignEach es X.env).findIdx? (·.1) = none := by rfl) : XG X (.Tuple es k pos) (gTup X.K n tgs) := ⟨pg_tup hc h.h hn hst⟩
theorem setL : XSet X rSetL := ⟨set_list⟩
theorem gsub {ts : TSet} (ho : XE X o to) (hi : XE X i ti) (hs : XSet X ts) (ha : ∀ v, assign (.Subscript o i pos) X.env v = (do
      let ov ← holding [v] (eval o X.env)
      let iv ← holding [v, ov] (eval i X.env)
      standAt pos
      holding [v, ov, iv] (setItem ov iv v)
      release [v, ov, iv] []) := by intro _; rfl) : XG X (.Subscript o i pos) (gSub to ti ts) := ⟨pg_sub ho.h hi.h hs.h ha⟩
end
section
variable {X : Cx} {c e tg iter elt : Expr} {ifs : List Expr} {te : TE} {tc tt : TT} {g : TG} {wi : TI} {st : Stmt} {ss sa sb : List Stmt} {t u : TS} {pos pos' spos py : Pos} {x y : Str} {scope : Scope} {N : List Str} {js : List (Option Nat)}
theorem ts0 : XTs X [] tTrue := ⟨pts_nil⟩
theorem ts1 (h : XT X c tt) (hx : X.xe = fun _ _ => False := by rfl) : XTs X [c] tt := ⟨pts_one h.h hx⟩
theorem comp (hc : X.calm = true) (S : CompScope X scope N js) (go : GOwn js g) (hi : XI X tg iter wi)
    (hb : ∀ (C : Addr) (s₂ : Shared) (H₂ : Hp) (fp : List Addr), XG (cxC X scope C N s₂ H₂ fp) tg g /\ XTs (cxC X scope C N s₂ H₂ fp) ifs tt /\ XE (cxC X scope C N s₂ H₂ fp) elt te)
    (hs : ∀ x, foldedSetIterable iter X.env x = pure x := by intro _; rfl) : XE X (.ListComp elt [⟨tg, iter, ifs, 0⟩] scope pos) (tComp wi js g tt te) :=
  ⟨pe_comp hc S go hi.h (fun C s₂ H₂ fp => let ⟨a, b, c⟩ := hb C s₂ H₂ fp; ⟨a.h, b.h, c.h⟩) hs⟩
theorem scomp {i : Nat} (hN : X.N.Nodup) (hy : X.N[i]? = some y) (hx : Loc X.env.scope y) (hc : X.calm = true) (S : CompScope X scope N js) (go : GOwn js g) (hi : XI X tg iter wi)
    (hb : ∀ (C : Addr) (s₂ : Shared) (H₂ : Hp) (fp : List Addr), XG (cxC X scope C N s₂ H₂ fp) tg g /\ XTs (cxC X scope C N s₂ H₂ fp) ifs tt /\ XE (cxC X scope C N s₂ H₂ fp) elt te)
    (hsw : swapsWith (.ListComp elt [⟨tg, iter, ifs, 0⟩] scope pos) (some (.Name y py)) spos.line X.env = pure true)
    (hs : ∀ x, foldedSetIterable iter X.env x = pure x := by intro _; rfl) (hf : X.fn y = true ∨ X.env.scope.names.lookup y = some .local := by first | exact .inl rfl | exact .inr rfl | assumption) :
    XS X (.Assign [.Name y py] (.ListComp elt [⟨tg, iter, ifs, 0⟩] scope pos) spos) (sComp i wi js g tt te) :=
  ⟨ps_comp hN hy hx hc S go hi.h (fun C s₂ H₂ fp => let ⟨a, b, c⟩ := hb C s₂ H₂ fp; ⟨a.h, b.h, c.h⟩) hsw hs hf⟩
theorem snil : XB X [] tNext := ⟨pss_nil⟩
theorem sone (h1 : XS X st t) : XB X [st] t := ⟨pss_one h1.h⟩
theorem scons (h1 : XS X st t) (h2 : XB X ss u) : XB X (st :: ss) (tSeq t u) := ⟨pss_cons h1.h h2.h⟩
theorem ret (he : XE X e te) : XS X (.Return (some e) pos) (tRet te) := ⟨ps_ret he.h⟩
theorem expr (he : XE X e te) (hs : swapsWith e none pos.line X.env = pure false := by rfl) : XS X (.Expr e pos) (tDrop te) := ⟨ps_expr he.h hs⟩
theorem ife (hc : XT X c tc) (ha : XB X sa t) (hb : XB X sb u) : XS X (.If c sa sb pos) (tIfS tc t u) := ⟨ps_if hc.h ha.h hb.h⟩
theorem set {i : Nat} (hN : X.N.Nodup) (he : XE X e te) (hi : X.N[i]? = some x := by rfl) (hx : Loc X.env.scope x := by first | exact Or.inl rfl | exact Or.inr rfl) (hs : swapsWith e (some (.Name x pos')) pos.line X.env = pure false := by rfl)
    (hf : X.fn x = true ∨ X.env.scope.names.lookup x = some .local := by first | exact .inl rfl | exact .inr rfl | assumption) : XS X (.Assign [.Name x pos'] e pos) (tAsg te (gName i)) := ⟨ps_set hN hi hx he.h hs hf⟩
theorem asg (he : XE X e te) (hg : XG X tg g) (hs : swapsWithSole [tg] e pos.line X.env = pure false := by rfl) (hw : swappedStores [tg] e X.env = pure none := by rfl) (h1 : (assignEach [tg] X.env).map (·.2) = [assign tg X.env] := by rfl) :
    XS X (.Assign [tg] e pos) (tAsg te g) := ⟨ps_asg he.h hg.h hs hw h1⟩
theorem for_ (hp : PassesOwn (model X.prog X.w) X.A X.env X.xe) (hc : X.calm = true) (hi : XI X tg iter wi) (hg : XG X tg g) (hb : XB X ss t) (hs : ∀ x, foldedSetIterable iter X.env x = pure x := by intro _; rfl) : XS X (.For tg iter ss [] pos) (tFor wi g t) := ⟨ps_for hp hc hi.h hg.h hb.h hs⟩
end
end R
theorem DefAt.go {P : Program} {w : World} {K : W.Frag} {mg : Str -> Option Value} {base : Heap} {x : Str} {st : Stmt} {N ps : List Str} {k : Nat} {sp : Sp} (D : DefAt K mg x st ps) (S : FnScope N ps (defScope st)) (len : ∀ vs H Q E, sp vs H Q E -> vs.length = ps.length)
    (hbody : ∀ (f : Addr) (cdv : Value) (A : Around) (outer : List Env) (s : Shared) (H : Hp) (vs : List V) (Q : VK) (E : XK), Room k (A.deeper (envOfC x (defScope st) s.heap.objs.size f cdv)) -> sp vs H Q E →
      ∃ t, XB (cxOf CX0 P w K mg base N x (defScope st) f cdv A outer s H E).nox (defBody st) t /\ t { nx := fun _ H' => Q .non H', rt := Q } (start N vs) H) : Callee P w K mg base (k + 1) x ps sp :=
  D.ok S len fun f cdv A outer s H vs Q E hr h => let ⟨t, h1, h2⟩ := hbody f cdv A outer s H vs Q E hr h; ⟨t, h1.h, h2⟩
theorem Fun.go {P : Program} {w : World} {K : W.Frag} {mg : Str -> Option Value} {base : Heap} {x qual : Str} {st : Stmt} {f : Addr} {fd : FuncData} {N ps : List Str} {k : Nat} {sp : Sp} (F : Fun K x qual st f fd) (S : FnScope N ps (defScope st)) (len : ∀ vs H Q E, sp vs H Q E -> vs.length = ps.length)
    (hbody : ∀ (cdv : Value) (A : Around) (outer : List Env) (s : Shared) (H : Hp) (vs : List V) (Q : VK) (E : XK), Room k (A.deeper (envOfC qual (defScope st) s.heap.objs.size f cdv)) -> sp vs H Q E →
      ∃ t, XB (cxOf CX0 P w K mg base N qual (defScope st) f cdv A outer s H E).nox (defBody st) t /\ t { nx := fun _ H' => Q .non H', rt := Q } (start N vs) H) : FnOk P w K mg base CX0 (k + 1) f fd ps sp :=
  F.ok S len fun cdv A outer s H vs Q E hr h => let ⟨t, h1, h2⟩ := hbody cdv A outer s H vs Q E hr h; ⟨t, h1.h, h2⟩
theorem def_at {K : W.Frag} {h : Heap} {mg : Str -> Option Value} {x : Str} {st : Stmt} {ps : List Str} {f : Addr} {od an : Option Addr} {sl : Array (Option Value)} {oc kV dc pm cd ct : Value} (X : K.In h) (G : h.Ns mainGlobals mg)
    (a : W.nsIn K mainGlobals x = some (some (.ref f))) (l : K.lookup f = some ⟨oc, od, .func (W.fnOf x x (defArgs st) (defBody st) (defScope st) .none kV dc pm an cd ct), sl⟩) (c : W.codeIn K cd x = true) (k : W.keepIn K (.ref f) = true)
    (hb : ∀ (kV doc pm : Value) (an : Option Addr) (cdv ct : Value) (us : List Value), us.length = ps.length -> bindArgs (W.fnOf x x (defArgs st) (defBody st) (defScope st) .none kV doc pm an cdv ct) ⟨us, []⟩ = pure (ps.zip us)) : DefAt K mg x st ps :=
  ⟨f, _, fun_mk l c k, W.mg_of X G a, (fun_mk (st := st) l c k).binds hb⟩
namespace R
section
variable {X : Cx} {K : W.Frag} {a b c e o i tg : Expr} {es rest : List Expr} {te to : TE} {t : TA} {pos p p2 apos cpos : Pos} {x : Str} {n : Nat}
theorem kiL (hK : X.K = K := by rfl) : XIx X (mIxL K) := hK ▸ iL
theorem kiT (hK : X.K = K := by rfl) : XIx X (mIxT K) := hK ▸ iT
theorem ksL (hK : X.K = K := by rfl) : XSl X (mSlL K) := hK ▸ sL
theorem kinQ (hK : X.K = K := by rfl) : XOp X (compareOp .In) (rIn K false) := hK ▸ inQ
theorem knotInQ (hK : X.K = K := by rfl) : XOp X (compareOp .NotIn) (rIn K true) := hK ▸ notInQ
theorem keqNil (hu : X.A.units < cLine) (hK : X.K = K := by rfl) : XOp X (compareOp .Eq) (rEqNil K false) := hK ▸ eqNil hu
theorem klenL (hK : X.K = K := by rfl) : XC X (.builtin "len") (fun vs H Q => match vs with | [.ref p] => ∃ ys, (SqL K H p ys ∨ SqT K H p ys) /\ Q (.int ys.length) H | _ => False) := hK ▸ lenL
theorem kall (hc : X.calm = true) (hK : X.K = K := by rfl) : XC X (.builtin "all") (rAll K) := hK ▸ all hc
theorem ksum (hc : X.calm = true) (hK : X.K = K := by rfl) : XC X (.builtin "sum") (rSum K) := hK ▸ sum hc
theorem kjoin (hK : X.K = K := by rfl) : XM X "str.join" (rJoin K) := hK ▸ join
theorem kbm {T id : String} {name : Str} {r : V -> List V -> Hp -> VK -> Prop} (pa : PlainAttrs T) (slot : Slot T name id) (hty : typeOf (.builtin id) = pure (.type "method_descriptor")) (hm : XM X id r) (ho : XE X o to) (ha : XA X (e :: es) t) (hK : X.K = K := by rfl)
    (hbase : attributeBase o name X.env (eval o X.env) = eval o X.env := by rfl) (hline : (apos.endLine == cpos.line) = true := by rfl) (h1 : notStar e = true := by rfl) (h2 : es.all notStar = true := by rfl) (hn : es.length + 1 < 30 := by decide) :
    XE X (.Call (.Attribute o name apos) (e :: es) [] cpos) (tBM K T r to t) := hK ▸ bm pa slot hty hm ho ha hbase hline h1 h2 hn
theorem kbm0 {T id : String} {name : Str} {r : V -> List V -> Hp -> VK -> Prop} (pa : PlainAttrs T) (slot : Slot T name id) (hty : typeOf (.builtin id) = pure (.type "method_descriptor")) (hm : XM X id r) (ho : XE X o to) (hK : X.K = K := by rfl)
    (hbase : attributeBase o name X.env (eval o X.env) = eval o X.env := by rfl) (hline : (apos.endLine == cpos.line) = true := by rfl) : XE X (.Call (.Attribute o name apos) [] [] cpos) (tBM0 K T r to) := hK ▸ bm0 pa slot hty hm ho hbase hline
theorem kwL (hl : XE X e te) (hK : X.K = K := by rfl) : XI X tg e (iList K te) := hK ▸ wL hl
theorem kwT (hl : XE X e te) (hK : X.K = K := by rfl) : XI X tg e (iTup K te) := hK ▸ wT hl
theorem kgt {k : Nat} {tgs : TGs} (hc : X.calm = true) (h : XGs X es tgs) (hK : X.K = K := by rfl) (hn : (assignEach es X.env).length = n := by rfl) (hst : (assignEach es X.env).findIdx? (·.1) = none := by rfl) : XG X (.Tuple es k pos) (gTup K n tgs) := hK ▸ gt' hc h hn hst
end
end R
end L2
namespace L2
open PySem PySem.Spec PyProof.Rows
section
variable {X : Cx}
def rToStr : List V -> Hp -> VK -> Prop := fun vs H Q => match vs with
  | [.int i] => (0 <= i /\ i < 10 ^ 40) /\ Q (.str (Str.ofString (toString i))) H
  | [.str z] => Q (.str z) H
  | _ => False
def rIntS : List V -> Hp -> VK -> Prop := fun vs H Q => match vs with
  | [.str z] => NumText.AllDigits z.cps.toList /\ z.cps.toList ≠ [] /\ z.length <= 640 /\ Q (.int (NumText.digitsVal z.cps.toList : Nat)) H
  | _ => False
end
def LET : List Nat := [97, 98, 99, 100, 101, 102, 103, 104, 105, 106, 107, 108, 109, 110, 111, 112, 113, 114, 115, 116, 117, 118, 119, 120, 121, 122]
def FIG : List Nat := [48, 49, 50, 51, 52, 53, 54, 55, 56, 57]
theorem let_eq : (("abcdefghijklmnopqrstuvwxyz" : Str)).cps.toList = LET := by decide +kernel
theorem fig_eq : (("0123456789" : Str)).cps.toList = FIG := by decide +kernel
def madeOf (x : V) (cs : List Nat) (n : Int) : Bool := match x with | .str z => decide (1 <= (z.length : Int)) && decide ((z.length : Int) <= n) && z.cps.toList.all (fun c => decide (c ∈ cs)) | _ => false
theorem madeOf_str (z : Str) (cs : List Nat) (n : Int) : madeOf (.str z) cs n = (decide (1 <= (z.length : Int)) && decide ((z.length : Int) <= n) && z.cps.toList.all (fun c => decide (c ∈ cs))) := rfl
def spMade : Sp := fun vs H Q _ => ∃ x sg n k, vs = [x, .str sg, .int n] /\ Kof H x k /\ (∀ z, x = .str z -> z.length <= 1000) /\ ∀ H', Same H H' -> Q (.bl (madeOf x sg.cps.toList n)) H'
def spTell (cs : List Nat) (n : Int) : Sp := fun vs H Q _ => ∃ x k, vs = [x] /\ Kof H x k /\ (∀ z, x = .str z -> z.length <= 1000) /\ ∀ H', Same H H' -> Q (.bl (madeOf x cs n)) H'
end L2
namespace L2
open PySem PySem.Spec PyProof.Rows
def isNm (z : Str) : Prop := 1 <= z.length /\ z.length <= 8 /\ ∀ c ∈ z.cps.toList, c ∈ LET
theorem inV_str (z : Str) (ns : List Str) : inV (.str z) (ns.map V.str) = decide (z ∈ ns) := by
  unfold inV; rw [List.any_map, Bool.eq_iff_iff, List.any_eq_true, decide_eq_true_iff]; constructor
  . rintro ⟨y, hy, e⟩
    have : y = z := by simpa [eqV] using e
    rw [<- this]; exact hy
  . intro h; exact ⟨z, h, by simp [eqV]⟩
theorem six {r : Int} (h0 : 0 <= r) (h1 : r < 6) : r = 0 ∨ r = 1 ∨ r = 2 ∨ r = 3 ∨ r = 4 ∨ r = 5 := by omega
namespace R
variable {X : Cx}
theorem max (hc : X.calm = true) : XC X (.builtin "max") (fun vs H Q => match vs with | [.int i, .int j] => Q (.int (if j > i then j else i)) H | _ => False) := ⟨(call_max2 hc).imp fun vs H Q h => by
  split at h
  . rename_i i j
    exact ⟨i, j, rfl, h⟩
  . exact h.elim⟩
end R
end L2
namespace L2
open PySem PySem.Spec PyProof.Rows
section
variable {prog : Program} {w : World} {A : Around} {E : Value -> Shared -> Prop} {s : Shared}
theorem tupExact_ {t : Addr} {items : Array Value} {Q : Bool -> Shared -> Prop} (ht : IsTup s.heap t items) (h : Q true s) : wpAny (model prog w) A (Builtin.Tuple.tupleIsExact (.ref t)) Q E s := by
  unfold Builtin.Tuple.tupleIsExact; refine wpAny_bind (wpAny_typeOf ht.typeIs ?_)
  exact wpAny_pure h
theorem getItem_tuple_whole {t sl : Addr} {items : Array Value} {vl vu : Value} {lo hi : Option Int} {Q : Value -> Shared -> Prop} (ht : IsTup s.heap t items) (hs : s.heap.IsSliceOf sl vl vu .none) (pl : IsPart vl lo) (pu : IsPart vu hi)
    (hw : HT.sIx items.size 0 lo = 0 /\ HT.sIx items.size items.size hi = items.size) (h : Q (.ref t) s) : wpAny (model prog w) A (getItem (.ref t) (.ref sl)) Q E s := by
  obtain ⟨os, hos, hcs, hds⟩ := id hs
  have hTs : s.TypeIs (.ref sl) "slice" := ⟨os, hos, hcs⟩
  unfold getItem; try with_reducible refine wpAny_holding ?_
  first | refine wpAny_bind (wpAny_pure ?_) | skip
  refine wpAny_bind (wpAny_sequenceKey ht.typeIs (by decide) ?_)
  refine wpAny_bind (wpAny_callSpecial?_slot (name := Str.ofString "__getitem__") ht.typeIs PyProof.Rows.slot_tuple_getitem
    (wpAny_call_entry PyProof.Rows.slot_tuple_getitem ht.typeIs entry_tuple_getitem ?_ (args_tuple_getitem _ _)))
  show wpAny _ _ (Builtin.Tuple.tupleItemsOf (.ref t) >>= _) _ _ s
  refine wpAny_bind (tupleItemsOf_ ht ?_)
  refine wpAny_bind (wpAny_typeOf hTs ?_)
  rw [if_pos (by decide)]
  refine wpAny_bind (HT.sliceApplied_gen hs pl pu ?_)
  have hyes : (((HT.sIx items.size 0 lo : Nat) : Int) == 0 && (1 : Int) == 1 && (HT.sIx items.size items.size hi - HT.sIx items.size 0 lo) == items.size) = true := by
    rw [hw.1, hw.2]; simp
  show wpAny _ _ (if (((HT.sIx items.size 0 lo : Nat) : Int) == 0 && (1 : Int) == 1 && (HT.sIx items.size items.size hi - HT.sIx items.size 0 lo) == items.size) = true then _ else _) _ _ s
  rw [if_pos hyes]; refine wpAny_bind (tupExact_ ht ?_)
  rw [if_pos rfl]; exact wpAny_bind (wpAny_rule (wpAny_pure ⟨_, rfl, wpAny_pure h⟩))
theorem cat_tup0 {t b : Addr} {ws : List Value} {Q : Value -> Shared -> Prop} (ht : IsTup s.heap t ([] : List Value).toArray) (hb : IsTup s.heap b ws.toArray) (h1 : Q (.ref b) s) : wpAny (model prog w) A (binaryOp .Add (.ref t) (.ref b)) Q E s := by
  obtain ⟨⟨cls, dd, data, sl⟩, ho, hc, n, hd⟩ := id ht
  obtain ⟨⟨cls2, dd2, data2, sl2⟩, ho2, hc2, n2, hd2⟩ := id hb
  simp only at hc hd hc2 hd2
  subst hc hd hc2 hd2; exact concat_meets ⟨_, ho, rfl⟩ ⟨_, ho2, rfl⟩ noFill_tuple_add seq_tuple_add PySem.F.slot_tuple_add PySem.F.entry_tuple_add (PySem.F.args_tuple_add_2 _ _)
      (tuple_addW0 t b _ ws.toArray n n2 dd dd2 sl sl2 (by simp)) ⟨ho, ho2, h1⟩
end
section
variable {X : Cx} {e o e1 e2 : Expr} {te : TE} {pos p2 p3 : Pos}
def mSlT : V -> Option Int -> Option Int -> Hp -> VK -> Prop := fun x lo hi H Q => mR x fun a => ∃ xs, H a = some (.tup xs) /\ ∀ p H', Same H H' -> H' p = some (.tup (cut xs lo hi)) -> Q (.ref p) H'
theorem s_tup : SlR X mSlT := by
  intro pins s σ H x v vl vu lo hi sl Q I rx hs pl pu h; unfold mSlT at h; rw [mR_eq] at h; obtain ⟨a, rfl, xs, hx, q⟩ := h
  by_cases hw : HT.sIx xs.length 0 lo = 0 /\ HT.sIx xs.length xs.length hi = xs.length
  . cases rx
    obtain ⟨its, r, ht, hz⟩ := I.tuple (SqT.of hx)
    have hlen : its.toArray.size = xs.length := by rw [Zst]; exact r.length.symm
    refine ⟨"tuple", _, PyProof.Rows.slot_tuple_getitem.lookup, ht.typeIs, ?_⟩
    refine getItem_tuple_whole ht hs pl pu (by rw [hlen]; exact hw) ⟨.ref a, H, I, rfl, q a H (Same.refl H) ?_⟩
    rw [hx]; unfold cut; rw [hw.1, hw.2, List.drop_zero, Nat.sub_zero, Ztl (Znr _)]
  . exact sl_tup pins s σ H (.ref a) v vl vu lo hi sl Q I rx hs pl pu ⟨a, xs, rfl, SqT.of hx, hw, fun p hp => q p _ (same_upd hp) upd_same⟩
def mCatT : R2 := fun x y H Q => mR x fun a => mR y fun b => ∃ xs ys, H a = some (.tup xs) /\ H b = some (.tup ys) /\ xs.length + ys.length <= 1000 /\ ∀ p H', Same H H' -> H' p = some (.tup (xs ++ ys)) -> Q (.ref p) H'
theorem o_catT : OpR X (binaryOp .Add) mCatT := by
  intro pins s σ H x y v u Q I rx ry h; unfold mCatT at h; rw [mR_eq] at h; obtain ⟨a, rfl, h⟩ := h
  rw [mR_eq] at h; obtain ⟨b, rfl, xs, ys, ha, hb, hz, q⟩ := h
  by_cases h0 : xs = []
  . subst h0; cases rx
    cases ry
    obtain ⟨its, r1, p1, _⟩ := I.tuple (SqT.of ha)
    obtain ⟨its2, r2, p2, _⟩ := I.tuple (SqT.of hb)
    cases r1
    exact cat_tup0 p1 p2 ⟨.ref b, H, I, rfl, q b H (Same.refl H) (by rw [hb]; rfl)⟩
  . exact op_catT pins s σ H _ _ v u Q I rx ry ⟨a, b, xs, ys, rfl, rfl, SqT.of ha, SqT.of hb, h0, Znt hz (by decide), (fun h1 => q a H (Same.refl H) (by rw [ha, h1, List.append_nil])), fun _ p hp => q p _ (same_upd hp) upd_same⟩
end
def Tab (P : Params) : List DictEntry -> List (Str × Int) -> Prop
  | [], [] => True
  | e :: r, (x, i) :: q => (∃ t, e.key = .str x t) /\ e.hash = PyData.keyHash P x /\ (∃ t, e.val = .int i t) /\ Tab P r q
  | _, _ => False
theorem Tab.keys {P : Params} : ∀ {es : List DictEntry} {ws : List (Str × Int)}, Tab P es ws -> W.KeysLit P es
  | [], [], _ => trivial
  | e :: r, (x, i) :: q, h => ⟨let ⟨t, ht⟩ := h.1; ⟨x, t, ht, h.2.1⟩, Tab.keys h.2.2.2⟩
  | [], _ :: _, h => h.elim
  | _ :: _, [], h => h.elim
theorem Tab.find {P : Params} (z : Str) : ∀ {es : List DictEntry} {ws : List (Str × Int)}, Tab P es ws -> (match ws.lookup z with | some i => ∃ t, (es.find? fun e => Value.isStrOf z e.key).map (·.val) = some (.int i t) | none => (es.find? fun e => Value.isStrOf z e.key).map (·.val) = none)
  | [], [], _ => rfl
  | [], _ :: _, h => h.elim
  | _ :: _, [], h => h.elim
  | e :: r, (x, i) :: q, h => by
    obtain ⟨⟨t, ht⟩, h2, ⟨t', hv⟩, h4⟩ := h
    have ih := Tab.find z h4
    rw [List.lookup_cons, List.find?_cons]; have e1 : Value.isStrOf z e.key = (z == x) := by
      rw [ht]; show (x == z) = (z == x)
      exact Bool.beq_comm
    rw [e1]; cases hz : z == x with
    | true => exact ⟨t', by rw [<- hv]; rfl⟩
    | false => exact ih
structure KTab (K : W.Frag) (P : Params) (a : Addr) (ws : List (Str × Int)) : Prop where
  ex : ∃ es n, K.lookup a = some ⟨.type "dict", none, .dict (List.toArray es) n, #[]⟩ /\ Tab P es ws /\ (a == sysModules) = false
theorem KTab.map {K : W.Frag} {prog : Program} {w : World} {a : Addr} {ws : List (Str × Int)} {h : Heap} (T : KTab K w.params a ws) (X : K.In h) :
    ∃ f : Str -> Option Value, h.MapOf (strKind prog w) a f /\ (a == sysModules) = false /\ ∀ z, (match ws.lookup z with | some i => ∃ t, f z = some (.int i t) | none => f z = none) := by
  obtain ⟨es, n, hl, ht, lo⟩ := T.ex
  refine ⟨_, W.mapOf_K (prog := prog) X hl ht.keys, lo, fun z => ?_⟩
  have := ht.find z
  unfold findBy; rw [List.find?_toArray]; exact this
section
variable {X : Cx}
def mInK (K : W.Frag) (P : Params) (neg : Bool) : R2 := fun x y H Q => mS x fun z => mR y fun a => ∃ ws, KTab K P a ws /\ Q (.bl (if neg then !(ws.lookup z).isSome else (ws.lookup z).isSome)) H
theorem look_some {f : Option Value} {o : Option Int} (h : match o with | some i => ∃ t, f = some (.int i t) | none => f = none) : f.isSome = o.isSome := by
  cases o with
  | none => rw [h]; rfl
  | some i => obtain ⟨t, h⟩ := h; rw [h]; rfl
theorem o_notInK : OpR X (compareOp .NotIn) (mInK X.K X.w.params true) := by
  intro pins s σ H x y v u Q I rx ry h; unfold mInK at h; rw [mS_eq] at h; obtain ⟨z, rfl, h⟩ := h
  rw [mR_eq] at h; obtain ⟨a, rfl, ws, T, h⟩ := h
  obtain ⟨t, rfl⟩ := rx
  cases ry
  obtain ⟨f, hm, lo, hf⟩ := T.map (prog := X.prog) I.kIn
  exact wpAny_notIn_of (strKind_is X.prog X.w z t) lo hm ⟨.bl (!(ws.lookup z).isSome), H, I.tok _, by rw [look_some (hf z)]; rfl, h⟩
def mIxK (K : W.Frag) (P : Params) : R2 := fun x y H Q => mR x fun a => mS y fun z => ∃ ws i, KTab K P a ws /\ ws.lookup z = some i /\ Q (.int i) H
theorem i_K : IxR X (mIxK X.K X.w.params) := by
  intro value slice pins s σ H x y v u Q I rx ry h hs; unfold mIxK at h; rw [mR_eq] at h; obtain ⟨a, rfl, h⟩ := h
  rw [mS_eq] at h; obtain ⟨z, rfl, ws, i, T, hi, h⟩ := h
  obtain ⟨t, rfl⟩ := ry
  cases rx
  obtain ⟨f, hm, lo, hf⟩ := T.map (prog := X.prog) I.kIn
  have hz := hf z
  rw [hi] at hz; obtain ⟨t', hz⟩ := hz
  exact tail_any hm.typeIs slot_dict_getitem.lookup (wpAny_getItem_of (strKind_is X.prog X.w z t) hm hz ⟨.int i, H, I.tok _, ⟨t', rfl⟩, h⟩) hs
end
structure XPs (X : Cx) (pos : Pos) (keys : List (Option Expr)) (values : List Expr) (trs : List (TE × TE)) : Prop where
  h : PPs X pos keys values trs
namespace R
section
variable {X : Cx} {K : W.Frag} {P : Params} {e e1 k v o f : Expr} {te t1 tk tv td ty tx' : TE} {pos p2 apos cpos : Pos} {ks : List (Option Expr)} {vs : List Expr} {trs : List (TE × TE)}
theorem sT : XSl X mSlT := ⟨s_tup⟩
theorem catT : XOp X (binaryOp .Add) mCatT := ⟨o_catT⟩
theorem knotInK (hK : X.K = K := by rfl) (hP : X.w.params = P := by rfl) : XOp X (compareOp .NotIn) (mInK K P true) := hK ▸ hP ▸ ⟨o_notInK⟩
theorem kiK (hK : X.K = K := by rfl) (hP : X.w.params = P := by rfl) : XIx X (mIxK K P) := hK ▸ hP ▸ ⟨i_K⟩
theorem ktoList (hK : X.K = K := by rfl) : XC X (.type "list") (fun vs H Q => match vs with | [.ref p] => ∃ ys, (SqL K H p ys ∨ SqT K H p ys) /\ ∀ l, H l = none -> Q (.ref l) (upd H l (.lst ys)) | _ => False) := hK ▸ ⟨call_list_of.imp fun vs H Q h => by
  split at h
  . rename_i p
    obtain ⟨ys, hq, h⟩ := h
    exact ⟨p, ys, rfl, hq, h⟩
  . exact h.elim⟩
theorem ppn : XPs X pos [] [] [] := ⟨pps_nil⟩
theorem ppc (hk : XE X k tk) (hv : XE X v tv) (hr : XPs X pos ks vs trs) : XPs X pos (some k :: ks) (v :: vs) ((tk, tv) :: trs) := ⟨pps_cons hk.h hv.h hr.h⟩
theorem disp (h : XPs X pos ks vs trs) (hall : ks.all (·.isSome) = true := by rfl) (hl : ks.length = vs.length := by rfl) (h0 : ks ≠ [] := by simp) (h15 : ks.length <= 15 := by decide) : XE X (.Dict ks vs pos) (tDisp trs) := ⟨pe_disp h.h hall hl h0 h15⟩
theorem dget2 (hu : X.A.units + 1 < cLine) (ho : XE X o td) (he : XE X e ty) (hf : XE X f tx') (h1 : attributeBase o "get" X.env (eval o X.env) = eval o X.env := by rfl) (h3 : (apos.endLine == cpos.line) = true := by rfl)
    (h2 : ((backTo cpos (starEach [e, f] X.env)).all (fun x => !x.1) && (backToKw cpos (keywordEach [] X.env)).all (fun x => x.1.isSome)
    && decide (([e, f] : List Expr).length + ([] : List Keyword).length + (if ([] : List Keyword).isEmpty then 0 else 1) < 30)) = true := by rfl)
    (h4 : backTo cpos (starEach [e, f] X.env) = [(false, eval e X.env), (false, eval f X.env)] := by rfl) : XE X (.Call (.Attribute o "get" apos) [e, f] [] cpos) (tDGet2 td ty tx') := ⟨pe_dget2 hu ho.h he.h hf.h ⟨h1, h2, h3, h4⟩⟩
end
end R
end L2
namespace L2
open PySem PySem.Spec PyProof.Rows
def WS : List (Str × Int) := [("add", 1), ("take", 1), ("move", 2), ("send", 2), ("fetch", 2), ("pass", 3)]
def UW : List V := [.str "move", .str "pass"]
def nmV (x : V) : Bool := madeOf x LET 8
def numV (lo hi : Int) (x : V) : Bool := match x with | .int n => decide (lo <= n) && decide (n <= hi) | _ => false
def fitsB (x : V) (ns : List V) : Bool := match x with
  | .str z => (match WS.lookup z with
    | some i => decide ((ns.length : Int) = i) && ns.all nmV && (!inV (.str z) UW || !decide (atI ns 0 = atI ns 1))
    | none => false)
  | _ => false
def midV (xs : List V) : List V := cut xs (some 1) (some (-1))
def deedB (xs : List V) : Bool := decide (3 <= xs.length) && fitsB ((atI xs 0).getD .non) (midV xs) && numV 1 1000000000000 ((atI xs (-1)).getD .non)
def Pt (H : Hp) (x : V) : Prop := ∃ k, Kof H x k /\ ∀ z, x = .str z -> z.length <= 1000
theorem Pt.same {H H' : Hp} {x : V} (s : Same H H') (h : Pt H x) : Pt H' x := let ⟨k, h1, h2⟩ := h; ⟨k, h1.same s, h2⟩
def deedV (H : Hp) (x : V) : Bool := match x with | .ref a => (match H a with | some (.tup xs) => deedB xs | _ => false) | _ => false
def Th (H : Hp) (x : V) : Prop := Pt H x /\ ∀ a xs, x = .ref a -> H a = some (.tup xs) -> ∀ y ∈ xs, Pt H y
def spWhole : Sp := fun vs H Q _ => ∃ x lo hi, vs = [x, .int lo, .int hi] /\ Pt H x /\ ∀ H', Same H H' -> Q (.bl (numV lo hi x)) H'
def spFits : Sp := fun vs H Q _ => ∃ x a ns, vs = [x, .ref a] /\ Pt H x /\ H a = some (.tup ns) /\ ns.length <= 1000 /\ (∀ y ∈ ns, Pt H y) /\ ∀ H', Same H H' -> Q (.bl (fitsB x ns)) H'
def spIsDeed : Sp := fun vs H Q _ => ∃ x, vs = [x] /\ Th H x /\ (∀ a xs, x = .ref a -> H a = some (.tup xs) -> xs.length <= 1000) /\ ∀ H', Same H H' -> Q (.bl (deedV H x)) H'
theorem WS_pos {z : Str} {i : Int} (h : WS.lookup z = some i) : 1 <= i /\ i <= 3 := by
  have key : ∀ (l : List (Str × Int)), l.lookup z = some i -> (z, i) ∈ l := by
    intro l; induction l with
    | nil => intro h; cases h
    | cons p l ih =>
      obtain ⟨x, j⟩ := p
      intro h; rw [List.lookup_cons] at h; cases e : z == x with
      | true => rw [e] at h; injection h with h; rw [<- h, eq_of_beq e]; exact Zcs
      | false => rw [e] at h; exact Zmc _ (ih h)
  have m := key _ h
  have all : ∀ p ∈ WS, 1 <= p.2 /\ p.2 <= 3 := by decide +kernel
  exact all _ m
theorem WS_uw {z : Str} {i : Int} (h : WS.lookup z = some i) (u : inV (.str z) UW = true) : 2 <= i := by
  have e : z = "move" ∨ z = "pass" := by
    unfold inV UW at u; simp only [List.any_cons, List.any_nil, Bool.or_false, Bool.or_eq_true, eqV, beq_iff_eq, decide_eq_true_iff] at u
    rcases u with u | u
    . exact .inl u.symm
    . exact .inr u.symm
  rcases e with rfl | rfl
  . have : WS.lookup ("move" : Str) = some 2 := by decide +kernel
    rw [this] at h; injection h with h; omega
  . have : WS.lookup ("pass" : Str) = some 3 := by decide +kernel
    rw [this] at h; injection h with h; omega
theorem cut_mid {xs : List V} (h : 3 <= xs.length) : midV xs = (xs.drop 1).take (xs.length - 2) := by
  unfold midV cut HT.sIx; simp only [Int.reduceNeg, Int.reduceLT, if_true, if_false]
  have e1 : min (Int.toNat 1) xs.length = 1 := by
    show min 1 xs.length = 1
    omega
  have e2 : ((-1 : Int) + (xs.length : Int)).toNat = xs.length - 1 := by omega
  rw [e2]; show ((xs.drop (min (Int.toNat 1) xs.length)).take (xs.length - 1 - min (Int.toNat 1) xs.length)) = _
  rw [e1]; congr 1
theorem mid_len {xs : List V} (h : 3 <= xs.length) : (midV xs).length = xs.length - 2 := by
  rw [cut_mid h, Zlk, List.length_drop]; omega
theorem mid_mem {xs : List V} {y : V} (h : 3 <= xs.length) (m : y ∈ midV xs) : y ∈ xs := by
  rw [cut_mid h] at m; exact List.mem_of_mem_drop (List.mem_of_mem_take m)
end L2
namespace L2
open PySem PySem.Spec PyProof.Rows
def mCat : R2 := fun x y H Q => mR x fun l => mR y fun b => ∃ xs zs, H l = some (.lst xs) /\ H b = some (.lst zs) /\ xs.length + zs.length <= sizeLine /\ ∀ p, H p = none -> Q (.ref p) (upd H p (.lst (xs ++ zs)))
theorem R.cat {X : Cx} : XOp X (binaryOp .Add) mCat := ⟨op_cat.imp fun x y H Q h => by
  unfold mCat at h; rw [mR_eq] at h; obtain ⟨a, rfl, h⟩ := h
  rw [mR_eq] at h; obtain ⟨b, rfl, xs, zs, h⟩ := h
  exact ⟨a, b, xs, zs, rfl, rfl, h⟩⟩
end L2
namespace L2
open PySem PySem.Spec PyProof.Rows
inductive DeedIs : List V -> Prop
  | one (z a : Str) (n : Int) : (z = "add" ∨ z = "take") -> isNm a -> 1 <= n -> n <= 1000000000000 -> DeedIs [.str z, .str a, .int n]
  | two (z a b : Str) (n : Int) : (z = "move" ∨ z = "send" ∨ z = "fetch") -> isNm a -> isNm b -> a ≠ b -> 1 <= n -> n <= 1000000000000 -> DeedIs [.str z, .str a, .str b, .int n]
  | three (a b c : Str) (n : Int) : isNm a -> isNm b -> isNm c -> a ≠ b -> 1 <= n -> n <= 1000000000000 -> DeedIs [.str "pass", .str a, .str b, .str c, .int n]
theorem nmV_of {z : Str} (h : isNm z) : nmV (.str z) = true := by
  unfold nmV; rw [madeOf_str, decide_eq_true (by have := h.1; omega), decide_eq_true (by have := h.2.1; omega), List.all_eq_true.mpr fun c hc => decide_eq_true (h.2.2 c hc)]
  rfl
theorem DeedIs.ok {xs : List V} (h : DeedIs xs) : deedB xs = true := by
  cases h with
  | one z a n hz ha h1 h2 =>
    show (fitsB (.str z) [.str a] && numV 1 1000000000000 (.int n)) = true
    have e : fitsB (.str z) [.str a] = true := by
      rcases hz with rfl | rfl
      . show (true && (nmV (.str a) && true) && _) = true
        rw [nmV_of ha]; rfl
      . show (true && (nmV (.str a) && true) && _) = true
        rw [nmV_of ha]; rfl
    rw [e]; show (decide (1 <= n) && decide (n <= 1000000000000)) = true
    rw [decide_eq_true h1, decide_eq_true h2]; rfl
  | two z a b n hz ha hb hn h1 h2 =>
    show (fitsB (.str z) [.str a, .str b] && numV 1 1000000000000 (.int n)) = true
    have ne : decide (some (V.str a) = some (V.str b)) = false := decide_eq_false fun e => hn (by injection e with e; injection e)
    have e : fitsB (.str z) [.str a, .str b] = true := by
      rcases hz with rfl | rfl | rfl
      all_goals
        show (true && (nmV (.str a) && (nmV (.str b) && true)) && (_ || !decide (some (V.str a) = some (V.str b)))) = true
        rw [nmV_of ha, nmV_of hb, ne, Bool.not_false, Bool.or_true]; rfl
    rw [e]; show (decide (1 <= n) && decide (n <= 1000000000000)) = true
    rw [decide_eq_true h1, decide_eq_true h2]; rfl
  | three a b c n ha hb hc hn h1 h2 =>
    show (fitsB (.str "pass") [.str a, .str b, .str c] && numV 1 1000000000000 (.int n)) = true
    have ne : decide (some (V.str a) = some (V.str b)) = false := decide_eq_false fun e => hn (by injection e with e; injection e)
    have e : fitsB (.str "pass") [.str a, .str b, .str c] = true := by
      show (true && (nmV (.str a) && (nmV (.str b) && (nmV (.str c) && true))) && (_ || !decide (some (V.str a) = some (V.str b)))) = true
      rw [nmV_of ha, nmV_of hb, nmV_of hc, ne, Bool.not_false, Bool.or_true]; rfl
    rw [e]; show (decide (1 <= n) && decide (n <= 1000000000000)) = true
    rw [decide_eq_true h1, decide_eq_true h2]; rfl
theorem isNm.len {z : Str} (h : isNm z) : z.length <= 1000 := Znt h.2.1 (by decide)
theorem cut_mem {xs : List V} {lo hi : Option Int} {y : V} (h : y ∈ cut xs lo hi) : y ∈ xs := by
  unfold cut at h; exact List.mem_of_mem_drop (List.mem_of_mem_take h)
end L2
namespace L2
open PySem PySem.Spec PyProof.Rows
inductive TV where
  | sc (v : V)
  | tp (xs : List TV)
  | ls (xs : List TV)
def isSc : V -> Bool | .non => true | .bl _ => true | .int _ => true | .str _ => true | _ => false
def Rep (H : Hp) : Nat -> TV -> V -> Prop
  | 0, .sc v, x => x = v /\ isSc v = true
  | _ + 1, .sc v, x => x = v /\ isSc v = true
  | n + 1, .tp ts, x => ∃ a xs, x = .ref a /\ H a = some (.tup xs) /\ Paired (Rep H n) ts xs
  | n + 1, .ls ts, x => ∃ a xs, x = .ref a /\ H a = some (.lst xs) /\ Paired (Rep H n) ts xs
  | 0, _, _ => False
theorem Paired.map' {α β : Type} {R S : α -> β -> Prop} (f : ∀ a b, R a b -> S a b) {xs : List α} {ys : List β} (h : Paired R xs ys) : Paired S xs ys := by
  induction h with
  | nil => exact .nil
  | cons h t ih => exact .cons (f _ _ h) ih
theorem Rep.same {H H' : Hp} (s : Same H H') : ∀ {n : Nat} {t : TV} {x : V}, Rep H n t x -> Rep H' n t x
  | 0, .sc v, x, h => h
  | n + 1, .sc v, x, h => h
  | n + 1, .tp ts, x, ⟨a, xs, e, g, p⟩ => ⟨a, xs, e, s _ _ g, Paired.map' (fun _ _ => Rep.same s) p⟩
  | n + 1, .ls ts, x, ⟨a, xs, e, g, p⟩ => ⟨a, xs, e, s _ _ g, Paired.map' (fun _ _ => Rep.same s) p⟩
theorem Rep.scal {H : Hp} {n : Nat} {v : V} (h : isSc v = true) : Rep H n (.sc v) v := by
  cases n <;> exact ⟨rfl, h⟩
theorem Paired.get' {α β : Type} {R : α -> β -> Prop} : ∀ {xs : List α} {ys : List β} {j : Nat}, Paired R xs ys -> ∀ (h : j < ys.length), ∃ h' : j < xs.length, R xs[j] ys[j]
  | _, _, 0, .cons h t, _ => ⟨Nat.succ_pos _, h⟩
  | _, _, j + 1, .cons h t, hj => let ⟨h', r⟩ := Paired.get' (j := j) t (by simpa using hj); ⟨by simpa using h', by simpa using r⟩
end L2
namespace L2
open PySem PySem.Spec PyProof.Rows
theorem le_cps (a b : Str) : ltCps b.cps.toList a.cps.toList = false ↔ a.cps.toList <= b.cps.toList := by
  rw [ltCps_eq, decide_eq_false_iff_not]; exact Iff.rfl
theorem str_ext' {a b : Str} (h : a.cps.toList = b.cps.toList) : a = b := by rw [tx_of a, tx_of b, h]
theorem risingS_pairwise : ∀ (l : List Str) (p : Str), risingS p l = true -> (p :: l).Pairwise (fun a b => a.cps.toList <= b.cps.toList)
  | [], p, _ => List.pairwise_singleton _ _
  | x :: r, p, h => by
    unfold risingS at h; rw [Bool.and_eq_true] at h; obtain ⟨h1, h2⟩ := h
    have ih := risingS_pairwise r x h2
    have hpx : p.cps.toList <= x.cps.toList := (le_cps p x).mp (by simpa using h1)
    refine List.pairwise_cons.mpr ⟨fun y hy => ?_, ih⟩
    rcases List.mem_cons.mp hy with rfl | hy
    . exact hpx
    . exact List.le_trans hpx ((List.pairwise_cons.mp ih).1 y hy)
theorem sortedS_pairwise : ∀ (l : List Str), sortedS l = true -> l.Pairwise (fun a b => a.cps.toList <= b.cps.toList)
  | [], _ => List.Pairwise.nil
  | x :: r, h => risingS_pairwise r x h
theorem sort_unique : ∀ (l m : List Str), l.Perm m -> l.Pairwise (fun a b => a.cps.toList <= b.cps.toList) -> m.Pairwise (fun a b => a.cps.toList <= b.cps.toList) -> l = m
  | [], m, hp, _, _ => (List.nil_perm.mp hp).symm
  | a :: l, [], hp, _, _ => (List.perm_nil.mp hp)
  | a :: l, b :: m, hp, h1, h2 => by
    obtain ⟨p1, p2⟩ := List.pairwise_cons.mp h1
    obtain ⟨q1, q2⟩ := List.pairwise_cons.mp h2
    have e : a = b := by
      have ma : a ∈ b :: m := hp.mem_iff.mp Zcs
      have mb : b ∈ a :: l := hp.mem_iff.mpr Zcs
      rcases List.mem_cons.mp ma with h | h
      . exact h
      . rcases List.mem_cons.mp mb with h' | h'
        . exact h'.symm
        . exact str_ext' (List.le_antisymm (p1 b h') (q1 a h))
    subst e; rw [sort_unique l m (List.Perm.cons_inv hp) p2 q2]
def srt (ss : List Str) : List Str := ss.mergeSort (fun a b => decide (a.cps.toList <= b.cps.toList))
theorem srt_perm (ss : List Str) : (srt ss).Perm ss := List.mergeSort_perm _ _
theorem srt_sorted (ss : List Str) : (srt ss).Pairwise (fun a b => a.cps.toList <= b.cps.toList) := by
  have := List.pairwise_mergeSort (le := fun (a b : Str) => decide (a.cps.toList <= b.cps.toList)) (fun a b c h1 h2 => decide_eq_true (List.le_trans (of_decide_eq_true h1) (of_decide_eq_true h2))) (fun a b => by
    rcases List.le_total a.cps.toList b.cps.toList with h | h
    . simp [h]
    . simp [h]) ss
  exact this.imp fun h => of_decide_eq_true h
theorem srt_eq {ss ss' : List Str} (hp : ss'.Perm ss) (hs : sortedS ss' = true) : ss' = srt ss :=
  sort_unique _ _ (hp.trans (srt_perm ss).symm) (sortedS_pairwise _ hs) (srt_sorted ss)
theorem srt_len (ss : List Str) : (srt ss).length = ss.length := (srt_perm ss).length_eq
theorem strs_vals : ∀ {vs : List Value} {ss : List Str}, StrsAre vs ss -> Vals (ss.map V.str) vs
  | _, _, .nil => .nil
  | _, _, .cons x t h => .cons ⟨t, rfl⟩ (strs_vals h)
end L2
namespace L2
open PySem PySem.Spec PyProof.Rows
section
variable {X : Cx} {es : List Expr} {t : TA} {pos : Pos}
def tTupW (t : TA) : TE := fun σ H Q => t σ H fun xs H1 => xs.length <= 1000 /\ ∀ p H', Same H1 H' -> H' p = some (.tup xs) -> Q (.ref p) H'
theorem pe_tupW {x1} (h : PA X es t) : PE X (.Tuple es x1 pos) (tTupW t) := by
  intro pins s σ H Q I hq; refine wpAny_Tuple_spliced (thn (h pos pins s σ H _ I hq) fun us s1 ⟨xs, H1, I1, r, z, q⟩ => ⟨by rw [<- r.length]; exact szl' z, ?_⟩)
  have hf : H1 s1.heap.objs.size = none := I1.hok.fresh (Znr _)
  refine ⟨.ref s1.heap.objs.size, upd H1 s1.heap.objs.size (.tup xs), I1.laid (t' := s1.toks) (fun b u e => Zpu _ e) (Znr _) ?_, rfl, q _ _ (same_upd hf) upd_same⟩
  exact ⟨szl' z, us, r, ⟨_, Heap.get?_push_size _ rfl, rfl, _, rfl⟩⟩
theorem R.wtup {x1} (h : XA X es t) : XE X (.Tuple es x1 pos) (tTupW t) := ⟨pe_tupW h.h⟩
end
end L2
namespace L2
open PySem PySem.Spec PyProof.Rows
abbrev Z := Addr × Str × Int
def zle (x y : Z) : Prop := x.2.1.cps.toList <= y.2.1.cps.toList
def ZAt (H : Hp) (zs : List Z) : Prop := ∀ z ∈ zs, H z.1 = some (.tup [.str z.2.1, .int z.2.2])
theorem ZAt.same {H H' : Hp} {zs : List Z} (h : ZAt H zs) (s : Same H H') : ZAt H' zs := fun z hz => s _ _ (h z hz)
def zref (zs : List Z) : List V := zs.map fun z => V.ref z.1
section
variable {X : Cx} {pins : List (Addr × Obj)} {σ : St} {H : Hp} {s : Shared}
theorem vals_getD : ∀ {xs : List V} {vs : List Value} (i : Nat), Vals xs vs -> i < xs.length -> ∀ x, xs[i]? = some x -> RelV x (vs.getD i Value.none)
  | x :: xs, v :: vs, 0, .cons r rs, _, y, hy => by
    cases hy
    exact r
  | x :: xs, v :: vs, i + 1, .cons r rs, hi, y, hy => by
    have := vals_getD i rs (by simpa using hi) y (by simpa using hy)
    simpa using this
def mSortedP (K : W.Frag) : List V -> Hp -> VK -> Prop := fun vs H Q => match vs with
  | [.ref a] => ∃ zs : List Z, SqL K H a (zref zs) /\ ZAt H zs /\ (zs.map (·.2.1)).Nodup /\ zs.length < 64 /\ ∀ l zs', H l = none -> zs'.Perm zs -> zs'.Pairwise zle -> Q (.ref l) (upd H l (.lst (zref zs')))
  | _ => False
end
theorem strs_items : ∀ {ks : List Str} {vs : List Value}, vs.length = ks.length -> (∀ (i : Nat) (v : Value), vs[i]? = some v -> ∃ x t, ks[i]? = some x /\ v = Value.str x t) -> StrsAre vs ks
  | [], [], _, _ => .nil
  | k :: ks, v :: vs, hl, h => by
    obtain ⟨x, t, e1, rfl⟩ := h 0 v rfl
    cases e1
    exact .cons k t (strs_items (by simpa using hl) fun i v hv => by simpa using h (i + 1) v (by simpa using hv))
section
variable {prog : Program} {w : World} {A : Around} {E : Value -> Shared -> Prop} {s : Shared}
theorem sorted_dict {d : Addr} {ss : List Str} {kvs : List (Key × Value)} {Q : Value -> Shared -> Prop} (hh : A.handled = none) (lo : (d == sysModules) = false) (hd : s.heap.DictOf (mixKind prog w) d kvs) (hk : kvs.map (·.1) = ss.map Sum.inr) (h64 : ss.length < 64)
    (h : ∀ (h1 h' : Heap) (tk : Nat) (out : Array Value) (e : Nat), (∀ b ob, s.heap.get? b = some ob -> h1.get? b = some ob) -> (∀ b ob, h1.get? b = some ob -> h'.get? b = some ob) -> h'.get? h1.objs.size = some (seqObj "list" out e) -> StrsAre out.toList (srt ss) -> Q (.ref h1.objs.size) { s with heap := h', toks := tk }) :
    wpAny (model prog w) A (call (.builtin "sorted") [.ref d]) Q E s := by
  have hl : kvs.length = ss.length := by simpa using congrArg List.length hk
  obtain ⟨ep, hm⟩ := hd.dictAt
  apply Calls.call_function_entry kind_sorted plain_sorted entry_sorted (args_sorted1 _)
  unfold Builtin.«sorted»
  apply wpAny_bind (m := checkCount "sorted" 1 1 _)
  apply wpAny_pure
  apply wpAny_bind
  refine W.kdu_collect (W.kdl_dict lo) hh hm (by rw [hl]; exact Znt (Nat.le_of_lt h64) (by decide)) fun h1 tk acc k1 hacc => ?_
  have hS : StrsAre acc.toList ss := strs_items (by rw [Array.length_toList, hacc.1, hl]) fun i v hv => by
    obtain ⟨k, x, e1, e2⟩ := hacc.2 i v (by simpa using hv)
    have e3 : (kvs.map (·.1))[i]? = some k := by rw [Zgm, e1]; rfl
    rw [hk, Zgm] at e3; cases e4 : ss[i]? with
    | none => rw [e4] at e3; cases e3
    | some y =>
      rw [e4] at e3; cases e3
      rcases keyIs_shape (show keyIs (Sum.inr y) v = true from e2) with ⟨_, _, e, _⟩ | ⟨z, t, e, ev⟩
      . cases e
      . cases e
        exact ⟨_, t, rfl, ev⟩
  generalize acc.toList = vs at hS; have hvl : vs.length < 64 := by rw [hS.length]; exact h64
  apply wpAny_bind
  apply wpAny_newList
  . have g2 : (h1.push (seqObj "list" vs.toArray 0)).get? h1.objs.size = some (seqObj "list" vs.toArray 0) := Heap.get?_push_size _ rfl
    apply wpAny_bind
    apply wpAny_holding
    refine wpAny_call_entry slot_list_sort ⟨_, g2, rfl⟩ entry_list_sort (list_sort_treeK (s := { s with heap := h1.push (seqObj "list" vs.toArray 0), toks := tk }) strKind_oneLt g2 hS.keysOf (fun v₁ v₂ rest e => keyKind_strs (by rw [<- e]; exact hS)) hvl fun st' hp hs => ⟨_, rfl, wpAny_pure ⟨_, rfl, ?_⟩⟩) (args_list_sort _)
    obtain ⟨ss', q1, q2, q3⟩ := sorted_out_str hS hp hs
    obtain ⟨e, he⟩ := sortedHeap_at (out := (arrOf st').map (·.2)) g2
    refine h h1 _ _ _ e k1 (fun b ob hb1 => ?_) he (srt_eq q2 q3 ▸ q1)
    have hlt := Heap.lt_size hb1
    rw [sortedHeap_old (Nat.ne_of_lt hlt) (by rw [size_push']; exact Nat.lt_succ_of_lt hlt)]
    exact Zpu _ hb1
  . exact Znt (Nat.le_of_lt hvl) (by decide)
end
section
variable {X : Cx}
def mSortedD : List V -> Hp -> VK -> Prop := fun vs H Q => match vs with
  | [.ref a] => ∃ (ss : List Str) (kvs : List (Key × V)), Rd H a (.dK kvs) /\ kvs.map (·.1) = ss.map Sum.inr /\ ss.length < 64 /\ ∀ l, H l = none -> Q (.ref l) (upd H l (.lst ((srt ss).map V.str)))
  | _ => False
theorem c_sortedD (hcm : X.calm = true) : CallR X (.builtin "sorted") mSortedD := by
  intro pins s σ H xs us Q I r h; unfold mSortedD at h; split at h
  . rename_i a
    obtain ⟨ss, kvs, hq, hk, h64, q⟩ := h
    obtain ⟨u, rfl, ru⟩ := vals1 r
    cases ru
    obtain ⟨_, hd, vs, rel, dd⟩ := dk_rd I.hok hq
    refine sorted_dict (I.ok.hd hcm) hd dd (by rw [<- rel.keys]; exact hk) h64 fun h1 h' tk out e k1 k he hS => ?_
    have I1 := I.kept (t' := s.toks) k1
    refine ⟨.ref h1.objs.size, _, I1.laid (t' := tk) (o := .lst ((srt ss).map V.str)) k (Znr _) ⟨?_, out.toList, e, strs_vals hS, he⟩, rfl, q _ (I1.hok.fresh (Znr _))⟩
    rw [Zlm, srt_len]; exact Znt (Nat.le_of_lt h64) (by decide)
  . exact h.elim
theorem R.sortedD (hcm : X.calm = true) : XC X (.builtin "sorted") mSortedD := ⟨c_sortedD hcm⟩
end
end L2
namespace L2
open PySem PySem.Spec PyProof.Rows
theorem lk_keys_list : typeLookup (.type "list") "keys" = pure none := am_miss_of_fast (by kernel_rfl)
theorem plain_upd : plainId "dict.update.loop" = true := by decide +kernel
theorem entry_upd : entryFor table "dict.update.loop" = some Builtin.«dict.update.loop» := entryFor_of_tree (by kernel_rfl)
section
variable {prog : Program} {w : World} {A : Around} {E : Value -> Shared -> Prop} {s : Shared}
theorem no_keys {a : Addr} {o : Obj} {xs : Array Value} {k : Nat} {Q : Option Value -> Shared -> Prop} (hx : s.heap.get? a = some o) (hc : o.cls = .type "list") (hdat : o.data = .seq xs k) (hd : o.dict = none) (hA : A.handled = none)
    (h : ∀ h' tk, (∀ b ob, s.heap.get? b = some ob -> h'.get? b = some ob) -> Q none { s with heap := h', toks := tk }) : wpAny (model prog w) A (getAttr? (.ref a) "keys") Q E s := by
  obtain ⟨c, dct, dat, sl⟩ := o
  simp only at hc hdat hd
  subst hc hdat hd; obtain ⟨hp, g, d, tk, os⟩ := s
  have hT : ∀ tk', (⟨hp, g, d, tk', os⟩ : Shared).TypeIs (.ref a) "list" := fun _ => ⟨_, hx, rfl⟩
  have f1 := sub_AttributeError
  have f3 := F.slot_list_getattribute.lookup
  have f4 := F.slot_list_getattribute.bind (.ref a)
  have f5 := am_list_getattr_none
  have f6 := lk_keys_list
  unfold getAttr? getAttrBy? getAttrBy
  repeat (any_goals (first | assumption | exact hT _ | ((with_reducible show wpAny _ _ (call (Value.builtin "list.__getattribute__") _ _) _ _ _); refine call_meets F.slot_list_getattribute (hT _) am_entry_list_getattribute (F.args_list_getattribute_2 _ _) (meets_getattribute_miss_list a xs k sl "keys" _ f6 (by decide +kernel)) ⟨hx, hA, fun h' tk' e hx' => ?_⟩) | wp_step))
  obtain ⟨t', u', he⟩ := hx'.there
  show wpAny _ _ (getattributeRaised _ _ _ _ _ _ _) _ _ _
  unfold getattributeRaised; repeat (any_goals (first | assumption | wp_step))
  exact h _ _ hx'.keeps
def KPair (h : Heap) (v : Value) (q : Key × V) : Prop := ∃ a u x, v = Value.ref a /\ IsTup h a #[u, x] /\ RelV (kV q.1) u /\ RelV q.2 x
theorem upd_loop (hh : A.handled = none) {I l d : Addr} {its : List Value} {qs : List (Key × V)} {R : Result -> Shared -> Prop} {res : Value} (hIl : I ≠ l) (hId : I ≠ d) (hld : l ≠ d) :
    ∀ (k i : Nat) (s : Shared) (kvs : List (Key × V)) (vs : List (Key × Value)) (z : Int), its.length - i = k -> i <= its.length -> qs.length = its.length -> s.heap.IsListIter I l i -> s.heap.IsList l its.toArray -> (∀ (j : Nat) (v : Value) (q : Key × V), its[j]? = some v -> qs[j]? = some q -> KPair s.heap v q) →
    (∀ (j : Nat) (v : Value) (a : Addr), its[j]? = some v -> v = Value.ref a -> a ≠ I /\ a ≠ d) -> s.heap.DictOf (mixKind prog w) d vs -> KV kvs vs -> kvs.length + k <= 1000 →
    (∀ h' tk vs', (∀ b ob, b ≠ I -> b ≠ d -> s.heap.get? b = some ob -> h'.get? b = some ob) -> h'.DictOf (mixKind prog w) d vs' -> KV (mergeK kvs (qs.drop i)) vs' -> R (.ok (.ret res)) { s with heap := h', toks := tk }) →
    codeAny (model prog w) A (.builtin "dict.update.loop" ⟨[.ref d, .ref I, .int z 0, res], []⟩) R s := by
  intro k; induction k with
  | zero =>
    intro i s kvs vs z hk hi hql hit hl hp hne hd rel hz hR; obtain rfl : i = its.length := by omega
    refine codeAny_builtin entry_upd ?_
    rw [Around.under_plainId plain_upd _]; show wpAny _ A.in1 (pyNext (.ref I) >>= _) _ _ s
    apply wpAny_bind
    refine wpAny_pyNext_list_end hh hit hl (by simp) fun h' eb => ?_
    show wpAny _ A.in1 (Builtin.Dict.addKeywords d [] >>= _) _ _ _
    apply wpAny_bind
    apply wpAny_pure
    apply wpAny_pure
    refine hR h' s.toks vs (fun b ob hb _ e => eb b ob hb e) (hd.extBut eb hId.symm) ?_
    rw [<- hql, List.drop_length]; exact rel
  | succ k ih =>
    intro i s kvs vs z hk hi hql hit hl hp hne hd rel hz hR; have hlt : i < its.length := by omega
    obtain ⟨v, hv⟩ : ∃ v, its[i]? = some v := ⟨its[i], by simp [hlt]⟩
    obtain ⟨q, hq⟩ : ∃ q, qs[i]? = some q := ⟨qs[i], by simp [hql, hlt]⟩
    obtain ⟨a, u, x, rfl, ⟨ob, hob, hoc, n, hod⟩, ru, rx⟩ := hp i v q hv hq
    obtain ⟨na, nd⟩ := hne i _ a hv rfl
    refine codeAny_builtin entry_upd ?_
    rw [Around.under_plainId plain_upd _]; show wpAny _ A.in1 (pyNext (.ref I) >>= _) _ _ s
    apply wpAny_bind
    refine wpAny_pyNext_list_item hit hl (x := .ref a) (by simpa using hv) fun h' hit' sb => ?_
    have hob' : h'.get? a = some ob := (sb.2 a na).trans hob
    have hd' : h'.DictOf (mixKind prog w) d vs := hd.extBut sb.extBut hId.symm
    apply wpAny_bind
    apply wpAny_holding
    apply wpAny_bind
    apply wpAny_tryCatch
    unfold Builtin.Dict.pairItems; apply wpAny_bind
    refine wpAny_typeOf (T := "tuple") ⟨ob, hob', hoc⟩ ?_
    rw [if_pos (by decide)]
    apply wpAny_bind
    refine wpAny_seqItems hob' hod ?_
    apply wpAny_pure
    show wpAny _ _ (holding [u, x] (dictSet d u x)) _ _ _
    apply wpAny_holding
    have hvl : vs.length <= sizeLine := by rw [<- rel.length]; exact szl' (by omega)
    refine wpAny_dictSet_pairs (s := { s with heap := h' }) (kV_is ru) hd' (fun h2 hd2 sb2 => ?_) hvl
    apply wpAny_pure
    refine ⟨plainId_quiet plain_upd _, ?_⟩
    have hl0 := length_putK kvs q.1 q.2
    have ex : ∀ b o, b ≠ I -> b ≠ d -> s.heap.get? b = some o -> h2.get? b = some o := fun b o b1 b2 e => (sb2.2 b b2).trans ((sb.2 b b1).trans e)
    refine ih (i + 1) _ (putK kvs q.1 q.2) (stored vs q.1 x) _ (by omega) (by omega) hql ?_ ?_ ?_ hne hd2 (rel.put q.1 rx) (by omega) fun h3 tk vs' k3 hd3 rel3 => ?_
    . exact hit'.at fun o e => (sb2.2 I hId).trans e
    . obtain ⟨o, e, r⟩ := hl
      exact ⟨o, ex l o hIl.symm hld e, r⟩
    . intro j v q' hj hq'; obtain ⟨a', u', x', rfl, ⟨o', ho', r'⟩, rr⟩ := hp j v q' hj hq'
      obtain ⟨n1, n2⟩ := hne j _ a' hj rfl
      exact ⟨a', u', x', rfl, ⟨o', ex a' o' n1 n2 ho', r'⟩, rr⟩
    . refine hR h3 tk vs' (fun b o b1 b2 e => k3 b o b1 b2 (ex b o b1 b2 e)) hd3 ?_
      have e1 : qs.drop i = q :: qs.drop (i + 1) := by
        rw [List.drop_eq_getElem_cons (by omega)]
        congr 1
        have : qs[i]? = some qs[i] := Zge (by omega)
        rw [this] at hq; exact Option.some.inj hq
      rw [e1]; exact rel3
theorem call_dictOf (hh : A.handled = none) {l : Addr} {o : Obj} {n : Nat} {its : List Value} {qs : List (Key × V)} {Q : Value -> Shared -> Prop} (hlo : s.heap.get? l = some o) (hlc : o.cls = .type "list") (hld : o.data = .seq its.toArray n) (hldd : o.dict = none) (hql : qs.length = its.length)
    (hp : ∀ (j : Nat) (v : Value) (q : Key × V), its[j]? = some v -> qs[j]? = some q -> KPair s.heap v q) (hz : its.length <= 1000)
    (h : ∀ h' tk vs', (∀ b ob, s.heap.get? b = some ob -> h'.get? b = some ob) -> h'.DictOf (mixKind prog w) s.heap.objs.size vs' -> KV (mergeK [] qs) vs' -> Q (.ref s.heap.objs.size) { s with heap := h', toks := tk }) :
    wpAny (model prog w) A (call (.type "dict") [.ref l]) Q E s := by
  refine callType_codes (Q₁ := fun obj s₁ => obj = .ref s.heap.objs.size /\ s₁ = { s with heap := s.heap.push { cls := .type "dict", data := .dict #[] } }) F.kt_called_dict (F.kt_typeCall_dict_1 _) F.entry_dict_init (kt_code_dict_new _ ⟨rfl, rfl⟩) ?_
  rintro obj s₁ ⟨rfl, rfl⟩
  have hnew : (s.heap.push { cls := .type "dict", data := .dict #[] }).DictOf (mixKind prog w) s.heap.objs.size [] := Heap.DictOf.new s.heap
  have hl1 : (s.heap.push { cls := .type "dict", data := .dict #[] }).get? l = some o := Zpu _ hlo
  refine ⟨hnew.typeIs, F.args_dict_init_2 _ _, ?_⟩
  unfold Builtin.«dict.__init__»
  apply wpAny_bind
  unfold Builtin.Dict.selfAndRest; apply wpAny_bind
  refine wpAny_notOrdered_dict hnew.typeIs ?_
  show wpAny _ _ (pure (s.heap.objs.size, [Value.ref l])) _ _ _
  apply wpAny_pure
  show wpAny _ _ (Builtin.Dict.updateFrom "dict.__init__" s.heap.objs.size (.ref l) [] .none) _ _ _
  unfold Builtin.Dict.updateFrom; apply wpAny_bind
  refine wpAny_typeOf (T := "list") ⟨o, hl1, hlc⟩ ?_
  rw [if_pos (by decide)]
  apply wpAny_bind
  refine no_keys hl1 hlc hld hldd hh fun h1 tk k1 => ?_
  rw [if_pos (show (none : Option Value).isNone = true from rfl)]; apply wpAny_bind
  apply wpAny_rule
  have hl2 : h1.get? l = some o := k1 _ _ hl1
  have hL2 : h1.IsList l its.toArray := ⟨o, hl2, hlc, n, hld⟩
  have hd2 : h1.DictOf (mixKind prog w) s.heap.objs.size [] := by
    obtain ⟨oo, es, ep, ho, r⟩ := hnew
    exact ⟨oo, es, ep, k1 _ _ ho, r⟩
  have szl1 : s.heap.objs.size < h1.objs.size := by
    obtain ⟨oo, es, ep, ho, r⟩ := hd2
    exact Heap.lt_size ho
  have ltl : l < s.heap.objs.size := Heap.lt_size hlo
  apply wpAny_bind
  refine wpAny_pyIter_list (s := { s with heap := h1, toks := tk }) hL2 ?_
  apply wpAny_pure
  refine ⟨plainId_quiet plain_upd _, ?_⟩
  refine upd_loop (A := A.in1) (s := { s with heap := h1.push { cls := .type "list_iterator", data := .fields #[.ref l, .int 0 0] }, toks := tk }) (its := its) (qs := qs) (l := l) hh (Nat.ne_of_gt (Nat.lt_trans ltl szl1)) (Nat.ne_of_gt szl1) (Nat.ne_of_lt ltl) its.length 0 [] [] 0 rfl (Nat.zero_le _) hql ⟨_, Heap.get?_push_size _ rfl, rfl, rfl⟩ ?_ ?_ ?_ (hd2.push _) .nil (by simpa using hz) ?_
  . exact ⟨o, Zpu _ hl2, hlc, n, hld⟩
  . intro j v q hj hq; obtain ⟨a, u, x, rfl, ⟨ob, hob, r⟩, rr⟩ := hp j v q hj hq
    exact ⟨a, u, x, rfl, ⟨ob, Zpu _ (k1 _ _ (Zpu _ hob)), r⟩, rr⟩
  . intro j v a hj e; obtain ⟨q, hq⟩ : ∃ q, qs[j]? = some q := by
      have : j < its.length := (Zgs.mp hj).1
      exact ⟨qs[j], by simp [hql, this]⟩
    obtain ⟨a', u, x, e', ⟨ob, hob, r⟩, rr⟩ := hp j v q hj hq
    rw [e] at e'; cases e'
    have := Heap.lt_size hob
    exact ⟨Nat.ne_of_lt (Nat.lt_trans this szl1), Nat.ne_of_lt this⟩
  . intro h' tk' vs' k' hd' rel'; refine ⟨rfl, h h' tk' vs' (fun b ob e => ?_) hd' rel'⟩
    have := Heap.lt_size e
    exact k' b ob (Nat.ne_of_lt (Nat.lt_trans this szl1)) (Nat.ne_of_lt this) (Zpu _ (k1 _ _ (Zpu _ e)))
end
section
variable {X : Cx}
abbrev W := Addr × Key × V
def WAt (H : Hp) (zs : List W) : Prop := ∀ z ∈ zs, H z.1 = some (.tup [kV z.2.1, z.2.2])
def mDictOf (K : W.Frag) : List V -> Hp -> VK -> Prop := fun vs H Q => match vs with
  | [.ref a] => ∃ zs : List W, SqL K H a (zs.map fun z => V.ref z.1) /\ WAt H zs /\ zs.length <= 1000 /\ ∀ d, H d = none -> Q (.ref d) (upd H d (.dK (mergeK [] (zs.map (·.2)))))
  | _ => False
theorem c_dictOf (hcm : X.calm = true) : CallR X (.type "dict") (mDictOf X.K) := by
  intro pins s σ H xs us Q I r h; unfold mDictOf at h; split at h
  . rename_i a
    obtain ⟨zs, hq, hz, h1000, q⟩ := h
    obtain ⟨u, rfl, ru⟩ := vals1 r
    cases ru
    obtain ⟨its, r1, p1, _⟩ := I.list hq
    obtain ⟨o, n, ho, hc, hdd, hd⟩ := p1
    have hl : zs.length = its.length := by
      have := r1.length
      rw [Zlm] at this; exact this
    refine call_dictOf (I.ok.hd hcm) ho hc hd hdd (qs := zs.map (·.2)) (by rw [Zlm]; exact hl) (fun j v q' hj hq' => ?_) (by omega) fun h' tk vs' k hd rel => ?_
    . rw [Zgm] at hq'; cases hzj : zs[j]? with
      | none => rw [hzj] at hq'; cases hq'
      | some z =>
        rw [hzj] at hq'; cases hq'
        have e := hz z (Zmg hzj)
        obtain ⟨_, its2, r2, it⟩ := (show ObjOk X.prog X.w H s.heap z.1 (.tup [kV z.2.1, z.2.2]) from I.hok _ _ e)
        have hj2 : j < zs.length := (Zgs.mp hzj).1
        have rv : RelV (V.ref z.1) (its.getD j Value.none) := vals_getD j r1 (by rw [Zlm]; exact hj2) _ (by rw [Zgm, hzj]; rfl)
        have ev : its.getD j Value.none = v := by rw [List.getD_eq_getElem?_getD, hj]; rfl
        rw [ev] at rv; cases rv
        cases r2 with
        | cons a1 r3 =>
          cases r3 with
          | cons a2 r4 =>
            cases r4
            exact ⟨z.1, _, _, rfl, it, a1, a2⟩
    . have hf : H s.heap.objs.size = none := I.hok.fresh (Znr _)
      refine ⟨.ref s.heap.objs.size, _, I.laid (t' := tk) (o := .dK (mergeK [] (zs.map (·.2)))) k (Znr _) ⟨?_, ?_, vs', rel, hd⟩, rfl, q _ hf⟩
      . have := length_mergeK (zs.map (·.2)) []
        rw [Zlm] at this; exact szl' (by simp at this; omega)
      . have hb := I.big
        exact beq_eq_false_iff_ne.mpr (Nat.ne_of_gt hb)
  . exact h.elim
theorem R.kdictOf {K : W.Frag} (hcm : X.calm = true) (hK : X.K = K := by rfl) : XC X (.type "dict") (mDictOf K) := hK ▸ ⟨c_dictOf hcm⟩
end
end L2
namespace L2
open PySem PySem.Spec PyProof.Rows
def mFld (K : W.Frag) (te : TE) (f : Str) : TE := fun σ H Q => te σ H fun x H1 => mR x fun a => ∃ C dx fs v, H1 a = some (.ins C dx fs) /\ Cls K C /\ NoAttr K C f /\ fs.lookup f = some v /\ Q v H1
def mSFld (K : W.Frag) (ta tv : TE) (f : Str) : TS := fun D σ H => tv σ H fun y H1 => ta σ H1 fun x H2 => mR x fun a => ∃ C dx fs, H2 a = some (.ins C dx fs) /\ Cls K C /\ NoAttr K C f /\ fs.length < 1000 /\ D.nx σ (upd H2 a (.ins C dx (putF f y fs)))
section
variable {X : Cx} {e o value : Expr} {f : Str} {pos pos' : Pos} {te ta tv : TE} {K : W.Frag}
theorem pe_mfld (he : PE X e te) (hb : attributeBase e f X.env (eval e X.env) = eval e X.env) : PE X (.Attribute e f pos) (mFld X.K te f) := by
  intro pins s σ H Q I h; refine attr_of hb (thn (he pins s σ H _ I h) fun u s1 ⟨x, H1, I1, rx, q1⟩ => ?_)
  dsimp only at q1
  rw [mR_eq] at q1; obtain ⟨a, rfl, C, dx, fs, v, ea, c, n, l, q⟩ := q1
  obtain rfl : u = Value.ref a := rx
  exact getattr_ok I1 ea c n l fun u' s2 I2 ru => ⟨v, H1, I2, ru, q⟩
theorem ps_mfld (ha : PE X o ta) (hv : PE X value tv) (hs : swapsWith value (some (.Attribute o f pos')) pos.line X.env = pure false) : PS X (.Assign [.Attribute o f pos'] value pos) (mSFld X.K ta tv f) := by
  intro pins s σ H D I h; refine plainObj_wpAny_Assign_Attribute (thn (hv pins s σ H _ I h) fun u s1 ⟨y, H1, I1, ry, q⟩ => thn (ha pins s1 σ H1 _ I1 q) fun ov s2 ⟨x, H2, I2, rx, q1⟩ => ?_) hs
  dsimp only at q1
  rw [mR_eq] at q1; obtain ⟨a, rfl, C, dx, fs, ea, c, n, l, q2⟩ := q1
  obtain rfl : ov = Value.ref a := rx
  exact setattr_ok I2 ea c n l ry fun s3 I3 => ⟨σ, _, I3, q2⟩
end
structure Mth (P : Program) (w : World) (K : W.Frag) (mg : Str -> Option Value) (base : Heap) (n : Nat) (C : Addr) (m : Str) (ps : List Str) (sp : Sp) : Prop where
  ex : ∃ f fd, Cls K C /\ Meth K C m f /\ FnOk P w K mg base CX0 n f fd ps sp /\ Binds K fd ps []
structure Mkr (P : Program) (w : World) (K : W.Frag) (mg : Str -> Option Value) (base : Heap) (n : Nat) (x : Str) (C : Addr) (ps : List Str) (dvs : List V) (sp : Sp) : Prop where
  ex : ∃ f fd ds, mg x = some (.ref C) /\ Mk K C f /\ FnOk P w K mg base CX0 n f fd ps sp /\ Binds K fd ps ds /\ Vals dvs ds
def mMeth (C : Addr) (m : Str) (sp : Sp) (ta : TE) (t : TA) : TE := fun σ H Q => ta σ H fun x H1 => mR x fun a => ∃ dx fs, H1 a = some (.ins C dx fs) /\ fs.lookup m = none /\ t σ H1 fun vs H2 => sp (.ref a :: vs) H2 Q E0
section
variable {X : Cx} {e o : Expr} {es : List Expr} {m x : Str} {p pos apos : Pos} {ta : TE} {t : TA} {C : Addr} {n : Nat} {ps : List Str} {sp : Sp} {dvs : List V}
theorem pe_mmeth {pl : Sem Bool} (he : PE X o ta) (c : Mth X.prog X.w X.K X.mg X.base n C m ps sp) (hr : Room n X.A) (ha : PA X (e :: es) t) (hs : notStar e = true) (hpl : (backTo pos (starEach es X.env)).any (·.1) = false)
    (ht : eval (.Call (.Attribute o m apos) (e :: es) [] pos) X.env = (do
      let ov ← eval o X.env
      standAt apos.atName
      let (f, first) ← holding [ov] (getMethod ov m pl)
      callWith pos f first (backTo pos (starEach (e :: es) X.env)) (backToKw pos (keywordEach [] X.env)))) :
    PE X (.Call (.Attribute o m apos) (e :: es) [] pos) (mMeth C m sp ta t) := by
  obtain ⟨f, fd, cl, hm, F, hb⟩ := c.ex
  intro pins s σ H Q I h; refine W.methodCall_KW (pl := pl) (thn (he pins s σ H _ I h) fun u s1 ⟨x, H1, I1, rx, q1⟩ => ?_) ht
  dsimp only at q1
  rw [mR_eq] at q1; obtain ⟨a, rfl, dx, fs, ea, l, q⟩ := q1
  obtain rfl : u = Value.ref a := rx
  refine getmeth_ok I1 ea cl hm l ?_
  refine W.callWith_K (first := [.ref a]) (h₀ := X.base) I.ok.mod.kin hm.kp (thn (ha pos pins s1 σ H1 _ I1 q) fun us s2 ⟨vs, H2, I2, r, q2⟩ => ⟨I2.kIn, ?_⟩) (star_cons hs) hpl
  exact run_fn (us := .ref a :: us) (vs := .ref a :: vs) (dvs := []) (ds := []) F hr hb .nil pass0 I2 (.cons rfl r) (by rw [List.append_nil]; exact q2)
theorem pe_mmeth0 {pl : Sem Bool} (he : PE X o ta) (c : Mth X.prog X.w X.K X.mg X.base n C m ps sp) (hr : Room n X.A)
    (ht : eval (.Call (.Attribute o m apos) [] [] pos) X.env = (do
      let ov ← eval o X.env
      standAt apos.atName
      let (f, first) ← holding [ov] (getMethod ov m pl)
      callWith pos f first (backTo pos (starEach [] X.env)) (backToKw pos (keywordEach [] X.env)))) :
    PE X (.Call (.Attribute o m apos) [] [] pos) (mMeth C m sp ta tNil) := by
  obtain ⟨f, fd, cl, hm, F, hb⟩ := c.ex
  intro pins s σ H Q I h; refine W.methodCall_KW (pl := pl) (thn (he pins s σ H _ I h) fun u s1 ⟨x, H1, I1, rx, q1⟩ => ?_) ht
  dsimp only at q1
  rw [mR_eq] at q1; obtain ⟨a, rfl, dx, fs, ea, l, q⟩ := q1
  obtain rfl : u = Value.ref a := rx
  refine getmeth_ok I1 ea cl hm l ?_
  exact W.callWith_K0 (first := [.ref a]) I1.kIn hm.kp (run_fn (us := [.ref a]) (vs := [.ref a]) (dvs := []) (ds := []) F hr hb .nil pass0 I1 (.cons rfl .nil) (by rw [List.append_nil]; exact q))
end
structure FunD (K : W.Frag) (x qual : Str) (st : Stmt) (dv : Value) (f : Addr) (fd : FuncData) : Prop where
  ex : ∃ (oc : Value) (od : Option Addr) (kV doc pm : Value) (an : Option Addr) (cdv ct : Value) (osl : Array (Option Value)),
    fd = W.fnOf x qual (defArgs st) (defBody st) (defScope st) dv kV doc pm an cdv ct /\ K.lookup f = some ⟨oc, od, .func fd, osl⟩ /\ W.codeIn K cdv qual = true
section
variable {P : Program} {w : World} {K : W.Frag} {mg : Str -> Option Value} {base : Heap} {x qual : Str} {st : Stmt} {dv : Value} {f C : Addr} {fd : FuncData} {N ps : List Str} {k : Nat} {sp : Sp}
theorem FunD.go (F : FunD K x qual st dv f fd) (S : FnScope N ps (defScope st)) (len : ∀ vs H Q E, sp vs H Q E -> vs.length = ps.length)
    (hbody : ∀ (cdv : Value) (A : Around) (outer : List Env) (s : Shared) (H : Hp) (vs : List V) (Q : VK) (E : XK), Room k (A.deeper (envOfC qual (defScope st) s.heap.objs.size f cdv)) -> sp vs H Q E →
      ∃ t, XB (cxOf CX0 P w K mg base N qual (defScope st) f cdv A outer s H E).nox (defBody st) t /\ t { nx := fun _ H' => Q .non H', rt := Q } (start N vs) H) : FnOk P w K mg base CX0 (k + 1) f fd ps sp := by
  obtain ⟨oc, od, kV, doc, pm, an, cdv, ct, osl, rfl, lk, hcd⟩ := F.ex
  refine fn_of lk hcd S len fun A outer s H vs Q E hr hsp => ?_
  obtain ⟨t, h, q⟩ := hbody cdv A outer s H vs Q E hr hsp
  exact ⟨t, h.h.nox, q⟩
structure MethAt (K : W.Frag) (C : Addr) (m qual : Str) (st : Stmt) (ps : List Str) : Prop where
  cl : Cls K C
  ex : ∃ f fd, Fun K m qual st f fd /\ Meth K C m f /\ Binds K fd ps []
theorem MethAt.go {m : Str} (D : MethAt K C m qual st ps) (S : FnScope N ps (defScope st)) (len : ∀ vs H Q E, sp vs H Q E -> vs.length = ps.length)
    (hbody : ∀ (f : Addr) (cdv : Value) (A : Around) (outer : List Env) (s : Shared) (H : Hp) (vs : List V) (Q : VK) (E : XK), Room k (A.deeper (envOfC qual (defScope st) s.heap.objs.size f cdv)) -> sp vs H Q E →
      ∃ t, XB (cxOf CX0 P w K mg base N qual (defScope st) f cdv A outer s H E).nox (defBody st) t /\ t { nx := fun _ H' => Q .non H', rt := Q } (start N vs) H) : Mth P w K mg base (k + 1) C m ps sp := by
  obtain ⟨f, fd, F, hm, hb⟩ := D.ex
  exact ⟨f, fd, D.cl, hm, F.go S len (hbody f), hb⟩
structure ClsAt (K : W.Frag) (mg : Str -> Option Value) (x : Str) (C : Addr) (qual : Str) (st : Stmt) (ps : List Str) (dvs : List (List V)) : Prop where
  ex : ∃ f fd dv, mg x = some (.ref C) /\ FunD K "__init__" qual st dv f fd /\ Mk K C f /\ ∀ d ∈ dvs, ∃ ds, Binds K fd ps ds /\ Vals d ds
theorem ClsAt.go {dvs : List (List V)} (D : ClsAt K mg x C qual st ps dvs) (S : FnScope N ps (defScope st)) (len : ∀ vs H Q E, sp vs H Q E -> vs.length = ps.length)
    (hbody : ∀ (f : Addr) (cdv : Value) (A : Around) (outer : List Env) (s : Shared) (H : Hp) (vs : List V) (Q : VK) (E : XK), Room k (A.deeper (envOfC qual (defScope st) s.heap.objs.size f cdv)) -> sp vs H Q E →
      ∃ t, XB (cxOf CX0 P w K mg base N qual (defScope st) f cdv A outer s H E).nox (defBody st) t /\ t { nx := fun _ H' => Q .non H', rt := Q } (start N vs) H) : ∀ d ∈ dvs, Mkr P w K mg base (k + 1) x C ps d sp := by
  intro d hd; obtain ⟨f, fd, dv, e, F, M, hb⟩ := D.ex
  obtain ⟨ds, b, v⟩ := hb d hd
  exact ⟨f, fd, ds, e, M, F.go S len (hbody f), b, v⟩
end
namespace R
section
variable {X : Cx} {e o i value : Expr} {es : List Expr} {m x f : Str} {p pos pos' apos : Pos} {te ta tv td ty : TE} {t : TA} {C : Addr} {n : Nat} {ps : List Str} {sp : Sp} {dvs : List V} {K : W.Frag} {tg : Expr}
theorem kfld (he : XE X e te) (hK : X.K = K := by rfl) (hb : attributeBase e f X.env (eval e X.env) = eval e X.env := by rfl) : XE X (.Attribute e f pos) (mFld K te f) := hK ▸ ⟨pe_mfld he.h hb⟩
theorem ksfld (ha : XE X o ta) (hv : XE X value tv) (hK : X.K = K := by rfl) (hs : swapsWith value (some (.Attribute o f pos')) pos.line X.env = pure false := by rfl) : XS X (.Assign [.Attribute o f pos'] value pos) (mSFld K ta tv f) := hK ▸ ⟨ps_mfld ha.h hv.h hs⟩
theorem dix (hu : X.A.units + 1 < cLine) (ho : XE X o td) (hi : XE X i ty) (hs : NoSl i := by exact fun _ _ => rfl) : XE X (.Subscript o i pos) (tDGet td ty) := ⟨pe_dget hu ho.h hi.h hs⟩
theorem meth {pl : Sem Bool} (c : Mth X.prog X.w X.K X.mg X.base n C m ps sp) (hr : Room n X.A) (he : XE X o ta) (ha : XA X (e :: es) t) (hs : notStar e = true := by rfl) (h2 : es.all notStar = true := by rfl)
    (ht : eval (.Call (.Attribute o m apos) (e :: es) [] pos) X.env = (do
      let ov ← eval o X.env
      standAt apos.atName
      let (f, first) ← holding [ov] (getMethod ov m pl)
      callWith pos f first (backTo pos (starEach (e :: es) X.env)) (backToKw pos (keywordEach [] X.env))) := by rfl) : XE X (.Call (.Attribute o m apos) (e :: es) [] pos) (mMeth C m sp ta t) := ⟨pe_mmeth he.h c hr ha.h hs (star_any h2) ht⟩
theorem meth0 {pl : Sem Bool} (c : Mth X.prog X.w X.K X.mg X.base n C m ps sp) (hr : Room n X.A) (he : XE X o ta)
    (ht : eval (.Call (.Attribute o m apos) [] [] pos) X.env = (do
      let ov ← eval o X.env
      standAt apos.atName
      let (f, first) ← holding [ov] (getMethod ov m pl)
      callWith pos f first (backTo pos (starEach [] X.env)) (backToKw pos (keywordEach [] X.env))) := by rfl) : XE X (.Call (.Attribute o m apos) [] [] pos) (mMeth C m sp ta tNil) := ⟨pe_mmeth0 he.h c hr ht⟩
end
end R
end L2
namespace L2
open PySem PySem.Spec PyProof.Rows
def dkv (prs : List (Str × Int)) : List (Key × V) := prs.map fun q => (Sum.inr q.1, V.int q.2)
def amt (prs : List (Str × Int)) (n : Str) : Int := (prs.lookup n).getD 0
theorem dkv_keys (prs : List (Str × Int)) : (dkv prs).map (·.1) = (prs.map (·.1)).map Sum.inr := by
  unfold dkv; rw [List.map_map, List.map_map]; rfl
theorem dkv_val (n : Str) : ∀ (prs : List (Str × Int)), valV (dkv prs) (Sum.inr n) = (prs.lookup n).map V.int
  | [] => rfl
  | q :: r => by
    unfold dkv; rw [List.map_cons, List.lookup_cons]; by_cases h : n = q.1
    . subst h; rw [valV_pos rfl]; simp
    . have hb : (n == q.1) = false := beq_eq_false_iff_ne.mpr h
      rw [valV_neg (by intro z; exact h (Sum.inr.inj z).symm), hb]
      exact dkv_val n r
theorem dkv_amt (prs : List (Str × Int)) (n : Str) : (valV (dkv prs) (Sum.inr n)).getD (V.int 0) = V.int (amt prs n) := by
  rw [dkv_val]; unfold amt; cases prs.lookup n <;> rfl
theorem merge_new : ∀ (more kvs : List (Key × V)), (more.map (·.1)).Nodup -> (∀ k ∈ more.map (·.1), valV kvs k = none) -> mergeK kvs more = kvs ++ more
  | [], kvs, _, _ => (List.append_nil _).symm
  | p :: r, kvs, hn, h => by
    obtain ⟨h1, h2⟩ := List.nodup_cons.mp hn
    show mergeK (putK kvs p.1 p.2) r = _
    have e0 : valV kvs p.1 = none := h p.1 (by simp)
    rw [merge_new r _ h2 fun k hk => ?_, putK_new _ e0]
    . simp
    . rw [valV_put, if_neg (fun (z : k = p.1) => h1 (by dsimp only; rw [<- z]; exact hk))]
      exact h k (Zmc _ hk)
theorem inr_nodup : ∀ {l : List Str}, l.Nodup -> (l.map (Sum.inr : Str -> Key)).Nodup
  | [], _ => List.nodup_nil
  | a :: l, h => by
    obtain ⟨h1, h2⟩ := List.nodup_cons.mp h
    refine List.nodup_cons.mpr ⟨fun z => ?_, inr_nodup h2⟩
    obtain ⟨b, hb, e⟩ := Zmm.mp z
    cases e
    exact h1 hb
theorem merge_dkv {prs : List (Str × Int)} (h : (prs.map (·.1)).Nodup) : mergeK [] (dkv prs) = dkv prs := by
  rw [merge_new _ _ (by rw [dkv_keys]; exact inr_nodup h) fun _ _ => rfl]
  rfl
theorem has_lookup {n : Str} : ∀ {prs : List (Str × Int)}, n ∈ prs.map (·.1) -> ∃ a, prs.lookup n = some a
  | q :: r, h => by
    rw [List.lookup_cons]; by_cases e : n = q.1
    . subst e; exact ⟨q.2, by simp⟩
    . have hb : (n == q.1) = false := beq_eq_false_iff_ne.mpr e
      rw [hb]; rcases List.mem_cons.mp h with z | z
      . exact absurd z e
      . exact has_lookup z
def RowsAt (H : Hp) (r : V) (prs : List (Str × Int)) : Prop := (r = .non /\ prs = []) ∨ ∃ l zs, r = .ref l /\ H l = some (.lst (zref zs)) /\ ZAt H zs /\ zs.map (·.2) = prs
def wz (zs : List Z) : List W := zs.map fun z => (z.1, Sum.inr z.2.1, V.int z.2.2)
theorem wz_ref (zs : List Z) : ((wz zs).map fun z => V.ref z.1) = zref zs := by
  unfold wz zref; rw [List.map_map]; rfl
theorem wz_at {H : Hp} {zs : List Z} (h : ZAt H zs) : WAt H (wz zs) := fun z hz => by
  obtain ⟨y, hy, rfl⟩ := Zmm.mp hz
  exact h y hy
theorem wz_dkv (zs : List Z) : (wz zs).map (·.2) = dkv (zs.map (·.2)) := by
  unfold wz dkv; rw [List.map_map, List.map_map]; rfl
theorem put0 (y : V) : putF "amounts" y [] = [(("amounts" : Str), y)] := rfl
def rowsT (qs : List (Str × Int)) : TV := .ls (qs.map fun q => .tp [.sc (.str q.1), .sc (.int q.2)])
theorem rep_rows {H : Hp} {l : Addr} {zs : List Z} (h1 : H l = some (.lst (zref zs))) (h2 : ZAt H zs) : Rep H 2 (rowsT (zs.map (·.2))) (.ref l) := by
  refine ⟨l, _, rfl, h1, ?_⟩
  clear h1; unfold zref; induction zs with
  | nil => exact .nil
  | cons z zs ih =>
    refine .cons ⟨z.1, _, rfl, h2 z Zcs, ?_⟩ (ih fun y hy => h2 y (Zmc _ hy))
    exact .cons (Rep.scal rfl) (.cons (Rep.scal rfl) .nil)
end L2
namespace L2
open PySem PySem.Spec PyProof.Rows
section
variable {M : Model} {A : Around} {E : Value -> Shared -> Prop} {s : Shared}
def SameD (e : Addr) (oe : Obj) (h' : Heap) : Prop := ∃ oe', h'.get? e = some oe' /\ oe'.dict = oe.dict
theorem entryD {base : Heap} {env : Env} {outer : List Env} {L e : Addr} {oe : Obj} {vs : Array Value} {head a0 : Value} {hadNext : Bool} {Q : Unit -> Shared -> Prop}
    (hfr : A.frames = some (env :: outer)) (hl : s.heap.FunFrames base (env :: outer)) (hf : env.frame = some L) (he : s.heap.get? e = some oe) (hkb : base.StaysIn s.heap) (hen : base.get? e = none) (hd : oe.data = .fields vs) (hsz : 1 < vs.size) (h0 : vs[0]? = some a0)
    (h : ∀ h', Heap.NotedW base (env :: outer) e oe.cls a0 (rawInt L) s.heap h' -> SameD e oe h' -> Q () { s with heap := h' }) :
    wpAny M A (do let a ← frameOf env; let pl ← entryPlaceOf L hadNext; let b ← EntryCells.newEntry head a .none (rawInt L) .none pl; setField (.ref e) 1 b) Q E s := by
  have hene : e ∉ (env :: outer).filterMap (·.frame) := fun hm => by
    obtain ⟨_, o, ho, hnf⟩ := hl.mem hm
    rw [he] at ho; cases ho; exact hnf vs hd
  refine wpAny_bind (wpAny_frameOf_fun hfr hl hf fun k1 s1 => wpAny_bind (wpAny_entryPlaceOf fun pl hpl => ?_))
  unfold EntryCells.newEntry newFields; refine wpAny_bind (wpAny_newObj_type ?_ (hpl.sizeOk5 _ _ _ _ _))
  have e1 : k1.get? e = some oe := (s1.2.1 e hene).trans he
  have b1 : base.StaysIn k1 := fun b o hbo => (s1.2.1 b fun hm => by rw [(hl.mem hm).1] at hbo; cases hbo).trans (hkb b o hbo)
  have e2 := Zpu (h := k1) { cls := .type "traceback", dict := none, data := .fields ([head, .ref L, .none, rawInt L, .none] ++ (if pl.isEmpty then List.replicate 6 Value.none else pl)).toArray } e1
  have nTe : k1.objs.size ≠ e := Nat.ne_of_gt (Heap.lt_size e1); have d3 := Obj.data_mapFields hd (·.setIfInBounds 1 (Value.ref k1.objs.size))
  have e3 := Heap.get?_update_self (Obj.mapFields (·.setIfInBounds 1 (Value.ref k1.objs.size))) e2 (Obj.isFreed_of_fields d3)
  have t3 := (Heap.get?_update_other (k1.push { cls := .type "traceback", dict := none, data := .fields ([head, .ref L, .none, rawInt L, .none] ++ (if pl.isEmpty then List.replicate 6 Value.none else pl)).toArray }) (Obj.mapFields (·.setIfInBounds 1 (Value.ref k1.objs.size))) (Ne.symm nTe)).trans (Heap.get?_push_size k1 rfl)
  have kp : ∀ b o, b ≠ e -> k1.get? b = some o -> ((k1.push { cls := .type "traceback", dict := none, data := .fields ([head, .ref L, .none, rawInt L, .none] ++ (if pl.isEmpty then List.replicate 6 Value.none else pl)).toArray }).update e (Obj.mapFields (·.setIfInBounds 1 (Value.ref k1.objs.size)))).get? b = some o := fun b o hbe hb => by rw [Heap.get?_update_other _ _ (Ne.symm hbe)]; exact Zpu _ hb
  have nr : ∀ b o, s.heap.get? b = some o -> (∀ vs, o.data ≠ .fields vs) -> b ≠ e := fun b o hb hnf q => by rw [q, he] at hb; cases hb; exact hnf vs hd
  refine wpAny_setField e2 hd hsz (h _ ⟨fun b o hbo => kp b o (fun q => by rw [q, hen] at hbo; cases hbo) (b1 b o hbo), hl.of_keeps fun b o hb hnf => ?_, ?_, fun b o hb hnf => ?_⟩ ⟨_, e3, ?_⟩)
  . obtain ⟨sl, hs⟩ := s1.2.2 b o hb; exact ⟨_, kp b _ (nr b o hb hnf) hs, rfl⟩
  . exact ⟨_, _, k1.objs.size, _, _, e3, ⟨Obj.cls_mapFields _ _, by rw [Array.getElem?_setIfInBounds_ne (by decide)]; exact h0⟩, d3, by simp [hsz], b1.fresh, nTe, t3, rfl, by first | (simp; done) | (rcases hpl with rfl | ⟨_, _, _, _, _, _, _, rfl⟩ <;> simp)⟩
  . obtain ⟨sl, hs⟩ := s1.2.2 b o hb; exact ⟨sl, kp b _ (nr b o hb hnf) hs⟩
  . obtain ⟨oc, od, odt, osl⟩ := oe; cases hd; rfl
theorem noteD {base : Heap} {env : Env} {outer : List Env} {L e : Addr} {oe : Obj} {cls a0 : Value} {Q : Unit -> Shared -> Prop} (hfr : A.frames = some (env :: outer)) (hl : s.heap.FunFrames base (env :: outer)) (hf : env.frame = some L) (he : s.heap.get? e = some oe) (ht : s.heap.TracedW base e cls a0) (hkb : base.StaysIn s.heap) (hen : base.get? e = none)
    (h : ∀ h', Heap.NotedW base (env :: outer) e cls a0 (rawInt L) s.heap h' -> SameD e oe h' -> Q () { s with heap := h' }) : wpAny M A (noteFrame (.ref e) env) Q E s := by
  obtain ⟨oe', vs, T, oT, ts, he', ⟨hcls, h0⟩, hd, h1, hnT, hTe, hT, hdT, h3⟩ := ht
  rw [he] at he'; cases he'; subst hcls
  unfold noteFrame; simp only [hf]; refine wpAny_bind (wpAny_field he hd h1 ?_); rw [if_pos (show (Value.ref T != Value.none) = true from by simp)]
  refine wpAny_bind (wpAny_field hT hdT h3 ?_); rw [if_neg (show ¬ ((Value.none == rawInt L) = true) from by simp [rawInt])]; refine wpAny_bind (wpAny_setField hT hdT (Array.getElem?_eq_some_iff.mp h3).1 ?_)
  have ot : ∀ b, b ≠ T -> (s.heap.update T (Obj.mapFields (·.setIfInBounds 3 Value.none))).get? b = s.heap.get? b := fun b hb => Heap.get?_update_other _ _ (Ne.symm hb)
  have nr : ∀ b o, s.heap.get? b = some o -> (∀ vs, o.data ≠ .fields vs) -> b ≠ T := fun b o hb hnf q => by rw [q, hT] at hb; cases hb; exact hnf ts hdT
  refine entryD hfr (hl.of_keeps fun b o hb hnf => ⟨o, (ot b (nr b o hb hnf)).trans hb, rfl⟩) hf ((ot e (Ne.symm hTe)).trans he) (fun b o hbo => (ot b fun q => by rw [q, hnT] at hbo; cases hbo).trans (hkb b o hbo)) hen hd (Array.getElem?_eq_some_iff.mp h1).1 h0
    fun h' ⟨x1, x2, x3, x4⟩ hD => h h' ⟨x1, x2, x3, fun b o hb hnf => x4 b o ((ot b (nr b o hb hnf)).trans hb) hnf⟩ hD
theorem landD {base : Heap} {l : List Env} {e : Addr} {oe : Obj} {cls a0 fl : Value} {Q : Unit -> Shared -> Prop} (hkb : base.StaysIn s.heap) (hl : s.heap.FunFrames base l) (he : s.heap.get? e = some oe) (ht : s.heap.TracedAtW base e cls a0 fl)
    (h : ∀ h', base.StaysIn h' -> h'.FunFrames base l -> h'.TracedW base e cls a0 -> (∀ b o, s.heap.get? b = some o -> (∀ vs, o.data ≠ .fields vs) -> h'.get? b = some o) -> h'.get? e = some oe -> Q () { s with heap := h' }) : wpAny M A (setFlight (.ref e) none) Q E s := by
  obtain ⟨oe', vs, T, oT, ts, he', hcls, hd, h1, hnT, hTe, hT, hdT, h3⟩ := ht
  rw [he] at he'; cases he'
  have z3 : 3 < ts.size := (Array.getElem?_eq_some_iff.mp h3).1
  have ot : ∀ b, b ≠ T -> (s.heap.update T (Obj.mapFields (·.setIfInBounds 3 ((none : Option Addr).elim Value.none fun f => rawInt f)))).get? b = s.heap.get? b := fun b hb => Heap.get?_update_other _ _ (Ne.symm hb)
  have nr : ∀ b o, s.heap.get? b = some o -> (∀ vs, o.data ≠ .fields vs) -> b ≠ T := fun b o hb hnf q => by rw [q, hT] at hb; cases hb; exact hnf ts hdT
  unfold setFlight; refine wpAny_bind (wpAny_field he hd h1 ?_); rw [if_pos (show (Value.ref T != Value.none) = true from by simp)]
  refine wpAny_setField hT hdT z3 (h _ (fun b o hbo => (ot b fun q => by rw [q, hnT] at hbo; cases hbo).trans (hkb b o hbo)) (hl.of_keeps fun b o hb hnf => ⟨o, (ot b (nr b o hb hnf)).trans hb, rfl⟩) ?_ (fun b o hb hnf => (ot b (nr b o hb hnf)).trans hb) ((ot e (Ne.symm hTe)).trans he))
  exact ⟨oe, vs, T, _, _, (ot e (Ne.symm hTe)).trans he, hcls, hd, h1, hnT, hTe, Heap.get?_update_self _ hT (Obj.isFreed_of_fields (Obj.data_mapFields hdT _)), Obj.data_mapFields hdT _, by simp [z3]⟩
end
section
variable {P : Program} {w : World} {H H0 : Hp} {h h1 h2 : Heap} {a : Addr} {o : HO}
theorem ObjOk.has (x : ObjOk P w H h a o) : ∃ ob, h.get? a = some ob := by
  cases o with
  | lst xs => obtain ⟨_, _, _, _, e⟩ := x; exact ⟨_, e⟩
  | tup xs => obtain ⟨_, _, _, ob, e, _⟩ := x; exact ⟨_, e⟩
  | dK kvs => obtain ⟨_, _, _, _, ob, _, _, e, _⟩ := x; exact ⟨_, e⟩
  | dT kvs => obtain ⟨_, _, _, _, ob, _, _, e, _⟩ := x; exact ⟨_, e⟩
  | set S n => obtain ⟨ob, _, _, _, e, _⟩ := x; exact ⟨_, e⟩
  | ins C dx fs => obtain ⟨_, _, _, e, _⟩ := x; exact ⟨_, e⟩
  | own y => exact x
  | xd fs => obtain ⟨_, ⟨ob, _, _, e, _⟩, _⟩ := x; exact ⟨_, e⟩
  | rng lo hi => obtain ⟨_, _, _, e⟩ := x; exact ⟨_, e⟩
  | frz ob u => exact ⟨_, x.1⟩
  | tbl ps => exact ⟨_, x⟩
  | met f y => exact ⟨_, x⟩
  | ext φ => exact x.2.1
theorem HOk.none_of (x : HOk P w H h) (e : h.get? a = none) : H a = none := by
  cases q : H a with
  | none => rfl
  | some u =>
    obtain ⟨ob, z⟩ := (x a u q).has
    rw [e] at z; cases z
theorem hid_un {fs hid : List Addr} {s0 : Heap} (un : Un fs [] H0 H s0 h1) (hok : HOk P w H h1) (hh : ∀ b ∈ hid, b ∈ fs ∨ (s0.get? b = none /\ H b = none)) (hsub : ∀ b ∈ fs, b ∈ hid) (hfr : ∀ b ∈ fs, H0 b = none /\ ∃ o, s0.get? b = some o /\ ∀ vs, o.data ≠ .fields vs)
    (hB : (W.hideAll h1 hid).StaysIn h2) (hS : ∀ b o, h1.get? b = some o -> (∀ vs, o.data ≠ .fields vs) -> ∃ sl, h2.get? b = some { o with slots := sl }) : Un fs [] H0 H s0 h2 /\ HOk P w H h2 := by
  have kp : ∀ b ob, h1.get? b = some ob -> b ∉ hid -> h2.get? b = some ob := fun b ob q n => hB b ob (W.hideAll_get _ q n)
  have nh : ∀ b ob, s0.get? b = some ob -> b ∉ fs -> b ∉ hid := fun b ob q n z => by
    rcases hh b z with y | y
    . exact n y
    . rw [y.1] at q; cases q
  have sl : ∀ b ob, s0.get? b = some ob -> b ∈ fs -> ∃ sl, h2.get? b = some { ob with slots := sl } := fun b ob q hb => by
    obtain ⟨h0, o', q', nf⟩ := hfr b hb
    rw [q] at q'; cases q'
    obtain ⟨sl, e⟩ := un.slot b ob q h0 hb (by simp)
    obtain ⟨sl2, e2⟩ := hS b { ob with slots := sl } e nf
    exact ⟨sl2, e2⟩
  refine ⟨⟨fun b ob q n hb hx => kp b ob (un.keep b ob q n hb hx) (nh b ob q hb), fun b ob q n hb hx => sl b ob q hb, un.free, fun b ob q hx => ?_, un.tups, un.frzs, un.tbls⟩, fun b u e => ?_⟩
  . by_cases hb : b ∈ fs
    . obtain ⟨_, z⟩ := sl b ob q hb
      exact ⟨_, z⟩
    . obtain ⟨o', z⟩ := un.there b ob q hx
      exact ⟨o', kp b o' z (nh b ob q hb)⟩
  . have nt : ∀ c v, H c = some v -> c ∉ hid := fun c v hc z => by
      rcases hh c z with y | y
      . obtain ⟨h0, o', q', _⟩ := hfr c y
        rw [un.free c o' q' h0 (by simp)] at hc
        cases hc
      . rw [y.2] at hc; cases hc
    refine (hok b u e).stay (fun c v hc q => kp c v q ?_) (fun _ q => q) fun _ _ q => q
    rcases hc with z | z
    . rw [z]; exact nt b u e
    . exact nt c _ z
theorem hid_rec {fs hid : List Addr} {s0 : Heap} {T : Addr} {oT : Obj} {ts : Array Value} (un : Un fs [] H0 H s0 h1) (hok : HOk P w H h1) (hh : ∀ b ∈ hid, b ∈ fs ∨ (s0.get? b = none /\ H b = none)) (hfr : ∀ b ∈ fs, H0 b = none /\ ∃ o, s0.get? b = some o /\ ∀ vs, o.data ≠ .fields vs)
    (hS : ∀ b o, h1.get? b = some o -> (∀ vs, o.data ≠ .fields vs) -> ∃ sl, h2.get? b = some { o with slots := sl }) (hn : (W.hideAll h1 hid).get? T = none) (hT : h2.get? T = some oT) (hd : oT.data = .fields ts) : s0.get? T = none /\ H T = none := by
  by_cases hm : T ∈ hid
  . rcases hh T hm with y | y
    . obtain ⟨h0, o', q', nf⟩ := hfr T y
      obtain ⟨sl, e⟩ := un.slot T o' q' h0 y (by simp)
      obtain ⟨sl2, e2⟩ := hS T _ e nf
      rw [hT] at e2; cases e2
      exact absurd hd (nf ts)
    . exact y
  . have z : h1.get? T = none := by
      cases q : h1.get? T with
      | none => rfl
      | some ob =>
        rw [W.hideAll_get _ q hm] at hn; cases hn
    refine ⟨?_, hok.none_of z⟩
    cases q : s0.get? T with
    | none => rfl
    | some ob =>
      obtain ⟨o', e⟩ := un.there T ob q (by simp)
      rw [z] at e; cases e
end
def Trc (h : Heap) (a : Addr) (cls fl : Value) (T : Addr) : Prop :=
  ∃ oe vs a0 oT ts, h.get? a = some oe /\ oe.cls = cls /\ vs[0]? = some a0 /\ oe.data = .fields vs /\ vs[1]? = some (.ref T) /\ T ≠ a /\ h.get? T = some oT /\ oT.data = .fields ts /\ ts[3]? = some fl
def DOf (h : Heap) (a : Addr) (od : Option Addr) : Prop := ∀ dx, od = some dx -> ∃ oe, h.get? a = some oe /\ oe.dict = some dx
structure Fly (P : Program) (w : World) (l : List Env) (H0 : Hp) (s0 : Shared) (H : Hp) (a : Addr) (cls : Value) (od : Option Addr) (fl : Value) (s : Shared) : Prop where
  na : s0.heap.get? a = none
  os : s.os = s0.os
  bare : AllBare s.gens
  un : Un (frs l) [] H0 H s0.heap s.heap
  hok : HOk P w H s.heap
  ha : H a = none
  tr : ∃ T, Trc s.heap a cls fl T /\ s0.heap.get? T = none /\ H T = none
  dd : DOf s.heap a od
def CXf (P : Program) (w : World) : CXT := fun outer H s E e s' => ∃ a cls od H', e = Value.ref a /\ Fly P w outer H s H' a cls od .none s' /\ E cls od H'
section
variable {X : Cx} {pins : List (Addr × Obj)} {σ : St} {H H0 : Hp} {s s0 : Shared} {a : Addr} {cls fl : Value} {od : Option Addr} {M : Model} {A : Around} {E : Value -> Shared -> Prop} {Q : Unit -> Shared -> Prop}
theorem frs_mem {l : List Env} {env : Env} {b : Addr} (he : env ∈ l) (hb : env.frame = some b) : b ∈ frs l := List.mem_filterMap.mpr ⟨env, he, hb⟩
theorem Inv.frms (I : Inv X pins σ H s) : ∀ b ∈ frs X.stack, H b = none /\ ∃ o, s.heap.get? b = some o /\ ∀ vs, o.data ≠ .fields vs := fun b hb =>
  ⟨I.stkFree b hb, (I.stack.mem hb).2⟩
theorem Fly.inv (F : Fly X.prog X.w X.stack H0 s0 H a cls od fl s) (I0 : Inv X pins σ H0 s0) : Inv X pins σ H s := I0.call' F.os F.un F.hok F.bare (fun _ z => nomatch z)
theorem fly_note (I0 : Inv X pins σ H0 s0) (F : Fly X.prog X.w X.stack H0 s0 H a cls od .none s) (hA : A.frames = some X.stack) (hst : X.stack = X.env :: X.outer) (hf : X.env.frame = some X.env.locals)
    (k : ∀ s', Fly X.prog X.w X.stack H0 s0 H a cls od (rawInt X.env.locals) s' -> Q () s') : wpAny M A (noteFrame (.ref a) X.env) Q E s := by
  have I := F.inv I0
  obtain ⟨T, ⟨oe, vs, a0, oT, ts, e1, e2, e3, e4, e5, e6, e7, e8, e9⟩, nT, hT⟩ := F.tr
  have hin : ∀ env ∈ X.stack, ∀ b, env.frame = some b -> b ∈ frs X.stack ++ [a, T] := fun env he b hb => List.mem_append_left _ (frs_mem he hb)
  have hh : ∀ b ∈ frs X.stack ++ [a, T], b ∈ frs X.stack ∨ (s0.heap.get? b = none /\ H b = none) := fun b hb => by
    rcases Zma.mp hb with z | z
    . exact .inl z
    . rcases List.mem_cons.mp z with y | y
      . rw [y]; exact .inr ⟨F.na, F.ha⟩
      . rw [Zms.mp y]; exact .inr ⟨nT, hT⟩
  have hm1 : a ∈ frs X.stack ++ [a, T] := List.mem_append_right _ Zcs
  have hm2 : T ∈ frs X.stack ++ [a, T] := List.mem_append_right _ (Zmc _ Zcs)
  have ff := W.funFrames_hide I.stack hin
  have go := noteD (M := M) (A := A) (E := E) (Q := Q) (s := s) (base := W.hideAll s.heap (frs X.stack ++ [a, T])) (env := X.env) (outer := X.outer) (L := X.env.locals) (e := a) (cls := cls) (a0 := a0) (by rw [hA, hst]) (by rw [<- hst]; exact ff) hf e1
    ⟨oe, vs, T, oT, ts, e1, ⟨e2, e3⟩, e4, e5, W.hideAll_none _ hm2, e6, e7, e8, e9⟩ (fun b o q => W.of_hideAll _ q) (W.hideAll_none _ hm1) ?_
  . exact go
  . rintro h' ⟨k1, k2, ⟨oe', vs', T', oT', ts', q1, ⟨q2, q3⟩, q4, q5, q6, q7, q8, q9, q10⟩, k4⟩ ⟨od', d1, d2⟩
    obtain ⟨u2, ok2⟩ := hid_un F.un F.hok hh (fun b hb => List.mem_append_left _ hb) I0.frms k1 k4
    obtain ⟨n1, n2⟩ := hid_rec F.un F.hok hh I0.frms k4 q6 q8 q9
    refine k _ ⟨F.na, F.os, F.bare, u2, ok2, F.ha, ⟨T', ⟨oe', vs', a0, oT', ts', q1, q2, q3, q4, q5, q7, q8, q9, q10⟩, n1, n2⟩, fun dx hdx => ?_⟩
    obtain ⟨o1, z1, z2⟩ := F.dd dx hdx
    rw [e1] at z1; cases z1
    exact ⟨od', d1, d2.trans z2⟩
theorem fly_land (I0 : Inv X pins σ H0 s0) (F : Fly X.prog X.w X.stack H0 s0 H a cls od fl s) (k : ∀ s', Fly X.prog X.w X.stack H0 s0 H a cls od .none s' -> Q () s') : wpAny M A (setFlight (.ref a) none) Q E s := by
  have I := F.inv I0
  obtain ⟨T, ⟨oe, vs, a0, oT, ts, e1, e2, e3, e4, e5, e6, e7, e8, e9⟩, nT, hT⟩ := F.tr
  have hin : ∀ env ∈ X.stack, ∀ b, env.frame = some b -> b ∈ frs X.stack ++ [a, T] := fun env he b hb => List.mem_append_left _ (frs_mem he hb)
  have hh : ∀ b ∈ frs X.stack ++ [a, T], b ∈ frs X.stack ∨ (s0.heap.get? b = none /\ H b = none) := fun b hb => by
    rcases Zma.mp hb with z | z
    . exact .inl z
    . rcases List.mem_cons.mp z with y | y
      . rw [y]; exact .inr ⟨F.na, F.ha⟩
      . rw [Zms.mp y]; exact .inr ⟨nT, hT⟩
  have hm2 : T ∈ frs X.stack ++ [a, T] := List.mem_append_right _ (Zmc _ Zcs)
  refine landD (base := W.hideAll s.heap (frs X.stack ++ [a, T])) (l := X.stack) (cls := cls) (a0 := a0) (fl := fl) (fun b o q => W.of_hideAll _ q) (W.funFrames_hide I.stack hin) e1 ⟨oe, vs, T, oT, ts, e1, ⟨e2, e3⟩, e4, e5, W.hideAll_none _ hm2, e6, e7, e8, e9⟩ ?_
  rintro h' k1 k2 ⟨oe', vs', T', oT', ts', q1, ⟨q2, q3⟩, q4, q5, q6, q7, q8, q9, q10⟩ k4 kE
  have k5 : ∀ b o, s.heap.get? b = some o -> (∀ vs, o.data ≠ .fields vs) -> ∃ sl, h'.get? b = some { o with slots := sl } := fun b o q n => ⟨o.slots, k4 b o q n⟩
  obtain ⟨u2, ok2⟩ := hid_un F.un F.hok hh (fun b hb => List.mem_append_left _ hb) I0.frms k1 k5
  obtain ⟨n1, n2⟩ := hid_rec F.un F.hok hh I0.frms k5 q6 q8 q9
  refine k _ ⟨F.na, F.os, F.bare, u2, ok2, F.ha, ⟨T', ⟨oe', vs', a0, oT', ts', q1, q2, q3, q4, q5, q7, q8, q9, q10⟩, n1, n2⟩, fun dx hdx => ?_⟩
  obtain ⟨o1, z1, z2⟩ := F.dd dx hdx
  rw [e1] at z1; cases z1
  exact ⟨oe, kE, z2⟩
theorem fly_made {P : Program} {w : World} {K : W.Frag} {mg : Str -> Option Value} {base : Heap} {N : List Str} {qual : Str} {scope : Scope} {f : Addr} {cd : Value} {A : Around} {outer : List Env} {s s1 : Shared} {H H1 : Hp} {E : XK} {e : Addr} {h' : Heap} {args : List Value}
    (I : Inv (cxOf (CXf P w) P w K mg base N qual scope f cd A outer s H E) pins σ H1 s1) (hf : (envOfC qual scope s.heap.objs.size f cd).frame = some (envOfC qual scope s.heap.objs.size f cd).locals) (hx : Heap.MadeExcOf s1.heap h' e cls args) (q : E cls none H1) :
    (cxOf (CXf P w) P w K mg base N qual scope f cd A outer s H E).xe (.ref e) { s1 with heap := h' } := by
  obtain ⟨t, he, htn, ht⟩ := hx.there
  have und : Un (frs outer) [] H H1 s.heap s1.heap := I.base
  have fr0 : ∀ b ∈ frs outer, H b = none /\ ∃ o, s.heap.get? b = some o /\ ∀ vs, o.data ≠ .fields vs := fun b hb => ⟨I.ok.frf b hb, (I.ok.funs.mem hb).2⟩
  have st : (cxOf (CXf P w) P w K mg base N qual scope f cd A outer s H E).stack = envOfC qual scope s.heap.objs.size f cd :: outer := rfl
  have nL : s.heap.get? (envOfC qual scope s.heap.objs.size f cd).locals = none := Heap.get?_none_of_le I.ok.above
  have ne0 : s.heap.get? e = none := by
    cases z : s.heap.get? e with
    | none => rfl
    | some ob =>
      obtain ⟨o', y⟩ := und.there e ob z (by simp)
      rw [hx.new] at y; cases y
  have he1 : H1 e = none := I.hok.none_of hx.new
  have un1 : Un (frs outer) [] H H1 s.heap h' := ⟨fun b ob q n hb hx' => hx.keeps b _ (und.keep b ob q n hb hx'), fun b ob q n hb hx' => let ⟨sl, y⟩ := und.slot b ob q n hb hx'; ⟨sl, hx.keeps b _ y⟩, und.free, fun b ob q hx' => let ⟨o', y⟩ := und.there b ob q hx'; ⟨o', hx.keeps b _ y⟩, und.tups, und.frzs, und.tbls⟩
  have ok1 : HOk P w H1 h' := HOk.kept (show HOk P w H1 s1.heap from I.hok) hx.keeps
  have hin : ∀ env ∈ (envOfC qual scope s.heap.objs.size f cd :: outer), ∀ b, env.frame = some b -> b ∈ frs (envOfC qual scope s.heap.objs.size f cd :: outer) ++ [e] := fun env he b hb => List.mem_append_left _ (frs_mem he hb)
  have hh : ∀ b ∈ frs (envOfC qual scope s.heap.objs.size f cd :: outer) ++ [e], b ∈ frs outer ∨ (s.heap.get? b = none /\ H1 b = none) := fun b hb => by
    rcases Zma.mp hb with z | z
    . unfold frs at z; rw [List.filterMap_cons, hf] at z; rcases List.mem_cons.mp z with y | y
      . rw [y]; exact .inr ⟨nL, I.free⟩
      . exact .inl y
    . rw [Zms.mp z]; exact .inr ⟨ne0, he1⟩
  have hsub : ∀ b ∈ frs outer, b ∈ frs (envOfC qual scope s.heap.objs.size f cd :: outer) ++ [e] := fun b hb => by
    refine List.mem_append_left _ ?_
    unfold frs; rw [List.filterMap_cons, hf]; exact Zmc _ hb
  have hm1 : e ∈ frs (envOfC qual scope s.heap.objs.size f cd :: outer) ++ [e] := List.mem_append_right _ Zcs
  have ff0 : h'.FunFrames base (envOfC qual scope s.heap.objs.size f cd :: outer) := Heap.FunFrames.of_keeps (fun b o q _ => ⟨o, hx.keeps b o q, rfl⟩) (show s1.heap.FunFrames base (envOfC qual scope s.heap.objs.size f cd :: outer) from I.stack)
  have go := wpAny_leaving_firstW (M := model P w) (A := A.deeper (envOfC qual scope s.heap.objs.size f cd)) (E := fun e' s'' => CXf P w outer H s E e' s'') (Q := fun _ s'' => CXf P w outer H s E (.ref e) s'') (s := { s1 with heap := h' }) (base := W.hideAll h' (frs (envOfC qual scope s.heap.objs.size f cd :: outer) ++ [e])) (env := envOfC qual scope s.heap.objs.size f cd) (outer := outer) (e := e) (a0 := .ref t)
    I.ok.frames (W.funFrames_hide ff0 hin) hf he (fun b o q => W.of_hideAll _ q) (W.hideAll_none _ hm1) rfl rfl rfl ?_
  . exact go
  . rintro h2 ⟨k1, k2, ⟨oe', vs', T', oT', ts', q1, ⟨q2, q3⟩, q4, q5, q6, q7, q8, q9, q10⟩, k4⟩
    obtain ⟨u2, ok2⟩ := hid_un un1 ok1 hh hsub fr0 k1 k4
    obtain ⟨n1, n2⟩ := hid_rec un1 ok1 hh fr0 k4 q6 q8 q9
    exact ⟨e, cls, none, H1, rfl, ⟨ne0, I.os, I.bare, u2, ok2, he1, ⟨T', ⟨oe', vs', _, oT', ts', q1, q2, q3, q4, q5, q7, q8, q9, q10⟩, n1, n2⟩, fun dx h => (by cases h)⟩, q⟩
end
end L2
namespace L2
open PySem PySem.Spec PyProof.Rows
abbrev mroVE : List Value := [.type "ValueError", .type "Exception", .type "BaseException", .type "object"]
structure XCls (K : W.Frag) (mg : Str -> Option Value) (x : Str) (C : Addr) : Prop where
  at_ : mg x = some (.ref C)
  ok : W.excIn K C mroVE "ValueError.__new__" = true
theorem XCls.obj {K : W.Frag} {mg : Str -> Option Value} {x : Str} {C : Addr} {h : Heap} (c : XCls K mg x C) (X : K.In h) :
    ∃ bm N nm q bs hdct sn sub ab col dd k0 k1 k2 k3 k5 mN, h.get? C = some (excClassObj nm q C N bs bm hdct sn sub ab col dd k0 k1 k2 k3 k5 "ValueError.__new__") /\ h.Ns N mN /\ mN "__init__" = none /\ OwnTail h mroVE bm := by
  have q := c.ok
  unfold W.excIn at q; split at q
  . rename_i dd cd sl ho
    split at q
    . rename_i C' bm k0 k1 k2 k3 n k5 hm hs
      simp only [Bool.and_eq_true, beq_iff_eq, Bool.not_eq_true'] at q
      obtain ⟨⟨⟨⟨⟨e1, e2⟩, hdel⟩, ht⟩, hok⟩, hni⟩ := q
      subst e1 e2; obtain ⟨nm, bs, mro, ns, qn, hd, sn, sub, ab, col, del⟩ := cd
      dsimp only at hm hdel hok hni
      subst hm hdel; have hsl : sl = #[k0, k1, k2, k3, some (.builtin "ValueError.__new__"), k5] := by
        obtain ⟨l⟩ := sl
        simp only at hs
        rw [hs]
      subst hsl; exact ⟨bm, ns, nm, qn, bs, hd, sn, sub, ab, col, dd, k0, k1, k2, k3, k5, _, X _ _ ho, .of_isNs (W.isNs_of_in X hok), W.nsMap_none_of_in X hok hni, W.tail_of_in X ht⟩
    . cases q
  . cases q
def tRaise (C : Addr) (E : XK) (t : TA) : TS := fun _ σ H => t σ H fun vs H1 => vs.length <= sizeLine /\ E (.ref C) none H1
def Leaves (X : Cx) (E : XK) : Prop := ∀ (pins : List (Addr × Obj)) (σ : St) (H : Hp) (s : Shared) (h' : Heap) (e : Addr) (cls : Value) (args : List Value), Inv X pins σ H s -> Heap.MadeExcOf s.heap h' e cls args -> E cls none H -> X.xe (.ref e) { s with heap := h' }
theorem leaves_cx {P : Program} {w : World} {K : W.Frag} {mg : Str -> Option Value} {base : Heap} {N : List Str} {qual : Str} {scope : Scope} {f : Addr} {cd : Value} {A : Around} {outer : List Env} {s : Shared} {H : Hp} {E : XK}
    (hf : (envOfC qual scope s.heap.objs.size f cd).frame = some (envOfC qual scope s.heap.objs.size f cd).locals := by rfl) : Leaves (cxOf (CXf P w) P w K mg base N qual scope f cd A outer s H E) E :=
  fun pins σ H1 s1 h' e cls args I hx q => fly_made I hf hx q
section
variable {X : Cx} {x : Str} {C : Addr} {E : XK} {e : Expr} {es : List Expr} {t : TA} {np cpos pos : Pos}
theorem ps_raise (c : XCls X.K X.mg x C) (hl : Leaves X E) (hc : X.calm = true) (hg : Gl X x) (ha : PA X (e :: es) t) (hs : notStar e = true) (h2 : es.all notStar = true) (hdb : (x == ("__debug__" : Str)) = false) :
    PS X (.Raise (some (.Call (.Name x np) (e :: es) [] cpos)) none pos) (tRaise C E t) := by
  intro pins s σ H D I h; obtain ⟨tl, N, nm, q, bs, hdct, sn, sub, ab, col, dd, k0, k1, k2, k3, k5, mN, hC, hN, hni, T⟩ := c.obj I.mod.kin
  have he : starEach (e :: es) X.env = (false, eval e X.env) :: starEach es X.env := star_cons hs
  refine wpAny_Raise_call_subT (C := C) (nm := nm) (q := q) (N := N) (bs := bs) (bm := tl) (hdct := hdct) (sn := sn) (sub := sub) (ab := ab) (col := col) (dd := dd) (k0 := k0) (k1 := k1) (k2 := k2) (k3 := k3) (k5 := k5)
    PySem.F.excBase_ValueError (mN := mN) (T.hasType PySem.F.excBase_ValueError.hasBase) (I.ok.hd hc) (by rw [he]; show (false || (backTo cpos (starEach es X.env)).any (·.1)) = false; rw [star_any h2]; rfl) hni (ld_glob I hg c.at_ ⟨rfl, ?_⟩ hdb)
  have hp := ha cpos pins s σ H _ I h
  rw [he] at hp ⊢; refine Calls.evalArgs_plain (thn hp fun us s1 ⟨vs, H1, I1, r, z, q⟩ => ⟨rfl, by rw [<- r.length]; exact z, I1.bk _ _ hC, hN.keeps I1.bk, T.keeps I1.bk, fun h' e' hm => hl pins σ H1 s1 h' e' _ _ I1 hm q⟩)
end
structure CalleeX (P : Program) (w : World) (K : W.Frag) (mg : Str -> Option Value) (base : Heap) (n : Nat) (x : Str) (ps : List Str) (sp : Sp) : Prop where
  ex : ∃ f fd, mg x = some (.ref f) /\ W.keepIn K (.ref f) = true /\ FnOk P w K mg base (CXf P w) n f fd ps sp /\ Binds K fd ps []
theorem DefAt.goX {P : Program} {w : World} {K : W.Frag} {mg : Str -> Option Value} {base : Heap} {x : Str} {st : Stmt} {N ps : List Str} {k : Nat} {sp : Sp} (D : DefAt K mg x st ps) (S : FnScope N ps (defScope st)) (len : ∀ vs H Q E, sp vs H Q E -> vs.length = ps.length)
    (hbody : ∀ (f : Addr) (cdv : Value) (A : Around) (outer : List Env) (s : Shared) (H : Hp) (vs : List V) (Q : VK) (E : XK), Room k (A.deeper (envOfC x (defScope st) s.heap.objs.size f cdv)) -> sp vs H Q E →
      ∃ t, XB (cxOf (CXf P w) P w K mg base N x (defScope st) f cdv A outer s H E) (defBody st) t /\ t { nx := fun _ H' => Q .non H', rt := Q } (start N vs) H) : CalleeX P w K mg base (k + 1) x ps sp := by
  obtain ⟨f, fd, F, hm, hb⟩ := D.ex
  refine ⟨f, fd, hm, F.kp, ?_, hb⟩
  obtain ⟨oc, od, kV, doc, pm, an, cdv, ct, osl, rfl, lk, hcd⟩ := F.ex
  refine fn_of lk hcd S len fun A outer s H vs Q E hr hsp => ?_
  obtain ⟨t, h, q⟩ := hbody f cdv A outer s H vs Q E hr hsp
  exact ⟨t, h.h, q⟩
def Takes (X : Cx) (Ex : St -> Value -> Option Addr -> Hp -> Prop) : Prop := ∀ (pins : List (Addr × Obj)) (σ : St) (H : Hp) (s : Shared) (e : Value) (s' : Shared), Inv X pins σ H s -> CXf X.prog X.w X.stack H s (fun cls od H' => Ex σ cls od H') e s' -> X.xe e s'
def tFnX (sp : Sp) (Ex : St -> Value -> Option Addr -> Hp -> Prop) (t : TA) : TE := fun σ H Q => t σ H fun vs H1 => sp vs H1 Q (fun cls od H' => Ex σ cls od H')
section
variable {X : Cx} {x : Str} {n : Nat} {ps : List Str} {sp : Sp} {Ex : St -> Value -> Option Addr -> Hp -> Prop} {e : Expr} {es : List Expr} {t : TA} {p pos : Pos}
theorem pe_fnX (c : CalleeX X.prog X.w X.K X.mg X.base n x ps sp) (hr : Room n X.A) (hg : Gl X x) (hx : Takes X Ex) (ha : PA X (e :: es) t) (hs : notStar e = true) (h2 : es.all notStar = true) (hdb : (x == ("__debug__" : Str)) = false) :
    PE X (.Call (.Name x p) (e :: es) [] pos) (tFnX sp Ex t) := by
  obtain ⟨f, fd, hm, hk, F, hb⟩ := c.ex
  intro pins s σ H Q I h; refine wpAny_Call_Name_kw (ld_glob I hg hm ?_ hdb)
  refine W.callWith_K (h₀ := X.base) I.ok.mod.kin hk (thn (ha pos pins s σ H _ I h) fun us s1 ⟨vs, H1, I1, r, q⟩ => ⟨I1.kIn, ?_⟩) (star_cons hs) (star_any h2)
  have hl : us.length = ps.length := by rw [<- r.length]; exact F.len _ _ _ _ q
  have hb' := hb s1 us I1.kIn (by rw [List.append_nil]; exact hl)
  rw [List.append_nil] at hb'; refine wpAny_call (codeAny_mono (F.run X.A X.stack s1 H1 ⟨us, []⟩ us vs Q _ hr I1.env0 hb' r q) fun rs s' hq => ?_)
  cases rs with
  | error e' => exact hx pins σ H1 s1 e' s' I1 hq
  | ok fl =>
    cases fl with
    | ret u => exact I1.after hq
    | next => exact False.elim hq
    | brk => exact False.elim hq
    | cont => exact False.elim hq
end
def XF (X : Cx) (Ex : St -> Value -> Option Addr -> Hp -> Prop) : Value -> Shared -> Prop := fun e s' => ∃ σ H s, Inv X [] σ H s /\ CXf X.prog X.w X.stack H s (fun cls od H' => Ex σ cls od H') e s'
abbrev Cx.pin (X : Cx) (pn : List (Addr × Obj)) : Cx := { X with pn := pn }
abbrev Cx.trying (X : Cx) (pn : List (Addr × Obj)) (Ex : St -> Value -> Option Addr -> Hp -> Prop) : Cx := { X with pn := pn, xe := XF (X.pin pn) Ex }
abbrev Cx.handling (X : Cx) (a : Addr) : Cx := { X with A := X.A.mark (some (.ref a)), calm := false, xe := fun _ _ => False }
section
variable {X : Cx} {pins pn : List (Addr × Obj)} {σ : St} {H : Hp} {s : Shared} {Ex : St -> Value -> Option Addr -> Hp -> Prop} {a : Addr}
theorem Cx.Ok.pin (ok : X.Ok) : (X.pin pn).Ok := ⟨ok.mod, ok.kind, ok.glob, ok.blt, ok.above, ok.inj, ok.has, ok.cab, ok.hd, ok.frames, ok.stk, ok.exf, ok.bs, ok.bsz, ok.noex, ok.exfs, ok.funs, ok.frf⟩
theorem Cx.Ok.handling (ok : X.Ok) : (X.handling a).Ok := ⟨ok.mod, ok.kind, ok.glob, ok.blt, ok.above, ok.inj, ok.has, ok.cab, (fun z => nomatch z), ok.frames, ok.stk, ok.exf, ok.bs, ok.bsz, ok.noex, ok.exfs, ok.funs, ok.frf⟩
theorem Inv.pnIn (I : Inv X pins σ H s) : Inv (X.pin (X.pn ++ pins)) [] σ H s := ⟨I.ok.pin, I.os, I.bare, I.base, I.loc, I.cell, I.free, I.freeC, fun p hp => I.pin p (by rw [List.append_nil] at hp; exact hp), I.hok, I.len⟩
theorem Inv.pnOut (I : Inv (X.pin (X.pn ++ pins)) [] σ H s) (ok : X.Ok) : Inv X pins σ H s := ⟨ok, I.os, I.bare, I.base, I.loc, I.cell, I.free, I.freeC, fun p hp => I.pin p (by rw [List.append_nil]; exact hp), I.hok, I.len⟩
theorem Inv.handling (I : Inv X pins σ H s) : Inv (X.handling a) pins σ H s := ⟨I.ok.handling, I.os, I.bare, I.base, I.loc, I.cell, I.free, I.freeC, I.pin, I.hok, I.len⟩
theorem Inv.handled (I : Inv (X.handling a) pins σ H s) (ok : X.Ok) : Inv X pins σ H s := ⟨ok, I.os, I.bare, I.base, I.loc, I.cell, I.free, I.freeC, I.pin, I.hok, I.len⟩
theorem Inv.trying (I : Inv (X.pin pn) pins σ H s) : Inv (X.trying pn Ex) pins σ H s := I.wish _
theorem Inv.tried (I : Inv (X.trying pn Ex) pins σ H s) : Inv (X.pin pn) pins σ H s := Inv.unwish (X := X.pin pn) (E := XF (X.pin pn) Ex) I
theorem takes_trying : Takes (X.trying pn Ex) Ex := fun pins σ H s e s' I h => ⟨σ, H, s, I.tried.pins_of (fun p hp => nomatch hp), h⟩
def ExcO (a : Addr) (cls : Value) (od : Option Addr) : Heap -> Prop := fun h => ∃ o vs, h.get? a = some o /\ o.cls = cls /\ o.data = .fields vs /\ ∀ dx, od = some dx -> o.dict = some dx
theorem Inv.exc {cls : Value} {od : Option Addr} {H0 : Hp} {s0 : Shared} {σ0 : St} (I : Inv X pins σ H s) (I0 : Inv X pins σ0 H0 s0) (hex : X.ex = []) (na : s0.heap.get? a = none) (ha : H a = none) (hx : ExcO a cls od s.heap) : Inv X pins σ (upd H a (.ext (ExcO a cls od))) s where
  ok := I.ok
  os := I.os
  bare := I.bare
  base := by
    have n0 : ∀ b ob, X.s₀.heap.get? b = some ob -> b ≠ a := fun b ob q z => by
      obtain ⟨o', y⟩ := I0.base.there b ob q (by rw [hex]; simp)
      rw [z, na] at y; cases y
    refine ⟨I.base.keep, I.base.slot, fun b ob q n hx => ?_, I.base.there, fun b xs q => ?_, fun b ob u q => ?_, fun b ps q => ?_⟩
    . rw [upd_ne (n0 b ob q)]; exact I.base.free b ob q n hx
    . have := I.base.tups b xs q
      rw [upd_ne (ne_of_none this ha)]; exact this
    . have := I.base.frzs b ob u q
      rw [upd_ne (ne_of_none this ha)]; exact this
    . obtain ⟨more, z⟩ := I.base.tbls b ps q
      exact ⟨more, by rw [upd_ne (ne_of_none z ha)]; exact z⟩
  loc := I.loc
  cell := I.cell
  free := by
    have : X.env.locals ≠ a := fun z => by
      obtain ⟨m, ⟨o, _, _, ho, _⟩, _⟩ := I0.loc
      rw [z, na] at ho; cases ho
    rw [upd_ne this]; exact I.free
  freeC := fun x c h => by
    have : c ≠ a := fun z => by
      obtain ⟨v, o, ho, _⟩ := I0.cell x c h
      rw [z, na] at ho; cases ho
    rw [upd_ne this]; exact I.freeC x c h
  pin := fun p hp => by
    obtain ⟨p1, p2, p3⟩ := I.pin p hp
    have : p.1 ≠ a := fun z => by
      have ho := (I0.pin p hp).1
      rw [z, na] at ho; cases ho
    exact ⟨p1, by rw [upd_ne this]; exact p2, p3⟩
  hok := by
    intro b u hb; by_cases q : b = a
    . subst q; rw [upd_same] at hb; cases hb
      obtain ⟨o, vs, h1, h2, h3⟩ := hx
      refine ⟨⟨o, vs, h1, h2, h3⟩, ⟨o, h1⟩, ?_⟩
      rintro ha hb2 ⟨o', vs', q1, q2, q3⟩ k
      exact ⟨o', vs', k o' q1, q2, q3⟩
    . rw [upd_ne q] at hb; refine (I.hok b u hb).stay (fun c v _ h => h) (fun c h => ?_) fun c xs h => ?_
      . rw [upd_ne (ne_of_none h ha)]; exact h
      . rw [upd_ne (ne_of_none h ha)]; exact h
  len := I.len
theorem goes_ok {M : Model} {A : Around} {E : Value -> Shared -> Prop} {i : Nat} {x : Str} {pos : Pos} {Q : Unit -> Shared -> Prop} (I : Inv X pins σ H s) (hN : X.N.Nodup) (hi : X.N[i]? = some x) (hx : X.env.kindOf x = some .local) (hl : Loc X.env.scope x) (hfn : X.fn x = true ∨ X.env.scope.names.lookup x = some .local)
    (h : ∀ s', Inv X pins (σ.set i none) H s' -> Q () s') : wpAny M A (do bindName X.env x .none; unbindBehindTheSuite X.env x pos) Q E s := by
  have hp : (X.env.scope.kind == .class || (X.env.scope.kind == .module && X.env.locals != X.env.globals)) = false := by rw [I.ok.kind]; rfl
  refine wpAny_bind (wpAny_bindName (store_ok (v := .non) I hN hi hl rfl (fun s1 I1 => ?_) hfn))
  unfold unbindBehindTheSuite; refine wpAny_onRaise ?_
  unfold unbindName; refine wpAny_bind (wpAny_point (wpAny_bind ?_))
  unfold deleteName; simp only [hx, hp]
  rw [if_neg (by decide)]
  obtain ⟨m, hn, hl1⟩ := id I1.loc
  have hiσ : i < σ.length := by rw [I.len]; exact (Zgs.mp hi).1
  have cne := I1.cne
  refine wpAny_bind (wpAny_nsDel_keeps hn fun h2 v hn2 hs => ?_)
  have hm : (m x).isSome = true := by
    obtain ⟨u, ru, lk⟩ := hl1 i x .non hi (List.getElem?_set_self hiσ) (Or.inl (by
      have := hx
      unfold Env.kindOf at this; first | exact this | simpa using this))
    rcases lk with ⟨_, e⟩ | ⟨k, _⟩
    . rw [e]; rfl
    . rcases k with k | k
      . have := hx; simp_all
      . have := hx; simp_all
  simp only [hm, if_true, Bool.not_true, Bool.false_eq_true, if_false]
  have bl : ∀ b o, X.s₀.heap.get? b = some o -> b ≠ X.env.locals := fun b o e => Nat.ne_of_lt (Nat.lt_of_lt_of_le (Heap.lt_size e) I.ok.above)
  obtain ⟨oL, _, _, hoL, _⟩ := id hn
  refine wpAny_pure (wpAny_point (h _ ⟨I1.ok, I1.os, I1.bare, ⟨fun b o e n hb hx' => (hs.2 b (bl b o e)).trans (I1.base.keep b o e n hb hx'), fun b o e n hb hx' => ?_, I1.base.free, fun b o e hx' => ?_, I1.base.tups, I1.base.frzs, I1.base.tbls⟩, ⟨_, hn2, fun j y v' e1 e2 e3 => ?_⟩, fun y c e => ?_, I1.free, I1.freeC, fun p hp' => ?_, fun b u e => ?_, by simpa using I.len⟩))
  . obtain ⟨sl, z⟩ := I1.base.slot b o e n hb hx'
    exact ⟨sl, (hs.2 b (bl b o e)).trans z⟩
  . obtain ⟨o', z⟩ := I1.base.there b o e hx'
    exact ⟨o', (hs.2 b (bl b o e)).trans z⟩
  . by_cases hj : j = i
    . subst hj; rw [List.getElem?_set_self hiσ] at e2; cases e2
    . rw [List.getElem?_set_ne (Ne.symm hj)] at e2; obtain ⟨u, r, q⟩ := hl1 j y v' e1 (by rw [List.getElem?_set_ne (Ne.symm hj)]; exact e2) e3
      refine ⟨u, r, ?_⟩
      rcases q with ⟨k, e⟩ | ⟨k, c, e, z⟩
      . have hne : y ≠ x := fun e => hj (nodup_ix hN e1 (e ▸ hi))
        exact .inl ⟨k, by dsimp only; rw [if_neg hne]; exact e⟩
      . exact .inr ⟨k, c, e, z.sameBut hs (cne y c e)⟩
  . obtain ⟨w', z⟩ := I1.cell y c e
    exact ⟨w', z.sameBut hs (cne y c e)⟩
  . obtain ⟨e, n, ne, nf, d⟩ := I1.pin p hp'
    exact ⟨(hs.2 p.1 ne).trans e, n, ne, nf, d⟩
  . refine (I1.hok b u e).stay (fun c w' hc q => (hs.2 c ?_).trans q) (fun _ q => q) fun _ _ q => q
    rintro rfl
    rcases hc with z | z
    . rw [<- z, I1.free] at e; cases e
    . rw [I1.free] at z; cases z
theorem SP.goes {M : Model} {A : Around} {E : Value -> Shared -> Prop} {i : Nat} {x : Str} {pos : Pos} {D : Ends} {f : Flow} (hq : SP X pins { nx := fun σ' H' => D.nx (σ'.set i none) H', rt := D.rt, bk := fun σ' H' => D.bk (σ'.set i none) H', ct := fun σ' H' => D.ct (σ'.set i none) H' } f s) (hN : X.N.Nodup) (hi : X.N[i]? = some x) (hx : X.env.kindOf x = some .local) (hl : Loc X.env.scope x) (hfn : X.fn x = true ∨ X.env.scope.names.lookup x = some .local) :
    wpAny M A (do bindName X.env x .none; unbindBehindTheSuite X.env x pos) (fun _ s' => SP X pins D f s') E s := by
  cases f with
  | next => obtain ⟨σ', H', I, q⟩ := hq; exact goes_ok I hN hi hx hl hfn fun s' I' => ⟨_, H', I', q⟩
  | brk => obtain ⟨σ', H', I, q⟩ := hq; exact goes_ok I hN hi hx hl hfn fun s' I' => ⟨_, H', I', q⟩
  | cont => obtain ⟨σ', H', I, q⟩ := hq; exact goes_ok I hN hi hx hl hfn fun s' I' => ⟨_, H', I', q⟩
  | ret u => obtain ⟨v, σ', H', I, r, q⟩ := hq; exact goes_ok I hN hi hx hl hfn fun s' I' => ⟨v, _, H', I', r, q⟩
theorem SP.handled {D : Ends} {f : Flow} (h : SP (X.handling a) pins D f s) (ok : X.Ok) : SP X pins D f s := by
  cases f with
  | next => obtain ⟨σ', H', I, q⟩ := h; exact ⟨σ', H', I.handled ok, q⟩
  | brk => obtain ⟨σ', H', I, q⟩ := h; exact ⟨σ', H', I.handled ok, q⟩
  | cont => obtain ⟨σ', H', I, q⟩ := h; exact ⟨σ', H', I.handled ok, q⟩
  | ret u => obtain ⟨v, σ', H', I, r, q⟩ := h; exact ⟨v, σ', H', I.handled ok, r, q⟩
theorem SP.tried {D : Ends} {f : Flow} (h : SP (X.trying (X.pn ++ pins) Ex) [] D f s) (ok : X.Ok) : SP X pins D f s := by
  cases f with
  | next => obtain ⟨σ', H', I, q⟩ := h; exact ⟨σ', H', I.tried.pnOut ok, q⟩
  | brk => obtain ⟨σ', H', I, q⟩ := h; exact ⟨σ', H', I.tried.pnOut ok, q⟩
  | cont => obtain ⟨σ', H', I, q⟩ := h; exact ⟨σ', H', I.tried.pnOut ok, q⟩
  | ret u => obtain ⟨v, σ', H', I, r, q⟩ := h; exact ⟨v, σ', H', I.tried.pnOut ok, r, q⟩
def tTry (K : W.Frag) (C : Addr) (i : Nat) (tb : (St -> Value -> Option Addr -> Hp -> Prop) -> TS) (th : TS) : TS := fun D σ H =>
  tb (fun σ' cls od H' => W.exmOne K cls (.ref C) = some true /\ ∀ a, H' a = none -> th { nx := fun σ'' H'' => D.nx (σ''.set i none) H'', rt := D.rt, bk := fun σ'' H'' => D.bk (σ''.set i none) H'', ct := fun σ'' H'' => D.ct (σ''.set i none) H'' } (σ'.set i (some (.ref a))) (upd H' a (.ext (ExcO a cls od)))) D σ H
theorem ps_try {C : Addr} {c n : Str} {i : Nat} {body suite : List Stmt} {s0 : Stmt} {p hpos pos : Pos} {tb : (St -> Value -> Option Addr -> Hp -> Prop) -> TS} {th : TS} (hN : X.N.Nodup) (hi : X.N[i]? = some n) (hx : X.env.kindOf n = some .local) (hl : Loc X.env.scope n) (hfn : X.fn n = true ∨ X.env.scope.names.lookup n = some .local) (hst : X.stack = X.env :: X.outer) (hf : X.env.frame = some X.env.locals) (hex : X.ex = [])
    (hg : Gl X c) (hm : X.mg c = some (.ref C)) (hdb : (c == ("__debug__" : Str)) = false) (hb : ∀ pn Ex, PSs (X.trying pn Ex) body (tb Ex)) (hs : ∀ a, PSs (X.handling a) (s0 :: suite) th) :
    PS X (.Try body [.ExceptHandler (some (.Name c p)) (some n) (s0 :: suite) hpos] [] [] pos) (tTry X.K C i tb th) := by
  intro pins s σ H D I h; refine wpAny_Try_except (wpAny_mono (hb (X.pn ++ pins) _ [] s σ H D I.pnIn.trying h) (fun f s1 q => ?_) fun e s1 q => ?_)
  . have q' := q.tried I.ok
    cases f with
    | next => exact wpAny_execs_nil q'
    | brk => exact q'
    | cont => exact q'
    | ret u => exact q'
  . obtain ⟨σ', H0, sc, I0, a, cls, od, H', rfl, F, hx1, hw⟩ := q
    have I0' : Inv X pins σ' H0 sc := I0.pnOut I.ok
    have F' : Fly X.prog X.w X.stack H0 sc H' a cls od .none s1 := F
    refine fly_note I0' F' I.ok.frames hst hf fun s2 F2 => ?_
    refine fly_land I0' F2 fun s3 F3 => ?_
    have I3 := F3.inv I0'
    refine wpAny_handleBy_cons (codeAny_handlers_test ?_) (by intro q; cases q)
    refine ld_glob (X := X.handling a) (I3.handling (a := a)) hg hm ?_ hdb
    obtain ⟨T, ⟨oe, vs, a0, oT, ts, e1, e2, _⟩, _⟩ := F3.tr
    have LT : W.Looks (model X.prog X.w) s3.heap (typeOf (.ref a)) cls := e2 ▸ (W.Looks.ld e1).andThen .now
    refine (W.exm_one I3.kIn LT hx1).here ?_
    show codeAny _ _ _ _ _
    refine codeAny_handlers_suite_as ?_
    refine fly_land I0' F3 fun s4 F4 => ?_
    have I4 := F4.inv I0'
    obtain ⟨T4, ⟨oe4, vs4, a04, oT4, ts4, q1, q2, q3, q4, _⟩, _⟩ := F4.tr
    have I5 := I4.exc I0' hex F4.na F4.ha (od := od) ⟨oe4, vs4, q1, q2, q4, fun dx hdx => by obtain ⟨o1, z1, z2⟩ := F4.dd dx hdx; rw [q1] at z1; cases z1; exact z2⟩
    refine store_ok (v := .ref a) I5 hN hi hl rfl (fun s5 I6 => ?_) hfn
    refine wpAny_mono (hs a pins s5 _ _ _ (I6.handling (a := a)) (hw a F4.ha)) (fun f s6 q => ?_) (fun _ _ z => False.elim z)
    exact SP.goes (q.handled I.ok) hN hi hx hl hfn
end
end L2
namespace L2
open PySem PySem.Spec PyProof.Rows
structure XKind (K : W.Frag) (D : Addr) : Prop where
  ga : W.findIn K (.ref D) "__getattribute__" = some (some (.builtin "BaseException.__getattribute__"))
  gx : W.findIn K (.ref D) "__getattr__" = some none
  cl : W.findIn K (.ref D) "__class__" = some (some (.builtin "object.__class__"))
  gg : W.specialIn K (.builtin "object.__class__") "__get__" = some (some (.builtin "getset_descriptor.__get__"))
  tk : W.takesIn K (.builtin "object.__class__") = some true
  mo : W.mroIn K D (.type "object") = some true
  mb : W.mroIn K D (.type "BaseException") = some true
  ci : (W.clsIn K D).isSome = true
def OfCls (x D : Addr) (h : Heap) : Prop := ∃ o, h.get? x = some o /\ o.cls = .ref D
section
variable {prog : Program} {w : World} {A : Around} {E : Value -> Shared -> Prop} {s : Shared} {K : W.Frag} {x D : Addr}
theorem OfCls.type {M : Model} {h : Heap} (c : OfCls x D h) : W.Looks M h (typeOf (.ref x)) (.ref D) := by
  obtain ⟨o, h1, h2⟩ := c
  exact h2 ▸ (W.Looks.ld h1).andThen .now
theorem exc_check {M : Model} {nameV : Value} {Q : Unit -> Shared -> Prop} (LI : W.Looks M s.heap (isInstance (.ref x) (.type "BaseException")) true) (h : Q () s) : wpAny M A (checkBuiltinCall "BaseException.__getattribute__" ⟨[.ref x, nameV], []⟩) Q E s := by
  have hkd : builtinKind "BaseException.__getattribute__" = some .slot := by decide +kernel
  have hsp : splitId "BaseException.__getattribute__" = some ("BaseException", "__getattribute__") := by decide +kernel
  have har := F.args_bexc_ga (.ref x) nameV
  simp only [checkBuiltinCall, hkd, hsp]
  refine wpAny_bind (LI.here ?_)
  obtain ⟨hh, g, d, t, os⟩ := s
  repeat (first | wp_step)
  exact h
theorem look_class {M : Model} {h : Heap} (X : K.In h) (k : XKind K D) : W.Looks M h (Builtin.ObjectAttr.find (.ref x) (.ref D) "__class__") (.bind (.builtin "getset_descriptor.__get__") (.builtin "object.__class__")) := by
  have l1 := W.looks_findIn (M := M) X k.cl
  have l2 : W.Looks M h (Builtin.ObjectAttr.getOf (some (.builtin "object.__class__"))) (some (.builtin "getset_descriptor.__get__")) := W.looks_specialIn X k.gg
  have l3 := W.looks_takesIn (M := M) X k.tk
  refine l1.andThen (l2.andThen ?_)
  exact (show W.Looks M h (Builtin.ObjectAttr.dataDescriptor? (some (.builtin "object.__class__")) (some (.builtin "getset_descriptor.__get__"))) (some (.builtin "getset_descriptor.__get__", .builtin "object.__class__")) from l3.andThen .now).andThen (W.Looks.tag .now)
open PySem.W Builtin Builtin.ObjectAttr Builtin.Getset_descriptor in
theorem get_class {R : Result -> Shared -> Prop} {tp : Value} (X : K.In s.heap) (c : OfCls x D s.heap) (hm : W.mroIn K D (.type "object") = some true) (h : R (.ok (.ret (.ref D))) s) :
    codeAny (model prog w) A (.call (.builtin "getset_descriptor.__get__") ⟨[.builtin "object.__class__", .ref x, tp], []⟩) R s := by
  obtain ⟨hh, g, dr, t, os⟩ := s
  have L0 := c.type (M := model prog w)
  have L1 := W.looks_mroIn (M := model prog w) X hm
  refine codeAny_call_builtin KF.slot_gs.plain KF.entry_gs (KF.slot_gs.check _ _ _ _ _ _ _ _ KF.type_class (KF.args_gs _ _ _) ?_)
  unfold Builtin.«getset_descriptor.__get__» descrGet
  rw [dga_obj]; apply wpAny_bind
  apply wpAny_pure
  unfold descrGetter descrCheckInstance descrNameAndClass isInstance; simp only [KF.owner_class]
  repeat lk
  refine ⟨Code.quiet_builtin _ (by decide +kernel), codeAny_builtin KF.entry_class ?_⟩
  unfold Builtin.«object.__class__» shownTypeOf
  repeat lk
  exact h
theorem exc_class {Q : Option Value -> Shared -> Prop} (X : K.In s.heap) (c : OfCls x D s.heap) (k : XKind K D) (h : Q (some (.ref D)) { s with toks := s.toks + 1 }) : wpAny (model prog w) A (getAttr? (.ref x) "__class__") Q E s := by
  obtain ⟨hh, g, d, t, os⟩ := s
  have L0 := c.type (M := model prog w)
  have L1 := W.looks_findIn (M := model prog w) X k.ga
  have L2 := W.looks_findIn (M := model prog w) X k.gx
  have L3 := look_class (M := model prog w) (x := x) X k
  have LI : W.Looks (model prog w) hh (isInstance (.ref x) (.type "BaseException")) true := L0.andThen (W.looks_mroIn X k.mb)
  unfold getAttr? getAttrBy? getAttrBy
  refine wpAny_bind (wpAny_mkText (wpAny_bind (wpAny_attempt (wpAny_holding (wpAny_bind (L0.at (wpAny_bind (L1.at ?_))))))))
  dsimp only; have hx0 : (Value.builtin "BaseException.__getattribute__" == Value.builtin "object.__getattribute__") = false := by decide +kernel
  have hx1 : (onTheHeap (Value.ref D) && Value.builtin "BaseException.__getattribute__" == Value.builtin "object.__getattribute__") = false := by rw [hx0]; rfl
  rw [if_neg (by rw [hx1]; exact Bool.false_ne_true)]
  unfold getAttrByItsOwn hookBefore; rw [if_pos (show onTheHeap (Value.ref D) = true from rfl)]; refine wpAny_bind (L2.at ?_)
  refine wpAny_bind (wpAny_attempt (wpAny_holding ?_))
  unfold callGetattribute; rw [if_neg (by decide)]
  unfold boundAndCalled; refine wpAny_bind (wpAny_of_eq (F.excAttr_ValueError.ga.bind _) ?_)
  show wpAny _ _ (call (.builtin "BaseException.__getattribute__") [.ref x, .str "__class__" t]) _ _ _
  refine wpAny_call (codeAny_call_builtin F.excAttr_ValueError.ga.plain F.entry_bexc_ga (exc_check LI ?_))
  unfold Builtin.«object.__getattribute__»
  refine wpAny_bind (wpAny_of_eq (a := (Value.ref x, [Value.str "__class__" t])) rfl ?_)
  dsimp only; refine wpAny_bind (wpAny_pure (wpAny_bind (L0.at (wpAny_bind (L3.at ?_)))))
  dsimp only; show wpAny _ _ (holding [Value.builtin "object.__class__"] (call (.builtin "getset_descriptor.__get__") [.builtin "object.__class__", .ref x, .ref D]) >>= ret) _ _ _
  refine wpAny_bind (wpAny_holding (wpAny_call (get_class (s := ⟨hh, g, d, t + 1, os⟩) X c k.mo ?_)))
  refine wpAny_pure ?_
  show wpAny _ _ (handedOut (.ref D)) _ _ _
  exact wpAny_pure (wpAny_pure h)
theorem kitx_exc (k : XKind K D) : W.KitX K (.ref x) (.ref D) (OfCls x D) where
  ty := fun _ _ _ c => c.type
  it := fun _ _ X _ => by
    obtain ⟨cdD, hcD⟩ := Option.isSome_iff_exists.mp k.ci
    unfold W.clsIn at hcD; split at hcD
    . rename_i c' d' cd' sl' ho
      intro A' Q' E' s' k' q; unfold isType loadHead; exact wpAny_bind (wpAny_loadPart (k' _ _ (X _ _ ho)) (wpAny_pure q))
    . cases hcD
  ne := fun h tp dd its n sl X htp => by
    obtain ⟨cdD, hcD⟩ := Option.isSome_iff_exists.mp k.ci
    refine Bool.eq_false_iff.mpr fun q => ?_
    have e : D = tp := Value.ref.inj (beq_iff_eq.mp q)
    subst e; unfold W.clsIn at hcD; split at hcD
    . rename_i c' d' cd' sl' ho
      rw [X _ _ ho] at htp; cases htp
    . cases hcD
  ca := fun X c q => exc_class X c k q
end
def IsAns (K : W.Frag) (H : Hp) (D : Addr) (c : V) (b : Bool) : Prop := match c with
  | .ref t => (∃ xs : List Addr, H t = some (.tup (xs.map V.ref)) /\ W.kitAny K (.ref D) (xs.map Value.ref) = some b) ∨ W.kitOne K (.ref D) (.ref t) = some b
  | .ty n => W.kitOne K (.ref D) (.type n) = some b
  | _ => False
def mIsX (K : W.Frag) : List V -> Hp -> VK -> Prop := fun vs H Q => match vs with
  | [.ref a, c] => ∃ D b od, H a = some (.ext (ExcO a (.ref D) od)) /\ XKind K D /\ IsAns K H D c b /\ Q (.bl b) H
  | _ => False
theorem vals_refs : ∀ {xs : List Addr} {us : List Value}, Vals (xs.map V.ref) us -> us = xs.map Value.ref
  | [], [], _ => rfl
  | x :: xs, u :: us, .cons r rs => by
    cases r
    rw [vals_refs rs]; rfl
section
variable {X : Cx}
theorem c_isX : CallR X (.builtin "isinstance") (mIsX X.K) := by
  intro pins s σ H xs us Q I r h; unfold mIsX at h; split at h
  . rename_i a c
    obtain ⟨D, b, od, e, k, ans, q⟩ := h
    obtain ⟨⟨o, vs, h1, h2, h3⟩, _⟩ := (show ObjOk X.prog X.w H s.heap a (.ext (ExcO a (.ref D) od)) from I.hok a _ e)
    have oc : OfCls a D s.heap := ⟨o, h1, h2⟩
    cases r with
    | cons ra r2 =>
      cases r2 with
      | cons rc r3 =>
        cases r3
        cases ra
        cases c with
        | ref t =>
          cases rc
          rcases ans with ⟨ys, et, ka⟩ | ko
          . obtain ⟨_, its, rv, ⟨ot, ht, hc, n, hd⟩⟩ := (show ObjOk X.prog X.w H s.heap t (.tup (ys.map V.ref)) from I.hok t _ et)
            obtain rfl := vals_refs rv
            obtain ⟨c0, dd, dat, sl⟩ := ot
            dsimp only at hc hd
            subst hc hd; exact W.kia_tup (kitx_exc k) I.kIn oc ht ka (by intro z; cases z) fun tk => ⟨.bl b, H, I.tok _, rfl, q⟩
          . exact W.kia_one (kitx_exc k) I.kIn oc ko (by intro z; cases z) fun tk => ⟨.bl b, H, I.tok _, rfl, q⟩
        | ty n =>
          cases rc
          exact W.kia_one (kitx_exc k) I.kIn oc ans (by intro z; cases z) fun tk => ⟨.bl b, H, I.tok _, rfl, q⟩
        | _ => exact ans.elim
  . exact h.elim
end
namespace R
section
variable {X : Cx} {x n c : Str} {C : Addr} {E : XK} {e : Expr} {es : List Expr} {t : TA} {np cpos pos p hpos : Pos} {m i : Nat} {ps : List Str} {sp : Sp} {Ex : St -> Value -> Option Addr -> Hp -> Prop} {K : W.Frag} {body suite : List Stmt} {s0 : Stmt} {tb : (St -> Value -> Option Addr -> Hp -> Prop) -> TS} {th : TS}
theorem kisX (hK : X.K = K := by rfl) : XC X (.builtin "isinstance") (mIsX K) := hK ▸ ⟨c_isX⟩
theorem raise (cx : XCls X.K X.mg x C) (hl : Leaves X E) (hg : Gl X x) (ha : XA X (e :: es) t) (hc : X.calm = true := by rfl) (hs : notStar e = true := by rfl) (h2 : es.all notStar = true := by rfl) (hdb : (x == ("__debug__" : Str)) = false := by decide) :
    XS X (.Raise (some (.Call (.Name x np) (e :: es) [] cpos)) none pos) (tRaise C E t) := ⟨ps_raise cx hl hc hg ha.h hs h2 hdb⟩
theorem fnX (c : CalleeX X.prog X.w X.K X.mg X.base m x ps sp) (hr : Room m X.A) (hg : Gl X x) (hx : Takes X Ex) (ha : XA X (e :: es) t) (hs : notStar e = true := by rfl) (h2 : es.all notStar = true := by rfl) (hdb : (x == ("__debug__" : Str)) = false := by decide) :
    XE X (.Call (.Name x p) (e :: es) [] pos) (tFnX sp Ex t) := ⟨pe_fnX c hr hg hx ha.h hs h2 hdb⟩
theorem ktry (hm : X.mg c = some (.ref C)) (hg : Gl X c) (hN : X.N.Nodup) (hb : ∀ pn Ex, XB (X.trying pn Ex) body (tb Ex)) (hs : ∀ a, XB (X.handling a) (s0 :: suite) th) (hK : X.K = K := by rfl) (hi : X.N[i]? = some n := by rfl) (hx : X.env.kindOf n = some .local := by rfl) (hl : Loc X.env.scope n := by first | exact Or.inl rfl | exact Or.inr rfl)
    (hfn : X.fn n = true ∨ X.env.scope.names.lookup n = some .local := by first | exact .inl rfl | exact .inr rfl) (hst : X.stack = X.env :: X.outer := by rfl) (hf : X.env.frame = some X.env.locals := by rfl) (hex : X.ex = [] := by rfl) (hdb : (c == ("__debug__" : Str)) = false := by decide) :
    XS X (.Try body [.ExceptHandler (some (.Name c p)) (some n) (s0 :: suite) hpos] [] [] pos) (tTry K C i tb th) := hK ▸ ⟨ps_try hN hi hx hl hfn hst hf hex hg hm hdb (fun pn Ex => (hb pn Ex).h) fun a => (hs a).h⟩
end
end R
end L2
namespace L2
open PySem PySem.Spec PyProof.Rows
theorem bb_ValueError : bootBuiltins "ValueError" = some (.type "ValueError") := by decide +kernel
theorem R.bty {X : Cx} {x : Str} {n : String} {pos : Pos} (hg : Gl X x) (hm : X.mg x = none) (hv : bootBuiltins x = some (.type n)) (hn : x ≠ "__name__" := by decide) (hd : (x == ("__debug__" : Str)) = false := by decide) : XE X (.Name x pos) (tC (.ty n)) := ⟨pe_bltn hg hm hv rfl hn hd⟩
end L2
namespace L2
open PySem PySem.Spec PyProof.Rows
section
variable {X : Cx}
def mRepL : R2 := fun x y H Q => mR x fun l => mI y fun k => ∃ xs, H l = some (.lst xs) /\ 0 <= k /\ k <= 1000 /\ xs.length * k.toNat <= 1000 /\ ∀ p, H p = none -> Q (.ref p) (upd H p (.lst (List.replicate k.toNat xs).flatten))
theorem R.rep : XOp X (binaryOp .Mult) mRepL := ⟨op_rep.imp fun x y H Q h => by
  unfold mRepL at h; rw [mR_eq] at h; obtain ⟨l, rfl, h⟩ := h
  rw [mI_eq] at h; obtain ⟨k, rfl, xs, h1, h2, h3, h4, h5⟩ := h
  exact ⟨l, k, xs, rfl, rfl, h1, by omega, by omega, szl' h4, h5⟩⟩
end
inductive DW (one other nm : Str) (n : Int) : Str -> List V -> List (Str × Int) -> List (Str × List V) -> Prop
  | add : DW one other nm n "add" [.str "add", .str nm, .int n] [(nm, n)] []
  | take : DW one other nm n "take" [.str "take", .str nm, .int n] [(nm, -n)] []
  | move : DW one other nm n "move" [.str "move", .str one, .str other, .int n] [(one, -n), (other, n)] []
  | send : DW one other nm n "send" [.str "send", .str one, .str nm, .int n] [(nm, -n)] [(one, [.str "add", .str nm, .int n])]
  | fetch : DW one other nm n "fetch" [.str "fetch", .str one, .str nm, .int n] [(nm, n)] [(one, [.str "take", .str nm, .int n])]
  | pass : DW one other nm n "pass" [.str "pass", .str one, .str other, .str nm, .int n] [] [(one, [.str "take", .str nm, .int n]), (other, [.str "add", .str nm, .int n])]
structure DWX (wd : Str) (xs : List V) (cs : List (Str × Int)) (as : List (Str × List V)) : Prop where
  ex : ∃ one other nm n, DW one other nm n wd xs cs as
def spChanges : Sp := fun vs H Q _ => ∃ p wd xs cs as, vs = [.ref p] /\ H p = some (.tup xs) /\ DWX wd xs cs as /\ ∀ t zs H', Same H H' -> H' t = some (.tup (zref zs)) -> ZAt H' zs -> zs.map (·.2) = cs -> Q (.ref t) H'
abbrev tS (z : Str) : TV := .sc (.str z)
end L2
namespace L2
open PySem PySem.Spec PyProof.Rows
def itName : Bool -> String | true => "list_iterator" | false => "tuple_iterator"
def itObj (k : Bool) (a : Addr) : Obj := { cls := .type (itName k), data := .fields #[.ref a, .int 0 0] }
def ItAt (k : Bool) (h : Heap) (it a : Addr) (i : Nat) : Prop := ∃ o, h.get? it = some o /\ o.cls = .type (itName k) /\ o.data = .fields #[.ref a, .int i 0]
def SeqIn (k : Bool) (h : Heap) (a : Addr) (vs : Array Value) : Prop := match k with | true => h.IsList a vs | false => h.IsTuple a vs
theorem ItAt.by {k : Bool} {h h' : Heap} {it a : Addr} {i : Nat} (x : ItAt k h it a i) (g : ∀ o, h.get? it = some o -> h'.get? it = some o) : ItAt k h' it a i := let ⟨o, e, r⟩ := x; ⟨o, g o e, r⟩
theorem SeqIn.by {k : Bool} {h h' : Heap} {a : Addr} {vs : Array Value} (x : SeqIn k h a vs) (g : ∀ o, h.get? a = some o -> h'.get? a = some o) : SeqIn k h' a vs := by
  cases k
  . obtain ⟨o, e, r⟩ := x; exact ⟨o, g o e, r⟩
  . obtain ⟨o, e, r⟩ := x; exact ⟨o, g o e, r⟩
theorem SeqIn.lt {k : Bool} {h : Heap} {a : Addr} {vs : Array Value} (x : SeqIn k h a vs) : a < h.objs.size := by
  cases k
  . obtain ⟨o, e, r⟩ := x; exact Heap.lt_size e
  . obtain ⟨o, e, r⟩ := x; exact Heap.lt_size e
section
variable {prog : Program} {w : World} {A : Around} {E : Value -> Shared -> Prop} {s : Shared}
theorem it_new {k : Bool} {a : Addr} {vs : Array Value} {Q : Value -> Shared -> Prop} (h : SeqIn k s.heap a vs) (q : Q (.ref s.heap.objs.size) { s with heap := s.heap.push (itObj k a) }) : wpAny (model prog w) A (pyIter (.ref a)) Q E s := by
  cases k
  . exact wpAny_pyIter_tuple (show s.heap.IsTuple a vs from h) q
  . exact wpAny_pyIter_list (show s.heap.IsList a vs from h) q
theorem nx_item {k : Bool} {it a : Addr} {i : Nat} {vs : Array Value} {x : Value} {Q : Value -> Shared -> Prop} (hit : ItAt k s.heap it a i) (hs : SeqIn k s.heap a vs) (hx : vs[i]? = some x)
    (q : ∀ h', ItAt k h' it a (i + 1) -> Heap.SameBut it s.heap h' -> Q x { s with heap := h' }) : wpAny (model prog w) A (Builtin.SmallTypes.nextOf (.ref it)) Q E s := by
  cases k with
  | true => exact wpAny_nextOf_list_item (show s.heap.IsListIter it a i from hit) (show s.heap.IsList a vs from hs) hx q
  | false =>
    have hit' : s.heap.IsTupleIter it a i := hit
    obtain ⟨o, ho, hc, hd⟩ := hit
    obtain ⟨ol, hol, _, nl, hdl⟩ := hs
    unfold Builtin.SmallTypes.nextOf; refine wpAny_bind (wpAny_callSpecial?_slot (name := Str.ofString "__next__") hit'.typeIs F.slot_tuple_iterator_next (wpAny_call_entry F.slot_tuple_iterator_next hit'.typeIs F.entry_tuple_iterator_next ?_ (F.args_tuple_iterator_next_1 _)))
    show wpAny (model prog w) _ (field (.ref it) 0 >>= _) _ _ s
    refine wpAny_bind (wpAny_field ho hd (x := .ref a) rfl ?_)
    show wpAny (model prog w) _ (if (Value.ref a == Value.none) = true then _ else _) _ _ s
    rw [if_neg (show ¬ ((Value.ref a == Value.none) = true) from Bool.false_ne_true)]; show wpAny (model prog w) _ (field (.ref it) 1 >>= _) _ _ s
    refine wpAny_bind (wpAny_field (x := .int i 0) ho hd rfl ?_)
    show wpAny (model prog w) _ (seqItems? (.ref a) >>= _) _ _ s
    refine wpAny_bind (wpAny_seqItems (hol) hdl ?_)
    simp only [hx, Int.toNat_natCast]
    refine wpAny_bind (wpAny_setField ho hd (by simp) (wpAny_pure ⟨x, rfl, wpAny_pure (q _ ?_ (Heap.SameBut.update ..))⟩))
    exact ⟨_, Heap.get?_update_self _ ho (Obj.isFreed_of_fields (Obj.data_mapFields hd _)), (Obj.cls_mapFields ..).trans hc, by rw [Obj.data_mapFields hd]; simp [rawInt]⟩
theorem nx_end {k : Bool} {it a : Addr} {i : Nat} {vs : Array Value} {Q : Value -> Shared -> Prop} (hh : A.handled = none) (hit : ItAt k s.heap it a i) (hs : SeqIn k s.heap a vs) (hx : vs[i]? = none)
    (hE : ∀ h' e, Heap.ExtBut it s.heap h' -> (∃ o, h'.get? e = some o /\ o.cls = .type "StopIteration") -> E (.ref e) { s with heap := h' }) : wpAny (model prog w) A (Builtin.SmallTypes.nextOf (.ref it)) Q E s := by
  cases k with
  | true => exact wpAny_nextOf_list_end hh (show s.heap.IsListIter it a i from hit) (show s.heap.IsList a vs from hs) hx hE
  | false =>
    have hit' : s.heap.IsTupleIter it a i := hit
    obtain ⟨o, ho, hc, hd⟩ := hit
    obtain ⟨ol, hol, _, nl, hdl⟩ := hs
    unfold Builtin.SmallTypes.nextOf; refine wpAny_bind (wpAny_callSpecial?_slot (name := Str.ofString "__next__") hit'.typeIs F.slot_tuple_iterator_next (wpAny_call_entry F.slot_tuple_iterator_next hit'.typeIs F.entry_tuple_iterator_next ?_ (F.args_tuple_iterator_next_1 _)))
    show wpAny (model prog w) _ (field (.ref it) 0 >>= _) _ _ s
    refine wpAny_bind (wpAny_field ho hd (x := .ref a) rfl ?_)
    show wpAny (model prog w) _ (if (Value.ref a == Value.none) = true then _ else _) _ _ s
    rw [if_neg (show ¬ ((Value.ref a == Value.none) = true) from Bool.false_ne_true)]; show wpAny (model prog w) _ (field (.ref it) 1 >>= _) _ _ s
    refine wpAny_bind (wpAny_field (x := .int i 0) ho hd rfl ?_)
    show wpAny (model prog w) _ (seqItems? (.ref a) >>= _) _ _ s
    refine wpAny_bind (wpAny_seqItems (hol) hdl ?_)
    simp only [hx, Int.toNat_natCast]
    refine wpAny_bind (wpAny_rule (wpAny_bind (wpAny_setField (ho) hd (by simp) ?_)))
    show wpAny (model prog w) _ (newExc (.type "StopIteration") [] >>= _) _ _ _
    refine wpAny_bind ?_
    simp only [newTuple, newExc]
    refine wpAny_bind (wpAny_newObj_type ?_ (by size_fits))
    refine wpAny_bind (m := firstArgMember _ _) (wpAny_of_eq (a := Value.none) (by first | rfl | (simp only [firstArgMember] ; rfl)) ?_)
    refine wpAny_newObj_type ?_ (by size_fits)
    simp only [raiseNew]
    refine wpAny_bind (wpAny_handled ?_)
    first | rw [show A.in1.handled = none from (hh)] | rw [hh]
    refine wpAny_bind (wpAny_pure (wpAny_throw ?_))
    exact hE _ _ (((Heap.SameBut.update ..).extBut.push _).push _) ⟨_, Heap.get?_push_size _ rfl, rfl⟩
structure ZOff (z ti to j1 j2 a1 a2 : Addr) : Prop where
  i : ti ≠ z
  o : to ≠ z
  p : j1 ≠ z
  q : j2 ≠ z
  io : ti ≠ to
  ip : ti ≠ j1
  iq : ti ≠ j2
  op : to ≠ j1
  oq : to ≠ j2
  pq : j1 ≠ j2
  a : ∀ b, b = a1 ∨ b = a2 -> b ≠ z /\ b ≠ to /\ b ≠ j1 /\ b ≠ j2
structure ZSt (k1 k2 : Bool) (h : Heap) (z ti to j1 j2 a1 a2 : Addr) (f0 : Value) (n1 n2 : Nat) : Prop where
  z : IsZip h z ti to f0
  i : IsPair h ti (.ref j1) (.ref j2)
  o : ∃ a b, IsPair h to a b
  x : ItAt k1 h j1 a1 n1
  y : ItAt k2 h j2 a2 n2
theorem zp_item {k1 k2 : Bool} {z ti to j1 j2 a1 a2 : Addr} {n : Nat} {xs ys : Array Value} {x y : Value} {Q : Value -> Shared -> Prop} (D : ZOff z ti to j1 j2 a1 a2) (S : ZSt k1 k2 s.heap z ti to j1 j2 a1 a2 .none n n)
    (hl1 : SeqIn k1 s.heap a1 xs) (hl2 : SeqIn k2 s.heap a2 ys) (hx : xs[n]? = some x) (hy : ys[n]? = some y)
    (hQ : ∀ h', ZSt k1 k2 h' z ti to j1 j2 a1 a2 (rawInt s.heap.objs.size) (n + 1) (n + 1) -> IsPair h' s.heap.objs.size x y -> h'.objs.size = s.heap.objs.size + 1 →
      (∀ c o, c ≠ z -> c ≠ to -> c ≠ j1 -> c ≠ j2 -> s.heap.get? c = some o -> h'.get? c = some o) -> Q (.ref s.heap.objs.size) { s with heap := h' }) :
    wpAny (model prog w) A (Builtin.«zip.__next__» ⟨[.ref z], []⟩) (fun fin s' => ∃ v, fin = .done (.ret v) /\ Q v s') E s := by
  obtain ⟨hz, hI, ⟨u1, u2, hO⟩, h1, h2⟩ := S
  obtain ⟨c1z, c1o, c1p, c1q⟩ := D.a a1 (.inl rfl)
  obtain ⟨c2z, c2o, c2p, c2q⟩ := D.a a2 (.inr rfl)
  show wpAny (model prog w) _ (field (.ref z) 2 >>= _) _ _ _
  refine wpAny_bind (wpAny_field (x := .bool false) hz rfl rfl ?_)
  show wpAny (model prog w) _ (field (.ref z) 3 >>= _) _ _ _
  refine wpAny_bind (wpAny_field (x := .ref ti) hz rfl rfl ?_)
  refine wpAny_bind (wpAny_seqItems hI rfl ?_)
  show wpAny (model prog w) _ (Builtin.SmallTypes.ownedTupleIsFree (.ref z) >>= _) _ _ _
  refine wpAny_bind ?_
  unfold Builtin.SmallTypes.ownedTupleIsFree; refine wpAny_bind (wpAny_field (x := .none) hz rfl rfl (wpAny_pure ?_))
  simp only [if_true]
  refine wpAny_bind (wpAny_rule ?_)
  refine wpAny_bind (wpAny_field (x := .ref to) hz rfl rfl ?_)
  refine wpAny_bind (wpAny_setField_rec hz (by simp) fun g1 z1 b1 => ?_)
  have z1 : IsZip g1 z ti to .ellipsis := z1
  refine wpAny_bind ?_
  simp only [List.zipIdx_nil, List.zipIdx_cons, List.forIn_nil, List.forIn_cons]
  refine wpAny_bind (wpAny_bind (wpAny_onRaise ?_))
  show wpAny (model prog w) _ (Builtin.SmallTypes.nextOf (.ref j1) >>= _) _ _ _
  refine wpAny_bind (nx_item (h1.by fun o e => b1.extBut _ _ D.p e) (hl1.by fun o e => b1.extBut _ _ c1z e) hx fun g2 i2 b2 => wpAny_pure ?_)
  have o2 : IsPair g2 to u1 u2 := b2.extBut _ _ D.op (b1.extBut _ _ D.o hO)
  refine wpAny_bind (wpAny_seqItems o2 rfl ?_)
  refine wpAny_bind (wpAny_updateSeq_pair o2 fun g3 o3 b3 => ?_)
  have o3 : IsPair g3 to x u2 := o3
  refine wpAny_bind (wpAny_letGo (wpAny_pure ?_))
  refine wpAny_bind (wpAny_bind (wpAny_onRaise ?_))
  show wpAny (model prog w) _ (Builtin.SmallTypes.nextOf (.ref j2) >>= _) _ _ _
  refine wpAny_bind (nx_item (h2.by fun o e => b3.extBut _ _ D.oq.symm (b2.extBut _ _ D.pq.symm (b1.extBut _ _ D.q e))) (hl2.by fun o e => b3.extBut _ _ c2o (b2.extBut _ _ c2p (b1.extBut _ _ c2z e))) hy fun g4 i4 b4 => wpAny_pure ?_)
  have o4 : IsPair g4 to x u2 := b4.extBut _ _ D.oq o3
  refine wpAny_bind (wpAny_seqItems o4 rfl ?_)
  refine wpAny_bind (wpAny_updateSeq_pair o4 fun g5 o5 b5 => ?_)
  have o5 : IsPair g5 to x y := o5
  refine wpAny_bind (wpAny_letGo (wpAny_pure (wpAny_pure ?_)))
  refine wpAny_bind (wpAny_seqItems o5 rfl ?_)
  refine wpAny_bind (wpAny_newTuple ?_)
  have hsz : g5.objs.size = s.heap.objs.size := by rw [b5.1, b4.1, b3.1, b2.1, b1.1]
  have z5 : IsZip g5 z ti to .ellipsis := b5.extBut _ _ D.o.symm (b4.extBut _ _ D.q.symm (b3.extBut _ _ D.o.symm (b2.extBut _ _ D.p.symm z1)))
  have hk5 : ∀ c o, c ≠ z -> c ≠ to -> c ≠ j1 -> c ≠ j2 -> s.heap.get? c = some o -> g5.get? c = some o := fun c o n1 n2 n3 n4 e => b5.extBut _ _ n2 (b4.extBut _ _ n4 (b3.extBut _ _ n2 (b2.extBut _ _ n3 (b1.extBut _ _ n1 e))))
  have i5 : ItAt k1 g5 j1 a1 (n + 1) := i2.by fun o e => b5.extBut _ _ D.op.symm (b4.extBut _ _ D.pq (b3.extBut _ _ D.op.symm e))
  have j5 : ItAt k2 g5 j2 a2 (n + 1) := i4.by fun o e => b5.extBut _ _ D.oq.symm e
  have zlt : z < g5.objs.size := Heap.lt_size z5
  show wpAny (model prog w) _ (Builtin.SmallTypes.ownedTupleHandOut (.ref z) (.ref g5.objs.size) >>= _) _ _ _
  refine wpAny_bind ?_
  unfold Builtin.SmallTypes.ownedTupleHandOut; have z6 : IsZip (g5.push { cls := .type "tuple", data := .seq #[x, y] }) z ti to .ellipsis := Zpu _ z5
  refine wpAny_bind (wpAny_setField_rec z6 (by simp) fun g7 z7 b7 => ?_)
  have z7 : IsZip g7 z ti to (rawInt g5.objs.size) := z7
  refine wpAny_setField_rec z7 (by simp) fun g8 z8 b8 => ?_
  have z8 : IsZip g8 z ti to (rawInt g5.objs.size) := z8
  have up : ∀ c o, c ≠ z -> g5.get? c = some o -> g8.get? c = some o := fun c o n1 e => b8.extBut _ _ n1 (b7.extBut _ _ n1 (Zpu _ e))
  have t8 : IsPair g8 g5.objs.size x y := b8.extBut _ _ (Nat.ne_of_gt zlt) (b7.extBut _ _ (Nat.ne_of_gt zlt) (Heap.get?_push_size _ rfl))
  have s8 : g8.objs.size = g5.objs.size + 1 := by rw [b8.1, b7.1, Heap.size_push]
  rw [hsz] at z8 t8 s8; refine wpAny_pure ⟨_, rfl, ?_⟩
  show Q (.ref g5.objs.size) _
  rw [hsz]; exact hQ g8 ⟨z8, up _ _ D.i (hk5 _ _ D.i D.io D.ip D.iq hI), ⟨_, _, up _ _ D.o o5⟩, i5.by fun o e => up _ o D.p e, j5.by fun o e => up _ o D.q e⟩ t8 s8 fun c o n1 n2 n3 n4 e => up c o n1 (hk5 c o n1 n2 n3 n4 e)
theorem zp_end {k1 k2 : Bool} {z ti to j1 j2 a1 a2 : Addr} {n : Nat} {xs ys : Array Value} {Q : Fin -> Shared -> Prop} (hh : A.handled = none) (D : ZOff z ti to j1 j2 a1 a2) (S : ZSt k1 k2 s.heap z ti to j1 j2 a1 a2 .none n n)
    (hl1 : SeqIn k1 s.heap a1 xs) (hl2 : SeqIn k2 s.heap a2 ys) (hend : xs[n]? = none ∨ ys[n]? = none)
    (hE : ∀ h' e, (∀ c o, c ≠ z -> c ≠ to -> c ≠ j1 -> c ≠ j2 -> s.heap.get? c = some o -> h'.get? c = some o) -> (∃ o, h'.get? e = some o /\ o.cls = .type "StopIteration") -> E (.ref e) { s with heap := h' }) :
    wpAny (model prog w) A (Builtin.«zip.__next__» ⟨[.ref z], []⟩) Q E s := by
  obtain ⟨hz, hI, ⟨u1, u2, hO⟩, h1, h2⟩ := S
  obtain ⟨c1z, c1o, c1p, c1q⟩ := D.a a1 (.inl rfl)
  obtain ⟨c2z, c2o, c2p, c2q⟩ := D.a a2 (.inr rfl)
  show wpAny (model prog w) _ (field (.ref z) 2 >>= _) _ _ _
  refine wpAny_bind (wpAny_field (x := .bool false) hz rfl rfl ?_)
  show wpAny (model prog w) _ (field (.ref z) 3 >>= _) _ _ _
  refine wpAny_bind (wpAny_field (x := .ref ti) hz rfl rfl ?_)
  refine wpAny_bind (wpAny_seqItems hI rfl ?_)
  show wpAny (model prog w) _ (Builtin.SmallTypes.ownedTupleIsFree (.ref z) >>= _) _ _ _
  refine wpAny_bind ?_
  unfold Builtin.SmallTypes.ownedTupleIsFree; refine wpAny_bind (wpAny_field (x := .none) hz rfl rfl (wpAny_pure ?_))
  simp only [if_true]
  refine wpAny_bind (wpAny_rule ?_)
  refine wpAny_bind (wpAny_field (x := .ref to) hz rfl rfl ?_)
  refine wpAny_bind (wpAny_setField_rec hz (by simp) fun g1 z1 b1 => ?_)
  have z1 : IsZip g1 z ti to .ellipsis := z1
  refine wpAny_bind ?_
  simp only [List.zipIdx_nil, List.zipIdx_cons, List.forIn_nil, List.forIn_cons]
  refine wpAny_bind (wpAny_bind (wpAny_onRaise ?_))
  show wpAny (model prog w) _ (Builtin.SmallTypes.nextOf (.ref j1) >>= _) _ _ _
  cases hx : xs[n]? with
  | none =>
    refine wpAny_bind (nx_end hh (h1.by fun o e => b1.extBut _ _ D.p e) (hl1.by fun o e => b1.extBut _ _ c1z e) hx fun g2 e b2 he => ?_)
    obtain ⟨oe, hoe, hce⟩ := he
    have z2 : IsZip g2 z ti to .ellipsis := b2 _ _ D.p.symm z1
    have ne : e ≠ z := fun (q : e = z) => by subst q; rw [z2] at hoe; cases hoe; simp at hce
    exact wpAny_setField_rec z2 (by simp) fun g3 _ b3 => hE g3 e (fun c o n1 _ n3 _ q => b3.extBut _ _ n1 (b2 _ _ n3 (b1.extBut _ _ n1 q))) ⟨oe, b3.extBut _ _ ne hoe, hce⟩
  | some x =>
    have hy : ys[n]? = none := hend.resolve_left (by rw [hx]; exact fun q => nomatch q)
    refine wpAny_bind (nx_item (h1.by fun o e => b1.extBut _ _ D.p e) (hl1.by fun o e => b1.extBut _ _ c1z e) hx fun g2 i2 b2 => wpAny_pure ?_)
    have o2 : IsPair g2 to u1 u2 := b2.extBut _ _ D.op (b1.extBut _ _ D.o hO)
    refine wpAny_bind (wpAny_seqItems o2 rfl ?_)
    refine wpAny_bind (wpAny_updateSeq_pair o2 fun g3 o3 b3 => ?_)
    refine wpAny_bind (wpAny_letGo (wpAny_pure ?_))
    refine wpAny_bind (wpAny_bind (wpAny_onRaise ?_))
    show wpAny (model prog w) _ (Builtin.SmallTypes.nextOf (.ref j2) >>= _) _ _ _
    refine wpAny_bind (nx_end hh (h2.by fun o e => b3.extBut _ _ D.oq.symm (b2.extBut _ _ D.pq.symm (b1.extBut _ _ D.q e))) (hl2.by fun o e => b3.extBut _ _ c2o (b2.extBut _ _ c2p (b1.extBut _ _ c2z e))) hy fun g4 e b4 he => ?_)
    obtain ⟨oe, hoe, hce⟩ := he
    have z4 : IsZip g4 z ti to .ellipsis := b4 _ _ D.q.symm (b3.extBut _ _ D.o.symm (b2.extBut _ _ D.p.symm z1))
    have ne : e ≠ z := fun (q : e = z) => by subst q; rw [z4] at hoe; cases hoe; simp at hce
    exact wpAny_setField_rec z4 (by simp) fun g5 _ b5 => hE g5 e (fun c o n1 n2 n3 n4 q => b5.extBut _ _ n1 (b4 _ _ n4 (b3.extBut _ _ n2 (b2.extBut _ _ n3 (b1.extBut _ _ n1 q))))) ⟨oe, b5.extBut _ _ ne hoe, hce⟩
end
section
variable {X : Cx} {pins : List (Addr × Obj)} {σ : List (Option V)} {H : Hp} {s : Shared} {h' : Heap}
theorem Inv.turnLaid {t' : Nat} {ch : List Addr} {a : Addr} {o : HO} (I : Inv X pins σ H s) (hf : ∀ b ∈ ch, FpOk X pins H b) (k : ∀ b u, b ∉ ch -> s.heap.get? b = some u -> h'.get? b = some u) (hp : s.heap.objs.size <= a) (new : ObjOk X.prog X.w (upd H a o) h' a o) :
    Inv X pins σ (upd H a o) { s with heap := h', toks := t' } := by
  have hn := I.hok.fresh hp
  have nch : ∀ b u, H b = some u -> b ∉ ch := fun b u e z => by rw [(hf b z).1] at e; cases e
  refine I.step (g' := s.gens) (d' := s.drawn) (ch := ch) (fun b hb => ⟨(hf b hb).2.2.2.1, (hf b hb).2.1, (hf b hb).2.2.2.2.1, (hf b hb).2.2.2.2.2⟩) (fun b u _ _ hc e _ => k b u hc e) (fun b u _ _ hc e _ => ⟨u.slots, k b u hc e⟩)
    (fun b u _ e n => by rw [upd_ne (Nat.ne_of_lt (Nat.lt_of_lt_of_le (Heap.lt_size e) hp))]; exact n) (fun b u hc e => ⟨u, k b u hc e⟩) (fun b xs e => by rw [upd_ne (ne_of_none e hn)]; exact e) (fun b v u e => by rw [upd_ne (ne_of_none e hn)]; exact e)
    (fun b ps e => ⟨#[], by rw [upd_ne (ne_of_none e hn), e]; simp⟩) (fun m hm => ?_) (fun b u e => ?_) I.bare
  . obtain ⟨u, es, ep, ho, r⟩ := hm
    exact ⟨u, es, ep, k _ u (fun z => (hf _ z).2.1 rfl) ho, r⟩
  . by_cases hb : b = a
    . subst hb; rw [upd_same] at e; cases e; exact new
    . rw [upd_ne hb] at e; refine (I.hok b u e).stay (fun c v hc q => k c v ?_ q) (fun c q => by rw [upd_ne (ne_of_none q hn)]; exact q) fun c xs q => by rw [upd_ne (ne_of_none q hn)]; exact q
      rcases hc with z | z
      . rw [z]; exact nch b u e
      . exact nch c _ z
theorem Inv.turnL {t' : Nat} {ch : List Addr} (I : Inv X pins σ H s) (hf : ∀ b ∈ ch, FpOk X pins H b) (k : ∀ b u, b ∉ ch -> s.heap.get? b = some u -> h'.get? b = some u) : Inv X pins σ H { s with heap := h', toks := t' } := by
  have nch : ∀ b u, H b = some u -> b ∉ ch := fun b u e z => by rw [(hf b z).1] at e; cases e
  refine I.step (g' := s.gens) (d' := s.drawn) (ch := ch) (fun b hb => ⟨(hf b hb).2.2.2.1, (hf b hb).2.1, (hf b hb).2.2.2.2.1, (hf b hb).2.2.2.2.2⟩) (fun b u _ _ hc e _ => k b u hc e) (fun b u _ _ hc e _ => ⟨u.slots, k b u hc e⟩)
    (fun _ _ _ _ n => n) (fun b u hc e => ⟨u, k b u hc e⟩) (fun _ _ e => e) (fun _ _ _ e => e) (fun b ps e => ⟨#[], by rw [e]; simp⟩) (fun m hm => ?_) (fun b u e => ?_) I.bare
  . obtain ⟨u, es, ep, ho, r⟩ := hm
    exact ⟨u, es, ep, k _ u (fun z => (hf _ z).2.1 rfl) ho, r⟩
  . refine (I.hok b u e).stay (fun c v hc q => k c v ?_ q) (fun _ q => q) fun _ _ q => q
    rcases hc with z | z
    . rw [z]; exact nch b u e
    . exact nch c _ z
end
def SqK (K : W.Frag) (k : Bool) (H : Hp) (a : Addr) (xs : List V) : Prop := match k with | true => SqL K H a xs | false => SqT K H a xs
def Itz (K : W.Frag) (k1 k2 : Bool) (a1 a2 : Addr) : It :=
  ⟨fun i H => ∃ xs ys x y, SqK K k1 H a1 xs /\ SqK K k2 H a2 ys /\ xs[i]? = some x /\ ys[i]? = some y,
   fun i H v H' => ∃ t x y, H t = none /\ v = .ref t /\ H' = upd H t (.tup [x, y]) /\ (∀ xs, SqK K k1 H a1 xs -> xs[i]? = some x) /\ ∀ ys, SqK K k2 H a2 ys -> ys[i]? = some y,
   fun i H => ∃ xs ys, SqK K k1 H a1 xs /\ SqK K k2 H a2 ys /\ (xs.length <= i ∨ ys.length <= i)⟩
theorem Inv.sqk {X : Cx} {pins : List (Addr × Obj)} {σ : St} {H : Hp} {s : Shared} (I : Inv X pins σ H s) {k : Bool} {a : Addr} {xs : List V} (h : SqK X.K k H a xs) : ∃ its, Vals xs its /\ SeqIn k s.heap a its.toArray := by
  cases k
  . obtain ⟨its, r, p, _⟩ := I.tuple h
    exact ⟨its, r, p⟩
  . obtain ⟨its, r, p, _⟩ := I.list h
    exact ⟨its, r, p.isList⟩
theorem Inv.sqk_inj {X : Cx} {pins : List (Addr × Obj)} {σ : St} {H : Hp} {s : Shared} (I : Inv X pins σ H s) {k : Bool} {a : Addr} {xs ys : List V} (h : SqK X.K k H a xs) (h2 : SqK X.K k H a ys) : xs = ys := by
  cases k
  . exact I.tuple_inj h h2
  . exact I.list_inj h h2
theorem turn_zip {P : Program} {w : World} {K : W.Frag} {es : List Expr} {n : Nat} {pos : Pos} {k1 k2 : Bool} {z ti to j1 j2 a1 a2 : Addr} (D : ZOff z ti to j1 j2 a1 a2) :
    Turn P w K (.Tuple es n pos) (Itz K k1 k2 a1 a2) [z, ti, to, j1, j2] z (fun i h => ZSt k1 k2 h z ti to j1 j2 a1 a2 .none i i) where
  mem := by simp
  obj := fun i h st b hb => by
    obtain ⟨u1, u2, hO⟩ := st.o
    obtain ⟨o1, e1, _, d1⟩ := st.x
    obtain ⟨o2, e2, _, d2⟩ := st.y
    simp only [List.mem_cons, List.not_mem_nil, or_false] at hb
    rcases hb with rfl | rfl | rfl | rfl | rfl
    . exact ⟨_, st.z, fun v q => by have q' : Data.fields _ = Data.cell v := q; cases q'⟩
    . exact ⟨_, st.i, fun v q => by have q' : Data.seq _ _ = Data.cell v := q; cases q'⟩
    . exact ⟨_, hO, fun v q => by have q' : Data.seq _ _ = Data.cell v := q; cases q'⟩
    . exact ⟨_, e1, fun v q => by rw [d1] at q; cases q⟩
    . exact ⟨_, e2, fun v q => by rw [d2] at q; cases q⟩
  keep := fun i h h' st g => by
    obtain ⟨u1, u2, hO⟩ := st.o
    exact ⟨g z (by simp) _ st.z, g ti (by simp) _ st.i, ⟨u1, u2, g to (by simp) _ hO⟩, st.x.by fun o e => g j1 (by simp) o e, st.y.by fun o e => g j2 (by simp) o e⟩
  item := by
    intro X hP hw hK hc i pins s σ H E I hf st hg; subst hP hw hK; obtain ⟨xs, ys, x, y, hx, hy, ex, ey⟩ := hg
    obtain ⟨its, rv, p⟩ := I.sqk hx
    obtain ⟨jts, rw', p'⟩ := I.sqk hy
    obtain ⟨u, hu, ru⟩ := rv.get ex
    obtain ⟨v, hv, rv'⟩ := rw'.get ey
    have hT : s.TypeIs (.ref z) "zip" := ⟨_, st.z, rfl⟩
    unfold pyNext; refine wpAny_bind (wpAny_attempt (wpAny_callSpecial?_slot (name := Str.ofString "__next__") hT F.slot_zip_next (wpAny_call_entry F.slot_zip_next hT F.entry_zip_next (zp_item D st p p' (by simpa using hu) (by simpa using hv) fun h1 st1 t1 z1 k1' => wpAny_pure ?_) (F.args_zip_next_1 _))))
    refine ⟨_, rfl, ?_⟩
    refine wpAny_letOwnedTupleGo_zip st1.z fun h2 z2 b2 => ?_
    obtain ⟨w1, w2, hO⟩ := st1.o
    have zlt : z < s.heap.objs.size := Heap.lt_size st.z
    have t2 : IsPair h2 s.heap.objs.size u v := b2.extBut _ _ (Nat.ne_of_gt zlt) t1
    refine ⟨.ref s.heap.objs.size, upd H s.heap.objs.size (.tup [x, y]), I.turnLaid (t' := s.toks) hf (fun b o hb e => ?_) (Znr _) ⟨by show 2 <= sizeLine; decide, [u, v], .cons ru (.cons rv' .nil), ⟨_, t2, rfl, _, rfl⟩⟩, rfl, ?_, ?_, fun b hb => ?_⟩
    . have hb' : b ≠ z /\ b ≠ ti /\ b ≠ to /\ b ≠ j1 /\ b ≠ j2 := by simpa using hb
      exact b2.extBut _ _ hb'.1 (k1' b o hb'.1 hb'.2.2.1 hb'.2.2.2.1 hb'.2.2.2.2 e)
    . exact ⟨s.heap.objs.size, x, y, I.hok.fresh (Znr _), rfl, rfl, fun zs hz => by rw [I.sqk_inj hz hx]; exact ex, fun zs hz => by rw [I.sqk_inj hz hy]; exact ey⟩
    . exact ⟨z2, b2.extBut _ _ D.i st1.i, ⟨_, _, b2.extBut _ _ D.o hO⟩, st1.x.by fun o e => b2.extBut _ _ D.p e, st1.y.by fun o e => b2.extBut _ _ D.q e⟩
    . have hlt : b < s.heap.objs.size := by
        obtain ⟨u1, u2, hO'⟩ := st.o
        obtain ⟨o1, e1, _⟩ := st.x
        obtain ⟨o2, e2, _⟩ := st.y
        simp only [List.mem_cons, List.not_mem_nil, or_false] at hb
        rcases hb with rfl | rfl | rfl | rfl | rfl
        . exact zlt
        . exact Heap.lt_size st.i
        . exact Heap.lt_size hO'
        . exact Heap.lt_size e1
        . exact Heap.lt_size e2
      rw [upd_ne (Nat.ne_of_lt hlt)]; exact (hf b hb).1
  done := by
    intro X hP hw hK hc i pins s σ H E I hf st hg; subst hP hw hK; obtain ⟨xs, ys, hx, hy, he⟩ := hg
    obtain ⟨its, rv, p⟩ := I.sqk hx
    obtain ⟨jts, rw', p'⟩ := I.sqk hy
    have hT : s.TypeIs (.ref z) "zip" := ⟨_, st.z, rfl⟩
    have l1 := rv.length
    have l2 := rw'.length
    unfold pyNext; refine wpAny_bind (wpAny_attempt (wpAny_callSpecial?_slot (name := Str.ofString "__next__") hT F.slot_zip_next (wpAny_call_entry F.slot_zip_next hT F.entry_zip_next (zp_end (I.ok.hd hc) D st p p' (he.imp (fun h => by simp; omega) (fun h => by simp; omega)) fun h1 e k1' hx' => ?_) (F.args_zip_next_1 _))))
    obtain ⟨o, ho, hcl⟩ := hx'
    refine wpAny_bind (wpAny_isInstance (T := "StopIteration") (b := true) ⟨o, ho, hcl⟩ isSubtype_stop ?_)
    refine wpAny_pure ⟨rfl, I.turnL (t' := s.toks) hf fun b u hb e' => ?_⟩
    have hb' : b ≠ z /\ b ≠ ti /\ b ≠ to /\ b ≠ j1 /\ b ≠ j2 := by simpa using hb
    exact k1' b u hb'.1 hb'.2.2.1 hb'.2.2.2.1 hb'.2.2.2.2 e'
  self := fun _ _ _ _ _ st h => wpAny_pyIter_zip st.z h
def zpH (k1 k2 : Bool) (h : Heap) (a1 a2 : Addr) : Heap :=
  ((((h.push (itObj k1 a1)).push (itObj k2 a2)).push { cls := .type "tuple", data := .seq #[.ref h.objs.size, .ref (h.objs.size + 1)] }).push { cls := .type "tuple", data := .seq #[.none, .none] }).push { cls := .type "zip", data := .fields #[.none, .bool false, .bool false, .ref (h.objs.size + 2), .ref (h.objs.size + 3)] }
theorem zp_new (k1 k2 : Bool) (a1 a2 : Addr) (xs ys : Array Value) :
    Meets (Builtin.«zip.__new__» ⟨[.type "zip", .ref a1, .ref a2], []⟩) (fun _ R s => SeqIn k1 s.heap a1 xs /\ SeqIn k2 s.heap a2 ys /\ R (.ok (.ret (.ref (s.heap.objs.size + 4)))) { s with heap := zpH k1 k2 s.heap a1 a2 }) :=
  .of_wp fun prog w A R s h => by
    obtain ⟨hp, g, d, tk, os⟩ := s; obtain ⟨hl1, hl2, h⟩ := h
    have hsub := sub_zip
    have L1 : SeqIn k1 (Shared.heap ⟨hp, g, d, tk, os⟩) a1 xs := hl1
    have L2 : SeqIn k2 (Shared.heap ⟨hp.push (itObj k1 a1), g, d, tk, os⟩) a2 ys := SeqIn.by hl2 fun o e => Zpu _ e
    wp_walk using it_new L1, it_new L2
    refine ⟨_, rfl, ?_⟩
    simp only [Heap.size_push]
    exact h
theorem zp_off {n a1 a2 : Addr} (h1 : a1 < n) (h2 : a2 < n) : ZOff (n + 4) (n + 2) (n + 3) n (n + 1) a1 a2 where
  i := Nat.ne_of_lt (Nat.add_lt_add_left (by decide) n)
  o := Nat.ne_of_lt (Nat.add_lt_add_left (by decide) n)
  p := Nat.ne_of_lt (Nat.lt_add_of_pos_right (by decide))
  q := Nat.ne_of_lt (Nat.add_lt_add_left (by decide) n)
  io := Nat.ne_of_lt (Nat.add_lt_add_left (by decide) n)
  ip := Nat.ne_of_gt (Nat.lt_add_of_pos_right (by decide))
  iq := Nat.ne_of_gt (Nat.add_lt_add_left (by decide) n)
  op := Nat.ne_of_gt (Nat.lt_add_of_pos_right (by decide))
  oq := Nat.ne_of_gt (Nat.add_lt_add_left (by decide) n)
  pq := Nat.ne_of_lt (Nat.lt_add_of_pos_right (by decide))
  a := fun b hb => by
    have hlt : b < n := by rcases hb with rfl | rfl <;> assumption
    exact ⟨Nat.ne_of_lt (Nat.lt_of_lt_of_le hlt (Nat.le_add_right n 4)), Nat.ne_of_lt (Nat.lt_of_lt_of_le hlt (Nat.le_add_right n 3)), Nat.ne_of_lt hlt, Nat.ne_of_lt (Nat.lt_of_lt_of_le hlt (Nat.le_add_right n 1))⟩
section
variable {prog : Program} {w : World} {A : Around} {E : Value -> Shared -> Prop} {s : Shared}
theorem zp_call {k1 k2 : Bool} {a1 a2 : Addr} {xs ys : Array Value} {Q : Value -> Shared -> Prop} (hl1 : SeqIn k1 s.heap a1 xs) (hl2 : SeqIn k2 s.heap a2 ys)
    (h : ∀ h', ZSt k1 k2 h' (s.heap.objs.size + 4) (s.heap.objs.size + 2) (s.heap.objs.size + 3) s.heap.objs.size (s.heap.objs.size + 1) a1 a2 .none 0 0 -> (∀ c o, s.heap.get? c = some o -> h'.get? c = some o) -> Q (.ref (s.heap.objs.size + 4)) { s with heap := h' }) :
    wpAny (model prog w) A (call (.type "zip") [.ref a1, .ref a2]) Q E s := by
  refine callType_new F.called_zip (by decide) (F.typeCall_zip_2 _ _) (F.newCall_zip_2 _ _) (fun obj => F.args_object_init_3 obj _ _) F.entry_zip_new (zp_new k1 k2 a1 a2 xs ys) ⟨hl1, hl2, ?_⟩
  have n1 : (s.heap.push (itObj k1 a1)).objs.size = s.heap.objs.size + 1 := Heap.size_push ..
  have n2 : ((s.heap.push (itObj k1 a1)).push (itObj k2 a2)).objs.size = s.heap.objs.size + 2 := by rw [Heap.size_push, n1]
  have up : ∀ {o1 o2 o3 o4 o5 : Obj} {b : Addr} {o : Obj}, s.heap.get? b = some o -> (((((s.heap.push o1).push o2).push o3).push o4).push o5).get? b = some o := fun e => Zpu _ (Zpu _ (Zpu _ (Zpu _ (Zpu _ e))))
  have at5 : ∀ {h0 : Heap} {o : Obj} {n : Nat}, h0.objs.size = n -> o.isFreed = false -> (h0.push o).get? n = some o := fun e f => by subst e; exact Heap.get?_push_size _ f
  have g1 : (zpH k1 k2 s.heap a1 a2).get? s.heap.objs.size = some (itObj k1 a1) := Zpu _ (Zpu _ (Zpu _ (Zpu _ (Heap.get?_push_size _ rfl))))
  have g2 : (zpH k1 k2 s.heap a1 a2).get? (s.heap.objs.size + 1) = some (itObj k2 a2) := Zpu _ (Zpu _ (Zpu _ (at5 n1 rfl)))
  have g3 : IsPair (zpH k1 k2 s.heap a1 a2) (s.heap.objs.size + 2) (.ref s.heap.objs.size) (.ref (s.heap.objs.size + 1)) := Zpu _ (Zpu _ (at5 n2 rfl))
  have g4 : IsPair (zpH k1 k2 s.heap a1 a2) (s.heap.objs.size + 3) .none .none := Zpu _ (at5 (by rw [Heap.size_push, n2]) rfl)
  have g5 : IsZip (zpH k1 k2 s.heap a1 a2) (s.heap.objs.size + 4) (s.heap.objs.size + 2) (s.heap.objs.size + 3) .none := at5 (by rw [Heap.size_push, Heap.size_push, n2]) rfl
  exact ⟨⟨_, g5, rfl⟩, h _ ⟨g5, g3, ⟨_, _, g4⟩, ⟨_, g1, rfl, rfl⟩, ⟨_, g2, rfl, rfl⟩⟩ fun c o e => up e⟩
end
section
variable {X : Cx} {a b : Expr} {ta tb : TE} {p pos tpos : Pos} {es : List Expr} {n : Nat}
def iZip (K : W.Frag) (ta tb : TE) : TI := fun σ H R => ta σ H fun x H1 => tb σ H1 fun y H2 => mR x fun a1 => mR y fun a2 => ∃ k1 k2 xs ys, SqK K k1 H2 a1 xs /\ SqK K k2 H2 a2 ys /\ R (Itz K k1 k2 a1 a2) H2
theorem boot_zip : bootBuiltins "zip" = some (.type "zip") := by decide +kernel
theorem pi_zip (hg : Gl X "zip") (hm : X.mg "zip" = none) (ha : PE X a ta) (hb : PE X b tb) (h1 : notStar a = true) (h2 : notStar b = true) : PI X (.Tuple es n tpos) (.Call (.Name "zip" p) [a, b] [] pos) (iZip X.K ta tb) := by
  intro pins s σ H R I h; have hs : starEach [a, b] X.env = [(false, eval a X.env), (false, eval b X.env)] := by rw [star_cons h1, star_cons h2]; rfl
  have hs2 : starEach [b] X.env = [(false, eval b X.env)] := by rw [star_cons h2]; rfl
  have hA : PA X [a, b] (tCons ta (tCons tb tNil)) := a_cons ha (a_cons hb pa_nil h2) h1
  refine Call_ (ld_blt I hg hm boot_zip (PyProof.Rows.callWith_type1 (thn (hA pos pins s σ H (fun vs H2 => match vs with | [x, y] => (mR x fun a1 => mR y fun a2 => ∃ k1 k2 xs ys, SqK X.K k1 H2 a1 xs /\ SqK X.K k2 H2 a2 ys /\ R (Itz X.K k1 k2 a1 a2) H2) | _ => False) I ?_) fun us s1 ⟨vs, H1, I1, r1, q1⟩ => ?_) (by rw [hs, hs2]) (by rw [hs2]; rfl)))
  . exact h
  . dsimp only at q1
    split at q1
    rotate_left
    . exact q1.elim
    rename_i x y
    rw [mR_eq] at q1; obtain ⟨a1, rfl, q1⟩ := q1
    rw [mR_eq] at q1; obtain ⟨a2, rfl, k1, k2, xs, ys, q2, q3, q⟩ := q1
    cases r1 with
    | cons r rr =>
      cases rr with
      | cons r' rr =>
        cases rr
        cases r
        cases r'
        obtain ⟨its, rv, p1⟩ := I1.sqk q2
        obtain ⟨jts, rw', p2⟩ := I1.sqk q3
        refine zp_call p1 p2 fun h' S k => ?_
        have I2 : Inv X pins σ H1 { s1 with heap := h' } := I1.kept (t' := s1.toks) k
        refine wpAny_pyIter_zip (s := { s1 with heap := h' }) S.z ?_
        refine ⟨s1.heap.objs.size + 4, _, _, _, H1, rfl, I2, turn_zip (zp_off p1.lt p2.lt), S, fun b hb => ?_, q⟩
        have hb' : s1.heap.objs.size <= b := by
          simp only [List.mem_cons, List.not_mem_nil, or_false] at hb
          rcases hb with rfl | rfl | rfl | rfl | rfl
          . exact Nat.le_add_right _ 4
          . exact Nat.le_add_right _ 2
          . exact Nat.le_add_right _ 3
          . exact Znr _
          . exact Nat.le_add_right _ 1
        exact I1.fpOk hb' (I1.hok.fresh hb')
theorem R.zip {K : W.Frag} (hg : Gl X "zip") (hm : X.mg "zip" = none) (ha : XE X a ta) (hb : XE X b tb) (hK : X.K = K := by rfl) (h1 : notStar a = true := by rfl) (h2 : notStar b = true := by rfl) : XI X (.Tuple es n tpos) (.Call (.Name "zip" p) [a, b] [] pos) (iZip K ta tb) :=
  hK ▸ ⟨pi_zip hg hm ha.h hb.h h1 h2⟩
end
theorem comp_zip {K : W.Frag} {k1 k2 : Bool} {a1 a2 : Addr} {xs ys : List V} {js : List (Option Nat)} {g : TG} {tt : TT} {te : TE} {σ : St} {H : Hp} {Q : List V -> Hp -> Prop} (hz : xs.length <= 100000) (Pv : Nat -> List V -> Hp -> Prop) (hA : ∀ i zs H, Pv i zs H -> SqK K k1 H a1 xs /\ SqK K k2 H a2 ys /\ zs.length <= i) (h0 : Pv 0 [] H)
    (hs : ∀ i x y zs H t, xs[i]? = some x -> ys[i]? = some y -> Pv i zs H -> H t = none -> g (.ref t) (stC js σ) (upd H t (.tup [x, y])) fun σ2 H2 => tt σ2 H2 fun b H3 => if b = true then te σ2 H3 fun v H4 => Pv (i + 1) (zs ++ [v]) H4 else Pv (i + 1) zs H3)
    (hd : ∀ zs H, Pv (min xs.length ys.length) zs H -> Q zs H) : wComp js g tt te σ (Itz K k1 k2 a1 a2) H Q := by
  refine ⟨fun i m zs H => m = min xs.length ys.length - i /\ i <= min xs.length ys.length /\ Pv i zs H, ⟨_, rfl, Nat.zero_le _, h0⟩, ?_⟩
  rintro i m zs H ⟨rfl, hi, p⟩
  obtain ⟨q1, q2, q3⟩ := hA i zs H p
  by_cases hlt : i < min xs.length ys.length
  . have l1 : i < xs.length := Nat.lt_of_lt_of_le hlt (Nat.min_le_left _ _)
    have l2 : i < ys.length := Nat.lt_of_lt_of_le hlt (Nat.min_le_right _ _)
    refine .inr ⟨⟨xs, ys, xs[i], ys[i], q1, q2, by simp [l1], by simp [l2]⟩, Znl (m := 100000) (by omega) (by decide), Pv (i + 1), fun zs' H' p' => ⟨_, by omega, rfl, hlt, p'⟩, fun v H' y => ?_⟩
    obtain ⟨t, x, y, ht, rfl, rfl, e1, e2⟩ := y
    exact hs i x y zs H t (e1 xs q1) (e2 ys q2) p ht
  . have e : i = min xs.length ys.length := by omega
    subst e; exact .inl ⟨⟨xs, ys, q1, q2, by omega⟩, hd zs H p⟩
end L2
namespace L2
open PySem PySem.Spec PyProof.Rows
section
variable {X : Cx}
def eqTup (xs ys : List V) : Bool := (List.range (min xs.length ys.length)).all (fun j => eqV (xs.getD j .non) (ys.getD j .non)) && xs.length == ys.length
def mEqF (neg : Bool) : R2 := fun x y H Q => mR x fun a => mR y fun b => ∃ xs ys, H a = some (.tup xs) /\ H b = some (.tup ys) /\ (∀ (j : Nat) (u v : V), xs[j]? = some u -> ys[j]? = some v -> flatV u = true /\ flatV v = true) /\ Q (.bl (if neg then !eqTup xs ys else eqTup xs ys)) H
theorem op_eqF (neg : Bool) (hu : X.A.units + 64 < cLine) : OpR X (compareOp (if neg then .NotEq else .Eq)) (mEqF neg) := by
  intro pins s σ H x y v u Q I rx ry h; unfold mEqF at h; rw [mR_eq] at h; obtain ⟨a, rfl, h⟩ := h
  rw [mR_eq] at h; obtain ⟨b, rfl, xs, ys, g1, g2, fl, q⟩ := h
  cases rx
  cases ry
  obtain ⟨its, ri, ti, _⟩ := I.tuple (SqT.of g1)
  obtain ⟨its2, ri2, ti2, _⟩ := I.tuple (SqT.of g2)
  have el1 : its.length = xs.length := ri.length.symm
  have el2 : its2.length = ys.length := ri2.length.symm
  have each : ∀ j (h1 : j < its.toArray.size) (h2 : j < its2.toArray.size), SeqAt.EqAt X.A.in1 s its.toArray[j] its2.toArray[j] (eqV (xs.getD j .non) (ys.getD j .non)) := fun j h1 h2 => by
    rw [Zst] at h1 h2; obtain ⟨h1', q1⟩ := Paired.get' (j := j) ri h1
    obtain ⟨h2', q2⟩ := Paired.get' (j := j) ri2 h2
    obtain ⟨f1, f2⟩ := fl j xs[j] ys[j] (Zge h1') (Zge h2')
    have e1 : xs.getD j .non = xs[j] := by simp [List.getD, h1']
    have e2 : ys.getD j .non = ys[j] := by simp [List.getD, h2']
    rw [e1, e2]; simpa using eqAt_V q1 q2 f1 f2
  have e : ((List.range (min its.toArray.size its2.toArray.size)).all (fun j => eqV (xs.getD j .non) (ys.getD j .non)) && its.toArray.size == its2.toArray.size) = eqTup xs ys := by
    rw [Zst, Zst, el1, el2]; rfl
  cases neg with
  | true =>
    have key := SeqAt.RcNeAt.tuples (A := X.A) (s := s) ti ti2 (by omega) each
    rw [e] at key; exact key _ _ _ _ ⟨.bl _, H, I, rfl, q⟩
  | false =>
    have key := SeqAt.RcAt.tuples (A := X.A) (s := s) ti ti2 (by omega) each
    rw [e] at key; exact key _ _ _ _ ⟨.bl _, H, I, rfl, q⟩
theorem R.neF (hu : X.A.units + 64 < cLine) : XOp X (compareOp .NotEq) (mEqF true) := ⟨op_eqF true hu⟩
end
def nIs : Option Key -> Value -> Bool
  | none, .none => true
  | none, _ => false
  | some k, v => keyIs k v
theorem nIs_shape : ∀ {k : Option Key} {v : Value}, nIs k v = true -> (k = none /\ v = .none) ∨ ∃ j, k = some j /\ keyIs j v = true
  | none, v, h => by cases v <;> first | exact .inl ⟨rfl, rfl⟩ | exact absurd (show false = true from h) Bool.false_ne_true
  | some j, v, h => .inr ⟨j, rfl, h⟩
theorem key_none {j : Key} : keyIs j .none = false := by cases j <;> rfl
def noneH : Int := 4238894112
section
variable {prog : Program} {w : World} {A : Around} {E : Value -> Shared -> Prop} {s : Shared}
theorem hash_none {Q : Int -> Shared -> Prop} (h : Q noneH { s with toks := s.toks + 1 }) : wpAny (model prog w) A (PySem.pyHash .none) Q E s := by
  have hT : s.TypeIs Value.none "NoneType" := rfl
  unfold PySem.pyHash; refine wpAny_bind ?_
  rw [cRoomFor, if_neg (show ¬ ([Value.none].any Value.onHeap = true) from Bool.false_ne_true)]; refine wpAny_pure ?_
  refine wpAny_bind (wpAny_specialOf hT PySem.F.slot_NoneType_hash.lookup ?_)
  show wpAny (model prog w) A (if (some (Value.builtin "NoneType.__hash__") == some Value.none) = true then _ else _) Q E s
  rw [if_neg (show ¬ ((some (Value.builtin "NoneType.__hash__") == some Value.none) = true) from Bool.false_ne_true)]; refine wpAny_bind (wpAny_specialOf hT PySem.F.slot_NoneType_hash.lookup ?_)
  show wpAny (model prog w) A (callSpecialIfBoundUnlessNone? Value.none "__hash__" _ >>= _) Q E s
  refine wpAny_bind (wpAny_callSpecialIfBoundUnlessNone?_slot hT PySem.F.slot_NoneType_hash (wpAny_call_entry PySem.F.slot_NoneType_hash hT PySem.F.entry_NoneType_hash (show wpAny (model prog w) _ (do ret (← mkInt noneH)) _ _ s from wpAny_ret_mkInt ?_) (PySem.F.args_NoneType_hash_1 _)))
  show wpAny (model prog w) A (if (decide (-(2 : Int) ^ 63 <= noneH) && decide (noneH < 2 ^ 63)) = true then _ else _) Q E _
  rw [if_pos (by decide)]
  exact wpAny_pure h
end
def nKind (prog : Program) (w : World) : PySem.KeyKind prog w (Option Key) where
  is := nIs
  hash := fun k => match k with | none => noneH | some j => keyH w j
  inj := fun v a b ha hb => by
    rcases nIs_shape ha with ⟨rfl, rfl⟩ | ⟨i, rfl, h1⟩
    . rcases nIs_shape hb with ⟨rfl, _⟩ | ⟨j, rfl, h2⟩
      . rfl
      . rw [key_none] at h2; cases h2
    . rcases nIs_shape hb with ⟨rfl, rfl⟩ | ⟨j, rfl, h2⟩
      . rw [key_none] at h1; cases h1
      . rw [(mixKind prog w).inj v i j h1 h2]
  byValue := fun k v h => by
    rcases nIs_shape h with ⟨rfl, rfl⟩ | ⟨i, rfl, h1⟩
    . rfl
    . exact (mixKind prog w).byValue i v h1
  pyHash := fun {A E s k v Q} hv h => by
    rcases nIs_shape hv with ⟨rfl, rfl⟩ | ⟨i, rfl, h1⟩
    . exact hash_none h
    . exact (mixKind prog w).pyHash h1 h
  eqBool := fun {A E s a b u v Q} hu hv h => by
    rcases nIs_shape hu with ⟨rfl, rfl⟩ | ⟨i, rfl, h1⟩
    . rcases nIs_shape hv with ⟨rfl, rfl⟩ | ⟨j, rfl, h2⟩
      . exact SeqAt.EqAt.same _ _ _ _ _ (by simpa using h)
      . have h' : Q false s := by simpa using h
        rcases keyIs_shape h2 with ⟨n, t, rfl, rfl⟩ | ⟨x, t, rfl, rfl⟩
        . exact SeqAt.EqAt.none_int n t _ _ _ _ h'
        . exact SeqAt.EqAt.none_str x t _ _ _ _ h'
    . rcases nIs_shape hv with ⟨rfl, rfl⟩ | ⟨j, rfl, h2⟩
      . have h' : Q false s := by simpa using h
        rcases keyIs_shape h1 with ⟨n, t, rfl, rfl⟩ | ⟨x, t, rfl, rfl⟩
        . exact SeqAt.EqAt.int_none n t _ _ _ _ h'
        . exact SeqAt.EqAt.str_none x t _ _ _ _ h'
      . refine (mixKind prog w).eqBool h1 h2 ?_
        have e : decide (some i = some j) = decide (i = j) := by simp
        rw [<- e]; exact h
  «strs» := fun k x t v h => by
    rcases nIs_shape h with ⟨rfl, e⟩ | ⟨i, rfl, h1⟩
    . cases e
    . exact (mixKind prog w).strs i x t v h1
theorem map_none {prog : Program} {w : World} {h : Heap} {a : Addr} {f : Key -> Option Value} (m : h.MapOf (mixKind prog w) a f) : ∃ g : Option Key -> Option Value, h.MapOf (nKind prog w) a g /\ g none = none := by
  obtain ⟨o, es, ep, ho, hx, hd, hk, hf⟩ := m
  refine ⟨_, ⟨o, es, ep, ho, hx, hd, fun e he => ?_, fun k => rfl⟩, ?_⟩
  . obtain ⟨k, h1, h2⟩ := hk e he
    exact ⟨some k, h1, h2⟩
  . show findBy nIs es none = none
    unfold findBy; have : es.find? (fun e => nIs none e.key) = none := by
      rw [Array.find?_eq_none]; intro e he z; obtain ⟨k, h1, h2⟩ := hk e he
      rcases nIs_shape z with ⟨_, e1⟩ | ⟨_, e1, _⟩
      . rw [e1] at h1; have h1' : keyIs k .none = true := h1
        rw [key_none] at h1'; cases h1'
      . cases e1
    rw [this]; rfl
section
variable {X : Cx}
def mInD (neg : Bool) : R2 := fun x y H Q => mR y fun a => match x with
  | .non => (∃ kvs, H a = some (.dK kvs)) /\ Q (.bl neg) H
  | .str z => ∃ kvs, H a = some (.dK kvs) /\ Q (.bl (if neg then !(valV kvs (Sum.inr z)).isSome else (valV kvs (Sum.inr z)).isSome)) H
  | _ => False
theorem op_inD (neg : Bool) (hu : X.A.units + 1 < cLine) : OpR X (compareOp (if neg then .NotIn else .In)) (mInD neg) := by
  intro pins s σ H x y v u Q I rx ry h; unfold mInD at h; rw [mR_eq] at h; obtain ⟨a, rfl, h⟩ := h
  cases ry
  cases x with
  | non =>
    obtain ⟨⟨kvs, e⟩, q⟩ := h
    cases rx
    obtain ⟨z, hd, vs, rel, dd⟩ := dk_of I.hok e
    obtain ⟨g, hm, hg⟩ := map_none dd.mapOf
    cases neg
    . refine wpAny_in_of (knd := nKind X.prog X.w) (k := none) rfl hd hm ⟨.bl _, H, I.tok _, rfl, ?_⟩
      rw [hg]; exact q
    . refine wpAny_notIn_of (knd := nKind X.prog X.w) (k := none) rfl hd hm ⟨.bl _, H, I.tok _, rfl, ?_⟩
      rw [hg]; exact q
  | str z =>
    obtain ⟨kvs, e, q⟩ := h
    cases neg
    . exact d_in hu I (DGet.k (k := Sum.inr z) e) rx fun s' I' => ⟨.bl _, H, I', rfl, q⟩
    . exact d_notIn hu I (DGet.k (k := Sum.inr z) e) rx fun s' I' => ⟨.bl _, H, I', rfl, q⟩
  | _ => exact h.elim
theorem R.inD (hu : X.A.units + 1 < cLine) : XOp X (compareOp .In) (mInD false) := ⟨op_inD false hu⟩
theorem R.notInD (hu : X.A.units + 1 < cLine) : XOp X (compareOp .NotIn) (mInD true) := ⟨op_inD true hu⟩
end
end L2
namespace L2
open PySem PySem.Spec PyProof.Rows
def Pc (H : Hp) (y : V) : Prop := (flatV y = true /\ ∀ z, y = .str z -> z.length <= 1000) ∨ (∃ a ys, y = .ref a /\ (H a = some (.lst ys) ∨ H a = some (.tup ys))) ∨ ∃ a kvs, y = .ref a /\ H a = some (.dK kvs)
def Tg (H : Hp) (x : V) : Prop := Pc H x /\ ∀ a xs, x = .ref a -> H a = some (.tup xs) -> xs.length <= 1000 /\ ∀ y ∈ xs, Pc H y
theorem Pc.same {H H' : Hp} {y : V} (s : Same H H') (h : Pc H y) : Pc H' y := by
  rcases h with h | ⟨a, ys, e, h⟩ | ⟨a, kvs, e, h⟩
  . exact .inl h
  . exact .inr (.inl ⟨a, ys, e, h.imp (s _ _) (s _ _)⟩)
  . exact .inr (.inr ⟨a, kvs, e, s _ _ h⟩)
theorem Tg.same {H H' : Hp} {x : V} (s : Same H H') (h : Tg H x) : Tg H' x := by
  refine ⟨h.1.same s, fun a xs e g => ?_⟩
  subst e; rcases h.1 with ⟨hf, _⟩ | ⟨a', ys, e, hh⟩ | ⟨a', kvs, e, hh⟩
  . cases hf
  . cases e
    rcases hh with hh | hh
    . have := s _ _ hh; rw [g] at this; cases this
    . have := s _ _ hh
      rw [g] at this; cases this
      obtain ⟨h1, h2⟩ := h.2 a _ rfl hh
      exact ⟨h1, fun y hy => (h2 y hy).same s⟩
  . cases e
    have := s _ _ hh; rw [g] at this; cases this
theorem Pc.kd {H : Hp} {y : V} (h : Pc H y) : ∃ k, Kof H y k := by
  rcases h with ⟨h, _⟩ | ⟨a, ys, rfl, h | h⟩ | ⟨a, kvs, rfl, h⟩
  . cases y with
    | non => exact ⟨.non, trivial⟩
    | bl _ => exact ⟨.bl, trivial⟩
    | int _ => exact ⟨.int, trivial⟩
    | str _ => exact ⟨.str, trivial⟩
    | _ => exact absurd (show false = true from h) Bool.false_ne_true
  . exact ⟨.lst, .inl ⟨ys, h⟩⟩
  . exact ⟨.tup, ⟨ys, h⟩⟩
  . exact ⟨.dct, ⟨kvs, h⟩⟩
theorem Pc.pt {H : Hp} {y : V} (h : Pc H y) : Pt H y := by
  obtain ⟨k, hk⟩ := h.kd
  refine ⟨k, hk, fun z e => ?_⟩
  subst e; rcases h with ⟨_, h⟩ | ⟨_, _, e, _⟩ | ⟨_, _, e, _⟩
  . exact h z rfl
  . cases e
  . cases e
theorem Pc.int {H : Hp} {n : Int} : Pc H (.int n) := .inl ⟨rfl, fun _ e => nomatch e⟩
theorem Pc.str {H : Hp} {z : Str} (h : z.length <= 1000) : Pc H (.str z) := .inl ⟨rfl, fun _ e => by injection e with e; rw [<- e]; exact h⟩
theorem Pc.tup {H : Hp} {a : Addr} {ys : List V} (h : H a = some (.tup ys)) : Pc H (.ref a) := .inr (.inl ⟨a, ys, rfl, .inr h⟩)
theorem Pc.lst {H : Hp} {a : Addr} {ys : List V} (h : H a = some (.lst ys)) : Pc H (.ref a) := .inr (.inl ⟨a, ys, rfl, .inl h⟩)
theorem Pc.dct {H : Hp} {a : Addr} {kvs : List (Key × V)} (h : H a = some (.dK kvs)) : Pc H (.ref a) := .inr (.inr ⟨a, kvs, rfl, h⟩)
theorem Tg.tup {H : Hp} {a : Addr} {xs : List V} (h : H a = some (.tup xs)) (hl : xs.length <= 1000) (hx : ∀ y ∈ xs, Pc H y) : Tg H (.ref a) :=
  ⟨.tup h, fun b ys e g => by cases e; rw [h] at g; cases g; exact ⟨hl, hx⟩⟩
def partsV (H : Hp) (x : V) : Option (List V) := match x with | .ref a => (match H a with | some (.tup xs) => some xs | _ => none) | _ => none
theorem partsV_tup {H : Hp} {a : Addr} {xs : List V} (h : H a = some (.tup xs)) : partsV H (.ref a) = some xs := by unfold partsV; dsimp only; rw [h]
structure DWN (wd : Str) (n : Int) (xs : List V) (as : List (Str × List V)) : Prop where
  ex : ∃ one other nm cs, DW one other nm n wd xs cs as
  nm : ∀ q ∈ as, isNm q.1
end L2
namespace L2
open PySem PySem.Spec PyProof.Rows
section
variable {X : Cx} {o : Expr} {to : TE} {p pos apos cpos : Pos}
def rSetD : TSet := fun o i v H Q => ∃ a H', o = .ref a /\ DPut H a i v H' /\ Q H'
theorem set_dict (hu : X.A.units + 1 < cLine) : PSet X rSetD := by
  intro pins s σ H o i v ov iv u Q I ro ri rv h; obtain ⟨a, H', rfl, g, q⟩ := h
  cases ro
  exact d_setItem hu I g ri rv fun s' I' => ⟨H', I', q⟩
theorem R.setD (hu : X.A.units + 1 < cLine) : XSet X rSetD := ⟨set_dict hu⟩
end
end L2
namespace L2
open PySem PySem.Spec PyProof.Rows
def putA (prs : List (Str × Int)) (n : Str) (v : Int) : List (Str × Int) := prs.map fun q => if q.1 = n then (q.1, v) else q
theorem keys_putA (prs : List (Str × Int)) (n : Str) (v : Int) : (putA prs n v).map (·.1) = prs.map (·.1) := by
  unfold putA; rw [List.map_map]; refine List.map_congr_left fun q _ => ?_
  show (if q.1 = n then (q.1, v) else q).1 = q.1
  split <;> rfl
theorem put_dkv {prs : List (Str × Int)} {n : Str} {v : Int} (h : n ∈ prs.map (·.1)) : putK (dkv prs) (Sum.inr n) (.int v) = dkv (putA prs n v) := by
  unfold putK; rw [if_pos (by rw [valV_any, dkv_val]; obtain ⟨a, ha⟩ := has_lookup h; rw [ha]; rfl)]
  unfold dkv putA; rw [List.map_map, List.map_map]; refine List.map_congr_left fun q _ => ?_
  show (if (Sum.inr q.1 : Key) = Sum.inr n then (Sum.inr q.1, V.int v) else ((Sum.inr q.1 : Key), V.int q.2)) = ((Sum.inr (if q.1 = n then (q.1, v) else q).1 : Key), V.int (if q.1 = n then (q.1, v) else q).2)
  by_cases e : q.1 = n
  . rw [if_pos (by rw [e]), if_pos e]
  . rw [if_neg (fun z => e (Sum.inr.inj z)), if_neg e]
end L2
namespace L2
open PySem PySem.Spec PyProof.Rows
section
variable {X : Cx}
def CDivL (i j : Int) : Prop := 0 < j /\ j < 2 ^ 64
theorem o_fdivL : OpR X (binaryOp .FloorDiv) (m2 CDivL fun i j => .int (i / j)) := (opI (C := CDivL) (g := fun i j => i / j) fun i j _ _ s Q E hc q => by
  have h1 : i.fdiv j = i / j := Int.fdiv_eq_ediv_of_nonneg _ (by have := hc.1; omega)
  refine floordiv_int (by have := hc.1; omega) (by rw [h1]; exact q) (.inl (PyProof.noPylong_of_log2 ?_))
  have h2 : j.natAbs < 2 ^ 64 := by have := hc.1; have := hc.2; omega
  exact Nat.lt_of_lt_of_le (Nat.log2_lt (by have := hc.1; omega) |>.mpr h2) (by decide)).imp m2_imp
theorem R.fdivL : XOp X (binaryOp .FloorDiv) (m2 CDivL fun i j => .int (i / j)) := ⟨o_fdivL⟩
end
def PenAt (H : Hp) (p : Addr) : Prop := ∃ i j : Int, H p = some (.lst [.int i, .int j]) /\ 0 <= i /\ 0 <= j /\ j < 2147483629
def K1 (p : Addr) (H H' : Hp) : Prop := ∀ c o, H c = some o -> c ≠ p -> H' c = some o
theorem K1.trans {p : Addr} {H H1 H2 : Hp} (a : K1 p H H1) (b : K1 p H1 H2) : K1 p H H2 := fun c o e n => b c o (a c o e n) n
theorem K1.of {p : Addr} {H H1 : Hp} (a : Same H H1) : K1 p H H1 := fun c o e _ => a c o e
theorem PenAt.same {H H' : Hp} {p : Addr} (s : Same H H') (h : PenAt H p) : PenAt H' p := by
  obtain ⟨i, j, g, r⟩ := h
  exact ⟨i, j, s _ _ g, r⟩
theorem PenAt.ne {H : Hp} {p l : Addr} (h : PenAt H p) (hl : H l = none) : l ≠ p := fun z => by
  obtain ⟨i, j, g, r⟩ := h
  rw [z, g] at hl; cases hl
def spPen : Sp := fun vs H Q _ => ∃ c k : Int, vs = [.int c, .int k] /\ ∀ p H', H p = none -> Same H H' -> PenAt H' p -> Q (.ref p) H'
def spTake : Sp := fun vs H Q _ => ∃ (p : Addr) (m : Int), vs = [.ref p, .int m] /\ PenAt H p /\ 0 < m /\ m <= 10000000000000 /\ ∀ r H', 0 <= r -> r < m -> PenAt H' p -> K1 p H H' -> Q (.int r) H'
theorem K1.free {p l : Addr} {H H' : Hp} (k : K1 p H H') (pn : PenAt H' p) (h : H' l = none) : H l = none := by
  cases e : H l with
  | none => rfl
  | some o => rw [k _ _ e (pn.ne h)] at h; cases h
def sgn (cs : List Nat) (i : Int) : Nat := cs.getD i.toNat 0
theorem sgn_at {cs : List Nat} {i : Int} (h0 : 0 <= i) (h1 : i < cs.length) : atI cs i = some (sgn cs i) /\ sgn cs i ∈ cs := by
  obtain ⟨j, rfl⟩ := Zio h0
  have hj : j < cs.length := by omega
  have e : sgn cs (j : Int) = cs[j] := by unfold sgn; simp [hj]
  rw [e]; exact ⟨atI_nat (Zge hj), List.getElem_mem hj⟩
theorem nd_at {zs : List Str} (a : Nat) (c : Nat -> Nat) (h : ∀ j z, zs[j]? = some z -> z.cps.toList[a]? = some (c j)) (inj : ∀ j j', j < j' -> j' < zs.length -> c j ≠ c j') : zs.Nodup := by
  refine List.pairwise_iff_getElem.mpr fun i j hi hj hij e => ?_
  have e1 := h i _ (Zge hi)
  have e2 := h j _ (Zge hj)
  rw [e, e2] at e1; exact inj i j hij hj (Option.some.inj e1).symm
theorem cps_tx (l : List Nat) : (tx l).cps.toList = l := by simp
def spNames20 : Sp := fun vs H Q _ => ∃ (p : Addr) (m : Nat), vs = [.ref p, .int m] /\ PenAt H p /\ m <= 6 /\ ∀ (l : Addr) (zs : List Str) (H' : Hp), zs.length = m -> (∀ z ∈ zs, isNm z) -> zs.Nodup -> H l = none -> H' l = some (.lst (zs.map V.str)) -> PenAt H' p -> K1 p H H' -> Q (.ref l) H'
theorem let_at : ∀ i, i < 26 -> LET.getD i 0 = 97 + i := by decide +kernel
def stepOk (s : Int) : Prop := s = 1 ∨ s = 3 ∨ s = 5 ∨ s = 7 ∨ s = 9 ∨ s = 11
theorem let_inj {b s : Int} (hs : stepOk s) {j j' : Nat} (h : j < j') (h' : j' < 10) : sgn LET ((b + s * (j : Int)) % 26) ≠ sgn LET ((b + s * (j' : Int)) % 26) := fun e => by
  unfold sgn at e; have a1 := Int.emod_nonneg (b + s * (j : Int)) (show (26 : Int) ≠ 0 by decide)
  have a2 := Int.emod_lt_of_pos (b + s * (j : Int)) (show (0 : Int) < 26 by decide)
  have b1 := Int.emod_nonneg (b + s * (j' : Int)) (show (26 : Int) ≠ 0 by decide)
  have b2 := Int.emod_lt_of_pos (b + s * (j' : Int)) (show (0 : Int) < 26 by decide)
  rw [let_at _ (by omega), let_at _ (by omega)] at e
  rcases hs with rfl | rfl | rfl | rfl | rfl | rfl <;> omega
def KLET : List Nat := LET ++ FIG
theorem klet_eq : (("abcdefghijklmnopqrstuvwxyz0123456789" : Str)).cps.toList = KLET := by decide +kernel
def isKy (z : Str) : Prop := 1 <= z.length /\ z.length <= 12 /\ ∀ c ∈ z.cps.toList, c ∈ KLET
def spKeys20 : Sp := fun vs H Q _ => ∃ (p : Addr) (m : Nat), vs = [.ref p, .int m] /\ PenAt H p /\ m <= 10 /\ ∀ (l : Addr) (zs : List Str) (H' : Hp), zs.length = m -> (∀ z ∈ zs, isKy z) -> zs.Nodup -> H l = none -> H' l = some (.lst (zs.map V.str)) -> PenAt H' p -> K1 p H H' -> Q (.ref l) H'
theorem klet_at : ∀ i, i < 36 -> ∀ j, j < 36 -> KLET.getD i 0 = KLET.getD j 0 -> i = j := by decide +kernel
def stepOk2 (s : Int) : Prop := s = 1 ∨ s = 5 ∨ s = 7 ∨ s = 11 ∨ s = 13 ∨ s = 17
theorem klet_inj {b s : Int} (hs : stepOk2 s) {j j' : Nat} (h : j < j') (h' : j' < 12) : sgn KLET ((b + s * (j : Int)) % 36) ≠ sgn KLET ((b + s * (j' : Int)) % 36) := fun e => by
  unfold sgn at e; have a1 := Int.emod_nonneg (b + s * (j : Int)) (show (36 : Int) ≠ 0 by decide)
  have a2 := Int.emod_lt_of_pos (b + s * (j : Int)) (show (0 : Int) < 36 by decide)
  have b1 := Int.emod_nonneg (b + s * (j' : Int)) (show (36 : Int) ≠ 0 by decide)
  have b2 := Int.emod_lt_of_pos (b + s * (j' : Int)) (show (0 : Int) < 36 by decide)
  have := klet_at _ (by omega) _ (by omega) e
  rcases hs with rfl | rfl | rfl | rfl | rfl | rfl <;> omega
def RowsOk (H : Hp) (rs : List (Addr × List Int)) : Prop := ∀ q ∈ rs, H q.1 = some (.lst (q.2.map V.int)) /\ 1 <= q.2.length /\ q.2.length <= 12 /\ ∀ x ∈ q.2, 0 <= x /\ x < 36
def kword (q : Addr × List Int) : Str := tx (q.2.map (sgn KLET))
theorem RowsOk.same {H H' : Hp} {rs : List (Addr × List Int)} (h : RowsOk H rs) (s : Same H H') : RowsOk H' rs := fun q hq => ⟨s _ _ (h q hq).1, (h q hq).2⟩
theorem RowsOk.k1 {H H' : Hp} {p : Addr} {rs : List (Addr × List Int)} (h : RowsOk H rs) (k : K1 p H H') (hp : ∀ q ∈ rs, q.1 ≠ p) : RowsOk H' rs := fun q hq => ⟨k _ _ (h q hq).1 (hp q hq), (h q hq).2⟩
theorem RowsOk.ky {H : Hp} {rs : List (Addr × List Int)} (h : RowsOk H rs) : ∀ q ∈ rs, isKy (kword q) := fun q hq => by
  obtain ⟨_, h1, h2, h3⟩ := h q hq
  unfold kword; refine ⟨by rw [tx_len, Zlm]; exact h1, by rw [tx_len, Zlm]; exact h2, fun c hc => ?_⟩
  rw [cps_tx] at hc; obtain ⟨i, hi, rfl⟩ := Zmm.mp hc
  exact (sgn_at (cs := KLET) (h3 i hi).1 (show i < 36 from (h3 i hi).2)).2
end L2
namespace L2
open PySem PySem.Spec PyProof.Rows
def Ite (K : W.Frag) (a : Addr) : It :=
  ⟨fun i H => ∃ xs x, SqL K H a xs /\ xs[i]? = some x,
   fun i H v H' => ∃ t x, H t = none /\ v = .ref t /\ H' = upd H t (.tup [.int i, x]) /\ ∀ xs, SqL K H a xs -> xs[i]? = some x,
   fun i H => ∃ xs, SqL K H a xs /\ xs.length <= i⟩
structure ESt (h : Heap) (e it a : Addr) (i : Nat) : Prop where
  e : ∃ old, IsEnum h e it i old
  i : h.IsListIter it a i
theorem turn_enum {P : Program} {w : World} {K : W.Frag} {es : List Expr} {n : Nat} {pos : Pos} {e it a : Addr} (hne : e ≠ it) (hea : a ≠ e) (hia : a ≠ it) :
    Turn P w K (.Tuple es n pos) (Ite K a) [e, it] e (fun i h => ESt h e it a i) where
  mem := by simp
  obj := fun i h st b hb => by
    obtain ⟨old, he⟩ := st.e
    obtain ⟨o1, e1, _, d1⟩ := st.i
    simp only [List.mem_cons, List.not_mem_nil, or_false] at hb
    rcases hb with rfl | rfl
    . exact ⟨_, he, fun v q => by have q' : Data.fields _ = Data.cell v := q; cases q'⟩
    . exact ⟨_, e1, fun v q => by rw [d1] at q; cases q⟩
  keep := fun i h h' st g => by
    obtain ⟨old, he⟩ := st.e
    obtain ⟨o1, e1, r⟩ := st.i
    exact ⟨⟨old, g e (by simp) _ he⟩, ⟨o1, g it (by simp) _ e1, r⟩⟩
  item := by
    intro X hP hw hK hc i pins s σ H E I hf st hg; subst hP hw hK; obtain ⟨xs, x, hx, ex⟩ := hg
    obtain ⟨its, rv, p, _⟩ := I.list hx
    obtain ⟨u, hu, ru⟩ := rv.get ex
    obtain ⟨old, he⟩ := st.e
    refine wpAny_pyNext_enum_item he st.i p.isList (by simpa using hu) hne fun h1 e1 i1 t1 z1 k1 => ?_
    refine ⟨_, rfl, ?_⟩
    refine wpAny_letOwnedTupleGo_enum e1 fun h2 e2 b2 => ?_
    have elt : e < s.heap.objs.size := Heap.lt_size he
    have t2 : h2.get? s.heap.objs.size = some { cls := .type "tuple", data := .seq #[.int i s.toks, u] } := b2.extBut _ _ (Nat.ne_of_gt elt) t1
    refine ⟨.ref s.heap.objs.size, upd H s.heap.objs.size (.tup [.int i, x]), I.turnLaid (t' := s.toks + 1) hf (fun b o hb e' => ?_) (Znr _) ⟨by show 2 <= sizeLine; decide, [.int i s.toks, u], .cons ⟨_, rfl⟩ (.cons ru .nil), ⟨_, t2, rfl, _, rfl⟩⟩, rfl, ?_, ?_, fun b hb => ?_⟩
    . have hb' : b ≠ e /\ b ≠ it := by simpa using hb
      exact b2.extBut _ _ hb'.1 (k1 b o hb'.1 hb'.2 e')
    . exact ⟨s.heap.objs.size, x, I.hok.fresh (Znr _), rfl, rfl, fun zs hz => by rw [I.list_inj hz hx]; exact ex⟩
    . obtain ⟨o1, q1, r1⟩ := i1
      exact ⟨⟨_, by simpa using e2⟩, ⟨o1, b2.extBut _ _ hne.symm q1, r1⟩⟩
    . have hlt : b < s.heap.objs.size := by
        obtain ⟨o1, q1, r1⟩ := st.i
        simp only [List.mem_cons, List.not_mem_nil, or_false] at hb
        rcases hb with rfl | rfl
        . exact elt
        . exact Heap.lt_size q1
      rw [upd_ne (Nat.ne_of_lt hlt)]; exact (hf b hb).1
  done := by
    intro X hP hw hK hc i pins s σ H E I hf st hg; subst hP hw hK; obtain ⟨xs, hx, hl⟩ := hg
    obtain ⟨its, rv, p, _⟩ := I.list hx
    obtain ⟨old, he⟩ := st.e
    have l1 := rv.length
    refine wpAny_pyNext_enum_end (I.ok.hd hc) he st.i p.isList (by simp; omega) fun h1 k1 => ?_
    refine ⟨rfl, I.turnL (t' := s.toks) hf fun b u hb e' => ?_⟩
    have hb' : b ≠ e /\ b ≠ it := by simpa using hb
    exact k1 b u hb'.2 e'
  self := fun _ _ _ _ _ st h => by
    obtain ⟨old, he⟩ := st.e
    exact wpAny_pyIter_enum he h
section
variable {X : Cx} {a b : Expr} {ta tb : TE} {p pos tpos : Pos} {es : List Expr} {n : Nat}
def iEnum (K : W.Frag) (ta : TE) : TI := fun σ H R => ta σ H fun x H1 => mR x fun a => ∃ xs, SqL K H1 a xs /\ R (Ite K a) H1
theorem pi_enum (hg : Gl X "enumerate") (hm : X.mg "enumerate" = none) (ha : PE X a ta) (h1 : notStar a = true) : PI X (.Tuple es n tpos) (.Call (.Name "enumerate" p) [a] [] pos) (iEnum X.K ta) := by
  intro pins s σ H R I h; have hs : starEach [a] X.env = [(false, eval a X.env)] := by rw [star_cons h1]; rfl
  have hA : PA X [a] (tCons ta tNil) := a_cons ha pa_nil h1
  refine Call_ (ld_blt I hg hm boot_enumerate (PyProof.Rows.callWith_type1 (thn (hA pos pins s σ H (fun vs H2 => match vs with | [x] => (mR x fun a1 => ∃ xs, SqL X.K H2 a1 xs /\ R (Ite X.K a1) H2) | _ => False) I ?_) fun us s1 ⟨vs, H1, I1, r1, q1⟩ => ?_) (by rw [hs]; rfl) rfl))
  . exact h
  . dsimp only at q1
    split at q1
    rotate_left
    . exact q1.elim
    rename_i x
    rw [mR_eq] at q1; obtain ⟨a1, rfl, xs, q2, q⟩ := q1
    cases r1 with
    | cons r rr =>
      cases rr
      cases r
      obtain ⟨its, rv, p1, _⟩ := I1.list q2
      refine call_enumerate_list p1.isList fun h' he hi hz k => ?_
      have I2 : Inv X pins σ H1 { s1 with heap := h' } := I1.kept (t' := s1.toks) k
      have la : a1 < s1.heap.objs.size := by
        obtain ⟨o, e', _⟩ := p1.isList
        exact Heap.lt_size e'
      refine wpAny_pyIter_enum (s := { s1 with heap := h' }) he ?_
      refine ⟨s1.heap.objs.size + 1, _, _, _, H1, rfl, I2, turn_enum (Nat.ne_of_gt (Nat.lt_succ_self _)) (Nat.ne_of_lt (Nat.lt_succ_of_lt la)) (Nat.ne_of_lt la), ⟨⟨_, he⟩, hi⟩, fun b hb => ?_, q⟩
      have hb' : s1.heap.objs.size <= b := by
        simp only [List.mem_cons, List.not_mem_nil, or_false] at hb
        rcases hb with rfl | rfl
        . exact Nat.le_add_right _ 1
        . exact Znr _
      exact I1.fpOk hb' (I1.hok.fresh hb')
theorem R.enum {K : W.Frag} (hg : Gl X "enumerate") (hm : X.mg "enumerate" = none) (ha : XE X a ta) (hK : X.K = K := by rfl) (h1 : notStar a = true := by rfl) : XI X (.Tuple es n tpos) (.Call (.Name "enumerate" p) [a] [] pos) (iEnum K ta) :=
  hK ▸ ⟨pi_enum hg hm ha.h h1⟩
end
theorem for_enum {K : W.Frag} {a : Addr} {xs : List V} {g : TG} {tb : TS} {D : Ends} {σ : St} {H : Hp} (Pv : Nat -> St -> Hp -> Prop) (hA : ∀ i σ H, Pv i σ H -> SqL K H a xs) (h0 : Pv 0 σ H)
    (hs : ∀ (i : Nat) (x : V) σ H t, xs[i]? = some x -> Pv i σ H -> H t = none -> g (.ref t) σ (upd H t (.tup [.int i, x])) fun σ2 H2 => tb { D with nx := Pv (i + 1), ct := Pv (i + 1), bk := D.nx } σ2 H2) (hd : ∀ σ H, Pv xs.length σ H -> D.nx σ H) :
    ∃ W : Nat -> Nat -> St -> Hp -> Prop, (∃ m, W 0 m σ H) /\ ∀ i m σ H, W i m σ H →
      ((Ite K a).stop i H /\ D.nx σ H) ∨ ((Ite K a).go i H /\ ∃ N : St -> Hp -> Prop, (∀ σ' H', N σ' H' -> ∃ m', m' < m /\ W (i + 1) m' σ' H') /\ ∀ x H', (Ite K a).yld i H x H' -> g x σ H' fun σ2 H2 => tb { D with nx := N, ct := N, bk := D.nx } σ2 H2) := by
  refine ⟨fun i m σ H => m = xs.length - i /\ i <= xs.length /\ Pv i σ H, ⟨_, rfl, Nat.zero_le _, h0⟩, ?_⟩
  rintro i m σ H ⟨rfl, hi, p⟩
  have q1 := hA i σ H p
  by_cases hlt : i < xs.length
  . refine .inr ⟨⟨xs, xs[i], q1, Zge hlt⟩, Pv (i + 1), fun σ' H' n => ⟨xs.length - (i + 1), by omega, rfl, hlt, n⟩, ?_⟩
    rintro v H' ⟨t, x, ht, rfl, rfl, e1⟩
    exact hs i x σ H t (e1 xs q1) p ht
  . have : i = xs.length := by omega
    subst this; exact .inl ⟨⟨xs, q1, Znr _⟩, hd σ H p⟩
end L2
namespace L2
open PySem PySem.Spec PyProof.Rows
section
variable {X : Cx} {pins : List (Addr × Obj)} {σ : St} {H : Hp} {s : Shared} {A : Around} {E : Value -> Shared -> Prop}
theorem isinst_tup {x : V} {u : Value} {k : Kd} {b : Bool} {t : Addr} {dd : Option Addr} {its : List Value} {n : Nat} {sl : Array (Option Value)} {Q : Value -> Shared -> Prop} (I : Inv X pins σ H s) (rx : RelV x u) (hk : Kof H x k)
    (ht : s.heap.get? t = some ⟨.type "tuple", dd, .seq its.toArray n, sl⟩) (e : W.kitAny X.K (.type (kdT k)) its = some b) (h : ∀ tk, Q (.bool b) { s with toks := tk }) :
    wpAny (model X.prog X.w) A (call (.builtin "isinstance") [u, .ref t]) Q E s := by
  cases x with
  | non => cases k <;> first | exact hk.elim | (cases (show u = Value.none from rx); exact W.kia_tup W.kitx_none I.kIn True.intro ht e (fun z => nomatch z) h)
  | bl y => cases k <;> first | exact hk.elim | (cases (show u = Value.bool y from rx); exact W.kia_tup W.kitx_bool I.kIn True.intro ht e (fun z => nomatch z) h)
  | int i => cases k <;> first | exact hk.elim | (obtain ⟨t, q⟩ := (show ∃ t, u = Value.int i t from rx); cases q; exact W.kia_tup W.kitx_int I.kIn True.intro ht e (fun z => nomatch z) h)
  | str y => cases k <;> first | exact hk.elim | (obtain ⟨t, q⟩ := (show ∃ t, u = Value.str y t from rx); cases q; exact W.kia_tup W.kitx_str I.kIn True.intro ht e (fun z => nomatch z) h)
  | ref a =>
    cases (show u = Value.ref a from rx)
    cases k with
    | lst =>
      rcases hk with ⟨xs, ea⟩ | ⟨ob, xs, ea⟩
      . obtain ⟨_, _, n, _, h1⟩ := (show ObjOk X.prog X.w H s.heap a (.lst xs) from I.hok a _ ea)
        exact W.kia_tup W.kitx_list I.kIn ⟨_, h1, rfl⟩ ht e (fun z => nomatch z) h
      . obtain ⟨_, _, _, n, _, h1⟩ := (show ObjOk X.prog X.w H s.heap a (.frz ob (.lst xs)) from I.hok a _ ea)
        exact W.kia_tup W.kitx_list I.kIn ⟨_, h1, rfl⟩ ht e (fun z => nomatch z) h
    | tup =>
      obtain ⟨xs, ea⟩ := hk
      obtain ⟨_, _, _, p⟩ := (show ObjOk X.prog X.w H s.heap a (.tup xs) from I.hok a _ ea)
      obtain ⟨o, h1, h2, _⟩ := p
      exact W.kia_tup W.kitx_tuple I.kIn ⟨o, h1, h2⟩ ht e (fun z => nomatch z) h
    | dct =>
      obtain ⟨kvs, ea⟩ := hk
      obtain ⟨_, _, vs, _, p⟩ := (show ObjOk X.prog X.w H s.heap a (.dK kvs) from I.hok a _ ea)
      obtain ⟨o, es, ep, h1, h2, _⟩ := p
      exact W.kia_tup W.kitx_dict I.kIn ⟨o, h1, h2.1⟩ ht e (fun z => nomatch z) h
    | _ => exact hk.elim
  | _ => cases k <;> exact hk.elim
def mIsLT : List V -> Hp -> VK -> Prop := fun vs H Q => match vs with
  | [x, .ref t] => H t = some (.tup [.ty "list", .ty "tuple"]) /\ ∃ k, Kof H x k /\ Q (.bl (isK .lst k || isK .tup k)) H
  | _ => False
theorem kit_LT (K : W.Frag) (k : Kd) : W.kitAny K (.type (kdT k)) [.type "list", .type "tuple"] = some (isK .lst k || isK .tup k) := by
  unfold W.kitAny; rw [show W.kitOne K (.type (kdT k)) (.type "list") = some (isK .lst k) from kit_K K .lst k]; cases k <;> first
    | rfl
    | (show W.kitAny K _ [.type "tuple"] = _
       unfold W.kitAny; first
         | rw [show W.kitOne K (.type (kdT .tup)) (.type "tuple") = some true from kit_K K .tup .tup]; rfl
         | (rw [show W.kitOne K _ (.type "tuple") = some false from kit_K K .tup _]; rfl))
theorem c_isLT : CallR X (.builtin "isinstance") mIsLT := by
  intro pins s σ H xs us Q I r h; unfold mIsLT at h; split at h
  . rename_i x t
    obtain ⟨ht, k, hk, q⟩ := h
    cases r with
    | cons ra r2 =>
      cases r2 with
      | cons rc r3 =>
        cases r3
        cases rc
        obtain ⟨_, its, rv, ⟨ot, hto, hc, n, hd⟩⟩ := (show ObjOk X.prog X.w H s.heap t (.tup [.ty "list", .ty "tuple"]) from I.hok t _ ht)
        obtain ⟨c0, dd, dat, sl⟩ := ot
        dsimp only at hc hd
        subst hc hd; cases rv with
        | cons r1 rv =>
          cases rv with
          | cons r2 rv =>
            cases rv
            cases (show _ = Value.type "list" from r1)
            cases (show _ = Value.type "tuple" from r2)
            exact isinst_tup I ra hk hto (kit_LT _ k) fun tk => ⟨.bl _, H, I.tok _, rfl, q⟩
  . exact h.elim
theorem R.isLT : XC X (.builtin "isinstance") mIsLT := ⟨c_isLT⟩
end
def okT : Nat -> TV -> Prop
  | n + 1, .tp ts => ts.length <= 1000 /\ ∀ t ∈ ts, okT n t
  | n + 1, .ls ts => ts.length <= 1000 /\ ∀ t ∈ ts, okT n t
  | _, .sc (.bl _) => False
  | _, _ => True
def spSame (n : Nat) : Sp := fun vs H Q _ => ∃ x y t, vs = [x, y] /\ Rep H n t x /\ Rep H n t y /\ okT n t /\ ∀ H', Same H H' -> Q (.bl true) H'
end L2
namespace L2
open PySem PySem.Spec PyProof.Rows
def putB (prs : List (Str × Int)) (n : Str) (v : Int) : List (Str × Int) := if n ∈ prs.map (·.1) then putA prs n v else prs ++ [(n, v)]
theorem lookup_out {n : Str} : ∀ {prs : List (Str × Int)}, ¬ n ∈ prs.map (·.1) -> prs.lookup n = none
  | [], _ => rfl
  | q :: r, h => by
    rw [List.lookup_cons]; have hb : (n == q.1) = false := beq_eq_false_iff_ne.mpr fun e => h (by rw [e]; exact Zcs)
    rw [hb]; exact lookup_out fun m => h (Zmc _ m)
theorem putB_dkv {prs : List (Str × Int)} {n : Str} {v : Int} : putK (dkv prs) (Sum.inr n) (.int v) = dkv (putB prs n v) := by
  unfold putB; by_cases h : n ∈ prs.map (·.1)
  . rw [if_pos h, put_dkv h]
  . rw [if_neg h, putK_new _ (by rw [dkv_val, lookup_out h]; rfl)]
    unfold dkv; rw [Zap]; rfl
theorem nd_putB {prs : List (Str × Int)} {n : Str} {v : Int} (hn : (prs.map (·.1)).Nodup) : ((putB prs n v).map (·.1)).Nodup := by
  unfold putB; by_cases h : n ∈ prs.map (·.1)
  . rw [if_pos h, keys_putA]; exact hn
  . rw [if_neg h, Zap]; exact nd_snoc hn h
theorem len_putB (prs : List (Str × Int)) (n : Str) (v : Int) : (putB prs n v).length <= prs.length + 1 := by
  unfold putB; split
  . unfold putA; rw [Zlm]; omega
  . rw [Zla]; simp
structure HF where
  dx : Addr
  da : Addr
  dc : Addr
  de : Addr
def hfs (a : HF) : List (Str × V) := [("amounts", .ref a.da), ("closed_names", .ref a.dc), ("entries", .ref a.de)]
structure HsT (K : W.Frag) (C : Addr) : Prop where
  cl : Cls K C
  nA : NoAttr K C "amounts"
  nC : NoAttr K C "closed_names"
  nE : NoAttr K C "entries"
inductive HD (nm : Str) (n : Int) : Str -> List V -> Int -> Prop
  | add : HD nm n "add" [.str "add", .str nm, .int n] n
  | take : HD nm n "take" [.str "take", .str nm, .int n] (-n)
def can (am : List (Str × Int)) (cl : Str -> Bool) (wd nm : Str) (n : Int) : Bool := if wd = "take" then decide (n <= amt am nm) else !cl nm && decide (amt am nm + n <= 1000000000000)
def yn (b : Bool) : Str := if b then "yes" else "no"
def aft (am : List (Str × Int)) (b : Bool) (nm : Str) (by_ : Int) : List (Str × Int) := if b then putB am nm (amt am nm + by_) else am
def ClsAtV (H : Hp) (c : V) (cs : List Str) : Prop := (c = .non /\ cs = []) ∨ ∃ l, c = .ref l /\ H l = some (.lst (cs.map V.str))
theorem hf_a (a : HF) : (hfs a).lookup ("amounts" : Str) = some (.ref a.da) := by unfold hfs; rw [List.lookup_cons]; simp
theorem hf_c (a : HF) : (hfs a).lookup ("closed_names" : Str) = some (.ref a.dc) := by
  unfold hfs; rw [List.lookup_cons, (by decide +kernel : (("closed_names" : Str) == ("amounts" : Str)) = false)]
  show List.lookup ("closed_names" : Str) [(("closed_names" : Str), V.ref a.dc), (("entries" : Str), V.ref a.de)] = _
  rw [List.lookup_cons]; simp
theorem hf_e (a : HF) : (hfs a).lookup ("entries" : Str) = some (.ref a.de) := by
  unfold hfs; rw [List.lookup_cons, (by decide +kernel : (("entries" : Str) == ("amounts" : Str)) = false)]
  show List.lookup ("entries" : Str) [(("closed_names" : Str), V.ref a.dc), (("entries" : Str), V.ref a.de)] = _
  rw [List.lookup_cons, (by decide +kernel : (("entries" : Str) == ("closed_names" : Str)) = false)]
  show List.lookup ("entries" : Str) [(("entries" : Str), V.ref a.de)] = _
  rw [List.lookup_cons]; simp
theorem hf_no {m : Str} (a : HF) (h1 : (m == ("amounts" : Str)) = false) (h2 : (m == ("closed_names" : Str)) = false) (h3 : (m == ("entries" : Str)) = false) : (hfs a).lookup m = none := by
  unfold hfs; rw [List.lookup_cons, h1]; show List.lookup m [(("closed_names" : Str), V.ref a.dc), (("entries" : Str), V.ref a.de)] = none
  rw [List.lookup_cons, h2]; show List.lookup m [(("entries" : Str), V.ref a.de)] = none
  rw [List.lookup_cons, h3]; rfl
end L2
namespace L2
open PySem PySem.Spec PyProof.Rows
def RoomH (k : Nat) (A : Around) : Prop := A.depth + 3 * k + 5 < recursionLimit /\ A.units + 16 * k + 200 < cLine
theorem Room.toH {k : Nat} {A : Around} (r : Room k A) : RoomH k A := ⟨r.dp, r.un⟩
abbrev Cx.uncalm (X : Cx) : Cx := { X with calm := false, xe := fun _ _ => False }
structure FnOkH (P : Program) (w : World) (K : W.Frag) (mg : Str -> Option Value) (base : Heap) (k : Nat) (f : Addr) (fd : FuncData) (ps : List Str) (sp : Sp) : Prop where
  len : ∀ vs H Q E, sp vs H Q E -> vs.length = ps.length
  run : ∀ (A : Around) (outer : List Env) (s : Shared) (H : Hp) (args : Args) (us : List Value) (vs : List V) (Q : VK), RoomH k A -> Env0 P w K mg base A outer s H -> BindsTo s fd args (ps.zip us) -> Vals vs us -> sp vs H Q E0 →
    codeAny (model P w) A (.call (.ref f) args) (CR CX0 outer P w H s Q E0) s
structure CalleeH (P : Program) (w : World) (K : W.Frag) (mg : Str -> Option Value) (base : Heap) (n : Nat) (x : Str) (ps : List Str) (sp : Sp) : Prop where
  ex : ∃ f fd, mg x = some (.ref f) /\ W.keepIn K (.ref f) = true /\ FnOkH P w K mg base n f fd ps sp /\ Binds K fd ps []
section
variable {P : Program} {w : World} {K : W.Frag} {mg : Str -> Option Value} {base : Heap}
theorem DefAt.goH {x : Str} {st : Stmt} {N ps : List Str} {k : Nat} {sp : Sp} (D : DefAt K mg x st ps) (S : FnScope N ps (defScope st)) (len : ∀ vs H Q E, sp vs H Q E -> vs.length = ps.length)
    (hbody : ∀ (f : Addr) (cdv : Value) (A : Around) (outer : List Env) (s : Shared) (H : Hp) (vs : List V) (Q : VK), RoomH k (A.deeper (envOfC x (defScope st) s.heap.objs.size f cdv)) -> sp vs H Q E0 →
      ∃ t, XB (cxOf CX0 P w K mg base N x (defScope st) f cdv A outer s H E0).uncalm (defBody st) t /\ t { nx := fun _ H' => Q .non H', rt := Q } (start N vs) H) : CalleeH P w K mg base (k + 1) x ps sp := by
  obtain ⟨f, fd, F, hm, hb⟩ := D.ex
  refine ⟨f, fd, hm, F.kp, ?_, hb⟩
  obtain ⟨oc, od, kV, doc, pm, an, cdv, ct, osl, rfl, lk, hcd⟩ := F.ex
  refine ⟨len, fun A outer s H args us vs Q hr e0 hb r hsp => ?_⟩
  have hl := len _ _ _ _ hsp
  have KX : K.In s.heap := e0.mod.kin.keeps fun b o e => (e0.bs b o e).1
  have lim : s.heap.NoLimit := e0.mod.nolimit.keeps fun b o e => (e0.bs b o e).1
  have hkind : ∀ y ∈ ps.zip us, (defScope st).names.lookup y.1 = some .local ∨ ((defScope st).names.lookup y.1 = some .cell /\ ((cellsFrom (s.heap.objs.size + 1) (defScope st).names []).lookup y.1).isSome = true) := fun ⟨n, v⟩ hy => by
    rcases S.par n (List.of_mem_zip hy).1 with q | q
    . exact .inl q
    . exact .inr ⟨q, W.cellsFrom_some _ _ _ (.inl q)⟩
  have hdp : A.depth < recursionLimit := by have := hr.1; omega
  refine codeAny_call_function hdp (KX _ _ lk) rfl S.co S.gen rfl (W.codeRec_of KX hcd) (hb _ _ _ _ ?_)
  refine wpAny_newFunctionEnv_cells S.kind hkind fun env he s1 x1 => ?_
  subst he; refine ⟨lim.keeps x1.toInCall.keep, codeAny_func ?_⟩
  have hrd : RoomH k (A.deeper (envOfC x (defScope st) s.heap.objs.size f cdv)) := ⟨by have := hr.1; show A.depth + 1 + 3 * k + 5 < _; omega, by have := hr.2; show A.units + 3 + 16 * k + 200 < _; omega⟩
  obtain ⟨t, ht, hq⟩ := hbody f cdv A outer s H vs Q hrd hsp
  have e1 : Env0 P w K mg base { A with handled := none } outer s H := ⟨e0.frames, e0.mod, e0.bs, e0.bsz, e0.funs, e0.frf, e0.hok, e0.bare⟩
  have I0 : Inv (cxOf CX0 P w K mg base N x (defScope st) f cdv { A with handled := none } outer s H E0) [] (start N vs) H s1 := inv_start S rfl e1 hl r x1
  have I : Inv (cxOf CX0 P w K mg base N x (defScope st) f cdv A outer s H E0).uncalm [] (start N vs) H s1 :=
    ⟨⟨I0.ok.mod, I0.ok.kind, I0.ok.glob, I0.ok.blt, I0.ok.above, I0.ok.inj, I0.ok.has, I0.ok.cab, (fun z => nomatch z), I0.ok.frames, I0.ok.stk, I0.ok.exf, I0.ok.bs, I0.ok.bsz, I0.ok.noex, I0.ok.exfs, I0.ok.funs, I0.ok.frf⟩, I0.os, I0.bare, I0.base, I0.loc, I0.cell, I0.free, I0.freeC, I0.pin, I0.hok, I0.len⟩
  refine wpAny_mono (ht.h [] s1 (start N vs) H _ I hq) (fun fl s' hs => ?_) fun e s' hs => hs.elim
  have fin : ∀ {σ' : St} {H' : Hp} {v : V} {u : Value}, Inv (cxOf CX0 P w K mg base N x (defScope st) f cdv A outer s H E0).uncalm [] σ' H' s' -> RelV v u -> Q v H' -> CE outer P w H s Q u s' :=
    fun {σ' H' v u} J rv q => ⟨v, H', J.os, J.bare, J.base, J.hok, rv, q⟩
  cases fl with
  | ret u =>
    obtain ⟨v, σ', H', J, rv, q⟩ := hs
    exact fin J rv q
  | next =>
    obtain ⟨σ', H', J, q⟩ := hs
    exact fin (v := V.non) (u := Value.none) J rfl q
  | brk =>
    obtain ⟨_, _, _, q⟩ := hs
    exact False.elim q
  | cont =>
    obtain ⟨_, _, _, q⟩ := hs
    exact False.elim q
end
section
variable {X : Cx} {x : Str} {n : Nat} {ps : List Str} {sp : Sp} {e : Expr} {es : List Expr} {t : TA} {p pos : Pos}
theorem pe_fnH (c : CalleeH X.prog X.w X.K X.mg X.base n x ps sp) (hr : RoomH n X.A) (hg : Gl X x) (ha : PA X (e :: es) t) (hs : notStar e = true) (h2 : es.all notStar = true) (hdb : (x == ("__debug__" : Str)) = false) :
    PE X (.Call (.Name x p) (e :: es) [] pos) (tFn sp t) := by
  obtain ⟨f, fd, hm, hk, F, hb⟩ := c.ex
  intro pins s σ H Q I h; refine wpAny_Call_Name_kw (ld_glob I hg hm ?_ hdb)
  refine W.callWith_K (h₀ := X.base) I.ok.mod.kin hk (thn (ha pos pins s σ H _ I h) fun us s1 ⟨vs, H1, I1, r, q⟩ => ⟨I1.kIn, ?_⟩) (star_cons hs) (star_any h2)
  have hl : us.length = ps.length := by rw [<- r.length]; exact F.len _ _ _ _ q
  have hb' := hb s1 us I1.kIn (by rw [List.append_nil]; exact hl)
  rw [List.append_nil] at hb'; refine wpAny_call (codeAny_mono (F.run X.A X.stack s1 H1 ⟨us, []⟩ us vs Q hr I1.env0 hb' r q) fun rs s' hq => ?_)
  cases rs with
  | error e' => exact hq.elim
  | ok fl =>
    cases fl with
    | ret u => exact I1.after hq
    | next => exact False.elim hq
    | brk => exact False.elim hq
    | cont => exact False.elim hq
end
structure MthX (P : Program) (w : World) (K : W.Frag) (mg : Str -> Option Value) (base : Heap) (n : Nat) (C : Addr) (m : Str) (ps : List Str) (sp : Sp) : Prop where
  ex : ∃ f fd, Cls K C /\ Meth K C m f /\ FnOk P w K mg base (CXf P w) n f fd ps sp /\ Binds K fd ps []
theorem MethAt.goX {P : Program} {w : World} {K : W.Frag} {mg : Str -> Option Value} {base : Heap} {C : Addr} {m qual : Str} {st : Stmt} {N ps : List Str} {k : Nat} {sp : Sp} (D : MethAt K C m qual st ps) (S : FnScope N ps (defScope st)) (len : ∀ vs H Q E, sp vs H Q E -> vs.length = ps.length)
    (hbody : ∀ (f : Addr) (cdv : Value) (A : Around) (outer : List Env) (s : Shared) (H : Hp) (vs : List V) (Q : VK) (E : XK), Room k (A.deeper (envOfC qual (defScope st) s.heap.objs.size f cdv)) -> sp vs H Q E →
      ∃ t, XB (cxOf (CXf P w) P w K mg base N qual (defScope st) f cdv A outer s H E) (defBody st) t /\ t { nx := fun _ H' => Q .non H', rt := Q } (start N vs) H) : MthX P w K mg base (k + 1) C m ps sp := by
  obtain ⟨f, fd, F, hm, hb⟩ := D.ex
  refine ⟨f, fd, D.cl, hm, ?_, hb⟩
  obtain ⟨oc, od, kV, doc, pm, an, cdv, ct, osl, rfl, lk, hcd⟩ := F.ex
  refine fn_of lk hcd S len fun A outer s H vs Q E hr hsp => ?_
  obtain ⟨t, h, q⟩ := hbody f cdv A outer s H vs Q E hr hsp
  exact ⟨t, h.h, q⟩
def mMethX (C : Addr) (m : Str) (sp : Sp) (Ex : St -> Value -> Option Addr -> Hp -> Prop) (ta : TE) (t : TA) : TE := fun σ H Q => ta σ H fun x H1 => mR x fun a => ∃ dx fs, H1 a = some (.ins C dx fs) /\ fs.lookup m = none /\ t σ H1 fun vs H2 => sp (.ref a :: vs) H2 Q (fun cls od H' => Ex σ cls od H')
section
variable {X : Cx} {e o : Expr} {es : List Expr} {m x : Str} {p pos apos : Pos} {ta : TE} {t : TA} {C : Addr} {n : Nat} {ps : List Str} {sp : Sp} {Ex : St -> Value -> Option Addr -> Hp -> Prop}
theorem pe_mmethX {pl : Sem Bool} (he : PE X o ta) (c : MthX X.prog X.w X.K X.mg X.base n C m ps sp) (hr : Room n X.A) (hx : Takes X Ex) (ha : PA X (e :: es) t) (hs : notStar e = true) (hpl : (backTo pos (starEach es X.env)).any (·.1) = false)
    (ht : eval (.Call (.Attribute o m apos) (e :: es) [] pos) X.env = (do
      let ov ← eval o X.env
      standAt apos.atName
      let (f, first) ← holding [ov] (getMethod ov m pl)
      callWith pos f first (backTo pos (starEach (e :: es) X.env)) (backToKw pos (keywordEach [] X.env)))) :
    PE X (.Call (.Attribute o m apos) (e :: es) [] pos) (mMethX C m sp Ex ta t) := by
  obtain ⟨f, fd, cl, hm, F, hb⟩ := c.ex
  intro pins s σ H Q I h; refine W.methodCall_KW (pl := pl) (thn (he pins s σ H _ I h) fun u s1 ⟨x, H1, I1, rx, q1⟩ => ?_) ht
  dsimp only at q1
  rw [mR_eq] at q1; obtain ⟨a, rfl, dx, fs, ea, l, q⟩ := q1
  obtain rfl : u = Value.ref a := rx
  refine getmeth_ok I1 ea cl hm l ?_
  refine W.callWith_K (first := [.ref a]) (h₀ := X.base) I.ok.mod.kin hm.kp (thn (ha pos pins s1 σ H1 _ I1 q) fun us s2 ⟨vs, H2, I2, r, q2⟩ => ⟨I2.kIn, ?_⟩) (star_cons hs) hpl
  have r2 : Vals (V.ref a :: vs) (Value.ref a :: us) := .cons rfl r
  have hl : (Value.ref a :: us).length = ps.length := by rw [<- r2.length]; exact F.len _ _ _ _ q2
  have hb' := hb s2 (Value.ref a :: us) I2.kIn (by rw [List.append_nil]; exact hl)
  rw [List.append_nil] at hb'; refine wpAny_call (codeAny_mono (F.run X.A X.stack s2 H2 ⟨Value.ref a :: us, []⟩ (Value.ref a :: us) (V.ref a :: vs) Q _ hr I2.env0 hb' r2 q2) fun rs s' hq => ?_)
  cases rs with
  | error e' => exact hx pins σ H2 s2 e' s' I2 hq
  | ok fl =>
    cases fl with
    | ret u => exact I2.after hq
    | next => exact False.elim hq
    | brk => exact False.elim hq
    | cont => exact False.elim hq
def rCountB : V -> List V -> Hp -> VK -> Prop := fun x vs H Q => match x, vs with
  | .ref l, [.bl b] => ∃ bs : List Bool, H l = some (.lst (bs.map V.bl)) /\ Q (.int (bs.count b : Nat)) H
  | _, _ => False
def rIndexB : V -> List V -> Hp -> VK -> Prop := fun x vs H Q => match x, vs with
  | .ref l, [.bl b] => ∃ (bs : List Bool) (j : Nat), H l = some (.lst (bs.map V.bl)) /\ bs[j]? = some b /\ (∀ m, m < j -> bs[m]? ≠ some b) /\ Q (.int j) H
  | _, _ => False
theorem vals_bools : ∀ {bs : List Bool} {us : List Value}, Vals (bs.map V.bl) us -> us = bs.map Value.bool
  | [], [], _ => rfl
  | b :: bs, u :: us, .cons r rs => by
    cases r
    rw [vals_bools rs]; rfl
theorem eqU_bool (b c : Bool) : eqU (.bl b) (.bool c) = (c == b) := by cases b <;> cases c <;> rfl
theorem mt_countB : MtR X "list.count" rCountB := by
  intro pins s σ H x vs v us Q I rx rv h; unfold rCountB at h; split at h
  . rename_i l b
    obtain ⟨bs, hl, q⟩ := h
    cases rx
    obtain ⟨u, rfl, rfl⟩ := rv.one
    obtain ⟨its, n, r, ho, hsz⟩ := I.lst hl
    obtain rfl := vals_bools r
    have fl : (bs.map V.bl).all flatV = true := by simp [flatV]
    have hc : ((bs.map Value.bool).toArray.toList.countP (eqU (.bl b))) = bs.count b := by
      show ((bs.map Value.bool).countP (eqU (.bl b))) = bs.count b
      rw [List.countP_map]; unfold List.count; have : (eqU (.bl b) ∘ Value.bool) = (· == b) := by
        funext c
        exact eqU_bool b c
      rw [this]
    refine call_meets PySem.F.slot_list_count ⟨_, ho, rfl⟩ PySem.F.entry_list_count (PySem.F.args_list_count_2 _ _)
      (SeqAt.list_countAt l (bs.map Value.bool).toArray n none #[] (.bool b) (eqU (.bl b))) ⟨ho, fun y hy => mem_eqAt (x := .bl b) (show RelV (V.bl b) (Value.bool b) from rfl) rfl r fl y (by simpa using hy), ?_⟩
    rw [hc]; exact ⟨.int (bs.count b : Nat), H, I.tok _, ⟨_, rfl⟩, q⟩
  . exact h.elim
theorem mt_indexB : MtR X "list.index" rIndexB := by
  intro pins s σ H x vs v us Q I rx rv h; unfold rIndexB at h; split at h
  . rename_i l b
    obtain ⟨bs, j, hl, hj, hno, q⟩ := h
    cases rx
    obtain ⟨u, rfl, rfl⟩ := rv.one
    obtain ⟨its, n, r, ho, hsz⟩ := I.lst hl
    obtain rfl := vals_bools r
    have fl : (bs.map V.bl).all flatV = true := by simp [flatV]
    have hjl : j < bs.length := (Zgs.mp hj).1
    have ats : ∀ (m : Nat) (hm : m < (bs.map Value.bool).length), eqU (.bl b) (bs.map Value.bool)[m] = decide (bs[m]? = some b) := fun m hm => by
      have hm' : m < bs.length := by simpa using hm
      rw [List.getElem_map, eqU_bool, Zge hm']; generalize bs[m] = c; cases c <;> cases b <;> rfl
    refine call_meets PySem.F.slot_list_index ⟨_, ho, rfl⟩ PySem.F.entry_list_index (PySem.F.args_list_index_2 _ _)
      (SeqAt.list_indexAt l (bs.map Value.bool).toArray n none #[] (.bool b) (eqU (.bl b)) j (by simp; omega) (by rw [sizeLine_eq, Zlm] at hsz; omega) ?_ ?_) ⟨ho, fun y hy => mem_eqAt (x := .bl b) (show RelV (V.bl b) (Value.bool b) from rfl) rfl r fl y (by simpa using hy), ⟨.int j, H, I.tok _, ⟨_, rfl⟩, q⟩⟩
    . have := ats j (by simpa using hjl)
      simp only [List.getElem_toArray]
      rw [this]; exact decide_eq_true hj
    . intro m hm hlt; have hm' : m < (bs.map Value.bool).length := by simpa using hm
      have := ats m hm'
      simp only [List.getElem_toArray]
      rw [this]; exact decide_eq_false (hno m hlt)
  . exact h.elim
namespace R
theorem fnH (c : CalleeH X.prog X.w X.K X.mg X.base n x ps sp) (hr : RoomH n X.A) (hg : Gl X x) (ha : XA X (e :: es) t) (hs : notStar e = true := by rfl) (h2 : es.all notStar = true := by rfl) (hdb : (x == ("__debug__" : Str)) = false := by decide) :
    XE X (.Call (.Name x p) (e :: es) [] pos) (tFn sp t) := ⟨pe_fnH c hr hg ha.h hs h2 hdb⟩
theorem methX {pl : Sem Bool} (c : MthX X.prog X.w X.K X.mg X.base n C m ps sp) (hr : Room n X.A) (hx : Takes X Ex) (he : XE X o ta) (ha : XA X (e :: es) t) (hs : notStar e = true := by rfl) (h2 : es.all notStar = true := by rfl)
    (ht : eval (.Call (.Attribute o m apos) (e :: es) [] pos) X.env = (do
      let ov ← eval o X.env
      standAt apos.atName
      let (f, first) ← holding [ov] (getMethod ov m pl)
      callWith pos f first (backTo pos (starEach (e :: es) X.env)) (backToKw pos (keywordEach [] X.env))) := by rfl) : XE X (.Call (.Attribute o m apos) (e :: es) [] pos) (mMethX C m sp Ex ta t) := ⟨pe_mmethX he.h c hr hx ha.h hs (star_any h2) ht⟩
theorem makeD {dvs : List V} (c : Mkr X.prog X.w X.K X.mg X.base n x C ps dvs sp) (hr : Room (n + 1) X.A) (hg : Gl X x) (ha : XA X (e :: es) t) (hdb : (x == ("__debug__" : Str)) = false := by decide) (hs : notStar e = true := by rfl) (h2 : es.all notStar = true := by rfl) :
    XE X (.Call (.Name x p) (e :: es) [] pos) (tMake C sp dvs E0 t) := by
  obtain ⟨f, fd, ds, hm, M, F, hb, hd⟩ := c.ex
  exact ⟨pe_make M F hr hg hm hb hd pass0 ha.h hdb (star_cons hs) (star_any h2)⟩
theorem countB : XM X "list.count" rCountB := ⟨mt_countB⟩
theorem indexB : XM X "list.index" rIndexB := ⟨mt_indexB⟩
end R
end
end L2
namespace L2
open PySem PySem.Spec PyProof.Rows
section
variable {P : Program} {w : World} {K : W.Frag} {mg : Str -> Option Value} {base : Heap} {N : List Str} {qual : Str} {scope : Scope} {f : Addr} {cd : Value} {A : Around} {outer : List Env} {s : Shared} {H : Hp} {E : XK}
theorem takes_pass (hf : (envOfC qual scope s.heap.objs.size f cd).frame = some (envOfC qual scope s.heap.objs.size f cd).locals := by rfl) :
    Takes (cxOf (CXf P w) P w K mg base N qual scope f cd A outer s H E) (fun _ cls od H' => E cls od H') := by
  intro pins σ H0 s0 e s' I0 h; obtain ⟨a, cls, od, H', rfl, F, hE⟩ := h
  show wpAny (model P w) (A.deeper (envOfC qual scope s.heap.objs.size f cd)) (leaving (envOfC qual scope s.heap.objs.size f cd) (.ref a)) (fun _ s'' => CXf P w outer H s E (.ref a) s'') (fun e' s'' => CXf P w outer H s E e' s'') s'
  unfold leaving; refine wpAny_bind (fly_note I0 F I0.ok.frames rfl hf fun s2 F2 => ?_)
  refine fly_land I0 F2 fun s3 F3 => ?_
  have I3 := F3.inv I0
  have und : Un (frs outer) [] H H0 s.heap s0.heap := I0.base
  have low : ∀ {c : Addr}, s0.heap.get? c = none -> s.heap.get? c = none := fun {c} hc => by
    cases z : s.heap.get? c with
    | none => rfl
    | some ob =>
      obtain ⟨o', y⟩ := und.there c ob z (by simp)
      rw [hc] at y; cases y
  obtain ⟨T, tr, nT, hT⟩ := F3.tr
  exact ⟨a, cls, od, H', rfl, ⟨low F3.na, I3.os, I3.bare, I3.base, F3.hok, F3.ha, ⟨T, tr, low nT, hT⟩, F3.dd⟩, hE⟩
theorem passes_cx : PassesOwn (model P w) (cxOf (CXf P w) P w K mg base N qual scope f cd A outer s H E).A (cxOf (CXf P w) P w K mg base N qual scope f cd A outer s H E).env (cxOf (CXf P w) P w K mg base N qual scope f cd A outer s H E).xe := by
  unfold cxOf; dsimp only; passes_own
end
end L2
namespace L2
open PySem PySem.Spec PyProof.Rows
theorem takes_none {X : Cx} : Takes X (fun _ _ _ _ => False) := fun pins σ H s e s' I h => by
  obtain ⟨a, cls, od, H', rfl, F, hE⟩ := h
  exact hE.elim
end L2
namespace L2
open PySem PySem.Spec PyProof.Rows
section
variable {X : Cx}
def rUpper : V -> List V -> Hp -> VK -> Prop := fun x vs H Q => ∃ z : Str, x = .str z /\ vs = [] /\ PySem.Builtin.Str.tooLong (Txt.upper z).length = false /\ Q (.str (Txt.upper z)) H
theorem mt_upper : MtR X "str.upper" rUpper := by
  intro pins s σ H x vs v us Q I rx rv h; obtain ⟨z, rfl, rfl, hf, q⟩ := h
  obtain ⟨t, rfl⟩ := rx
  cases rv
  exact call_gives F.slot_str_upper (typeIs_str _ _ _) F.entry_str_upper (F.args_str_upper_1 _) (gives_str_upper z t hf) ⟨fit_le hf, ⟨.str _, H, I.tok _, ⟨_, rfl⟩, q⟩⟩
theorem R.upper : XM X "str.upper" rUpper := ⟨mt_upper⟩
end
end L2
namespace L2
open PySem PySem.Spec PyProof.Rows
theorem partsV_same {H H' : Hp} {x : V} (s : Same H H') (h : Pc H x) : partsV H' x = partsV H x := by
  rcases h with ⟨h, _⟩ | ⟨a, ys, rfl, h | h⟩ | ⟨a, kvs, rfl, h⟩
  . cases x <;> first | rfl | cases h
  . unfold partsV; dsimp only; rw [h, s _ _ h]
  . unfold partsV; dsimp only; rw [h, s _ _ h]
  . unfold partsV; dsimp only; rw [h, s _ _ h]
theorem deedV_same {H H' : Hp} {x : V} (s : Same H H') (h : Pc H x) : deedV H' x = deedV H x := by
  rcases h with ⟨h, _⟩ | ⟨a, ys, rfl, h | h⟩ | ⟨a, kvs, rfl, h⟩
  . cases x <;> first | rfl | cases h
  . unfold deedV; dsimp only; rw [h, s _ _ h]
  . unfold deedV; dsimp only; rw [h, s _ _ h]
  . unfold deedV; dsimp only; rw [h, s _ _ h]
theorem Tg.th {H : Hp} {x : V} (h : Tg H x) : Th H x /\ ∀ a xs, x = .ref a -> H a = some (.tup xs) -> xs.length <= 1000 := ⟨⟨h.1.pt, fun a xs e g y hy => ((h.2 a xs e g).2 y hy).pt⟩, fun a xs e g => (h.2 a xs e g).1⟩
theorem look_mem {α : Type} {z : Str} : ∀ {l : List (Str × α)} {i : α}, l.lookup z = some i -> (z, i) ∈ l
  | [], i, h => by cases h
  | (x, j) :: l, i, h => by
    rw [List.lookup_cons] at h; cases e : z == x with
    | true => rw [e] at h; injection h with h; rw [<- h, eq_of_beq e]; exact Zcs
    | false => rw [e] at h; exact Zmc _ (look_mem h)
theorem isKy.len {z : Str} (h : isKy z) : z.length <= 1000 := Znt h.2.1 (by decide)
theorem kyV_of {z : Str} (h : isKy z) : madeOf (.str z) (LET ++ FIG) 12 = true := by
  rw [madeOf_str, decide_eq_true (by have := h.1; omega), decide_eq_true (by have := h.2.1; omega)]
  have e : (z.cps.toList.all fun c => decide (c ∈ LET ++ FIG)) = true := List.all_eq_true.mpr fun c hc => decide_eq_true (h.2.2 c hc)
  rw [e]; rfl
end L2
namespace L2
open PySem PySem.Spec PyProof.Rows
theorem WS_mem {z : Str} {i : Int} (h : WS.lookup z = some i) : (z = "add" /\ i = 1) ∨ (z = "take" /\ i = 1) ∨ (z = "move" /\ i = 2) ∨ (z = "send" /\ i = 2) ∨ (z = "fetch" /\ i = 2) ∨ (z = "pass" /\ i = 3) := by
  have m := look_mem h
  unfold WS at m; simp only [List.mem_cons, List.not_mem_nil, or_false, Prod.mk.injEq] at m
  exact m
end L2
namespace L2
open PySem PySem.Spec PyProof.Rows
theorem nmV_inv {x : V} (h : nmV x = true) : ∃ z, x = .str z /\ isNm z := by
  unfold nmV at h; cases x with
  | str z =>
    rw [madeOf_str, Bool.and_eq_true, Bool.and_eq_true] at h; obtain ⟨⟨h1, h2⟩, h3⟩ := h
    have h1 := of_decide_eq_true h1
    have h2 := of_decide_eq_true h2
    exact ⟨z, rfl, by omega, by omega, fun c hc => of_decide_eq_true (List.all_eq_true.mp h3 c hc)⟩
  | _ => cases h
theorem numV_inv {lo hi : Int} {x : V} (h : numV lo hi x = true) : ∃ n, x = .int n /\ lo <= n /\ n <= hi := by
  cases x with
  | int n =>
    have h' : (decide (lo <= n) && decide (n <= hi)) = true := h
    rw [Bool.and_eq_true] at h'; exact ⟨n, rfl, of_decide_eq_true h'.1, of_decide_eq_true h'.2⟩
  | _ => cases h
theorem fitsB_inv {x : V} {ns : List V} (h : fitsB x ns = true) : ∃ z i, x = .str z /\ WS.lookup z = some i /\ (ns.length : Int) = i /\ (∀ y ∈ ns, nmV y = true) /\ (inV (.str z) UW = true -> atI ns 0 ≠ atI ns 1) := by
  cases x with
  | str z =>
    unfold fitsB at h; dsimp only at h
    cases hl : WS.lookup z with
    | none => rw [hl] at h; cases h
    | some i =>
      rw [hl] at h; dsimp only at h
      rw [Bool.and_eq_true, Bool.and_eq_true] at h; refine ⟨z, i, rfl, hl, of_decide_eq_true h.1.1, List.all_eq_true.mp h.1.2, fun hu e => ?_⟩
      have h2 := h.2
      rw [hu, decide_eq_true e] at h2; cases h2
  | _ => cases h
theorem deedB_dwn {xs : List V} (h : deedB xs = true) : ∃ wd n as, DWN wd n xs as := by
  unfold deedB at h; rw [Bool.and_eq_true, Bool.and_eq_true] at h; obtain ⟨⟨h3, hf⟩, hn⟩ := h
  have h3 := of_decide_eq_true h3
  obtain ⟨z, i, hx0, hl, hlen, hnm, _⟩ := fitsB_inv hf
  obtain ⟨n, hn', _, _⟩ := numV_inv hn
  have ml := mid_len h3
  match xs, h3 with
  | [x0, x1, x2], _ =>
    have e0 : x0 = .str z := hx0
    have e2 : x2 = .int n := hn'
    obtain ⟨a, e1, na⟩ := nmV_inv (hnm x1 (by show x1 ∈ [x1]; simp))
    subst e0 e1 e2; have hi : i = 1 := by rw [<- hlen, ml]; rfl
    rcases WS_mem hl with ⟨rfl, _⟩ | ⟨rfl, _⟩ | ⟨_, e⟩ | ⟨_, e⟩ | ⟨_, e⟩ | ⟨_, e⟩
    . exact ⟨_, _, _, ⟨⟨a, a, a, _, .add⟩, fun _ h => nomatch h⟩⟩
    . exact ⟨_, _, _, ⟨⟨a, a, a, _, .take⟩, fun _ h => nomatch h⟩⟩
    all_goals (rw [hi] at e; exact absurd e (by decide))
  | [x0, x1, x2, x3], _ =>
    have e0 : x0 = .str z := hx0
    have e3 : x3 = .int n := hn'
    obtain ⟨a, e1, na⟩ := nmV_inv (hnm x1 (by show x1 ∈ [x1, x2]; simp))
    obtain ⟨b, e2, nb⟩ := nmV_inv (hnm x2 (by show x2 ∈ [x1, x2]; simp))
    subst e0 e1 e2 e3; have hi : i = 2 := by rw [<- hlen, ml]; rfl
    rcases WS_mem hl with ⟨_, e⟩ | ⟨_, e⟩ | ⟨rfl, _⟩ | ⟨rfl, _⟩ | ⟨rfl, _⟩ | ⟨_, e⟩
    . rw [hi] at e; exact absurd e (by decide)
    . rw [hi] at e; exact absurd e (by decide)
    . exact ⟨_, _, _, ⟨⟨a, b, a, _, .move⟩, fun _ h => nomatch h⟩⟩
    . exact ⟨_, _, _, ⟨⟨a, a, b, _, .send⟩, Zfm.mpr ⟨na, fun _ h => nomatch h⟩⟩⟩
    . exact ⟨_, _, _, ⟨⟨a, a, b, _, .fetch⟩, Zfm.mpr ⟨na, fun _ h => nomatch h⟩⟩⟩
    . rw [hi] at e; exact absurd e (by decide)
  | [x0, x1, x2, x3, x4], _ =>
    have e0 : x0 = .str z := hx0
    have e4 : x4 = .int n := hn'
    obtain ⟨a, e1, na⟩ := nmV_inv (hnm x1 (by show x1 ∈ [x1, x2, x3]; simp))
    obtain ⟨b, e2, nb⟩ := nmV_inv (hnm x2 (by show x2 ∈ [x1, x2, x3]; simp))
    obtain ⟨c, e3, nc⟩ := nmV_inv (hnm x3 (by show x3 ∈ [x1, x2, x3]; simp))
    subst e0 e1 e2 e3 e4; have hi : i = 3 := by rw [<- hlen, ml]; rfl
    rcases WS_mem hl with ⟨_, e⟩ | ⟨_, e⟩ | ⟨_, e⟩ | ⟨_, e⟩ | ⟨_, e⟩ | ⟨rfl, _⟩
    . rw [hi] at e; exact absurd e (by decide)
    . rw [hi] at e; exact absurd e (by decide)
    . rw [hi] at e; exact absurd e (by decide)
    . rw [hi] at e; exact absurd e (by decide)
    . rw [hi] at e; exact absurd e (by decide)
    . exact ⟨_, _, _, ⟨⟨a, b, c, _, .pass⟩, Zfm.mpr ⟨na, Zfm.mpr ⟨nb, fun _ h => nomatch h⟩⟩⟩⟩
  | _ :: _ :: _ :: _ :: _ :: _ :: r, _ =>
    have := WS_pos hl
    rw [ml] at hlen; simp at hlen
    omega
end L2
namespace L2
open PySem PySem.Spec PyProof.Rows
theorem parts_of {H : Hp} {x : V} {xs : List V} (hp : partsV H x = some xs) : ∃ a, x = .ref a /\ H a = some (.tup xs) := by
  unfold partsV at hp; split at hp
  . rename_i a
    refine ⟨a, rfl, ?_⟩
    split at hp
    . rename_i ys e; rw [e, Option.some.inj hp]
    . cases hp
  . cases hp
theorem deedV_of {H : Hp} {x : V} (h : deedV H x = true) : ∃ a xs wd n as, x = .ref a /\ H a = some (.tup xs) /\ deedB xs = true /\ DWN wd n xs as := by
  unfold deedV at h; split at h
  . rename_i a
    split at h
    . rename_i xs e
      obtain ⟨wd, n, as, hd⟩ := deedB_dwn h
      exact ⟨a, xs, wd, n, as, rfl, e, h, hd⟩
    . cases h
  . cases h
end L2
namespace KL
open PySem L2
def top (i : Nat) : Stmt := PySem.Challenge.pw_oncedoor_k23_what_a_house_refuses.main.body.getD i (.Pass ⟨0, 0, 0, 0⟩)
abbrev s_is_name : Stmt := top 27
abbrev s_is_key : Stmt := top 28
abbrev s_is_whole : Stmt := top 29
abbrev s_is_made_of : Stmt := top 30
abbrev s_is_deed : Stmt := top 34
abbrev s_fits_word : Stmt := top 35
abbrev s_done_changes : Stmt := top 36
abbrev s_House___init__ : Stmt := inClass (top 39) 0
abbrev s_House_ask : Stmt := inClass (top 39) 1
abbrev s_House_try_deed : Stmt := inClass (top 39) 2
abbrev s_House_can_do : Stmt := inClass (top 39) 3
abbrev s_House_undo : Stmt := inClass (top 39) 4
abbrev s_House_close : Stmt := inClass (top 39) 5
abbrev s_House_amount : Stmt := inClass (top 39) 7
abbrev s_House_rows : Stmt := inClass (top 39) 8
abbrev s_House_kept : Stmt := inClass (top 39) 9
abbrev s_check_key : Stmt := top 40
abbrev s_law_pen : Stmt := top 42
abbrev s_law_take : Stmt := top 43
abbrev s_law_names : Stmt := top 44
abbrev s_law_keys : Stmt := top 45
abbrev s_law_same : Stmt := top 46
abbrev s_law_mark : Stmt := top 47
abbrev s_law_said : Stmt := top 48
abbrev s_law_is_word : Stmt := top 49
abbrev s_law_is_key : Stmt := top 50
abbrev s_law_is_plain : Stmt := top 51
abbrev s_law_key : Stmt := top 52
abbrev s_law_deed : Stmt := top 53
abbrev s_law_undone : Stmt := top 54
abbrev s_law_due : Stmt := top 55
abbrev s_law_step : Stmt := top 56
abbrev s_law : Stmt := top 57
theorem Zsc {N P : List Str} {sc : Scope} (a : sc.kind = .function := by rfl) (b : sc.isCoroutine = false := by rfl) (c : sc.isGenerator = false := by rfl) (d : N.Nodup := by decide +kernel) (e : N.take P.length = P := by rfl) (f : ∀ x ∈ P, sc.names.lookup x = some .local ∨ sc.names.lookup x = some .cell := by decide +kernel) (g : ∀ y ∈ sc.names, y.2 ≠ .free := by decide +kernel) : FnScope N P sc := ⟨a, b, c, d, e, f, g⟩
theorem sc_is_name : FnScope ["thing"] ["thing"] (defScope s_is_name) := Zsc
theorem sc_is_key : FnScope ["thing"] ["thing"] (defScope s_is_key) := Zsc
theorem sc_is_whole : FnScope ["thing", "least", "most"] ["thing", "least", "most"] (defScope s_is_whole) := Zsc
theorem sc_is_made_of : FnScope ["thing", "signs", "longest"] ["thing", "signs", "longest"] (defScope s_is_made_of) := Zsc
theorem sc_is_deed : FnScope ["thing"] ["thing"] (defScope s_is_deed) := Zsc
theorem sc_fits_word : FnScope ["word", "names"] ["word", "names"] (defScope s_fits_word) := Zsc
theorem sc_done_changes : FnScope ["deed"] ["deed"] (defScope s_done_changes) := Zsc
theorem sc_House___init__ : FnScope ["self", "rows", "closed", "name"] ["self", "rows", "closed"] (defScope s_House___init__) := Zsc
theorem sc_House_ask : FnScope ["self", "key", "deed", "entry"] ["self", "key", "deed"] (defScope s_House_ask) := Zsc
theorem sc_House_try_deed : FnScope ["self", "deed", "name", "by"] ["self", "deed"] (defScope s_House_try_deed) := Zsc
theorem sc_House_can_do : FnScope ["self", "deed", "name"] ["self", "deed"] (defScope s_House_can_do) := Zsc
theorem sc_House_undo : FnScope ["self", "key", "entry", "name", "by"] ["self", "key"] (defScope s_House_undo) := Zsc
theorem sc_House_close : FnScope ["self", "name"] ["self", "name"] (defScope s_House_close) := Zsc
theorem sc_House_amount : FnScope ["self", "name"] ["self", "name"] (defScope s_House_amount) := Zsc
theorem sc_House_rows : FnScope ["self"] ["self"] (defScope s_House_rows) := Zsc
theorem sc_House_kept : FnScope ["self"] ["self"] (defScope s_House_kept) := Zsc
theorem sc_check_key : FnScope ["thing"] ["thing"] (defScope s_check_key) := Zsc
theorem sc_law_pen : FnScope ["_law_cell", "_law_k"] ["_law_cell", "_law_k"] (defScope s_law_pen) := Zsc
theorem sc_law_take : FnScope ["_law_pen_here", "_law_most", "_law_found", "_law_turn", "_law_mixed"] ["_law_pen_here", "_law_most"] (defScope s_law_take) := Zsc
theorem sc_law_names : FnScope ["_law_pen_here", "_law_many", "_law_letters", "_law_size", "_law_at", "_law_step_here", "_law_base", "_law_names_here", "_law_k", "_law_long", "_law_signs"] ["_law_pen_here", "_law_many"] (defScope s_law_names) := Zsc
theorem sc_law_keys : FnScope ["_law_pen_here", "_law_many", "_law_signs", "_law_size", "_law_at", "_law_step_here", "_law_base", "_law_rows", "_law_k", "_law_row"] ["_law_pen_here", "_law_many"] (defScope s_law_keys) := Zsc
theorem sc_law_same : FnScope ["_law_found", "_law_due_here"] ["_law_found", "_law_due_here"] (defScope s_law_same) := Zsc
theorem sc_law_mark : FnScope ["_law_error", "_law_marks"] ["_law_error"] (defScope s_law_mark) := Zsc
theorem sc_law_said : FnScope ["_law_house", "_law_key_here", "_law_deed_here", "_law_found", "e"] ["_law_house", "_law_key_here", "_law_deed_here"] (defScope s_law_said) := Zsc
theorem sc_law_is_word : FnScope ["_law_thing", "_law_signs", "_law_most"] ["_law_thing", "_law_signs", "_law_most"] (defScope s_law_is_word) := Zsc
theorem sc_law_is_key : FnScope ["_law_thing"] ["_law_thing"] (defScope s_law_is_key) := Zsc
theorem sc_law_is_plain : FnScope ["_law_thing"] ["_law_thing"] (defScope s_law_is_plain) := Zsc
theorem sc_law_key : FnScope ["_law_pen_here", "_law_keys_here", "_law_key_here", "_law_some"] ["_law_pen_here", "_law_keys_here"] (defScope s_law_key) := Zsc
theorem sc_law_deed : FnScope ["_law_pen_here", "_law_names_here", "_law_firsts", "_law_name", "_law_n", "_law_deed_here", "_law_some"] ["_law_pen_here", "_law_names_here", "_law_firsts"] (defScope s_law_deed) := Zsc
theorem sc_law_undone : FnScope ["_law_house", "_law_key_here", "_law_found", "e"] ["_law_house", "_law_key_here"] (defScope s_law_undone) := Zsc
theorem sc_law_due : FnScope ["_law_key_here", "_law_deed_here", "_law_asked"] ["_law_key_here", "_law_deed_here", "_law_asked"] (defScope s_law_due) := Zsc
theorem sc_law_step : FnScope ["_law_house", "_law_key_here", "_law_deed_here", "_law_asked", "_law_undoes", "_law_due_here", "_law_found"] ["_law_house", "_law_key_here", "_law_deed_here", "_law_asked", "_law_undoes"] (defScope s_law_step) := Zsc
theorem sc_law : FnScope ["_law_script", "_law_pen_here", "_law_names_here", "_law_keys_here", "_law_firsts", "_law_house", "_law_asked", "_law_k", "_law_cell", "_law_key_here", "_law_deed_here", "_law_undoes", "_law_refused", "_law_there"] ["_law_script"] (defScope s_law) := Zsc
structure Txt (K : W.Frag) (mg : Str -> Option Value) : Prop where
  b_isinstance : mg "isinstance" = none
  b_int : mg "int" = none
  b_bool : mg "bool" = none
  b_all : mg "all" = none
  b_str : mg "str" = none
  b_len : mg "len" = none
  b_tuple : mg "tuple" = none
  b_zip : mg "zip" = none
  b_dict : mg "dict" = none
  b_sorted : mg "sorted" = none
  b_sum : mg "sum" = none
  b_list : mg "list" = none
  b_reversed : mg "reversed" = none
  b_range : mg "range" = none
  b_min : mg "min" = none
  b_max : mg "max" = none
  b_enumerate : mg "enumerate" = none
  b_ValueError : mg "ValueError" = none
  g_LETTERS : ∃ t, mg "LETTERS" = some (.str ("abcdefghijklmnopqrstuvwxyz") t)
  g_FIGURES : ∃ t, mg "FIGURES" = some (.str ("0123456789") t)
  g_LONGEST_NAME : ∃ t, mg "LONGEST_NAME" = some (.int (8) t)
  g_LONGEST_KEY : ∃ t, mg "LONGEST_KEY" = some (.int (12) t)
  g_MOST : ∃ t, mg "MOST" = some (.int (1000000000000) t)
structure Top (Pm : Params) (K : W.Frag) (mg : Str -> Option Value) : Prop where
  g_NAME_COUNTS : ∃ a, mg "NAME_COUNTS" = some (.ref a) /\ KTab K Pm a (WS)
  g_UNLIKE_WORDS : ∃ a, mg "UNLIKE_WORDS" = some (.ref a) /\ ∀ H, SqT K H a (UW)
  g_HOUSE_WORDS : ∃ a, mg "HOUSE_WORDS" = some (.ref a) /\ ∀ H, SqT K H a ([V.str "add", .str "take"])
section
variable {P : Program} {w : World} {K : W.Frag} {mg : Str -> Option Value} {base : Heap}
theorem pair_get {H : Hp} {zs : List Z} (h : ZAt H zs) {i : Nat} {x : V} (hx : (zref zs)[i]? = some x) : ∃ z, zs[i]? = some z /\ x = .ref z.1 /\ H z.1 = some (.tup [.str z.2.1, .int z.2.2]) := by
  unfold zref at hx; rw [Zgm] at hx; cases hn : zs[i]? with
  | none => rw [hn] at hx; cases hx
  | some z =>
    rw [hn] at hx; cases hx
    exact ⟨z, rfl, rfl, h z (Zmg hn)⟩
theorem ok_made (T : Txt K mg) (D : DefAt K mg "is_made_of" s_is_made_of ["thing", "signs", "longest"]) : Callee P w K mg base 1 "is_made_of" ["thing", "signs", "longest"] spMade := by
  refine D.go sc_is_made_of (fun vs H Q E h => ?_) (fun f cdv A outer s H vs Q E hr h => ?_)
  . obtain ⟨x, sg, n, k, rfl, _⟩ := h; rfl
  . obtain ⟨x, sg, n, k, rfl, hk, hz, q⟩ := h
    refine ⟨_, (R.scons (R.ife (R.tw (R.wor (R.tnot (R.val (R.isi .str (R.v 0) rfl T.b_isinstance rfl T.b_str bb_str))) (R.wor1 (R.tnot (R.tchain R.le R.le R.int (R.callB R.lenS rfl T.b_len bb_len (R.cons (R.v 0) R.nil)) (R.v 2)))))) (R.sone (R.ret R.bl)) R.snil) (R.sone (R.ret (R.callB (R.kall (K := K) rfl) rfl T.b_all bb_all (R.cons (R.comp rfl (js := [none, some 1]) (N := ["sign", "signs"]) (CompScope.by (defScope s_is_made_of) ["thing", "signs", "longest"] rfl rfl (by decide +kernel)) (gown_name rfl) (R.wS (R.v 0)) (fun C s₂ H₂ fp => ⟨(R.gn (i := 0) (show (["sign", "signs"] : List Str).Nodup by decide +kernel)), R.ts0, (R.cmp R.inS (R.v 0) (R.v 1))⟩)) R.nil))))), ?_⟩
    have no : isK .str k = false -> madeOf x sg.cps.toList n = false := fun e => by
      cases x <;> first | rfl | (cases k <;> first | exact hk.elim | cases e)
    refine ⟨k, hk, ?_⟩
    cases x with
    | str z =>
      cases k <;> first | exact hk.elim | skip
      have hz1 := hz z rfl
      refine ⟨szl' hz1, ?_⟩
      refine if_b (fun h1 => ?_) (fun h1 => ?_)
      . refine if_b (fun h2 => ?_) (fun h2 => ?_)
        . have e : madeOf (.str z) sg.cps.toList n = false := by
            rw [madeOf_str]; have h2' : decide ((z.length : Int) <= n) = false := by simpa using h2
            rw [h2']; simp
          have h := q H (Same.refl H)
          rw [e] at h; exact h
        . refine ⟨z, rfl, comp_pure (seq_str z) (by simp [signs, Str.length] at hz1 ⊢; omega) (fun _ => true) (fun v => match v with | .str y => .bl (decide (y.cps.toList.headD 0 ∈ sg.cps.toList)) | _ => .non) trivial (fun v ys N hv ht hf => ?_) ?_⟩
          . obtain ⟨c, hc, rfl⟩ := Zmm.mp hv
            exact ⟨c, rfl, ht rfl⟩
          . intro p hp; refine ⟨p, z.cps.toList.map (fun c => decide (c ∈ sg.cps.toList)), rfl, SqL.of (by rw [upd_same, List.filter_eq_self.mpr (fun _ _ => rfl)]; unfold signs; rw [List.map_map, List.map_map]; rfl), ?_⟩
            have e : madeOf (.str z) sg.cps.toList n = List.all (z.cps.toList.map (fun c => decide (c ∈ sg.cps.toList))) id := by
              rw [madeOf_str]; have h2' : decide ((z.length : Int) <= n) = true := by simpa using h2
              have h1' : decide (1 <= (z.length : Int)) = true := h1
              rw [h2', h1', List.all_map]; simp [Function.comp_def]
            rw [<- e]; exact q _ (fun c o e => by rw [upd_ne (ne_of_none e hp)]; exact e)
      . have e : madeOf (.str z) sg.cps.toList n = false := by
          rw [madeOf_str]; have h1' : decide (1 <= (z.length : Int)) = false := h1
          rw [h1']; simp
        have h := q H (Same.refl H)
        rw [e] at h; exact h
    | _ =>
      cases k <;> first | exact hk.elim | exact q H (Same.refl H)
theorem ok_is_name (T : Txt K mg) (c_is_made_of : Callee P w K mg base 1 "is_made_of" ["thing", "signs", "longest"] spMade) (D : DefAt K mg "is_name" s_is_name ["thing"]) : Callee P w K mg base 2 "is_name" ["thing"] (spTell LET 8) := by
  refine D.go sc_is_name (fun vs H Q E h => ?_) (fun f cdv A outer s H vs Q E hr h => ?_)
  . obtain ⟨x, k, rfl, _⟩ := h; rfl
  . obtain ⟨x, k, rfl, hk, hz, q⟩ := h
    have hr_is_made_of := hr
    refine ⟨_, (R.sone (R.ret (R.fn c_is_made_of hr_is_made_of rfl (R.cons (R.v 0) (R.cons (R.gS rfl T.g_LETTERS) (R.cons (R.gI rfl T.g_LONGEST_NAME) R.nil)))))), ?_⟩
    refine ⟨x, _, 8, k, rfl, hk, hz, fun H' s' => ?_⟩
    rw [let_eq]; exact q H' s'
theorem ok_is_key (T : Txt K mg) (c_is_made_of : Callee P w K mg base 1 "is_made_of" ["thing", "signs", "longest"] spMade) (D : DefAt K mg "is_key" s_is_key ["thing"]) : Callee P w K mg base 2 "is_key" ["thing"] (spTell (LET ++ FIG) 12) := by
  refine D.go sc_is_key (fun vs H Q E h => ?_) (fun f cdv A outer s H vs Q E hr h => ?_)
  . obtain ⟨x, k, rfl, _⟩ := h; rfl
  . obtain ⟨x, k, rfl, hk, hz, q⟩ := h
    have hr_is_made_of := hr
    refine ⟨_, (R.sone (R.ret (R.fn c_is_made_of hr_is_made_of rfl (R.cons (R.v 0) (R.cons (R.op R.addS (R.gS rfl T.g_LETTERS) (R.gS rfl T.g_FIGURES)) (R.cons (R.gI rfl T.g_LONGEST_KEY) R.nil)))))), ?_⟩
    refine ⟨by decide +kernel, x, _, 12, k, rfl, hk, hz, fun H' s' => ?_⟩
    rw [app_cps, let_eq, fig_eq]; exact q H' s'
theorem ok_whole (T : Txt K mg) (D : DefAt K mg "is_whole" s_is_whole ["thing", "least", "most"]) : Callee P w K mg base 1 "is_whole" ["thing", "least", "most"] spWhole := by
  refine D.go sc_is_whole (fun vs H Q E h => ?_) (fun f cdv A outer s H vs Q E hr h => ?_)
  . obtain ⟨x, lo, hi, rfl, _⟩ := h; rfl
  . obtain ⟨x, lo, hi, rfl, ⟨k, hk, hz⟩, q⟩ := h
    refine ⟨_, (R.scons (R.ife (R.tw (R.wor (R.tnot (R.val (R.isi .int (R.v 0) rfl T.b_isinstance rfl T.b_int bb_int))) (R.wor1 (R.val (R.isi .bl (R.v 0) rfl T.b_isinstance rfl T.b_bool bb_bool))))) (R.sone (R.ret R.bl)) R.snil) (R.sone (R.ret (R.chain R.le R.le (R.v 1) (R.v 0) (R.v 2))))), ?_⟩
    have h := q H (Same.refl H)
    refine ⟨k, hk, ?_⟩
    cases x with
    | int n =>
      cases k <;> first | exact hk.elim | skip
      refine ⟨.int, trivial, ?_⟩
      show if decide (lo <= n) = true then _ else _
      have e : numV lo hi (.int n) = (decide (lo <= n) && decide (n <= hi)) := rfl
      refine if_b (fun h1 => ?_) (fun h1 => ?_)
      . rw [e, h1, Bool.true_and] at h; exact h
      . rw [e, h1, Bool.false_and] at h; exact h
    | bl b =>
      cases k <;> first | exact hk.elim | skip
      exact ⟨.bl, trivial, h⟩
    | _ => cases k <;> first | exact hk.elim | exact h
theorem ok_fits (T : Txt K mg) (U : Top w.params K mg) (c_is_name : Callee P w K mg base 2 "is_name" ["thing"] (spTell LET 8)) (D : DefAt K mg "fits_word" s_fits_word ["word", "names"]) : Callee P w K mg base 3 "fits_word" ["word", "names"] spFits := by
  refine D.go sc_fits_word (fun vs H Q E h => ?_) (fun f cdv A outer s H vs Q E hr h => ?_)
  . obtain ⟨x, a, ns, rfl, _⟩ := h; rfl
  . obtain ⟨x, a, ns, rfl, ⟨k, hk, hz⟩, ha, hns, hp, q⟩ := h
    have hr_is_name := hr
    obtain ⟨aN, m_NAME_COUNTS, tN⟩ := U.g_NAME_COUNTS
    obtain ⟨aU, m_UNLIKE_WORDS, tU⟩ := U.g_UNLIKE_WORDS
    refine ⟨_, (R.scons (R.ife (R.tw (R.wor (R.tnot (R.val (R.isi .str (R.v 0) rfl T.b_isinstance rfl T.b_str bb_str))) (R.wor1 (R.tcmp (R.knotInK (K := K) (P := w.params)) (R.v 0) (R.gR rfl m_NAME_COUNTS))))) (R.sone (R.ret R.bl)) R.snil) (R.scons (R.ife (R.tw (R.wor (R.tcmp R.ne (R.callB (R.klenL (K := K)) rfl T.b_len bb_len (R.cons (R.v 1) R.nil)) (R.ix (R.kiK (K := K) (P := w.params)) (R.gR rfl m_NAME_COUNTS) (R.v 0))) (R.wor1 (R.tnot (R.val (R.callB (R.kall (K := K) rfl) rfl T.b_all bb_all (R.cons (R.comp rfl (js := [none]) (N := ["name"]) (CompScope.by (defScope s_fits_word) ["word", "names"] rfl rfl (by decide +kernel)) (gown_name rfl) (R.kwT (K := K) (R.v 1)) (fun C s₂ H₂ fp => ⟨(R.gn (i := 0) (show (["name"] : List Str).Nodup by decide +kernel)), R.ts0, (R.fn c_is_name hr_is_name rfl (R.cons (R.v 0) R.nil))⟩)) R.nil))))))) (R.sone (R.ret R.bl)) R.snil) (R.sone (R.ret (R.or (R.cmp (R.knotInQ (K := K)) (R.v 0) (R.gR rfl m_UNLIKE_WORDS)) (R.one (R.cmp R.ne (R.ix (R.kiT (K := K)) (R.v 1) R.int) (R.ix (R.kiT (K := K)) (R.v 1) R.int)))))))), ?_⟩
    have h := q H (Same.refl H)
    refine ⟨k, hk, ?_⟩
    cases x with
    | str z =>
      cases k <;> first | exact hk.elim | skip
      refine ⟨WS, tN, ?_⟩
      show if (!(WS.lookup z).isSome) = true then _ else _
      cases e : WS.lookup z with
      | none =>
        have e2 : fitsB (.str z) ns = false := by unfold fitsB; simp only [e]
        rw [e2] at h; exact h
      | some i =>
        have e2 : fitsB (.str z) ns = (decide ((ns.length : Int) = i) && ns.all nmV && (!inV (.str z) UW || !decide (atI ns 0 = atI ns 1))) := by unfold fitsB; simp only [e]
        refine ⟨ns, .inr (SqT.of ha), WS, i, tN, e, ?_⟩
        refine if_b (fun h1 => ?_) (fun h1 => ?_)
        . have h1' : decide ((ns.length : Int) = i) = false := by simpa using h1
          rw [e2, h1'] at h; exact h
        . have h1' : decide ((ns.length : Int) = i) = true := by simpa using h1
          refine ⟨a, rfl, ⟨_, SqT.of ha⟩, ?_⟩
          refine comp_seq (seq_tup K a ns) (by omega) (fun j ys H' => ys = (ns.take j).map (fun y => V.bl (nmV y)) /\ Same H H') (fun j ys H' ⟨e3, s3⟩ => ⟨SqT.of (s3 _ _ ha), by rw [e3, Zlm, Zlk]; omega⟩) ⟨rfl, Same.refl H⟩ (fun j y ys H' hy ⟨e3, s3⟩ => ?_) (fun ys H' ⟨e3, s3⟩ => ?_)
          . obtain ⟨ky, hky, hzy⟩ := (hp y (Zmg hy)).same s3
            refine ⟨y, ky, rfl, hky, hzy, fun H'' s'' => ⟨?_, s3.trans s''⟩⟩
            rw [List.take_add_one, hy, Zap, e3]; rfl
          . intro p hpn; rw [Ztl (Znr _)] at e3; have hs : Same H (upd H' p (.lst ys)) := s3.trans (same_upd hpn)
            refine ⟨p, ns.map nmV, rfl, SqL.of (by rw [upd_same, e3, List.map_map]; rfl), ?_⟩
            have e4 : List.all (ns.map nmV) id = ns.all nmV := by rw [List.all_map]; rfl
            have h5 := q _ hs
            dsimp only; rw [e4]; cases e5 : ns.all nmV with
            | false =>
              rw [e2, h1', e5] at h5; exact h5
            | true =>
              rw [e2, h1', e5] at h5; refine ⟨aU, UW, rfl, .inr (tU _), rfl, rfl, ?_⟩
              show if (!inV (.str z) UW) = true then _ else _
              cases e6 : inV (.str z) UW with
              | false =>
                rw [e6] at h5; exact h5
              | true =>
                rw [e6] at h5; have i2 := WS_uw e e6
                have hl : (ns.length : Int) = i := of_decide_eq_true h1'
                obtain ⟨y0, hy0, m0⟩ := atI_some (xs := ns) (i := 0) (by decide) (by omega)
                obtain ⟨y1, hy1, m1⟩ := atI_some (xs := ns) (i := 1) (by decide) (by omega)
                have n0 := List.all_eq_true.mp e5 y0 m0
                have n1 := List.all_eq_true.mp e5 y1 m1
                refine ⟨ns, SqT.of (hs _ _ ha), y0, hy0, ns, SqT.of (hs _ _ ha), y1, hy1, ?_⟩
                rw [hy0, hy1] at h5; cases y0 <;> first | (unfold nmV madeOf at n0; exact absurd n0 Bool.false_ne_true) | skip
                cases y1 <;> first | (unfold nmV madeOf at n1; exact absurd n1 Bool.false_ne_true) | skip
                rename_i z0 z1
                have e7 : decide (some (V.str z0) = some (V.str z1)) = decide (z0 = z1) := by
                  rw [decide_eq_decide]; constructor
                  . intro e8; injection e8 with e8; injection e8
                  . intro e8; rw [e8]
                rw [e7] at h5; exact h5
    | _ => cases k <;> first | exact hk.elim | exact h
theorem ok_is_deed (T : Txt K mg) (c_fits_word : Callee P w K mg base 3 "fits_word" ["word", "names"] spFits) (c_is_whole : Callee P w K mg base 1 "is_whole" ["thing", "least", "most"] spWhole) (D : DefAt K mg "is_deed" s_is_deed ["thing"]) : Callee P w K mg base 4 "is_deed" ["thing"] spIsDeed := by
  refine D.go sc_is_deed (fun vs H Q E h => ?_) (fun f cdv A outer s H vs Q E hr h => ?_)
  . obtain ⟨x, rfl, _⟩ := h; rfl
  . obtain ⟨x, rfl, ⟨⟨k, hk, hz⟩, hp⟩, hlen, q⟩ := h
    have hr_fits_word := hr
    have hr_is_whole : Room 1 _ := hr.mono (by decide)
    refine ⟨_, (R.scons (R.ife (R.tw (R.wor (R.tnot (R.val (R.isi .tup (R.v 0) rfl T.b_isinstance rfl T.b_tuple bb_tuple))) (R.wor1 (R.tcmp R.lt (R.callB (R.klenL (K := K)) rfl T.b_len bb_len (R.cons (R.v 0) R.nil)) R.int)))) (R.sone (R.ret R.bl)) R.snil) (R.sone (R.ret (R.and (R.fn c_fits_word hr_fits_word rfl (R.cons (R.ix (R.kiT (K := K)) (R.v 0) R.int) (R.cons (R.sl R.sT (R.v 0) (R.ps R.int) (R.ps (R.neg R.int))) R.nil))) (R.one (R.fn c_is_whole hr_is_whole rfl (R.cons (R.ix (R.kiT (K := K)) (R.v 0) (R.neg R.int)) (R.cons R.int (R.cons (R.gI rfl T.g_MOST) R.nil))))))))), ?_⟩
    have h := q H (Same.refl H)
    refine ⟨k, hk, ?_⟩
    cases x with
    | ref a =>
      cases k <;> first | exact hk.elim | skip
      case tup =>
        obtain ⟨xs, hx⟩ := hk
        have hpx := hp a xs rfl hx
        have hlx := hlen a xs rfl hx
        have eV : deedV H (.ref a) = deedB xs := by unfold deedV; simp only [hx]
        refine ⟨xs, .inr (SqT.of hx), ?_⟩
        refine if_b (fun h1 => ?_) (fun h1 => ?_)
        . have h1' : ((xs.length : Int) < 3) := of_decide_eq_true h1
          have e1 : deedB xs = false := by
            unfold deedB; rw [decide_eq_false (by omega)]; rfl
          rw [eV, e1] at h; exact h
        . have h1' : ¬ ((xs.length : Int) < 3) := of_decide_eq_false h1
          have h3 : 3 <= xs.length := by omega
          obtain ⟨y0, hy0, m0⟩ := atI_some (xs := xs) (i := 0) (by decide) (by omega)
          refine ⟨xs, SqT.of hx, y0, hy0, xs, hx, fun p H1 s1 g1 => ?_⟩
          refine ⟨y0, p, _, rfl, (hpx y0 m0).same s1, g1, ?_, fun y hy => (hpx y (mid_mem h3 hy)).same s1, fun H2 s2 => ?_⟩
          . have := mid_len h3
            unfold midV at this; omega
          have e2 : deedB xs = (fitsB y0 (midV xs) && numV 1 1000000000000 ((atI xs (-1)).getD .non)) := by
            unfold deedB; rw [decide_eq_true h3, hy0]; rfl
          have hs := s1.trans s2
          have h5 := q H2 hs
          show if fitsB y0 (midV xs) = true then _ else _
          cases e3 : fitsB y0 (midV xs) with
          | false =>
            rw [eV, e2, e3] at h5; exact h5
          | true =>
            rw [eV, e2, e3] at h5; obtain ⟨yl, hyl, ml⟩ : ∃ v, atI xs (-1) = some v /\ v ∈ xs := by
              have hj : xs.length - 1 < xs.length := by omega
              refine ⟨xs[xs.length - 1], ?_, List.getElem_mem hj⟩
              unfold atI ixN; rw [if_neg (by decide), if_pos (by omega)]
              have : ((-1 : Int) + (xs.length : Int)).toNat = xs.length - 1 := by omega
              simp [this, hj]
            refine ⟨xs, SqT.of (hs _ _ hx), yl, hyl, ?_⟩
            refine ⟨yl, 1, 1000000000000, rfl, (hpx yl ml).same hs, fun H3 s3 => ?_⟩
            have h6 := q H3 (hs.trans s3)
            rw [eV, e2, e3, hyl] at h6; exact h6
      all_goals
        have e1 : deedV H (.ref a) = false := by
          unfold deedV; first
            | (rcases hk with ⟨xs, e⟩ | ⟨o, xs, e⟩ <;> simp only [e])
            | (obtain ⟨kvs, e⟩ := hk; simp only [e])
        rw [e1] at h; exact h
    | _ => cases k <;> first | exact hk.elim | exact h
theorem ok_changes (T : Txt K mg) (D : DefAt K mg "done_changes" s_done_changes ["deed"]) : Callee P w K mg base 1 "done_changes" ["deed"] spChanges := by
  refine D.go sc_done_changes (fun vs H Q E h => ?_) (fun f cdv A outer s H vs Q E hr h => ?_)
  . obtain ⟨p, wd, xs, cs, as, rfl, _⟩ := h; rfl
  . obtain ⟨p, wd, xs, cs, as, rfl, hp, ⟨one, other, nm, n, hd⟩, q⟩ := h
    refine ⟨_, (R.scons (R.ife (R.tcmp R.eq (R.ix (R.kiT (K := K)) (R.v 0) R.int) R.str) (R.sone (R.ret (R.wtup R.nil))) R.snil) (R.scons (R.ife (R.tcmp R.eq (R.ix (R.kiT (K := K)) (R.v 0) R.int) R.str) (R.sone (R.ret (R.wtup (R.cons (R.wtup (R.cons (R.ix (R.kiT (K := K)) (R.v 0) R.int) (R.cons (R.neg (R.ix (R.kiT (K := K)) (R.v 0) (R.neg R.int))) R.nil))) (R.cons (R.wtup (R.cons (R.ix (R.kiT (K := K)) (R.v 0) R.int) (R.cons (R.ix (R.kiT (K := K)) (R.v 0) (R.neg R.int)) R.nil))) R.nil))))) R.snil) (R.scons (R.ife (R.tcmp (R.kinQ (K := K)) (R.ix (R.kiT (K := K)) (R.v 0) R.int) (R.wtup (R.cons R.str (R.cons R.str R.nil)))) (R.sone (R.ret (R.wtup (R.cons (R.wtup (R.cons (R.ix (R.kiT (K := K)) (R.v 0) (R.neg R.int)) (R.cons (R.neg (R.ix (R.kiT (K := K)) (R.v 0) (R.neg R.int))) R.nil))) R.nil)))) R.snil) (R.sone (R.ret (R.wtup (R.cons (R.wtup (R.cons (R.ix (R.kiT (K := K)) (R.v 0) (R.neg R.int)) (R.cons (R.ix (R.kiT (K := K)) (R.v 0) (R.neg R.int)) R.nil))) R.nil))))))), ?_⟩
    have z1 : ∀ {H' : Hp} {a : Addr} {x : Str} {i : Int}, H' a = some (.tup [.str x, .int i]) -> ZAt H' [(a, x, i)] := fun h z hz => by
      rw [Zms.mp hz]; exact h
    have two : ∀ (nm : Str) (i : Int), H p = some (.tup xs) -> atI xs (-2) = some (.str nm) -> atI xs (-1) = some (.int i) -> True := fun _ _ _ _ _ => trivial
    cases hd with
    | add =>
      refine ⟨_, SqT.of hp, _, rfl, ?_⟩
      refine ⟨_, SqT.of hp, _, rfl, ?_⟩
      refine ⟨_, SqT.of hp, _, rfl, by simp, fun p1 H1 s1 g1 => ⟨p1, _, rfl, .inr (SqT.of g1), rfl, rfl, ?_⟩⟩
      refine ⟨_, SqT.of (s1 _ _ hp), _, rfl, _, SqT.of (s1 _ _ hp), _, rfl, by simp, fun p2 H2 s2 g2 => ⟨by simp, fun p3 H3 s3 g3 => q p3 [(p2, nm, n)] H3 ((s1.trans s2).trans s3) g3 (z1 (s3 _ _ g2)) rfl⟩⟩
    | take =>
      refine ⟨_, SqT.of hp, _, rfl, ?_⟩
      refine ⟨_, SqT.of hp, _, rfl, ?_⟩
      refine ⟨_, SqT.of hp, _, rfl, by simp, fun p1 H1 s1 g1 => ⟨p1, _, rfl, .inr (SqT.of g1), rfl, rfl, ?_⟩⟩
      refine ⟨_, SqT.of (s1 _ _ hp), _, rfl, _, SqT.of (s1 _ _ hp), _, rfl, by simp, fun p2 H2 s2 g2 => ⟨by simp, fun p3 H3 s3 g3 => q p3 [(p2, nm, -n)] H3 ((s1.trans s2).trans s3) g3 (z1 (s3 _ _ g2)) rfl⟩⟩
    | move =>
      refine ⟨_, SqT.of hp, _, rfl, ?_⟩
      refine ⟨_, SqT.of hp, _, rfl, ?_⟩
      refine ⟨_, SqT.of hp, _, rfl, _, SqT.of hp, _, rfl, by simp, fun p2 H2 s2 g2 => ⟨_, SqT.of (s2 _ _ hp), _, rfl, _, SqT.of (s2 _ _ hp), _, rfl, by simp, fun p3 H3 s3 g3 => ⟨by simp, fun p4 H4 s4 g4 => ?_⟩⟩⟩
      refine q p4 [(p2, one, -n), (p3, other, n)] H4 ((s2.trans s3).trans s4) g4 (fun z hz => ?_) rfl
      rcases List.mem_cons.mp hz with rfl | hz
      . exact s4 _ _ (s3 _ _ g2)
      . rw [Zms.mp hz]; exact s4 _ _ g3
    | send =>
      refine ⟨_, SqT.of hp, _, rfl, ?_⟩
      refine ⟨_, SqT.of hp, _, rfl, ?_⟩
      refine ⟨_, SqT.of hp, _, rfl, by simp, fun p1 H1 s1 g1 => ⟨p1, _, rfl, .inr (SqT.of g1), rfl, rfl, ?_⟩⟩
      refine ⟨_, SqT.of (s1 _ _ hp), _, rfl, _, SqT.of (s1 _ _ hp), _, rfl, by simp, fun p2 H2 s2 g2 => ⟨by simp, fun p3 H3 s3 g3 => q p3 [(p2, nm, -n)] H3 ((s1.trans s2).trans s3) g3 (z1 (s3 _ _ g2)) rfl⟩⟩
    | fetch =>
      refine ⟨_, SqT.of hp, _, rfl, ?_⟩
      refine ⟨_, SqT.of hp, _, rfl, ?_⟩
      refine ⟨_, SqT.of hp, _, rfl, by simp, fun p1 H1 s1 g1 => ⟨p1, _, rfl, .inr (SqT.of g1), rfl, rfl, ?_⟩⟩
      refine ⟨_, SqT.of (s1 _ _ hp), _, rfl, _, SqT.of (s1 _ _ hp), _, rfl, by simp, fun p2 H2 s2 g2 => ⟨by simp, fun p3 H3 s3 g3 => q p3 [(p2, nm, n)] H3 ((s1.trans s2).trans s3) g3 (z1 (s3 _ _ g2)) rfl⟩⟩
    | pass =>
      refine ⟨_, SqT.of hp, _, rfl, ?_⟩
      exact ⟨by decide, fun p1 H1 s1 g1 => q p1 [] H1 s1 g1 (fun _ h => nomatch h) rfl⟩
theorem ok_pen (T : Txt K mg) (D : DefAt K mg "_law_pen" s_law_pen ["_law_cell", "_law_k"]) : Callee P w K mg base 1 "_law_pen" ["_law_cell", "_law_k"] spPen := by
  refine D.go sc_law_pen (fun vs H Q E h => ?_) (fun f cdv A outer s H vs Q E hr h => ?_)
  . obtain ⟨c, k, rfl, _⟩ := h; rfl
  . obtain ⟨c, k, rfl, q⟩ := h
    refine ⟨_, (R.sone (R.ret (R.lst (R.cons (R.callB (R.max rfl) rfl T.b_max bb_max (R.cons R.int (R.cons (R.op R.sub (R.v 0) (R.op R.pow R.int R.int)) R.nil))) (R.cons (R.op R.mod (R.op R.add (R.op R.add (R.op R.mul (R.op R.mod (R.v 0) R.int) R.int) (R.op R.mul R.int (R.v 1))) R.int) R.int) R.nil))))), ?_⟩
    refine ⟨⟨by decide, by decide, by decide⟩, ?_⟩
    refine ⟨by show (0 : Int) < _; decide, .inr ⟨by decide, by decide⟩, .inl ⟨by decide, by decide⟩, by show (0 : Int) < _; decide, szl rfl, fun p hp => ?_⟩
    refine q p _ hp (same_upd hp) ⟨_, _, upd_same, ?_, Int.emod_nonneg _ (by decide), Int.emod_lt_of_pos _ (by decide)⟩
    split <;> omega
theorem ok_take (T : Txt K mg) (D : DefAt K mg "_law_take" s_law_take ["_law_pen_here", "_law_most"]) : Callee P w K mg base 1 "_law_take" ["_law_pen_here", "_law_most"] spTake := by
  refine D.go sc_law_take (fun vs H Q E h => ?_) (fun f cdv A outer s H vs Q E hr h => ?_)
  . obtain ⟨p, m, rfl, _⟩ := h; rfl
  . obtain ⟨p, m, rfl, ⟨i, j, g, i0, j0, j1⟩, m0, m1, q⟩ := h
    refine ⟨_, (R.scons (R.ife (R.tcmp R.gt (R.ix (R.kiL (K := K)) (R.v 0) R.int) R.int) (R.scons (R.set (i := 2) sc_law_take.nd (R.op R.mod (R.ix (R.kiL (K := K)) (R.v 0) R.int) (R.v 1))) (R.scons (R.asg (R.op R.fdivL (R.ix (R.kiL (K := K)) (R.v 0) R.int) (R.v 1)) (R.gsub (R.v 0) R.int R.setL)) (R.sone (R.ret (R.v 2))))) R.snil) (R.scons (R.set (i := 2) sc_law_take.nd R.int) (R.scons (R.for_ PassesOwn.never rfl (R.range1 rfl T.b_range (R.cons (R.op R.add R.int (R.callTy R.toInt rfl T.b_int bb_int (R.cons (R.cmp R.gt (R.v 1) (R.op R.pow R.int R.int)) R.nil))) R.nil)) (R.gn (i := 3) sc_law_take.nd) (R.scons (R.asg (R.op R.mod (R.op R.add (R.op R.add (R.op R.mul (R.ix (R.kiL (K := K)) (R.v 0) R.int) (R.ix (R.kiL (K := K)) (R.v 0) R.int)) (R.op R.mul R.int (R.ix (R.kiL (K := K)) (R.v 0) R.int))) R.int) R.int) (R.gsub (R.v 0) R.int R.setL)) (R.scons (R.set (i := 4) sc_law_take.nd (R.op R.mod (R.op R.add (R.op R.mul (R.ix (R.kiL (K := K)) (R.v 0) R.int) R.int) R.int) R.int)) (R.sone (R.set (i := 2) sc_law_take.nd (R.op R.add (R.op R.mul (R.v 2) R.int) (R.op R.mod (R.op R.mul (R.v 4) (R.v 4)) R.int))))))) (R.sone (R.ret (R.op R.mod (R.op R.fdivL (R.v 2) R.int) (R.v 1))))))), ?_⟩
    refine ⟨_, SqL.of g, _, rfl, ?_⟩
    refine if_b (fun h => ?_) (fun h => ?_)
    . have hi : 0 < i := of_decide_eq_true h
      refine ⟨_, SqL.of g, _, rfl, m0, _, SqL.of g, _, rfl, ⟨m0, by omega⟩, p, _, _, _, rfl, rfl, g, rfl, ?_⟩
      exact q _ _ (Int.emod_nonneg _ (by omega)) (Int.emod_lt_of_pos _ m0) ⟨_, _, upd_same, Int.ediv_nonneg i0 (by omega), j0, j1⟩ fun c o e n => by rw [upd_ne n]; exact e
    . dsimp only [tNext]; refine ⟨⟨by decide, by decide, by decide⟩, ?_⟩
      refine ⟨_, rfl, by split <;> decide, by split <;> decide, ?_⟩
      refine for_seq (seq_range 0 _) (fun _ σ H' => ∃ (f : Int) (o3 o4 : Option V), σ = [some (.ref p), some (.int m), some (.int f), o3, o4] /\ 0 <= f /\ PenAt H' p /\ K1 p H H') (fun _ _ _ _ => trivial) ⟨0, _, _, rfl, by decide, ⟨i, j, g, i0, j0, j1⟩, fun c o e _ => e⟩ ?_ ?_
      . rintro _ v σ H' hv ⟨f, o3, o4, rfl, f0, ⟨i', j', g', i0', j0', j1'⟩, k'⟩
        dsimp only [gName]; refine ⟨_, SqL.of g', _, rfl, _, SqL.of g', _, rfl, .inl ⟨by omega, by omega⟩, _, SqL.of g', _, rfl, .inl ⟨by decide, by decide⟩, by show (0 : Int) < _; decide, p, _, _, _, rfl, rfl, g', rfl, ?_⟩
        have h0 := Int.emod_nonneg (j' * j' + 48271 * j' + 11) (show (2147483629 : Int) ≠ 0 by decide)
        have h1 := Int.emod_lt_of_pos (j' * j' + 48271 * j' + 11) (show (0 : Int) < 2147483629 by decide)
        refine ⟨_, SqL.of upd_same, _, rfl, .inr ⟨by decide, by decide⟩, by show (0 : Int) < _; decide, ?_⟩
        dsimp only [gName]; generalize hx : ((j' * j' + 48271 * j' + 11) % 2147483629 * 40692 + 5) % 2147483399 = x; have x0 : 0 <= x := by rw [<- hx]; exact Int.emod_nonneg _ (by decide)
        have x1 : x < 2147483399 := by rw [<- hx]; exact Int.emod_lt_of_pos _ (by decide)
        refine ⟨.inr ⟨by decide, by decide⟩, .inl ⟨by omega, by omega⟩, by show (0 : Int) < _; decide, _, _, _, rfl, ?_, ⟨_, _, upd_same, i0', h0, h1⟩, fun c o e n => by rw [upd_ne n]; exact k' c o e n⟩
        have := Int.emod_nonneg (x * x) (show (998244353 : Int) ≠ 0 by decide)
        omega
      . rintro σ H' ⟨f, o3, o4, rfl, f0, pn, k'⟩
        exact ⟨⟨by decide, by decide⟩, m0, q _ _ (Int.emod_nonneg _ (by omega)) (Int.emod_lt_of_pos _ m0) pn k'⟩
theorem ok_names20 (T : Txt K mg) (cLtake : Callee P w K mg base 1 "_law_take" ["_law_pen_here", "_law_most"] spTake) (D : DefAt K mg "_law_names" s_law_names ["_law_pen_here", "_law_many"]) : Callee P w K mg base 2 "_law_names" ["_law_pen_here", "_law_many"] spNames20 := by
  refine D.go sc_law_names (fun vs H Q E h => ?_) (fun f cdv A outer s H vs Q E hr h => ?_)
  . obtain ⟨p, m, rfl, _⟩ := h; rfl
  . obtain ⟨p, m, rfl, pn, hm, q⟩ := h
    have hLtake := hr
    refine ⟨_, (R.scons (R.set (i := 2) sc_law_names.nd R.str) (R.scons (R.ife (R.tcmp R.eq (R.fn cLtake hLtake rfl (R.cons (R.v 0) (R.cons R.int R.nil))) R.int) (R.sone (R.ret (R.sl (R.ksL (K := K)) (R.lst (R.cons R.str (R.cons R.str (R.cons R.str (R.cons R.str (R.cons R.str (R.cons R.str R.nil))))))) R.pn (R.ps (R.v 1))))) R.snil) (R.scons (R.set (i := 3) sc_law_names.nd (R.op R.add R.int (R.fn cLtake hLtake rfl (R.cons (R.v 0) (R.cons R.int R.nil))))) (R.scons (R.set (i := 4) sc_law_names.nd (R.fn cLtake hLtake rfl (R.cons (R.v 0) (R.cons (R.v 3) R.nil)))) (R.scons (R.set (i := 5) sc_law_names.nd (R.ix (R.kiL (K := K)) (R.lst (R.cons R.int (R.cons R.int (R.cons R.int (R.cons R.int (R.cons R.int (R.cons R.int R.nil))))))) (R.fn cLtake hLtake rfl (R.cons (R.v 0) (R.cons R.int R.nil))))) (R.scons (R.scomp (i := 6) sc_law_names.nd rfl (Or.inl rfl) rfl (js := [none, some 0]) (N := ["_law_j", "_law_pen_here"]) (CompScope.by (defScope s_law_names) ["_law_pen_here", "_law_many", "_law_letters", "_law_size", "_law_at", "_law_step_here", "_law_base", "_law_names_here", "_law_k", "_law_long", "_law_signs"] rfl rfl (by decide +kernel)) (gown_name rfl) (R.range1 rfl T.b_range (R.cons (R.v 3) R.nil)) (fun C s₂ H₂ fp => ⟨(R.gn (i := 0) (show (["_law_j", "_law_pen_here"] : List Str).Nodup by decide +kernel)), R.ts0, (R.fn cLtake hLtake rfl (R.cons (R.v 1) (R.cons R.int R.nil)))⟩) rfl) (R.scons (R.set (i := 7) sc_law_names.nd (R.lst R.nil)) (R.scons (R.for_ PassesOwn.never rfl (R.range1 rfl T.b_range (R.cons (R.v 1) R.nil)) (R.gn (i := 8) sc_law_names.nd) (R.scons (R.set (i := 9) sc_law_names.nd (R.op R.add (R.op R.add (R.v 4) R.int) (R.fn cLtake hLtake rfl (R.cons (R.v 0) (R.cons (R.op R.sub (R.v 3) (R.v 4)) R.nil))))) (R.scons (R.set (i := 10) sc_law_names.nd (R.sl (R.ksL (K := K)) (R.v 6) R.pn (R.ps (R.v 9)))) (R.scons (R.asg (R.op R.mod (R.op R.add (R.ix (R.kiL (K := K)) (R.v 6) (R.v 4)) (R.op R.mul (R.v 5) (R.v 8))) R.int) (R.gsub (R.v 10) (R.v 4) R.setL)) (R.sone (R.expr (R.kbm (K := K) PySem.F.plainAttrs_list PySem.F.slot_list_append PySem.F.type_list_append R.append (R.v 7) (R.cons (R.kbm (K := K) PySem.F.plainAttrs_str PySem.F.slot_str_join PySem.F.type_str_join (R.kjoin (K := K)) R.str (R.cons (R.comp rfl (js := [none, some 2]) (N := ["_law_sign", "_law_letters"]) (CompScope.by (defScope s_law_names) ["_law_pen_here", "_law_many", "_law_letters", "_law_size", "_law_at", "_law_step_here", "_law_base", "_law_names_here", "_law_k", "_law_long", "_law_signs"] rfl rfl (by decide +kernel)) (gown_name rfl) (R.kwL (K := K) (R.v 10)) (fun C s₂ H₂ fp => ⟨(R.gn (i := 0) (show (["_law_sign", "_law_letters"] : List Str).Nodup by decide +kernel)), R.ts0, (R.ix R.iS (R.v 1) (R.v 0))⟩)) R.nil)) R.nil)))))))) (R.sone (R.ret (R.v 7))))))))))), ?_⟩
    refine ⟨p, 5, rfl, pn, by decide, by decide, fun r0 H1 a0 a1 p1 k1 => ?_⟩
    refine if_b (fun _ => ?_) (fun _ => ?_)
    . refine ⟨szl rfl, fun l hl => ⟨_, SqL.of upd_same, fun l2 hl2 => ?_⟩⟩
      rw [show ([V.str "add", .str "take", .str "move", .str "send", .str "is", .str "no"] : List V) = (["add", "take", "move", "send", "is", "no"] : List Str).map V.str from rfl, cut_to, <- List.map_take]; have p2 := p1.same (same_upd (o := .lst ((["add", "take", "move", "send", "is", "no"] : List Str).map V.str)) hl)
      have k2 : K1 p H _ := k1.trans (.of (same_upd (o := .lst ((["add", "take", "move", "send", "is", "no"] : List Str).map V.str)) hl))
      refine q l2 ((["add", "take", "move", "send", "is", "no"] : List Str).take m) _ ?_ ?_ ?_ (k2.free p2 hl2) upd_same (p2.same (same_upd hl2)) (k2.trans (.of (same_upd hl2)))
      . rw [Zlk]; show min m 6 = m; omega
      . intro z hz; have : ∀ z ∈ (["add", "take", "move", "send", "is", "no"] : List Str), isNm z := by
          intro z hz; simp only [List.mem_cons, List.not_mem_nil, or_false] at hz
          rcases hz with rfl | rfl | rfl | rfl | rfl | rfl <;> exact ⟨by decide +kernel, by decide +kernel, by decide +kernel⟩
        exact this z (List.mem_of_mem_take hz)
      . exact (show (["add", "take", "move", "send", "is", "no"] : List Str).Nodup by decide +kernel).sublist (List.take_sublist _ _)
    dsimp only [tNext]; refine ⟨p, 8, rfl, p1, by decide, by decide, fun r1 H2 b0 b1 p2 k2 => ?_⟩
    dsimp only [gName]; refine ⟨p, _, rfl, p2, by omega, by omega, fun a' H3 c0 c1 p3 k3 => ?_⟩
    dsimp only [gName]; obtain ⟨a, rfl⟩ := Zio c0
    refine ⟨szl rfl, fun ls hls => ⟨p, 6, rfl, p3.same (same_upd hls), by decide, by decide, fun r2 H4 d0 d1 p4 k4 => ⟨_, SqL.of (k4 _ _ upd_same (p3.ne hls)), ?_⟩⟩⟩
    have hst : ∃ s : Int, atI ([V.int 1, .int 3, .int 5, .int 7, .int 9, .int 11] : List V) r2 = some (.int s) /\ stepOk s := by
      rcases six d0 d1 with rfl | rfl | rfl | rfl | rfl | rfl
      . exact ⟨_, rfl, .inl rfl⟩
      . exact ⟨_, rfl, .inr (.inl rfl)⟩
      . exact ⟨_, rfl, .inr (.inr (.inl rfl))⟩
      . exact ⟨_, rfl, .inr (.inr (.inr (.inl rfl)))⟩
      . exact ⟨_, rfl, .inr (.inr (.inr (.inr (.inl rfl))))⟩
      . exact ⟨_, rfl, .inr (.inr (.inr (.inr (.inr rfl))))⟩
    obtain ⟨st, hst, hok⟩ := hst
    refine ⟨_, hst, ?_⟩
    dsimp only [gName]; have k14 : K1 p H H4 := ((k1.trans k2).trans (k3.trans (.of (same_upd hls)))).trans k4
    refine ⟨1 + r1, rfl, by omega, by omega, ?_⟩
    refine comp_seq (seq_range 0 (1 + r1).toNat) (by simp [rangeV]; omega) (fun i ys H' => ∃ bs : List Int, ys = bs.map V.int /\ bs.length = i /\ (∀ x ∈ bs, 0 <= x /\ x < 26) /\ PenAt H' p /\ K1 p H H') (fun i ys H' ⟨bs, e, e2, _⟩ => ⟨trivial, by rw [e, Zlm, e2]; exact Znr _⟩) ⟨[], rfl, rfl, (fun _ h => nomatch h), p4, k14⟩ (fun i x ys H' hx ⟨bs, e, e2, e3, pi, ki⟩ => ?_) (fun ys H' ⟨bs, e, e2, e3, pi, ki⟩ => ?_)
    . refine ⟨p, 26, rfl, pi, by decide, by decide, fun r H'' f0 f1 pj kj => ⟨bs ++ [r], by rw [e, Zap]; rfl, by rw [Zla, e2]; rfl, fun x hx => ?_, pj, ki.trans kj⟩⟩
      rcases Zma.mp hx with h | h
      . exact e3 x h
      . rw [Zms.mp h]; exact ⟨f0, f1⟩
    intro lb hlb; subst e; have hbl : bs.length = (1 + r1).toNat := by rw [e2]; simp [rangeV]
    have ha : a < bs.length := by omega
    have gb : (upd H' lb (.lst (bs.map V.int))) lb = some (.lst (bs.map V.int)) := upd_same
    have p5 := pi.same (same_upd (o := .lst (bs.map V.int)) hlb)
    have k5 : K1 p H (upd H' lb (.lst (bs.map V.int))) := ki.trans (.of (same_upd hlb))
    generalize upd H' lb (.lst (bs.map V.int)) = H5 at gb p5 k5 ⊢; refine ⟨szl rfl, fun l hl => ?_⟩
    dsimp only [gName]; have nlb : lb ≠ l := ne_of_none gb hl
    have npb : lb ≠ p := pi.ne hlb
    have npl : l ≠ p := p5.ne hl
    have hl0 : H l = none := k5.free p5 hl
    refine ⟨m, rfl, by omega, by omega, ?_⟩
    refine for_seq (seq_range 0 (m : Int).toNat) (fun i σ H' => ∃ (zs : List Str) (o8 o9 o10 : Option V), σ = [some (.ref p), some (.int m), some (.str "abcdefghijklmnopqrstuvwxyz"), some (.int (1 + r1)), some (.int a), some (.int st), some (.ref lb), some (.ref l), o8, o9, o10] /\ zs.length = i /\ (∀ z ∈ zs, isNm z) /\ (∀ (j : Nat) (z : Str), zs[j]? = some z -> z.cps.toList[a]? = some (sgn LET ((bs[a] + st * (j : Int)) % 26))) /\ H' l = some (.lst (zs.map V.str)) /\ H' lb = some (.lst (bs.map V.int)) /\ PenAt H' p /\ K1 p H H')
      (fun _ _ _ _ => trivial) ⟨[], _, _, _, rfl, rfl, (fun _ h => nomatch h), (fun _ _ h => by cases h), upd_same, same_upd hl _ _ gb, p5.same (same_upd hl), k5.trans (.of (same_upd hl))⟩ ?_ ?_
    . rintro i x σ G1 hx ⟨zs, o8, o9, o10, rfl, hzl, hnm, hat, gl, glb, q1, j1⟩
      have hi : i < m := by
        have := (Zgs.mp hx).1
        simp [rangeV] at this
        omega
      have ex : x = .int (i : Int) := by
        unfold rangeV at hx; rw [Zgm, List.getElem?_range (by omega)] at hx
        have := Option.some.inj hx
        rw [<- this]; show V.int (0 + (i : Int)) = _
        rw [Int.zero_add]
      subst ex; dsimp only [gName]; refine ⟨p, _, rfl, q1, by omega, by omega, fun t' G2 t0 t1 q2 j2 => ?_⟩
      dsimp only [gName]; obtain ⟨t, rfl⟩ := Zio t0
      have glb2 := j2 _ _ glb npb
      have gl2 := j2 _ _ gl npl
      refine ⟨_, SqL.of glb2, fun lg hlg => ?_⟩
      have ec : cut (bs.map V.int) none (some ((a : Int) + 1 + t)) = (bs.take (a + 1 + t)).map V.int := by
        rw [show ((a : Int) + 1 + t) = ((a + 1 + t : Nat) : Int) by omega, cut_to, List.map_take]
      rw [ec]; dsimp only [gName]; have htl : (bs.take (a + 1 + t)).length = a + 1 + t := by rw [Zlk]; omega
      refine ⟨_, SqL.of (same_upd hlg _ _ glb2), .int bs[a], atI_nat (by rw [Zgm, Zge ha]; rfl), .inl (by rcases hok with rfl | rfl | rfl | rfl | rfl | rfl <;> exact ⟨by decide, by decide⟩), by show (0 : Int) < _; decide, lg, _, _, a, rfl, rfl, upd_same, ?_, ?_⟩
      . unfold ixN; rw [Zlm, htl, if_pos (by omega), if_pos (by omega)]
        rfl
      dsimp only; generalize hv : (bs[a] + st * (i : Int)) % 26 = v; have v0 : 0 <= v := by rw [<- hv]; exact Int.emod_nonneg _ (by decide)
      have v1 : v < 26 := by rw [<- hv]; exact Int.emod_lt_of_pos _ (by decide)
      rw [show ((bs.take (a + 1 + t)).map V.int).set a (V.int v) = ((bs.take (a + 1 + t)).set a v).map V.int by rw [List.map_set]]
      generalize hss : (bs.take (a + 1 + t)).set a v = ss; have hsl : ss.length = a + 1 + t := by rw [<- hss, List.length_set, htl]
      have hsb : ∀ x ∈ ss, 0 <= x /\ x < 26 := fun x hx => by
        rw [<- hss] at hx; rcases List.mem_or_eq_of_mem_set hx with h | h
        . exact e3 x (List.mem_of_mem_take h)
        . rw [h]; exact ⟨v0, v1⟩
      have hsa : ss[a]? = some v := by rw [<- hss, List.getElem?_set_self (by omega)]
      have sg : Same G2 (upd (upd G2 lg (.lst ((bs.take (a + 1 + t)).map V.int))) lg (.lst (ss.map V.int))) := fun c o e => by
        rw [upd_ne (ne_of_none e hlg), upd_ne (ne_of_none e hlg)]; exact e
      have gg : (upd (upd G2 lg (.lst ((bs.take (a + 1 + t)).map V.int))) lg (.lst (ss.map V.int))) lg = some (.lst (ss.map V.int)) := upd_same
      generalize upd (upd G2 lg (.lst ((bs.take (a + 1 + t)).map V.int))) lg (.lst (ss.map V.int)) = G3 at sg gg ⊢; have el : (("abcdefghijklmnopqrstuvwxyz" : Str).cps.toList) = LET := let_eq
      refine ⟨.inl ⟨rfl, _, SqL.of (sg _ _ gl2)⟩, rfl, lg, rfl, ⟨_, SqL.of gg⟩, ?_⟩
      refine comp_pure (seq_list K lg (ss.map V.int)) (by rw [Zlm]; omega) (fun _ => true) (fun v => match v with | .int i => .str (tx [sgn LET i]) | _ => v) (SqL.of gg) (fun y ys N hy ht hf => ?_) ?_
      . obtain ⟨i', hi', rfl⟩ := Zmm.mp hy
        have hb := hsb i' hi'
        exact ⟨by decide +kernel, _, (by rw [el]; exact (sgn_at (cs := LET) hb.1 (show i' < 26 from hb.2)).1), ht rfl⟩
      intro l3 h3; have ef : ((ss.map V.int).filter (fun _ => true)).map (fun v => match v with | .int i => .str (tx [sgn LET i]) | _ => v) = ((ss.map (sgn LET)).map (fun c => tx [c])).map V.str := by
        rw [List.filter_eq_self.mpr (fun _ _ => rfl), List.map_map, List.map_map, List.map_map]
        rfl
      rw [ef]; have hz : isNm (tx (ss.map (sgn LET))) := ⟨by rw [tx_len, Zlm]; omega, by rw [tx_len, Zlm]; omega, fun c hc => by
        rw [cps_tx] at hc; obtain ⟨i', hi', rfl⟩ := Zmm.mp hc
        have hb := hsb i' hi'
        exact (sgn_at (cs := LET) hb.1 (show i' < 26 from hb.2)).2⟩
      have hza : (tx (ss.map (sgn LET))).cps.toList[a]? = some (sgn LET ((bs[a] + st * (i : Int)) % 26)) := by
        rw [cps_tx, Zgm, hsa, hv]; rfl
      refine ⟨_, l3, (ss.map (sgn LET)).map (fun c => tx [c]), rfl, rfl, SqL.of upd_same, ?_, ?_⟩
      . rw [sum_ones, Zlm, Zlm, emp_eq, tx_len]; simp; omega
      rw [emp_eq, join_signs]; have gl3 := same_upd (o := .lst (((ss.map (sgn LET)).map (fun c => tx [c])).map V.str)) h3 _ _ (sg _ _ gl2)
      refine ⟨l, _, _, rfl, rfl, gl3, Znl (m := 60) (by rw [Zlm]; omega) (by decide), ?_⟩
      have sz : K1 p G2 (upd G3 l3 (.lst (((ss.map (sgn LET)).map (fun c => tx [c])).map V.str))) := .of (sg.trans (same_upd h3))
      refine ⟨zs ++ [tx (ss.map (sgn LET))], _, _, _, rfl, by rw [Zla, hzl]; rfl, fun y hy => ?_, fun j z hj => ?_, by rw [upd_same, Zap]; rfl, ?_, ?_, fun c o e n => ?_⟩
      . rcases Zma.mp hy with h | h
        . exact hnm y h
        . rw [Zms.mp h]; exact hz
      . by_cases hji : j < zs.length
        . rw [List.getElem?_append_left hji] at hj; exact hat j z hj
        . have hj' := (Zgs.mp hj).1
          rw [Zla] at hj'; have : j = zs.length := by simp at hj'; omega
          subst this; rw [List.getElem?_append_right (Znr _), Nat.sub_self] at hj; cases hj
          rw [hzl]; exact hza
      . rw [upd_ne nlb]; exact sz _ _ glb2 npb
      . obtain ⟨i', j', g', r'⟩ := q2
        exact ⟨i', j', by rw [upd_ne npl.symm]; exact (sg.trans (same_upd h3)) _ _ g', r'⟩
      . rw [upd_ne (ne_of_none e hl0)]; exact (j1.trans (j2.trans sz)) c o e n
    . rintro σ G1 ⟨zs, o8, o9, o10, rfl, hzl, hnm, hat, gl, glb, q1, j1⟩
      have hzm : zs.length = m := by rw [hzl]; simp [rangeV]
      exact q l zs G1 hzm hnm (nd_at a (fun j => sgn LET ((bs[a] + st * (j : Int)) % 26)) hat fun j j' h h' => let_inj hok h (by omega)) hl0 gl q1 j1
theorem Callee.no {x : Str} {st : Stmt} {N ps : List Str} {k : Nat} (D : DefAt K mg x st ps) (S : FnScope N ps (defScope st)) : Callee P w K mg base (k + 1) x ps (fun _ _ _ _ => False) :=
  D.go S (fun _ _ _ _ h => h.elim) (fun _ _ _ _ _ _ _ _ _ _ h => h.elim)
theorem ok_same_step (T : Txt K mg) (D : DefAt K mg "_law_same" s_law_same ["_law_found", "_law_due_here"]) {k : Nat} {sp : Sp} (cLsame : Callee P w K mg base (k + 1) "_law_same" ["_law_found", "_law_due_here"] sp) (n : Nat)
    (hsp : ∀ m t, n = m + 1 -> okT m t -> ∀ x y H Q E, Rep H m t x -> Rep H m t y -> (∀ H', Same H H' -> Q (.bl true) H') -> sp [x, y] H Q E) : Callee P w K mg base (k + 2) "_law_same" ["_law_found", "_law_due_here"] (spSame n) := by
  refine D.go sc_law_same (fun vs H Q E h => ?_) (fun f cdv A outer s H vs Q E hr h => ?_)
  . obtain ⟨x, y, t, rfl, _⟩ := h; rfl
  . obtain ⟨x, y, t, rfl, hx, hy, hok, q⟩ := h
    have hLsame := hr
    refine ⟨_, (R.scons (R.ife (R.val (R.callB R.isLT rfl T.b_isinstance bb_isinstance (R.cons (R.v 1) (R.cons (R.wtup (R.cons (R.bty rfl T.b_list bb_list) (R.cons (R.bty rfl T.b_tuple bb_tuple) R.nil))) R.nil)))) (R.scons (R.ife (R.tw (R.wor (R.tcmp R.ne (R.isi .lst (R.v 0) rfl T.b_isinstance rfl T.b_list bb_list) (R.isi .lst (R.v 1) rfl T.b_isinstance rfl T.b_list bb_list)) (R.wor1 (R.tcmp R.ne (R.isi .tup (R.v 0) rfl T.b_isinstance rfl T.b_tuple bb_tuple) (R.isi .tup (R.v 1) rfl T.b_isinstance rfl T.b_tuple bb_tuple))))) (R.sone (R.ret R.bl)) R.snil) (R.sone (R.ret (R.and (R.cmp R.eq (R.callB (R.klenL (K := K)) rfl T.b_len bb_len (R.cons (R.v 0) R.nil)) (R.callB (R.klenL (K := K)) rfl T.b_len bb_len (R.cons (R.v 1) R.nil))) (R.one (R.callB (R.kall (K := K) rfl) rfl T.b_all bb_all (R.cons (R.comp rfl (js := [none, none]) (N := ["_law_one", "_law_other"]) (CompScope.by (defScope s_law_same) ["_law_found", "_law_due_here"] rfl rfl (by decide +kernel)) (gown_tup (gowns_cons rfl (gowns_cons rfl gowns_nil))) (R.zip (K := K) rfl T.b_zip (R.v 0) (R.v 1)) (fun C s₂ H₂ fp => ⟨(R.kgt (K := K) (n := 2) rfl (R.gsc (R.gn (i := 0) (show (["_law_one", "_law_other"] : List Str).Nodup by decide +kernel)) (R.gsc (R.gn (i := 1) (show (["_law_one", "_law_other"] : List Str).Nodup by decide +kernel)) R.gsn))), R.ts0, (R.fn cLsame hLsame rfl (R.cons (R.v 0) (R.cons (R.v 1) R.nil)))⟩)) R.nil))))))) R.snil) (R.scons (R.ife (R.tcmp R.isN (R.v 1) R.non) (R.sone (R.ret (R.cmp R.isN (R.v 0) R.non))) R.snil) (R.scons (R.ife (R.val (R.isi .str (R.v 1) rfl T.b_isinstance rfl T.b_str bb_str)) (R.sone (R.ret (R.and (R.isi .str (R.v 0) rfl T.b_isinstance rfl T.b_str bb_str) (R.one (R.cmp R.eq (R.v 0) (R.v 1)))))) R.snil) (R.sone (R.ret (R.and (R.isi .int (R.v 0) rfl T.b_isinstance rfl T.b_int bb_int) (R.and (R.not (R.isi .bl (R.v 0) rfl T.b_isinstance rfl T.b_bool bb_bool)) (R.one (R.cmp R.eq (R.v 0) (R.v 1)))))))))), ?_⟩
    refine ⟨by simp, fun p1 H1 s1 g1 => ⟨g1, ?_⟩⟩
    cases t with
    | sc v =>
      have ex : x = v /\ isSc v = true := by cases n <;> exact hx
      have ey : y = v /\ isSc v = true := by cases n <;> exact hy
      obtain ⟨rfl, hv⟩ := ex
      obtain ⟨rfl, _⟩ := ey
      cases y with
      | non => exact ⟨.non, trivial, q _ s1⟩
      | str z =>
        refine ⟨.str, trivial, .str, trivial, .str, trivial, ?_⟩
        show Q (.bl (decide (z = z))) H1
        rw [decide_eq_true rfl]; exact q _ s1
      | int z =>
        refine ⟨.int, trivial, .int, trivial, .int, trivial, .int, trivial, ?_⟩
        show Q (.bl (decide (z = z))) H1
        rw [decide_eq_true rfl]; exact q _ s1
      | bl z => cases n <;> exact hok.elim
      | _ => cases hv
    | tp ts =>
      cases n with
      | zero => exact hx.elim
      | succ n =>
        obtain ⟨a, xs, rfl, ga, hP⟩ := hx
        obtain ⟨b, ys, rfl, gb, hR⟩ := hy
        obtain ⟨hl, hts⟩ := hok
        have lx := hP.length
        have ly := hR.length
        have ga1 := s1 _ _ ga
        have gb1 := s1 _ _ gb
        refine ⟨.tup, ⟨_, gb1⟩, .tup, ⟨_, ga1⟩, .tup, ⟨_, gb1⟩, .tup, ⟨_, ga1⟩, .tup, ⟨_, gb1⟩, ?_⟩
        refine ⟨xs, .inr (SqT.of ga1), ys, .inr (SqT.of gb1), ?_⟩
        show if decide ((xs.length : Int) = (ys.length : Int)) = true then _ else _
        refine if_b (fun _ => ?_) (fun h => absurd (show (xs.length : Int) = (ys.length : Int) by omega) (of_decide_eq_false h))
        refine ⟨false, false, xs, ys, SqT.of ga1, SqT.of gb1, ?_⟩
        refine comp_zip (by omega) (fun i zs H' => zs = (List.replicate i true).map V.bl /\ Same H1 H') (fun i zs H' ⟨e, s'⟩ => ⟨SqT.of (s' _ _ ga1), SqT.of (s' _ _ gb1), by rw [e, Zlm, List.length_replicate]; exact Znr _⟩) ⟨rfl, Same.refl _⟩ (fun i u v zs H' t' hu hv ⟨e, s'⟩ ht' => ?_) (fun zs H' ⟨e, s'⟩ => ?_)
        . have s2 := s'.trans (same_upd (o := .tup [u, v]) ht')
          have hiu : i < xs.length := (Zgs.mp hu).1
          have hiv : i < ys.length := (Zgs.mp hv).1
          obtain ⟨h1, r1⟩ := Paired.get' (j := i) hP hiu
          obtain ⟨h2, r2⟩ := Paired.get' (j := i) hR hiv
          rw [(Zgs.mp hu).2] at r1; rw [(Zgs.mp hv).2] at r2; refine ⟨t', _, rfl, SqT.of upd_same, rfl, _, _, rfl, _, _, rfl, rfl, hsp n ts[i] rfl (hts _ (List.getElem_mem h1)) u v _ _ _ ((r1.same s1).same s2) ((r2.same s1).same s2) fun H'' s'' => ⟨?_, s2.trans s''⟩⟩
          rw [e, List.replicate_succ', Zap]; rfl
        . intro l hl'; refine ⟨l, _, rfl, SqL.of (by rw [upd_same, e]), ?_⟩
          rw [show (List.replicate (min xs.length ys.length) true).all id = true by simp]
          exact q _ ((s1.trans s').trans (same_upd hl'))
    | ls ts =>
      cases n with
      | zero => exact hx.elim
      | succ n =>
        obtain ⟨a, xs, rfl, ga, hP⟩ := hx
        obtain ⟨b, ys, rfl, gb, hR⟩ := hy
        obtain ⟨hl, hts⟩ := hok
        have lx := hP.length
        have ly := hR.length
        have ga1 := s1 _ _ ga
        have gb1 := s1 _ _ gb
        refine ⟨.lst, .inl ⟨_, gb1⟩, .lst, .inl ⟨_, ga1⟩, .lst, .inl ⟨_, gb1⟩, .lst, .inl ⟨_, ga1⟩, .lst, .inl ⟨_, gb1⟩, ?_⟩
        refine ⟨xs, .inl (SqL.of ga1), ys, .inl (SqL.of gb1), ?_⟩
        show if decide ((xs.length : Int) = (ys.length : Int)) = true then _ else _
        refine if_b (fun _ => ?_) (fun h => absurd (show (xs.length : Int) = (ys.length : Int) by omega) (of_decide_eq_false h))
        refine ⟨true, true, xs, ys, SqL.of ga1, SqL.of gb1, ?_⟩
        refine comp_zip (by omega) (fun i zs H' => zs = (List.replicate i true).map V.bl /\ Same H1 H') (fun i zs H' ⟨e, s'⟩ => ⟨SqL.of (s' _ _ ga1), SqL.of (s' _ _ gb1), by rw [e, Zlm, List.length_replicate]; exact Znr _⟩) ⟨rfl, Same.refl _⟩ (fun i u v zs H' t' hu hv ⟨e, s'⟩ ht' => ?_) (fun zs H' ⟨e, s'⟩ => ?_)
        . have s2 := s'.trans (same_upd (o := .tup [u, v]) ht')
          have hiu : i < xs.length := (Zgs.mp hu).1
          have hiv : i < ys.length := (Zgs.mp hv).1
          obtain ⟨h1, r1⟩ := Paired.get' (j := i) hP hiu
          obtain ⟨h2, r2⟩ := Paired.get' (j := i) hR hiv
          rw [(Zgs.mp hu).2] at r1; rw [(Zgs.mp hv).2] at r2; refine ⟨t', _, rfl, SqT.of upd_same, rfl, _, _, rfl, _, _, rfl, rfl, hsp n ts[i] rfl (hts _ (List.getElem_mem h1)) u v _ _ _ ((r1.same s1).same s2) ((r2.same s1).same s2) fun H'' s'' => ⟨?_, s2.trans s''⟩⟩
          rw [e, List.replicate_succ', Zap]; rfl
        . intro l hl'; refine ⟨l, _, rfl, SqL.of (by rw [upd_same, e]), ?_⟩
          rw [show (List.replicate (min xs.length ys.length) true).all id = true by simp]
          exact q _ ((s1.trans s').trans (same_upd hl'))
theorem ok_same (T : Txt K mg) (D : DefAt K mg "_law_same" s_law_same ["_law_found", "_law_due_here"]) : ∀ n, Callee P w K mg base (n + 2) "_law_same" ["_law_found", "_law_due_here"] (spSame n)
  | 0 => ok_same_step T D (Callee.no D sc_law_same (k := 0)) 0 (fun _ _ e => nomatch e)
  | n + 1 => ok_same_step T D (ok_same T D n) (n + 1) (fun m t e hf x y H Q E r r' k => by
      injection e with e
      subst e; exact ⟨x, y, t, rfl, r, r', hf, k⟩)
theorem ok_keys20 (T : Txt K mg) (cLtake : Callee P w K mg base 1 "_law_take" ["_law_pen_here", "_law_most"] spTake) (D : DefAt K mg "_law_keys" s_law_keys ["_law_pen_here", "_law_many"]) : Callee P w K mg base 2 "_law_keys" ["_law_pen_here", "_law_many"] spKeys20 := by
  refine D.go sc_law_keys (fun vs H Q E h => ?_) (fun f cdv A outer s H vs Q E hr h => ?_)
  . obtain ⟨p, m, rfl, _⟩ := h; rfl
  . obtain ⟨p, m, rfl, pn, hm, q⟩ := h
    have hLtake := hr
    refine ⟨_, (R.scons (R.set (i := 2) sc_law_keys.nd R.str) (R.scons (R.set (i := 3) sc_law_keys.nd (R.op R.add R.int (R.fn cLtake hLtake rfl (R.cons (R.v 0) (R.cons R.int R.nil))))) (R.scons (R.set (i := 4) sc_law_keys.nd (R.fn cLtake hLtake rfl (R.cons (R.v 0) (R.cons (R.v 3) R.nil)))) (R.scons (R.set (i := 5) sc_law_keys.nd (R.ix (R.kiL (K := K)) (R.lst (R.cons R.int (R.cons R.int (R.cons R.int (R.cons R.int (R.cons R.int (R.cons R.int R.nil))))))) (R.fn cLtake hLtake rfl (R.cons (R.v 0) (R.cons R.int R.nil))))) (R.scons (R.set (i := 6) sc_law_keys.nd (R.comp rfl (js := [none, some 0]) (N := ["_law_j", "_law_pen_here"]) (CompScope.by (defScope s_law_keys) ["_law_pen_here", "_law_many", "_law_signs", "_law_size", "_law_at", "_law_step_here", "_law_base", "_law_rows", "_law_k", "_law_row"] rfl rfl (by decide +kernel)) (gown_name rfl) (R.range1 rfl T.b_range (R.cons R.int R.nil)) (fun C s₂ H₂ fp => ⟨(R.gn (i := 0) (show (["_law_j", "_law_pen_here"] : List Str).Nodup by decide +kernel)), R.ts0, (R.fn cLtake hLtake rfl (R.cons (R.v 1) (R.cons R.int R.nil)))⟩))) (R.scons (R.scomp (i := 7) sc_law_keys.nd rfl (Or.inl rfl) rfl (js := [none, some 6]) (N := ["_law_k", "_law_base"]) (CompScope.by (defScope s_law_keys) ["_law_pen_here", "_law_many", "_law_signs", "_law_size", "_law_at", "_law_step_here", "_law_base", "_law_rows", "_law_k", "_law_row"] rfl rfl (by decide +kernel)) (gown_name rfl) (R.range1 rfl T.b_range (R.cons (R.v 1) R.nil)) (fun C s₂ H₂ fp => ⟨(R.gn (i := 0) (show (["_law_k", "_law_base"] : List Str).Nodup by decide +kernel)), R.ts0, (R.sl (R.ksL (K := K)) (R.v 1) R.pn (R.ps (R.op R.sub R.int (R.v 0))))⟩) rfl) (R.scons (R.ife (R.tcmp R.gt (R.fn cLtake hLtake rfl (R.cons (R.v 0) (R.cons R.int R.nil))) R.int) (R.scons (R.set (i := 7) sc_law_keys.nd (R.lst R.nil)) (R.sone (R.for_ PassesOwn.never rfl (R.range1 rfl T.b_range (R.cons (R.v 1) R.nil)) (R.gn (i := 8) sc_law_keys.nd) (R.scons (R.set (i := 9) sc_law_keys.nd (R.sl (R.ksL (K := K)) (R.v 6) R.pn (R.ps (R.op R.add (R.op R.add (R.v 4) R.int) (R.fn cLtake hLtake rfl (R.cons (R.v 0) (R.cons (R.op R.sub (R.v 3) (R.v 4)) R.nil))))))) (R.scons (R.asg (R.op R.mod (R.op R.add (R.ix (R.kiL (K := K)) (R.v 6) (R.v 4)) (R.op R.mul (R.v 5) (R.v 8))) R.int) (R.gsub (R.v 9) (R.v 4) R.setL)) (R.sone (R.expr (R.kbm (K := K) PySem.F.plainAttrs_list PySem.F.slot_list_append PySem.F.type_list_append R.append (R.v 7) (R.cons (R.v 9) R.nil))))))))) R.snil) (R.sone (R.ret (R.comp rfl (js := [none, some 2]) (N := ["_law_row", "_law_signs"]) (CompScope.by (defScope s_law_keys) ["_law_pen_here", "_law_many", "_law_signs", "_law_size", "_law_at", "_law_step_here", "_law_base", "_law_rows", "_law_k", "_law_row"] rfl rfl (by decide +kernel)) (gown_name rfl) (R.kwL (K := K) (R.v 7)) (fun C s₂ H₂ fp => ⟨(R.gn (i := 0) (show (["_law_row", "_law_signs"] : List Str).Nodup by decide +kernel)), R.ts0, (R.kbm (K := K) PySem.F.plainAttrs_str PySem.F.slot_str_join PySem.F.type_str_join (R.kjoin (K := K)) R.str (R.cons (R.comp rfl (js := [none, some 1]) (N := ["_law_sign", "_law_signs"]) (CompScope.by ({ kind := ScopeKind.function, names := [(".0", NameKind.local), ("_law_row", NameKind.local), ("_law_signs", NameKind.cell)], isGenerator := false, isCoroutine := false } : Scope) ["_law_row", "_law_signs"] rfl rfl (by decide +kernel)) (gown_name rfl) (R.kwL (K := K) (R.v 0)) (fun C s₂ H₂ fp => ⟨(R.gn (i := 0) (show (["_law_sign", "_law_signs"] : List Str).Nodup by decide +kernel)), R.ts0, (R.ix R.iS (R.v 1) (R.v 0))⟩)) R.nil))⟩))))))))))), ?_⟩
    refine ⟨p, 12, rfl, pn, by decide, by decide, fun r1 H2 b0 b1 p2 k2 => ?_⟩
    dsimp only [gName]; refine ⟨p, _, rfl, p2, by omega, by omega, fun a' H3 c0 c1 p3 k3 => ?_⟩
    dsimp only [gName]; obtain ⟨a, rfl⟩ := Zio c0
    refine ⟨szl rfl, fun ls hls => ⟨p, 6, rfl, p3.same (same_upd hls), by decide, by decide, fun r2 H4 d0 d1 p4 k4 => ⟨_, SqL.of (k4 _ _ upd_same (p3.ne hls)), ?_⟩⟩⟩
    have hst : ∃ s : Int, atI ([V.int 1, .int 5, .int 7, .int 11, .int 13, .int 17] : List V) r2 = some (.int s) /\ stepOk2 s := by
      rcases six d0 d1 with rfl | rfl | rfl | rfl | rfl | rfl
      . exact ⟨_, rfl, .inl rfl⟩
      . exact ⟨_, rfl, .inr (.inl rfl)⟩
      . exact ⟨_, rfl, .inr (.inr (.inl rfl))⟩
      . exact ⟨_, rfl, .inr (.inr (.inr (.inl rfl)))⟩
      . exact ⟨_, rfl, .inr (.inr (.inr (.inr (.inl rfl))))⟩
      . exact ⟨_, rfl, .inr (.inr (.inr (.inr (.inr rfl))))⟩
    obtain ⟨st, hst, hok⟩ := hst
    refine ⟨_, hst, ?_⟩
    dsimp only [gName]; have k14 : K1 p H H4 := (k2.trans (k3.trans (.of (same_upd hls)))).trans k4
    refine ⟨12, rfl, by decide, by decide, ?_⟩
    refine comp_seq (seq_range 0 (12 : Int).toNat) (by decide) (fun i ys H' => ∃ bs : List Int, ys = bs.map V.int /\ bs.length = i /\ (∀ x ∈ bs, 0 <= x /\ x < 36) /\ PenAt H' p /\ K1 p H H') (fun i ys H' ⟨bs, e, e2, _⟩ => ⟨trivial, by rw [e, Zlm, e2]; exact Znr _⟩) ⟨[], rfl, rfl, (fun _ h => nomatch h), p4, k14⟩ (fun i x ys H' hx ⟨bs, e, e2, e3, pi, ki⟩ => ?_) (fun ys H' ⟨bs, e, e2, e3, pi, ki⟩ => ?_)
    . refine ⟨p, 36, rfl, pi, by decide, by decide, fun r H'' f0 f1 pj kj => ⟨bs ++ [r], by rw [e, Zap]; rfl, by rw [Zla, e2]; rfl, fun x hx => ?_, pj, ki.trans kj⟩⟩
      rcases Zma.mp hx with h | h
      . exact e3 x h
      . rw [Zms.mp h]; exact ⟨f0, f1⟩
    intro lb hlb; subst e; have hbl : bs.length = 12 := by rw [e2]; decide
    have ha : a < bs.length := by omega
    have gb : (upd H' lb (.lst (bs.map V.int))) lb = some (.lst (bs.map V.int)) := upd_same
    have p5 := pi.same (same_upd (o := .lst (bs.map V.int)) hlb)
    have k5 : K1 p H (upd H' lb (.lst (bs.map V.int))) := ki.trans (.of (same_upd hlb))
    have npb : lb ≠ p := pi.ne hlb
    dsimp only [gName]; generalize upd H' lb (.lst (bs.map V.int)) = H5 at gb p5 k5 ⊢; refine ⟨m, rfl, by omega, by omega, ?_⟩
    refine comp_seq (seq_range 0 (m : Int).toNat) (by simp [rangeV]; omega) (fun i ys H' => ∃ rs : List (Addr × List Int), ys = rs.map (fun q => V.ref q.1) /\ rs.length = i /\ (∀ (j : Nat) (q : Addr × List Int), rs[j]? = some q -> q.2 = bs.take (12 - j)) /\ RowsOk H' rs /\ (∀ q ∈ rs, q.1 ≠ p) /\ Same H5 H') (fun i ys H' ⟨rs, e, e2, _⟩ => ⟨trivial, by rw [e, Zlm, e2]; exact Znr _⟩) ⟨[], rfl, rfl, (fun _ _ h => by cases h), (fun _ h => nomatch h), (fun _ h => nomatch h), Same.refl _⟩ (fun i x ys G hx ⟨rs, e, e4, e5, ro, rp, sG⟩ => ?_) (fun ys G ⟨rs, e, e4, e5, ro, rp, sG⟩ => ?_)
    . have hi : i < m := by
        have := (Zgs.mp hx).1
        simp [rangeV] at this
        omega
      have ex : x = .int (i : Int) := by
        unfold rangeV at hx; rw [Zgm, List.getElem?_range (by omega)] at hx
        have := Option.some.inj hx
        rw [<- this]; show V.int (0 + (i : Int)) = _
        rw [Int.zero_add]
      subst ex; refine ⟨_, SqL.of (sG _ _ gb), fun lg hlg => ?_⟩
      have ec : cut (bs.map V.int) none (some ((12 : Int) - i)) = (bs.take (12 - i)).map V.int := by
        rw [show ((12 : Int) - i) = ((12 - i : Nat) : Int) by omega, cut_to, List.map_take]
      dsimp only; rw [ec]; refine ⟨rs ++ [(lg, bs.take (12 - i))], by rw [e, Zap]; rfl, by rw [Zla, e4]; rfl, fun j q' hj => ?_, fun q' hq' => ?_, fun q' hq' => ?_, sG.trans (same_upd hlg)⟩
      . by_cases hji : j < rs.length
        . rw [List.getElem?_append_left hji] at hj; exact e5 j q' hj
        . have hj' := (Zgs.mp hj).1
          rw [Zla] at hj'; have : j = rs.length := by simp at hj'; omega
          subst this; rw [List.getElem?_append_right (Znr _), Nat.sub_self] at hj; cases hj
          rw [e4]
      . rcases Zma.mp hq' with h | h
        . exact (ro.same (same_upd hlg)) q' h
        . rw [Zms.mp h]; exact ⟨upd_same, by rw [Zlk]; omega, by rw [Zlk]; omega, fun x hx => e3 x (List.mem_of_mem_take hx)⟩
      . rcases Zma.mp hq' with h | h
        . exact rp q' h
        . rw [Zms.mp h]; exact (p5.same sG).ne hlg
    intro lr hlr; subst e; have hrl : rs.length = m := by rw [e4]; simp [rangeV]
    dsimp only [gName]; have glr : (upd G lr (.lst (rs.map fun q => V.ref q.1))) lr = some (.lst (rs.map fun q => V.ref q.1)) := upd_same
    have s6 : Same H5 (upd G lr (.lst (rs.map fun q => V.ref q.1))) := sG.trans (same_upd hlr)
    have ro6 := ro.same (same_upd (o := .lst (rs.map fun q => V.ref q.1)) hlr)
    have nlr : lr ≠ p := (p5.same sG).ne hlr
    generalize upd G lr (.lst (rs.map fun q => V.ref q.1)) = H6 at glr s6 ro6 ⊢
    have p6 := p5.same s6
    have k6 : K1 p H H6 := k5.trans (.of s6)
    have gb6 := s6 _ _ gb
    refine cutS (t := tIfS _ _ _) (fun σ' H' => ∃ (lr : Addr) (rs : List (Addr × List Int)) (o8 o9 : Option V), σ' = [some (.ref p), some (.int m), some (.str "abcdefghijklmnopqrstuvwxyz0123456789"), some (.int (1 + r1)), some (.int a), some (.int st), some (.ref lb), some (.ref lr), o8, o9] /\ H' lr = some (.lst (rs.map fun q => V.ref q.1)) /\ rs.length = m /\ RowsOk H' rs /\ (rs.map kword).Nodup /\ PenAt H' p /\ K1 p H H') (fun nx hnx => ?_) ?_
    . refine ⟨p, 4, rfl, p6, by decide, by decide, fun r H7 f0 f1 p7 k7 => ?_⟩
      refine if_b (fun _ => ?_) (fun _ => ?_)
      rotate_left
      . refine hnx _ _ ⟨lr, rs, _, _, rfl, k7 _ _ glr nlr, hrl, ro6.k1 k7 rp, ?_, p7, k6.trans k7⟩
        refine List.pairwise_map.mpr (List.pairwise_iff_getElem.mpr fun i j hi hj hij e => ?_)
        have e1 := e5 i _ (Zge hi)
        have e6 := e5 j _ (Zge hj)
        have el := congrArg Str.length e
        unfold kword at el; rw [tx_len, tx_len, Zlm, Zlm, e1, e6, Zlk, Zlk] at el; omega
      have gb7 := k7 _ _ gb6 npb
      have k07 := k6.trans k7
      refine ⟨szl rfl, fun l hl => ?_⟩
      dsimp only [gName]; have nlb : lb ≠ l := ne_of_none gb7 hl
      have npl : l ≠ p := p7.ne hl
      have hl0 : H l = none := k07.free p7 hl
      refine ⟨m, rfl, by omega, by omega, ?_⟩
      refine for_seq (seq_range 0 (m : Int).toNat) (fun i σ H' => ∃ (zs : List (Addr × List Int)) (o8 o9 : Option V), σ = [some (.ref p), some (.int m), some (.str "abcdefghijklmnopqrstuvwxyz0123456789"), some (.int (1 + r1)), some (.int a), some (.int st), some (.ref lb), some (.ref l), o8, o9] /\ zs.length = i /\ RowsOk H' zs /\ (∀ q ∈ zs, q.1 ≠ p /\ q.1 ≠ l) /\ (∀ (j : Nat) (q : Addr × List Int), zs[j]? = some q -> (kword q).cps.toList[a]? = some (sgn KLET ((bs[a] + st * (j : Int)) % 36))) /\ H' l = some (.lst (zs.map fun q => V.ref q.1)) /\ H' lb = some (.lst (bs.map V.int)) /\ PenAt H' p /\ K1 p H H')
        (fun _ _ _ _ => trivial) ⟨[], _, _, rfl, rfl, (fun _ h => nomatch h), (fun _ h => nomatch h), (fun _ _ h => by cases h), upd_same, same_upd hl _ _ gb7, p7.same (same_upd hl), k07.trans (.of (same_upd hl))⟩ ?_ ?_
      . rintro i x σ G1 hx ⟨zs, o8, o9, rfl, hzl, hro, hrp, hat, gl, glb, q1, j1⟩
        have hi : i < m := by
          have := (Zgs.mp hx).1
          simp [rangeV] at this
          omega
        have ex : x = .int (i : Int) := by
          unfold rangeV at hx; rw [Zgm, List.getElem?_range (by omega)] at hx
          have := Option.some.inj hx
          rw [<- this]; show V.int (0 + (i : Int)) = _
          rw [Int.zero_add]
        subst ex; dsimp only [gName]; refine ⟨p, _, rfl, q1, by omega, by omega, fun t' G2 t0 t1 q2 j2 => ?_⟩
        obtain ⟨t, rfl⟩ := Zio t0
        have glb2 := j2 _ _ glb npb
        have gl2 := j2 _ _ gl npl
        refine ⟨_, SqL.of glb2, fun lg hlg => ?_⟩
        have ec : cut (bs.map V.int) none (some ((a : Int) + 1 + t)) = (bs.take (a + 1 + t)).map V.int := by
          rw [show ((a : Int) + 1 + t) = ((a + 1 + t : Nat) : Int) by omega, cut_to, List.map_take]
        dsimp only [gName]; rw [ec]; have htl : (bs.take (a + 1 + t)).length = a + 1 + t := by rw [Zlk]; omega
        refine ⟨_, SqL.of (same_upd hlg _ _ glb2), .int bs[a], atI_nat (by rw [Zgm, Zge ha]; rfl), .inl (by rcases hok with rfl | rfl | rfl | rfl | rfl | rfl <;> exact ⟨by decide, by decide⟩), by show (0 : Int) < _; decide, lg, _, _, a, rfl, rfl, upd_same, ?_, ?_⟩
        . unfold ixN; rw [Zlm, htl, if_pos (by omega), if_pos (by omega)]
          rfl
        dsimp only; generalize hv : (bs[a] + st * (i : Int)) % 36 = v; have v0 : 0 <= v := by rw [<- hv]; exact Int.emod_nonneg _ (by decide)
        have v1 : v < 36 := by rw [<- hv]; exact Int.emod_lt_of_pos _ (by decide)
        rw [show ((bs.take (a + 1 + t)).map V.int).set a (V.int v) = ((bs.take (a + 1 + t)).set a v).map V.int by rw [List.map_set]]
        generalize hss : (bs.take (a + 1 + t)).set a v = ss; have hsl : ss.length = a + 1 + t := by rw [<- hss, List.length_set, htl]
        have hsb : ∀ x ∈ ss, 0 <= x /\ x < 36 := fun x hx => by
          rw [<- hss] at hx; rcases List.mem_or_eq_of_mem_set hx with h | h
          . exact e3 x (List.mem_of_mem_take h)
          . rw [h]; exact ⟨v0, v1⟩
        have hsa : ss[a]? = some v := by rw [<- hss, List.getElem?_set_self (by omega)]
        have sg : Same G2 (upd (upd G2 lg (.lst ((bs.take (a + 1 + t)).map V.int))) lg (.lst (ss.map V.int))) := fun c o e => by
          rw [upd_ne (ne_of_none e hlg), upd_ne (ne_of_none e hlg)]; exact e
        have gg : (upd (upd G2 lg (.lst ((bs.take (a + 1 + t)).map V.int))) lg (.lst (ss.map V.int))) lg = some (.lst (ss.map V.int)) := upd_same
        generalize upd (upd G2 lg (.lst ((bs.take (a + 1 + t)).map V.int))) lg (.lst (ss.map V.int)) = G3 at sg gg ⊢; have gl3 := sg _ _ gl2
        have nlg : lg ≠ p /\ lg ≠ l := ⟨q2.ne hlg, (ne_of_none gl2 hlg).symm⟩
        refine ⟨.inl ⟨rfl, _, SqL.of gl3⟩, l, _, _, rfl, rfl, gl3, Znl (m := 60) (by rw [Zlm]; omega) (by decide), ?_⟩
        refine ⟨zs ++ [(lg, ss)], _, _, rfl, by rw [Zla, hzl]; rfl, fun y hy => ?_, fun y hy => ?_, fun j z hj => ?_, by rw [upd_same, Zap]; rfl, ?_, ?_, fun c o e n => ?_⟩
        . rcases Zma.mp hy with h | h
          . refine ⟨?_, (hro y h).2⟩
            rw [upd_ne (hrp y h).2]; exact sg _ _ (j2 _ _ (hro y h).1 (hrp y h).1)
          . rw [Zms.mp h]; exact ⟨by rw [upd_ne nlg.2]; exact gg, by rw [hsl]; omega, by rw [hsl]; omega, hsb⟩
        . rcases Zma.mp hy with h | h
          . exact hrp y h
          . rw [Zms.mp h]; exact nlg
        . by_cases hji : j < zs.length
          . rw [List.getElem?_append_left hji] at hj; exact hat j z hj
          . have hj' := (Zgs.mp hj).1
            rw [Zla] at hj'; have : j = zs.length := by simp at hj'; omega
            subst this; rw [List.getElem?_append_right (Znr _), Nat.sub_self] at hj; cases hj
            unfold kword; rw [hzl, cps_tx, Zgm, hsa, hv]; rfl
        . rw [upd_ne nlb]; exact sg _ _ glb2
        . obtain ⟨i', j', g', r'⟩ := q2
          exact ⟨i', j', by rw [upd_ne npl.symm]; exact sg _ _ g', r'⟩
        . rw [upd_ne (ne_of_none e hl0)]; exact sg _ _ ((j1.trans j2) c o e n)
      . rintro σ G1 ⟨zs, o8, o9, rfl, hzl, hro, hrp, hat, gl, glb, q1, j1⟩
        have hzm : zs.length = m := by rw [hzl]; simp [rangeV]
        refine hnx _ _ ⟨l, zs, _, _, rfl, gl, hzm, hro, nd_at a (fun j => sgn KLET ((bs[a] + st * (j : Int)) % 36)) (fun j z hj => ?_) (fun j j' h h' => klet_inj hok h (by rw [Zlm] at h'; omega)), q1, j1⟩
        rw [Zgm] at hj; cases hq : zs[j]? with
        | none => rw [hq] at hj; cases hj
        | some w' =>
          rw [hq] at hj; cases hj
          exact hat j w' hq
    rintro σ' H7 ⟨lr', rs', o8, o9, rfl, glr', hrl', ro', nd', p7, k7⟩
    have el : (("abcdefghijklmnopqrstuvwxyz0123456789" : Str).cps.toList) = KLET := klet_eq
    refine ⟨lr', rfl, ⟨_, SqL.of glr'⟩, ?_⟩
    refine comp_seq (seq_list K lr' (rs'.map fun q => V.ref q.1)) (by rw [Zlm]; omega) (fun i ys H' => ys = ((rs'.take i).map kword).map V.str /\ Same H7 H') (fun i ys H' ⟨e, s'⟩ => ⟨SqL.of (s' _ _ glr'), by rw [e, Zlm, Zlm, Zlk]; exact Nat.min_le_left _ _⟩) ⟨rfl, Same.refl _⟩ (fun i x ys H' hx ⟨e, s'⟩ => ?_) (fun ys H' ⟨e, s'⟩ => ?_)
    . rw [Zgm] at hx; cases hq : rs'[i]? with
      | none => rw [hq] at hx; cases hx
      | some w' =>
        rw [hq] at hx; cases hx
        obtain ⟨gw, w1, w2, w3⟩ := ro' w' (Zmg hq)
        refine ⟨rfl, w'.1, rfl, ⟨_, SqL.of (s' _ _ gw)⟩, ?_⟩
        refine comp_pure (seq_list K w'.1 (w'.2.map V.int)) (by rw [Zlm]; omega) (fun _ => true) (fun v => match v with | .int i => .str (tx [sgn KLET i]) | _ => v) (SqL.of (s' _ _ gw)) (fun y ys N hy ht hf => ?_) ?_
        . obtain ⟨i', hi', rfl⟩ := Zmm.mp hy
          have hb := w3 i' hi'
          exact ⟨by decide +kernel, _, (by rw [el]; exact (sgn_at (cs := KLET) hb.1 (show i' < 36 from hb.2)).1), ht rfl⟩
        intro l3 h3; have ef : ((w'.2.map V.int).filter (fun _ => true)).map (fun v => match v with | .int i => .str (tx [sgn KLET i]) | _ => v) = ((w'.2.map (sgn KLET)).map (fun c => tx [c])).map V.str := by
          rw [List.filter_eq_self.mpr (fun _ _ => rfl), List.map_map, List.map_map, List.map_map]
          rfl
        rw [ef]; refine ⟨_, l3, (w'.2.map (sgn KLET)).map (fun c => tx [c]), rfl, rfl, SqL.of upd_same, ?_, ?_⟩
        . rw [sum_ones, Zlm, Zlm, emp_eq, tx_len]; simp; omega
        rw [emp_eq, join_signs]; refine ⟨?_, s'.trans (same_upd h3)⟩
        rw [List.take_succ, hq, Zap, Zap, e]; rfl
    . intro l3 h3; rw [Zlm, List.take_length] at e; refine q l3 (rs'.map kword) _ (by rw [Zlm, hrl']) (fun z hz => ?_) nd' (k7.free p7 (s'.free h3)) (by rw [upd_same, e]) ((p7.same s').same (same_upd h3)) (k7.trans (.of (s'.trans (same_upd h3))))
      obtain ⟨w', hw', rfl⟩ := Zmm.mp hz
      exact ro'.ky w' hw'
end
end KL
namespace KL
open PySem L2
section
variable {P : Program} {w : World} {K : W.Frag} {mg : Str -> Option Value} {base : Heap}
structure EN where
  key : Str
  ent : Addr
  dd : Option (Addr × List V)
  word : Str
def dvV : Option (Addr × List V) -> V
  | none => .non
  | some q => .ref q.1
def ekv (en : List EN) : List (Key × V) := en.map fun z => (Sum.inr z.key, V.ref z.ent)
def EAt (H : Hp) (en : List EN) : Prop := ∀ z ∈ en, H z.ent = some (.tup [dvV z.dd, .str z.word]) /\ ∀ d xs, z.dd = some (d, xs) -> H d = some (.tup xs)
theorem EAt.keep {H H' : Hp} {en : List EN} (h : EAt H en) (k : ∀ b xs, H b = some (.tup xs) -> H' b = some (.tup xs)) : EAt H' en := fun z hz => ⟨k _ _ (h z hz).1, fun d xs e => k _ _ ((h z hz).2 d xs e)⟩
structure HAt (C : Addr) (H : Hp) (p : Addr) (a : HF) (am : List (Str × Int)) (cl : Str -> Bool) (en : List EN) (L : Nat) : Prop where
  hp : H p = some (.ins C a.dx (hfs a))
  ha : H a.da = some (.dK (dkv am))
  hc : ∃ kvs, H a.dc = some (.dK kvs) /\ kvs.length <= L /\ ∀ n : Str, (valV kvs (Sum.inr n)).isSome = cl n
  he : H a.de = some (.dK (ekv en))
  ents : EAt H en
  nda : (am.map (·.1)).Nodup
  nde : (en.map (·.key)).Nodup
  la : am.length <= L
  le : en.length <= L
  ac : a.da ≠ a.dc
  ae : a.da ≠ a.de
  ce : a.dc ≠ a.de
theorem HAt.same {C : Addr} {H H' : Hp} {p : Addr} {a : HF} {am : List (Str × Int)} {cl : Str -> Bool} {en : List EN} {L : Nat} (h : HAt C H p a am cl en L) (s : Same H H') : HAt C H' p a am cl en L := by
  obtain ⟨kvs, g, r⟩ := h.hc
  exact ⟨s _ _ h.hp, s _ _ h.ha, ⟨kvs, s _ _ g, r⟩, s _ _ h.he, h.ents.keep (fun b xs e => s _ _ e), h.nda, h.nde, h.la, h.le, h.ac, h.ae, h.ce⟩
def spHAmount (C : Addr) : Sp := fun vs H Q _ => ∃ p a am cl en L n, vs = [.ref p, .str n] /\ HAt C H p a am cl en L /\ Q (.int (amt am n)) H
def spCan (C : Addr) : Sp := fun vs H Q _ => ∃ p d a am cl en L nm n wd xs b, vs = [.ref p, .ref d] /\ HAt C H p a am cl en L /\ H d = some (.tup xs) /\ HD nm n wd xs b /\ Q (.bl (can am cl wd nm n)) H
def spTry (C : Addr) : Sp := fun vs H Q _ => ∃ p d a am cl en L nm n wd xs b, vs = [.ref p, .ref d] /\ HAt C H p a am cl en L /\ L <= 500 /\ H d = some (.tup xs) /\ HD nm n wd xs b ∧
  ∀ H', HAt C H' p a (aft am (can am cl wd nm n) nm b) cl en (L + 1) -> (∀ c o, H c = some o -> c ≠ a.da -> H' c = some o) -> Q (.str (yn (can am cl wd nm n))) H'
def spClose (C : Addr) (shut : Bool) : Sp := fun vs H Q _ => ∃ p a am cl en L n, vs = [.ref p, .str n] /\ HAt C H p a am cl en L /\ L <= 500 /\ ∀ H', HAt C H' p a am (fun m => if m = n then shut else cl m) en (L + 1) -> (∀ c o, H c = some o -> c ≠ a.dc -> H' c = some o) -> Q .non H'
def spHInit (C : Addr) : Sp := fun vs H Q _ => ∃ (p dx : Addr) (r c : V) (prs : List (Str × Int)) (cs : List Str), vs = [.ref p, r, c] /\ H p = some (.ins C dx []) /\ RowsAt H r prs /\ (prs.map (·.1)).Nodup /\ prs.length <= 100 /\ ClsAtV H c cs /\ cs.length <= 100 ∧
  ∀ H' a, H a.da = none -> H a.dc = none -> H a.de = none -> HAt C H' p a prs (fun n => decide (n ∈ cs)) [] (100 + cs.length) -> (∀ b o, H b = some o -> b ≠ p -> H' b = some o) -> Q .non H'
theorem ekv_val {ky : Str} : ∀ {en : List EN}, (valV (ekv en) (Sum.inr ky)).isSome = decide (ky ∈ en.map (·.key))
  | [] => rfl
  | z :: r => by
    unfold ekv; rw [List.map_cons]; by_cases e : z.key = ky
    . rw [valV_pos (by rw [e])]
      simp [e]
    . rw [valV_neg (fun h => e (Sum.inr.inj h))]
      have := ekv_val (ky := ky) (en := r)
      unfold ekv at this; rw [this]; have : (ky = z.key) = False := by simp; exact fun h => e h.symm
      simp [this]
theorem ekv_at {z : EN} : ∀ {en : List EN}, (en.map (·.key)).Nodup -> z ∈ en -> valV (ekv en) (Sum.inr z.key) = some (.ref z.ent)
  | y :: r, hn, h => by
    obtain ⟨h1, h2⟩ := List.nodup_cons.mp hn
    unfold ekv; rw [List.map_cons]; rcases List.mem_cons.mp h with rfl | h
    . rw [valV_pos rfl]
    . rw [valV_neg (fun e => h1 (by show y.key ∈ _; rw [Sum.inr.inj e]; exact Zmm.mpr ⟨z, h, rfl⟩))]
      exact ekv_at h2 h
theorem ekv_snoc {en : List EN} {z : EN} (h : ¬ z.key ∈ en.map (·.key)) : putK (ekv en) (Sum.inr z.key) (.ref z.ent) = ekv (en ++ [z]) := by
  have hn : valV (ekv en) (Sum.inr z.key) = none := by
    have := ekv_val (ky := z.key) (en := en)
    rw [decide_eq_false h] at this; cases e : valV (ekv en) (Sum.inr z.key) with
    | none => rfl
    | some _ => rw [e] at this; cases this
  rw [putK_new _ hn]; unfold ekv; rw [Zap]; rfl
def repE (en : List EN) (ky : Str) (z' : EN) : List EN := en.map fun z => if z.key = ky then z' else z
theorem repE_keys {en : List EN} {ky : Str} {z' : EN} (h : z'.key = ky) : (repE en ky z').map (·.key) = en.map (·.key) := by
  unfold repE; rw [List.map_map]; refine List.map_congr_left fun z _ => ?_
  show (if z.key = ky then z' else z).key = z.key
  split
  . rename_i e; rw [h, e]
  . rfl
theorem repE_ekv {en : List EN} {ky : Str} {z' : EN} (hk : z'.key = ky) (h : ky ∈ en.map (·.key)) : putK (ekv en) (Sum.inr ky) (.ref z'.ent) = ekv (repE en ky z') := by
  have hs : (valV (ekv en) (Sum.inr ky)).isSome = true := by rw [ekv_val, decide_eq_true h]
  unfold putK; rw [if_pos (by rw [valV_any]; exact hs)]
  unfold ekv repE; rw [List.map_map, List.map_map]; refine List.map_congr_left fun q _ => ?_
  show (if (Sum.inr q.key : Key) = Sum.inr ky then (Sum.inr q.key, V.ref z'.ent) else ((Sum.inr q.key : Key), V.ref q.ent)) = ((Sum.inr (if q.key = ky then z' else q).key : Key), V.ref (if q.key = ky then z' else q).ent)
  by_cases e : q.key = ky
  . rw [if_pos (by rw [e]), if_pos e, hk, e]
  . rw [if_neg (fun z => e (Sum.inr.inj z)), if_neg e]
theorem ok_h_amount {C : Addr} (B : HsT K C) (D : MethAt K C "amount" "House.amount" s_House_amount ["self", "name"]) : Mth P w K mg base 1 C "amount" ["self", "name"] (spHAmount C) := by
  refine D.go sc_House_amount (fun vs H Q E h => ?_) (fun f cdv A outer s H vs Q E hr h => ?_)
  . obtain ⟨p, a, am, cl, en, L, n, rfl, _⟩ := h; rfl
  . obtain ⟨p, a, am, cl, en, L, n, rfl, ht, q⟩ := h
    have hu1 := hu_of hr
    refine ⟨_, (R.sone (R.ret (R.dget2 hu1 (R.kfld (K := K) (R.v 0)) (R.v 1) R.int))), ?_⟩
    refine ⟨C, a.dx, _, .ref a.da, ht.hp, B.cl, B.nA, hf_a a, a.da, rfl, .inl ⟨_, .inl ht.ha⟩, _, DGet.k (k := Sum.inr n) ht.ha, ?_⟩
    rw [dkv_amt]; exact q
theorem ok_can {C : Addr} (T : Txt K mg) (B : HsT K C) (c_House_amount : Mth P w K mg base 1 C "amount" ["self", "name"] (spHAmount C)) (D : MethAt K C "can_do" "House.can_do" s_House_can_do ["self", "deed"]) : Mth P w K mg base 2 C "can_do" ["self", "deed"] (spCan C) := by
  refine D.go sc_House_can_do (fun vs H Q E h => ?_) (fun f cdv A outer s H vs Q E hr h => ?_)
  . obtain ⟨p, d, a, am, cl, en, L, nm, n, wd, xs, b, rfl, _⟩ := h; rfl
  . obtain ⟨p, d, a, am, cl, en, L, nm, n, wd, xs, b, rfl, ht, hd, hD, q⟩ := h
    have hu1 := hu_of hr
    have hr_House_amount := hr
    refine ⟨_, (R.scons (R.set (i := 2) sc_House_can_do.nd (R.ix (R.kiT (K := K)) (R.v 1) R.int)) (R.scons (R.ife (R.tcmp R.eq (R.ix (R.kiT (K := K)) (R.v 1) R.int) R.str) (R.sone (R.ret (R.cmp R.ge (R.meth c_House_amount hr_House_amount (R.v 0) (R.cons (R.v 2) R.nil)) (R.ix (R.kiT (K := K)) (R.v 1) R.int)))) R.snil) (R.sone (R.ret (R.and (R.cmp (R.notInD hu1) (R.v 2) (R.kfld (K := K) (R.v 0))) (R.one (R.cmp R.le (R.op R.add (R.meth c_House_amount hr_House_amount (R.v 0) (R.cons (R.v 2) R.nil)) (R.ix (R.kiT (K := K)) (R.v 1) R.int)) (R.gI rfl T.g_MOST)))))))), ?_⟩
    obtain ⟨kvs, gc, _, hc⟩ := ht.hc
    cases hD with
    | take =>
      refine ⟨_, SqT.of hd, _, rfl, _, SqT.of hd, _, rfl, a.dx, _, ht.hp, hf_no a (by decide +kernel) (by decide +kernel) (by decide +kernel), p, a, am, cl, en, L, nm, rfl, ht, _, SqT.of hd, _, rfl, ?_⟩
      exact q
    | add =>
      refine ⟨_, SqT.of hd, _, rfl, _, SqT.of hd, _, rfl, C, a.dx, _, .ref a.dc, ht.hp, B.cl, B.nC, hf_c a, kvs, gc, ?_⟩
      have q' : Q (.bl (!cl nm && decide (amt am nm + n <= 1000000000000))) H := q
      show if (!(valV kvs (Sum.inr nm)).isSome) = true then _ else _
      rw [hc nm]; refine if_b (fun h => ?_) (fun h => ?_)
      . rw [h, Bool.true_and] at q'; exact ⟨a.dx, _, ht.hp, hf_no a (by decide +kernel) (by decide +kernel) (by decide +kernel), p, a, am, cl, en, L, nm, rfl, ht, _, SqT.of hd, _, rfl, q'⟩
      . rw [h, Bool.false_and] at q'; exact q'
theorem HD.dwx {nm wd : Str} {n b : Int} {xs : List V} (h : HD nm n wd xs b) : DWX wd xs [(nm, b)] [] := by
  cases h with
  | add => exact ⟨nm, nm, nm, n, .add⟩
  | take => exact ⟨nm, nm, nm, n, .take⟩
theorem HAt.more {C : Addr} {H : Hp} {p : Addr} {a : HF} {am : List (Str × Int)} {cl : Str -> Bool} {en : List EN} {L L' : Nat} (h : HAt C H p a am cl en L) (hl : L <= L') : HAt C H p a am cl en L' := by
  obtain ⟨kvs, g, l, r⟩ := h.hc
  exact ⟨h.hp, h.ha, ⟨kvs, g, Znt l hl, r⟩, h.he, h.ents, h.nda, h.nde, Znt h.la hl, Znt h.le hl, h.ac, h.ae, h.ce⟩
theorem HAt.put {C : Addr} {H : Hp} {p : Addr} {a : HF} {am : List (Str × Int)} {cl : Str -> Bool} {en : List EN} {L : Nat} (h : HAt C H p a am cl en L) (n : Str) (v : Int) : HAt C (upd H a.da (.dK (dkv (putB am n v)))) p a (putB am n v) cl en (L + 1) := by
  obtain ⟨kvs, g, l, r⟩ := h.hc
  have k : ∀ b o, H b = some o -> b ≠ a.da -> (upd H a.da (.dK (dkv (putB am n v)))) b = some o := fun b o e hb => by rw [upd_ne hb]; exact e
  refine ⟨k _ _ h.hp (ne_of h.hp h.ha (fun z => nomatch z)), upd_same, ⟨kvs, k _ _ g h.ac.symm, Nat.le_succ_of_le l, r⟩, k _ _ h.he h.ae.symm, h.ents.keep (fun b xs e => k _ _ e (ne_of e h.ha (fun z => nomatch z))), nd_putB h.nda, h.nde, ?_, Nat.le_succ_of_le h.le, h.ac, h.ae, h.ce⟩
  have := len_putB am n v
  have := h.la
  omega
theorem ok_try {C : Addr} (T : Txt K mg) (B : HsT K C) (c_House_can_do : Mth P w K mg base 2 C "can_do" ["self", "deed"] (spCan C)) (c_House_amount : Mth P w K mg base 1 C "amount" ["self", "name"] (spHAmount C)) (c_done_changes : Callee P w K mg base 1 "done_changes" ["deed"] spChanges)
    (D : MethAt K C "try_deed" "House.try_deed" s_House_try_deed ["self", "deed"]) : Mth P w K mg base 3 C "try_deed" ["self", "deed"] (spTry C) := by
  refine D.go sc_House_try_deed (fun vs H Q E h => ?_) (fun f cdv A outer s H vs Q E hr h => ?_)
  . obtain ⟨p, d, a, am, cl, en, L, nm, n, wd, xs, b, rfl, _⟩ := h; rfl
  . obtain ⟨p, d, a, am, cl, en, L, nm, n, wd, xs, b, rfl, ht, hL, hd, hD, q⟩ := h
    have hu1 := hu_of hr
    have hr_House_can_do := hr
    have hr_House_amount : Room 1 _ := hr.mono (by decide)
    have hr_done_changes : Room 1 _ := hr.mono (by decide)
    refine ⟨_, (R.scons (R.ife (R.tnot (R.val (R.meth c_House_can_do hr_House_can_do (R.v 0) (R.cons (R.v 1) R.nil)))) (R.sone (R.ret R.str)) R.snil) (R.scons (R.for_ PassesOwn.never rfl (R.kwT (K := K) (R.fn c_done_changes hr_done_changes rfl (R.cons (R.v 1) R.nil))) (R.kgt (K := K) (n := 2) rfl (R.gsc (R.gn (i := 2) sc_House_try_deed.nd) (R.gsc (R.gn (i := 3) sc_House_try_deed.nd) R.gsn))) (R.sone (R.asg (R.op R.add (R.meth c_House_amount hr_House_amount (R.v 0) (R.cons (R.v 2) R.nil)) (R.v 3)) (R.gsub (R.kfld (K := K) (R.v 0)) (R.v 2) (R.setD hu1))))) (R.sone (R.ret R.str)))), ?_⟩
    refine ⟨a.dx, _, ht.hp, hf_no a (by decide +kernel) (by decide +kernel) (by decide +kernel), p, d, a, am, cl, en, L, nm, n, wd, xs, b, rfl, ht, hd, hD, ?_⟩
    show if (!can am cl wd nm n) = true then _ else _
    refine if_b (fun h => ?_) (fun h => ?_)
    . have hb : can am cl wd nm n = false := by simpa using h
      rw [hb] at q; exact q H (HAt.more ht (Nat.le_succ _)) fun c o e _ => e
    have hb : can am cl wd nm n = true := by simpa using h
    rw [hb] at q; have q : ∀ H', HAt C H' p a (putB am nm (amt am nm + b)) cl en (L + 1) -> (∀ c o, H c = some o -> c ≠ a.da -> H' c = some o) -> Q (.str "yes") H' := q
    dsimp only [tNext]; refine ⟨d, wd, xs, _, _, rfl, hd, (HD.dwx hD), fun t zs H1 s1 g1 hz hm => ⟨t, rfl, ⟨_, SqT.of g1⟩, ?_⟩⟩
    match zs, hm with
    | [(ta, tn, tb)], hm =>
    have e1 : tn = nm /\ tb = b := by
      have := hm
      simp at this
      exact this
    obtain ⟨rfl, rfl⟩ := e1
    have ht1 := ht.same s1
    refine for_seq (seq_tup K t (zref [(ta, tn, tb)])) (fun i σ H' => (∃ o2 o3 : Option V, σ = [some (.ref p), some (.ref d), o2, o3]) /\ H' = if i = 0 then H1 else upd H1 a.da (.dK (dkv (putB am tn (amt am tn + tb))))) (fun i σ H' ⟨_, e⟩ => ?_) ⟨⟨_, _, rfl⟩, rfl⟩ ?_ ?_
    . rw [e]; split
      . exact SqT.of g1
      . exact SqT.of (by rw [upd_ne (ne_of g1 ht1.ha (fun z => nomatch z))]; exact g1)
    . rintro i x σ H' hx ⟨⟨o2, o3, rfl⟩, e⟩
      have hi : i = 0 := by
        have := (Zgs.mp hx).1
        unfold zref at this; simp at this
        exact this
      subst hi; rw [if_pos rfl] at e; subst e; obtain ⟨z, hn, rfl, gz⟩ := pair_get hz hx
      cases hn
      refine ⟨ta, _, rfl, SqT.of gz, rfl, _, _, rfl, _, _, rfl, rfl, a.dx, _, ht1.hp, hf_no a (by decide +kernel) (by decide +kernel) (by decide +kernel), p, a, am, cl, en, L, tn, rfl, ht1, C, a.dx, _, .ref a.da, ht1.hp, B.cl, B.nA, hf_a a, a.da, _, rfl, DPut.k (k := Sum.inr tn) ht1.ha ?_, ⟨_, _, rfl⟩, ?_⟩
      . unfold dkv; rw [Zlm]; exact Znl ht.la (Znl hL (by decide))
      . rw [if_neg (by decide), putB_dkv]
    . rintro σ H' ⟨⟨o2, o3, rfl⟩, e⟩
      rw [if_neg (by show ¬ 1 = 0; decide)] at e
      subst e; refine q _ (HAt.put ht1 tn _) fun c o e hc => ?_
      rw [upd_ne hc]; exact s1 _ _ e
theorem HAt.cls {C : Addr} {H : Hp} {p : Addr} {a : HF} {am : List (Str × Int)} {cl cl' : Str -> Bool} {en : List EN} {L : Nat} {kvs : List (Key × V)} (h : HAt C H p a am cl en L) (hl : kvs.length <= L + 1) (hk : ∀ n : Str, (valV kvs (Sum.inr n)).isSome = cl' n) : HAt C (upd H a.dc (.dK kvs)) p a am cl' en (L + 1) := by
  obtain ⟨kvs0, g, l, r⟩ := h.hc
  have k : ∀ b o, H b = some o -> b ≠ a.dc -> (upd H a.dc (.dK kvs)) b = some o := fun b o e hb => by rw [upd_ne hb]; exact e
  exact ⟨k _ _ h.hp (ne_of h.hp g (fun z => nomatch z)), k _ _ h.ha h.ac, ⟨kvs, upd_same, hl, hk⟩, k _ _ h.he h.ce.symm, h.ents.keep (fun b xs e => k _ _ e (ne_of e g (fun z => nomatch z))), h.nda, h.nde, Nat.le_succ_of_le h.la, Nat.le_succ_of_le h.le, h.ac, h.ae, h.ce⟩
theorem ok_close {C : Addr} (T : Txt K mg) (B : HsT K C) (D : MethAt K C "close" "House.close" s_House_close ["self", "name"]) : Mth P w K mg base 1 C "close" ["self", "name"] (spClose C true) := by
  refine D.go sc_House_close (fun vs H Q E h => ?_) (fun f cdv A outer s H vs Q E hr h => ?_)
  . obtain ⟨p, a, am, cl, en, L, n, rfl, _⟩ := h; rfl
  . obtain ⟨p, a, am, cl, en, L, n, rfl, ht, hL, q⟩ := h
    have hu1 := hu_of hr
    refine ⟨_, (R.sone (R.asg R.bl (R.gsub (R.kfld (K := K) (R.v 0)) (R.v 1) (R.setD hu1)))), ?_⟩
    obtain ⟨kvs, g, l, r⟩ := ht.hc
    refine ⟨C, a.dx, _, .ref a.dc, ht.hp, B.cl, B.nC, hf_c a, a.dc, _, rfl, DPut.k (k := Sum.inr n) g (Znl l (Znl hL (by decide))), ?_⟩
    refine q _ (HAt.cls ht (Znt (length_putK _ _ _) (Nat.succ_le_succ l)) fun m => ?_) fun c o e hc => by rw [upd_ne hc]; exact e
    rw [valV_put]; by_cases e : m = n
    . rw [if_pos (by rw [e]), if_pos e]; rfl
    . rw [if_neg (fun z => e (Sum.inr.inj z)), if_neg e]; exact r m
def kyV (x : V) : Bool := madeOf x (LET ++ FIG) 12
theorem kyV_inv {x : V} (h : kyV x = true) : ∃ z, x = .str z /\ isKy z := by
  unfold kyV at h; cases x with
  | str z =>
    rw [madeOf_str, Bool.and_eq_true, Bool.and_eq_true] at h; obtain ⟨⟨h1, h2⟩, h3⟩ := h
    have h1 := of_decide_eq_true h1
    have h2 := of_decide_eq_true h2
    exact ⟨z, rfl, by omega, by omega, fun c hc => of_decide_eq_true (List.all_eq_true.mp h3 c hc)⟩
  | _ => cases h
def spCheckX (CK : Addr) : Sp := fun vs H Q E => ∃ x, vs = [x] /\ Pt H x /\ (kyV x = true -> ∀ H', Same H H' -> Q .non H') /\ (kyV x = false -> ∀ H', Same H H' -> E (.ref CK) none H')
theorem ok_check_keyX {CK : Addr} (T : Txt K mg) (X_NoKey : XCls K mg "NoKey" CK) (c_is_key : Callee P w K mg base 2 "is_key" ["thing"] (spTell (LET ++ FIG) 12)) (D : DefAt K mg "check_key" s_check_key ["thing"]) : CalleeX P w K mg base 3 "check_key" ["thing"] (spCheckX CK) := by
  refine D.goX sc_check_key (fun vs H Q E h => ?_) (fun f cdv A outer s H vs Q E hr h => ?_)
  . obtain ⟨x, rfl, _⟩ := h; rfl
  . obtain ⟨x, rfl, ⟨k, hk, hz⟩, qy, qn⟩ := h
    have hr_is_key := hr
    refine ⟨_, (R.sone (R.ife (R.tnot (R.val (R.fn c_is_key hr_is_key rfl (R.cons (R.v 0) R.nil)))) (R.sone (R.raise X_NoKey leaves_cx rfl (R.cons R.str R.nil))) R.snil)), ?_⟩
    refine ⟨x, k, rfl, hk, hz, fun H' s' => ?_⟩
    show if (!kyV x) = true then _ else _
    refine if_b (fun hb => ?_) (fun hb => ?_)
    . have hb' : kyV x = false := by simpa using hb
      exact ⟨szl rfl, qn hb' H' s'⟩
    . have hb' : kyV x = true := by simpa using hb
      exact qy hb' H' s'
theorem HD.deed {nm wd : Str} {n b : Int} {xs : List V} (h : HD nm n wd xs b) (hn : isNm nm) (h1 : 1 <= n) (h2 : n <= 1000000000000) : deedB xs = true /\ xs.length = 3 /\ (∀ H, ∀ y ∈ xs, Pt H y) := by
  have hnm := nmV_of hn
  have hl : nm.length <= 1000 := by have := hn.2.1; omega
  have pt : ∀ (H : Hp) (wd : Str), wd.length <= 1000 -> ∀ y ∈ ([.str wd, .str nm, .int n] : List V), Pt H y := fun H wd hw y hy => by
    simp only [List.mem_cons, List.not_mem_nil, or_false] at hy
    rcases hy with rfl | rfl | rfl
    . exact (Pc.str hw).pt
    . exact (Pc.str hl).pt
    . exact Pc.int.pt
  cases h with
  | add => exact ⟨(DeedIs.one _ nm n (.inl rfl) hn h1 h2).ok, rfl, fun H => pt H _ (by decide +kernel)⟩
  | take => exact ⟨(DeedIs.one _ nm n (.inr rfl) hn h1 h2).ok, rfl, fun H => pt H _ (by decide +kernel)⟩
theorem repSc {H : Hp} {n : Nat} : ∀ {xs : List V}, (∀ y ∈ xs, isSc y = true) -> Paired (Rep H n) (xs.map TV.sc) xs
  | [], _ => .nil
  | y :: r, h => .cons (Rep.scal (h y Zcs)) (repSc fun z m => h z (Zmc _ m))
def HDX (xs : List V) : Prop := ∃ nm n wd b, HD nm n wd xs b
theorem eqT3 (a b a' b' : Str) (c c' : Int) : eqTup [.str a, .str b, .int c] [.str a', .str b', .int c'] = decide (([.str a, .str b, .int c] : List V) = [.str a', .str b', .int c']) := by
  have e : eqTup [.str a, .str b, .int c] [.str a', .str b', .int c'] = (decide (a = a') && (decide (b = b') && decide (c = c'))) := by
    show ((eqV (.str a) (.str a') && (eqV (.str b) (.str b') && (eqV (.int c) (.int c') && true))) && true) = _
    rw [Bool.and_true, Bool.and_true]; rfl
  rw [e]; by_cases h1 : a = a' <;> by_cases h2 : b = b' <;> by_cases h3 : c = c' <;> simp [h1, h2, h3]
theorem HDX.shape {xs : List V} (h : HDX xs) : ∃ a b c, xs = [.str a, .str b, .int c] := by
  obtain ⟨nm, n, wd, b, h⟩ := h
  cases h <;> exact ⟨_, _, _, rfl⟩
theorem HDX.eqT {xs ys : List V} (h1 : HDX xs) (h2 : HDX ys) : eqTup xs ys = decide (xs = ys) := by
  obtain ⟨a, b, c, rfl⟩ := h1.shape
  obtain ⟨a', b', c', rfl⟩ := h2.shape
  exact eqT3 _ _ _ _ _ _
theorem HDX.flat {xs : List V} (h : HDX xs) : ∀ {j : Nat} {u : V}, xs[j]? = some u -> flatV u = true := by
  obtain ⟨a, b, c, rfl⟩ := h.shape
  intro j u e; have := Zmg e
  simp only [List.mem_cons, List.not_mem_nil, or_false] at this
  rcases this with rfl | rfl | rfl <;> rfl
def Said (z : EN) : Prop := z.word = "undone" ∨ ((z.word = "yes" ∨ z.word = "no") /\ ∃ d xs, z.dd = some (d, xs) /\ HDX xs)
def plainB (xs : List V) : Bool := deedB xs && inV ((atI xs 0).getD .non) [V.str "add", .str "take"]
def plainV (H : Hp) (y : V) : Bool := match partsV H y with | some xs => plainB xs | none => false
theorem plain_hd {xs : List V} (h : plainB xs = true) : ∃ nm n wd b, HD nm n wd xs b /\ isNm nm /\ 1 <= n /\ n <= 1000000000000 := by
  unfold plainB at h; rw [Bool.and_eq_true] at h; obtain ⟨hB, hi⟩ := h
  have hB' := hB
  unfold deedB at hB'; rw [Bool.and_eq_true, Bool.and_eq_true] at hB'; obtain ⟨⟨h3, hf⟩, hn⟩ := hB'
  have h3 := of_decide_eq_true h3
  obtain ⟨z, i, hx0, hl, hlen, hnm, _⟩ := fitsB_inv hf
  obtain ⟨n, hn', h1, h2⟩ := numV_inv hn
  have ml := mid_len h3
  rw [hx0] at hi; have hz : z = "add" ∨ z = "take" := by
    rw [show ([V.str "add", .str "take"] : List V) = (["add", "take"] : List Str).map V.str from rfl, inV_str] at hi; have := of_decide_eq_true hi
    simpa using this
  have hi1 : i = 1 := by
    rcases WS_mem hl with ⟨e, h⟩ | ⟨e, h⟩ | ⟨e, _⟩ | ⟨e, _⟩ | ⟨e, _⟩ | ⟨e, _⟩
    . exact h
    . exact h
    all_goals (rcases hz with h | h <;> rw [h] at e <;> exact absurd e (by decide +kernel))
  match xs, h3 with
  | [x0, x1, x2], _ =>
    have e0 : x0 = .str z := hx0
    have e2 : x2 = .int n := hn'
    obtain ⟨a, e1, na⟩ := nmV_inv (hnm x1 (by show x1 ∈ [x1]; simp))
    subst e0 e1 e2; rcases hz with rfl | rfl
    . exact ⟨a, n, _, _, .add, na, h1, h2⟩
    . exact ⟨a, n, _, _, .take, na, h1, h2⟩
  | x0 :: x1 :: x2 :: x3 :: r, _ => rw [ml] at hlen; simp at hlen; omega
theorem hd_plain {nm wd : Str} {n b : Int} {xs : List V} (h : HD nm n wd xs b) (hn : isNm nm) (h1 : 1 <= n) (h2 : n <= 1000000000000) : plainB xs = true := by
  obtain ⟨hB, _⟩ := HD.deed h hn h1 h2
  unfold plainB; rw [hB]; cases h <;> rfl
def askOk (C CO : Addr) (p : Addr) (ky : Str) (d : Addr) (H : Hp) (Q : VK) (E : XK) : Prop := ∃ a am cl en L nm n wd xs b, HAt C H p a am cl en L /\ L <= 500 /\ H d = some (.tup xs) /\ HD nm n wd xs b /\ isNm nm /\ 1 <= n /\ n <= 1000000000000 /\ isKy ky /\ (∀ z ∈ en, Said z) ∧
  (¬ ky ∈ en.map (·.key) -> ∀ H' e, HAt C H' p a (aft am (can am cl wd nm n) nm b) cl (en ++ [⟨ky, e, some (d, xs), yn (can am cl wd nm n)⟩]) (L + 1) -> (∀ c o, H c = some o -> c ≠ a.da -> c ≠ a.de -> H' c = some o) -> Q (.str (yn (can am cl wd nm n))) H') ∧
  (∀ z ∈ en, z.key = ky -> (z.word = "undone" ∨ z.dd.map (·.2) = some xs) -> ∀ H', Same H H' -> Q (.str z.word) H') ∧
  (∀ z ∈ en, z.key = ky -> z.word ≠ "undone" -> z.dd.map (·.2) ≠ some xs -> ∀ H', Same H H' -> E (.ref CO) none H')
def spAskY (C CO CK CN : Addr) : Sp := fun vs H Q E => ∃ p x y, vs = [.ref p, x, y] /\ Pt H x /\ Tg H y /\ (kyV x = false -> ∀ H', Same H H' -> E (.ref CK) none H') /\ (kyV x = true -> plainV H y = false -> ∀ H', Same H H' -> E (.ref CN) none H') /\ (∀ ky d, x = .str ky -> y = .ref d -> kyV x = true -> plainV H y = true -> askOk C CO p ky d H Q E)
theorem plain_no {H : Hp} {y : V} (h : deedV H y = false) : plainV H y = false := by
  cases y with
  | ref a =>
    cases e : H a with
    | none =>
      have e2 : partsV H (.ref a) = none := by simp [partsV, e]
      simp [plainV, e2]
    | some o =>
      cases o with
      | tup xs =>
        have e3 : deedV H (.ref a) = deedB xs := by simp [deedV, e]
        have e2 := partsV_tup e
        rw [e3] at h; simp [plainV, e2, plainB, h]
      | _ =>
        have e2 : partsV H (.ref a) = none := by simp [partsV, e]
        simp [plainV, e2]
  | _ => simp [plainV, partsV]
theorem ok_askY {C CO CK CN : Addr} (T : Txt K mg) (U : Top w.params K mg) (B : HsT K C) (X_Other : XCls K mg "Other" CO) (X_NoDeed : XCls K mg "NoDeed" CN) (c_check_key : CalleeX P w K mg base 3 "check_key" ["thing"] (spCheckX CK)) (c_is_deed : Callee P w K mg base 4 "is_deed" ["thing"] spIsDeed) (c_House_try_deed : Mth P w K mg base 3 C "try_deed" ["self", "deed"] (spTry C))
    (D : MethAt K C "ask" "House.ask" s_House_ask ["self", "key", "deed"]) : MthX P w K mg base 5 C "ask" ["self", "key", "deed"] (spAskY C CO CK CN) := by
  refine D.goX sc_House_ask (fun vs H Q E h => ?_) (fun f cdv A outer s H vs Q E hr h => ?_)
  . obtain ⟨p, x, y, rfl, _⟩ := h; rfl
  . obtain ⟨p, x, y, rfl, px, ty, qk, qd, q⟩ := h
    have hu1 := hu_of hr
    have hu64 := hr.units
    have hr_check_key : Room 3 _ := hr.mono (by decide)
    have hr_is_deed := hr
    have hr_House_try_deed : Room 3 _ := hr.mono (by decide)
    obtain ⟨aW, m_HOUSE_WORDS, tW⟩ := U.g_HOUSE_WORDS
    refine ⟨_, (R.scons (R.expr (R.fnX c_check_key hr_check_key rfl takes_pass (R.cons (R.v 1) R.nil))) (R.scons (R.ife (R.tw (R.wor (R.tnot (R.val (R.fn c_is_deed hr_is_deed rfl (R.cons (R.v 2) R.nil)))) (R.wor1 (R.tcmp (R.knotInQ (K := K)) (R.ix (R.kiT (K := K)) (R.v 2) R.int) (R.gR rfl m_HOUSE_WORDS))))) (R.sone (R.raise X_NoDeed leaves_cx rfl (R.cons R.str R.nil))) R.snil) (R.scons (R.ife (R.tcmp (R.notInD hu1) (R.v 1) (R.kfld (K := K) (R.v 0))) (R.sone (R.asg (R.wtup (R.cons (R.v 2) (R.cons (R.meth c_House_try_deed hr_House_try_deed (R.v 0) (R.cons (R.v 2) R.nil)) R.nil))) (R.gsub (R.kfld (K := K) (R.v 0)) (R.v 1) (R.setD hu1)))) R.snil) (R.scons (R.set (i := 3) sc_House_ask.nd (R.dix hu1 (R.kfld (K := K) (R.v 0)) (R.v 1))) (R.scons (R.ife (R.tw (R.wand (R.tcmp R.ne (R.ix (R.kiT (K := K)) (R.v 3) R.int) R.str) (R.wand1 (R.tcmp (R.neF hu64) (R.ix (R.kiT (K := K)) (R.v 3) R.int) (R.v 2))))) (R.sone (R.raise X_Other leaves_cx rfl (R.cons R.str R.nil))) R.snil) (R.sone (R.ret (R.ix (R.kiT (K := K)) (R.v 3) R.int)))))))), ?_⟩
    refine ⟨x, rfl, px, fun hk H1 s1 => ?_, fun hk H1 s1 => qk hk H1 s1⟩
    have ty1 := ty.same s1
    refine ⟨y, rfl, ty1.th.1, ty1.th.2, fun H2 s2 => ?_⟩
    rw [deedV_same s1 ty.1]; have s12 := s1.trans s2
    cases hdv : deedV H y with
    | false =>
      refine ⟨szl rfl, qd hk ?_ H2 s12⟩
      exact plain_no hdv
    | true =>
    obtain ⟨d, xs, wd', n', as', rfl, gd, hB, hdw⟩ := deedV_of hdv
    have gd2 := s12 _ _ gd
    have eP : plainV H (.ref d) = plainB xs := by unfold plainV; rw [partsV_tup gd]
    obtain ⟨w0, hw0⟩ : ∃ w0, atI xs 0 = some (.str w0) := by
      obtain ⟨one, other, nm, cs, hw⟩ := hdw.ex
      cases hw <;> exact ⟨_, rfl⟩
    refine ⟨_, SqT.of gd2, _, hw0, aW, _, rfl, .inr (tW H2), rfl, rfl, ?_⟩
    have eP2 : plainB xs = inV (.str w0) [V.str "add", .str "take"] := by unfold plainB; rw [hB, hw0]; rfl
    show if (!inV (.str w0) [V.str "add", .str "take"]) = true then _ else _
    refine if_b (fun hin => ?_) (fun hin => ?_)
    . have hin' : inV (.str w0) [V.str "add", .str "take"] = false := by simpa using hin
      exact ⟨szl rfl, qd hk (by rw [eP, eP2, hin']) H2 s12⟩
    have hin' : inV (.str w0) [V.str "add", .str "take"] = true := by simpa using hin
    obtain ⟨ky, rfl, hky0⟩ := kyV_inv hk
    obtain ⟨a, am, cl, en, L, nm, n, wd, xs', b, ht, hL, hd, hD, hnm, hn0, hn1, hky, hen, qn, qs, qo⟩ := q ky d rfl rfl hk (by rw [eP, eP2, hin'])
    rw [gd] at hd; cases hd
    have hd := gd
    have hd2 := gd2
    have ht2 := ht.same s12
    dsimp only [tNext]; refine ⟨C, a.dx, _, .ref a.de, ht2.hp, B.cl, B.nE, hf_e a, _, ht2.he, ?_⟩
    rw [ekv_val]; by_cases hkn : ky ∈ en.map (·.key)
    . rw [decide_eq_true hkn]; obtain ⟨z, hz, hzk⟩ := Zmm.mp hkn
      subst hzk; have he2 : DGet H2 a.de (.str z.key) (some (.ref z.ent)) := by
        have := DGet.k (k := Sum.inr z.key) ht2.he
        rw [ekv_at ht2.nde hz] at this; exact this
      obtain ⟨ge, gd⟩ := ht2.ents z hz
      refine ⟨C, a.dx, _, .ref a.de, ht2.hp, B.cl, B.nE, hf_e a, a.de, _, rfl, he2, ?_⟩
      dsimp only [gName]; have hx : HDX xs := ⟨_, _, _, _, hD⟩
      refine ⟨_, SqT.of ge, _, rfl, ?_⟩
      show if (!decide (z.word = "undone")) = true then _ else _
      rcases hen z hz with hu | ⟨hw, d0, xs0, ed, hx0⟩
      . rw [decide_eq_true hu, if_neg (by decide)]
        exact ⟨_, SqT.of ge, _, rfl, qs z hz rfl (.inl hu) H2 s12⟩
      have hund : z.word ≠ "undone" := by rcases hw with h | h <;> rw [h] <;> decide
      have gd0 := gd d0 xs0 ed
      have ge' : H2 z.ent = some (.tup [.ref d0, .str z.word]) := by rw [ge, ed]; rfl
      rw [decide_eq_false hund, if_pos (show (!false) = true from rfl)]; refine ⟨_, SqT.of ge', _, rfl, _, _, gd0, hd2, (fun j u v hu hv => ⟨hx0.flat hu, hx.flat hv⟩), ?_⟩
      show if (!eqTup xs0 xs) = true then _ else _
      rw [hx0.eqT hx]; by_cases e : xs0 = xs
      . rw [decide_eq_true e, if_neg (by decide)]
        exact ⟨_, SqT.of ge, _, rfl, qs z hz rfl (.inr (by rw [ed, e]; rfl)) H2 s12⟩
      . rw [decide_eq_false e, if_pos (by decide)]
        exact ⟨by decide, qo z hz rfl hund (by rw [ed]; exact fun h => e (Option.some.inj h)) H2 s12⟩
    rw [decide_eq_false hkn]; refine ⟨a.dx, _, ht2.hp, hf_no a (by decide +kernel) (by decide +kernel) (by decide +kernel), p, d, a, am, cl, en, L, nm, n, wd, xs, b, rfl, ht2, hL, hd2, hD, fun H3 ht3 k3 => ⟨by simp, fun e H4 s4 g4 => ?_⟩⟩
    have ht4 := ht3.same s4
    refine ⟨C, a.dx, _, .ref a.de, ht4.hp, B.cl, B.nE, hf_e a, a.de, _, rfl, DPut.k (k := Sum.inr ky) ht4.he ?_, ?_⟩
    . unfold ekv; rw [Zlm]; exact Znl ht.le (Znl hL (by decide))
    rw [show putK (ekv en) (Sum.inr ky) (.ref e) = ekv (en ++ [⟨ky, e, some (d, xs), yn (can am cl wd nm n)⟩]) from ekv_snoc (z := ⟨ky, e, some (d, xs), yn (can am cl wd nm n)⟩) hkn]; generalize hH5 : upd H4 a.de (.dK (ekv (en ++ [⟨ky, e, some (d, xs), yn (can am cl wd nm n)⟩]))) = H5; have k5 : ∀ c o, H4 c = some o -> c ≠ a.de -> H5 c = some o := fun c o e hc => by rw [<- hH5, upd_ne hc]; exact e
    have g5 : H5 a.de = some (.dK (ekv (en ++ [⟨ky, e, some (d, xs), yn (can am cl wd nm n)⟩]))) := by rw [<- hH5]; exact upd_same
    have nt : ∀ {c : Addr} {ys : List V}, H4 c = some (.tup ys) -> H5 c = some (.tup ys) := fun e => k5 _ _ e (ne_of e ht4.he (fun z => nomatch z))
    have hd3 : H3 d = some (.tup xs) := k3 _ _ hd2 (ne_of hd2 ht2.ha (fun z => nomatch z))
    have ht5 : HAt C H5 p a (aft am (can am cl wd nm n) nm b) cl (en ++ [⟨ky, e, some (d, xs), yn (can am cl wd nm n)⟩]) (L + 1) := by
      obtain ⟨kvs, gc, lc, rc⟩ := ht4.hc
      refine ⟨k5 _ _ ht4.hp (ne_of ht4.hp ht4.he (fun z => nomatch z)), k5 _ _ ht4.ha ht4.ae, ⟨kvs, k5 _ _ gc ht4.ce, lc, rc⟩, g5, fun z hz => ?_, ht4.nda, ?_, ht4.la, ?_, ht4.ac, ht4.ae, ht4.ce⟩
      . rcases Zma.mp hz with h | h
        . exact (ht4.ents.keep (fun _ _ e => nt e)) z h
        . rw [Zms.mp h]; exact ⟨nt g4, fun d' xs' e => by cases e; exact nt (s4 _ _ hd3)⟩
      . rw [Zap]; exact nd_snoc ht.nde hkn
      . have := ht.le
        rw [Zla]; simp
        omega
    have he5 : DGet H5 a.de (.str ky) (some (.ref e)) := by
      have := DGet.k (k := Sum.inr ky) g5
      rw [ekv_at (z := ⟨ky, e, some (d, xs), yn (can am cl wd nm n)⟩) ht5.nde (List.mem_append_right _ Zcs)] at this; exact this
    have ge5 := nt g4
    have gd5 := nt (s4 _ _ hd3)
    refine ⟨C, a.dx, _, .ref a.de, ht5.hp, B.cl, B.nE, hf_e a, a.de, _, rfl, he5, ?_⟩
    dsimp only [gName]; have hund : yn (can am cl wd nm n) ≠ "undone" := by
      cases can am cl wd nm n <;> decide
    refine ⟨_, SqT.of ge5, _, rfl, ?_⟩
    show if (!decide (yn (can am cl wd nm n) = "undone")) = true then _ else _
    rw [decide_eq_false hund, if_pos (show (!false) = true from rfl)]; have hx : HDX xs := ⟨_, _, _, _, hD⟩
    refine ⟨_, SqT.of ge5, _, rfl, _, _, gd5, gd5, (fun j u v hu hv => ⟨hx.flat hu, hx.flat hv⟩), ?_⟩
    show if (!eqTup xs xs) = true then _ else _
    rw [hx.eqT hx, decide_eq_true rfl, if_neg (by decide)]
    refine ⟨_, SqT.of ge5, _, rfl, qn hkn H5 e ht5 fun c o e' h1 h2 => ?_⟩
    exact k5 _ _ (s4 _ _ (k3 _ _ (s12 _ _ e') h1)) h2
def undoOk (C : Addr) (p : Addr) (ky : Str) (H : Hp) (Q : VK) : Prop := ∃ a am cl en L, HAt C H p a am cl en L /\ L <= 500 /\ isKy ky /\ (∀ z ∈ en, Said z) ∧
  (¬ ky ∈ en.map (·.key) -> ∀ H' e, HAt C H' p a am cl (en ++ [⟨ky, e, none, "undone"⟩]) (L + 1) -> (∀ c o, H c = some o -> c ≠ a.da -> c ≠ a.de -> H' c = some o) -> Q .non H') ∧
  (∀ z ∈ en, z.key = ky -> z.word ≠ "yes" -> ∀ H' e, HAt C H' p a am cl (repE en ky ⟨ky, e, z.dd, "undone"⟩) (L + 1) -> (∀ c o, H c = some o -> c ≠ a.da -> c ≠ a.de -> H' c = some o) -> Q .non H') ∧
  (∀ z ∈ en, z.key = ky -> z.word = "yes" -> ∀ d xs nm n wd b, z.dd = some (d, xs) -> HD nm n wd xs b -> ∀ H' e, HAt C H' p a (putB am nm (amt am nm - b)) cl (repE en ky ⟨ky, e, z.dd, "undone"⟩) (L + 1) -> (∀ c o, H c = some o -> c ≠ a.da -> c ≠ a.de -> H' c = some o) -> Q .non H')
def spUndoY (C CK : Addr) : Sp := fun vs H Q E => ∃ p x, vs = [.ref p, x] /\ Pt H x /\ (kyV x = false -> ∀ H', Same H H' -> E (.ref CK) none H') /\ (∀ ky, x = .str ky -> kyV x = true -> undoOk C p ky H Q)
theorem HAt.ent {C : Addr} {H : Hp} {p : Addr} {a : HF} {am : List (Str × Int)} {cl : Str -> Bool} {en en' : List EN} {L : Nat} (h : HAt C H p a am cl en L) (he : EAt H en') (hn : (en'.map (·.key)).Nodup) (hl : en'.length <= L) : HAt C (upd H a.de (.dK (ekv en'))) p a am cl en' L := by
  obtain ⟨kvs, g, r⟩ := h.hc
  have k : ∀ b o, H b = some o -> b ≠ a.de -> (upd H a.de (.dK (ekv en'))) b = some o := fun b o e hb => by rw [upd_ne hb]; exact e
  exact ⟨k _ _ h.hp (ne_of h.hp h.he (fun z => nomatch z)), k _ _ h.ha h.ae, ⟨kvs, k _ _ g h.ce, r⟩, upd_same, he.keep (fun b xs e => k _ _ e (ne_of e h.he (fun z => nomatch z))), h.nda, hn, h.la, hl, h.ac, h.ae, h.ce⟩
theorem ok_undoY {C CK : Addr} (T : Txt K mg) (B : HsT K C) (c_check_key : CalleeX P w K mg base 3 "check_key" ["thing"] (spCheckX CK)) (c_House_amount : Mth P w K mg base 1 C "amount" ["self", "name"] (spHAmount C)) (c_done_changes : Callee P w K mg base 1 "done_changes" ["deed"] spChanges)
    (D : MethAt K C "undo" "House.undo" s_House_undo ["self", "key"]) : MthX P w K mg base 4 C "undo" ["self", "key"] (spUndoY C CK) := by
  refine D.goX sc_House_undo (fun vs H Q E h => ?_) (fun f cdv A outer s H vs Q E hr h => ?_)
  . obtain ⟨p, x, rfl, _⟩ := h; rfl
  . obtain ⟨p, x, rfl, px, qk, q⟩ := h
    have hu1 := hu_of hr
    have hr_check_key := hr
    have hr_House_amount : Room 1 _ := hr.mono (by decide)
    have hr_done_changes : Room 1 _ := hr.mono (by decide)
    refine ⟨_, (R.scons (R.expr (R.fnX c_check_key hr_check_key rfl takes_pass (R.cons (R.v 1) R.nil))) (R.scons (R.set (i := 2) sc_House_undo.nd (R.dget2 hu1 (R.kfld (K := K) (R.v 0)) (R.v 1) (R.wtup (R.cons R.non (R.cons R.str R.nil))))) (R.scons (R.ife (R.tcmp R.eq (R.ix (R.kiT (K := K)) (R.v 2) R.int) R.str) (R.sone (R.for_ passes_cx rfl (R.kwT (K := K) (R.fn c_done_changes hr_done_changes rfl (R.cons (R.ix (R.kiT (K := K)) (R.v 2) R.int) R.nil))) (R.kgt (K := K) (n := 2) rfl (R.gsc (R.gn (i := 3) sc_House_undo.nd) (R.gsc (R.gn (i := 4) sc_House_undo.nd) R.gsn))) (R.sone (R.asg (R.op R.sub (R.meth c_House_amount hr_House_amount (R.v 0) (R.cons (R.v 3) R.nil)) (R.v 4)) (R.gsub (R.kfld (K := K) (R.v 0)) (R.v 3) (R.setD hu1)))))) R.snil) (R.sone (R.asg (R.wtup (R.cons (R.ix (R.kiT (K := K)) (R.v 2) R.int) (R.cons R.str R.nil))) (R.gsub (R.kfld (K := K) (R.v 0)) (R.v 1) (R.setD hu1))))))), ?_⟩
    refine ⟨x, rfl, px, fun hk H1 s1 => ?_, fun hk H1 s1 => qk hk H1 s1⟩
    obtain ⟨ky, rfl, _⟩ := kyV_inv hk
    obtain ⟨a, am, cl, en, L, ht, hL, hky, hen, qa, qb, qc⟩ := q ky rfl hk
    have ht1 := ht.same s1
    refine ⟨C, a.dx, _, .ref a.de, ht1.hp, B.cl, B.nE, hf_e a, a.de, rfl, .inl ⟨_, .inl ht1.he⟩, by simp, fun t0 H2 s2 g2 => ⟨_, DGet.k (k := Sum.inr ky) (s2 _ _ ht1.he), ?_⟩⟩
    have ht2 := ht1.same s2
    have s02 := s1.trans s2
    dsimp only [gName]; have put : ∀ (en' : List EN) (am' : List (Str × Int)) (H3 : Hp) (e : Addr) (o : Option (Addr × List V)), HAt C H3 p a am' cl en (L + 1) -> (∀ c o, H c = some o -> c ≠ a.da -> H3 c = some o) -> (∀ d xs, o = some (d, xs) -> H3 d = some (.tup xs)) →
        H3 e = some (.tup [dvV o, .str "undone"]) -> (∀ z ∈ en', z ∈ en ∨ z = ⟨ky, e, o, "undone"⟩) -> (en'.map (·.key)).Nodup -> en'.length <= L + 1 -> putK (ekv en) (Sum.inr ky) (.ref e) = ekv en' →
        (∀ H', HAt C H' p a am' cl en' (L + 1) -> (∀ c o, H c = some o -> c ≠ a.da -> c ≠ a.de -> H' c = some o) -> Q .non H') -> Q .non (upd H3 a.de (.dK (putK (ekv en) (Sum.inr ky) (.ref e)))) := fun en' am' H3 e o h3 k3 ho ge hm hn hl ep q => by
      rw [ep]; refine q _ (HAt.ent h3 (fun z hz => ?_) hn hl) fun c o' e' h1 h2 => by rw [upd_ne h2]; exact k3 _ _ e' h1
      rcases hm z hz with h | rfl
      . exact h3.ents z h
      . exact ⟨ge, ho⟩
    have sz : (ekv en).length < sizeLine := by
      unfold ekv; rw [Zlm]; exact Znl ht.le (Znl hL (by decide))
    by_cases hkn : ky ∈ en.map (·.key)
    . obtain ⟨z, hz, rfl⟩ := Zmm.mp hkn
      rw [ekv_at ht2.nde hz]; obtain ⟨ge, gd⟩ := ht2.ents z hz
      have hrep : ∀ (e : Addr), ∀ y ∈ repE en z.key ⟨z.key, e, z.dd, "undone"⟩, y ∈ en ∨ y = ⟨z.key, e, z.dd, "undone"⟩ := fun e y hy => by
        unfold repE at hy; obtain ⟨y', hy', rfl⟩ := Zmm.mp hy
        split
        . exact .inr rfl
        . exact .inl hy'
      have hnd : ∀ e : Addr, ((repE en z.key ⟨z.key, e, z.dd, "undone"⟩).map (·.key)).Nodup := fun e => by rw [repE_keys (z' := ⟨z.key, e, z.dd, "undone"⟩) rfl]; exact ht.nde
      have hln : ∀ e : Addr, (repE en z.key ⟨z.key, e, z.dd, "undone"⟩).length <= L + 1 := fun e => by unfold repE; rw [Zlm]; exact Nat.le_succ_of_le ht.le
      refine ⟨_, SqT.of ge, _, rfl, ?_⟩
      show if decide (z.word = "yes") = true then _ else _
      refine if_b (fun hb => ?_) (fun hb => ?_)
      . have hw : z.word = "yes" := of_decide_eq_true hb
        obtain ⟨d0, xs0, ed, nm, n, wd, b, hD⟩ : ∃ d0 xs0, z.dd = some (d0, xs0) /\ HDX xs0 := by
          rcases hen z hz with h | ⟨_, h⟩
          . rw [hw] at h; exact absurd h (by decide)
          . exact h
        have gd0 := gd d0 xs0 ed
        have ge' : H2 z.ent = some (.tup [.ref d0, .str z.word]) := by rw [ge, ed]; rfl
        refine ⟨_, SqT.of ge', _, rfl, d0, wd, xs0, _, _, rfl, gd0, HD.dwx hD, fun t zs H3 s3 g3 hz' hm => ⟨t, rfl, ⟨_, SqT.of g3⟩, ?_⟩⟩
        match zs, hm with
        | [(ta, tn, tb)], hm =>
        have e1 : tn = nm /\ tb = b := by
          have := hm
          simp at this
          exact this
        obtain ⟨rfl, rfl⟩ := e1
        have ht3 := ht2.same s3
        refine for_seq (seq_tup K t (zref [(ta, tn, tb)])) (fun i σ H' => (∃ o3 o4 : Option V, σ = [some (.ref p), some (.str z.key), some (.ref z.ent), o3, o4]) /\ H' = if i = 0 then H3 else upd H3 a.da (.dK (dkv (putB am tn (amt am tn - tb))))) (fun i σ H' ⟨_, e⟩ => ?_) ⟨⟨_, _, rfl⟩, rfl⟩ ?_ ?_
        . rw [e]; split
          . exact SqT.of g3
          . exact SqT.of (by rw [upd_ne (ne_of g3 ht3.ha (fun z => nomatch z))]; exact g3)
        . rintro i x σ H' hx ⟨⟨o2, o3, rfl⟩, e⟩
          have hi : i = 0 := by
            have := (Zgs.mp hx).1
            unfold zref at this; simp at this
            exact this
          subst hi; rw [if_pos rfl] at e; subst e; obtain ⟨z', hn, rfl, gz⟩ := pair_get hz' hx
          cases hn
          refine ⟨ta, _, rfl, SqT.of gz, rfl, _, _, rfl, _, _, rfl, rfl, a.dx, _, ht3.hp, hf_no a (by decide +kernel) (by decide +kernel) (by decide +kernel), p, a, am, cl, en, L, tn, rfl, ht3, C, a.dx, _, .ref a.da, ht3.hp, B.cl, B.nA, hf_a a, a.da, _, rfl, DPut.k (k := Sum.inr tn) ht3.ha ?_, ⟨_, _, rfl⟩, ?_⟩
          . unfold dkv; rw [Zlm]; exact Znl ht.la (Znl hL (by decide))
          . rw [if_neg (by decide), putB_dkv]
        . rintro σ H' ⟨⟨o2, o3, rfl⟩, e⟩
          rw [if_neg (by show ¬ 1 = 0; decide)] at e
          subst e; have ht4 := HAt.put ht3 tn (amt am tn - tb)
          have k4 : ∀ c o, H c = some o -> c ≠ a.da -> (upd H3 a.da (.dK (dkv (putB am tn (amt am tn - tb))))) c = some o := fun c o e h => by rw [upd_ne h]; exact s3 _ _ (s02 _ _ e)
          have gt4 : ∀ {c : Addr} {ys : List V}, H2 c = some (.tup ys) -> (upd H3 a.da (.dK (dkv (putB am tn (amt am tn - tb))))) c = some (.tup ys) := fun e => by rw [upd_ne (ne_of (s3 _ _ e) ht3.ha (fun z => nomatch z))]; exact s3 _ _ e
          generalize upd H3 a.da (.dK (dkv (putB am tn (amt am tn - tb)))) = H4 at ht4 k4 gt4 ⊢; refine ⟨_, SqT.of (gt4 ge), _, rfl, by simp, fun e H5 s5 g5 => ?_⟩
          have ht5 := ht4.same s5
          refine ⟨C, a.dx, _, .ref a.de, ht5.hp, B.cl, B.nE, hf_e a, a.de, _, rfl, DPut.k (k := Sum.inr z.key) ht5.he sz, ?_⟩
          exact put (repE en z.key ⟨z.key, e, z.dd, "undone"⟩) _ H5 e z.dd ht5 (fun c o e' h => s5 _ _ (k4 _ _ e' h)) (fun d xs e' => s5 _ _ (gt4 (gd d xs e'))) g5 (hrep e) (hnd e) (hln e) (repE_ekv (z' := ⟨z.key, e, z.dd, "undone"⟩) rfl hkn) fun H' h' k' => qc z hz rfl hw d0 xs0 tn n wd tb ed hD H' e h' k'
      . have hw : z.word ≠ "yes" := of_decide_eq_false hb
        refine ⟨_, SqT.of ge, _, rfl, by simp, fun e H5 s5 g5 => ?_⟩
        have ht5 := ht2.same s5
        refine ⟨C, a.dx, _, .ref a.de, ht5.hp, B.cl, B.nE, hf_e a, a.de, _, rfl, DPut.k (k := Sum.inr z.key) ht5.he sz, ?_⟩
        exact put (repE en z.key ⟨z.key, e, z.dd, "undone"⟩) am H5 e z.dd (HAt.more ht5 (Nat.le_succ _)) (fun c o e' _ => s5 _ _ (s02 _ _ e')) (fun d xs e' => s5 _ _ (gd d xs e')) g5 (hrep e) (hnd e) (hln e) (repE_ekv (z' := ⟨z.key, e, z.dd, "undone"⟩) rfl hkn) fun H' h' k' => qb z hz rfl hw H' e h' k'
    . have hvn : valV (ekv en) (Sum.inr ky) = none := by
        have := ekv_val (ky := ky) (en := en)
        rw [decide_eq_false hkn] at this; cases e : valV (ekv en) (Sum.inr ky) with
        | none => rfl
        | some _ => rw [e] at this; cases this
      rw [hvn]; refine ⟨_, SqT.of g2, _, rfl, ?_⟩
      refine ⟨_, SqT.of g2, _, rfl, by simp, fun e H5 s5 g5 => ?_⟩
      have ht5 := ht2.same s5
      refine ⟨C, a.dx, _, .ref a.de, ht5.hp, B.cl, B.nE, hf_e a, a.de, _, rfl, DPut.k (k := Sum.inr ky) ht5.he sz, ?_⟩
      exact put (en ++ [⟨ky, e, none, "undone"⟩]) am H5 e none (HAt.more ht5 (Nat.le_succ _)) (fun c o e' _ => s5 _ _ (s02 _ _ e')) (fun d xs e' => nomatch e') g5 (fun z hz => by rcases Zma.mp hz with h | h; exact .inl h; exact .inr (Zms.mp h)) (by rw [Zap]; exact nd_snoc ht.nde hkn) (by rw [Zla]; have := ht.le; simp; omega) (ekv_snoc (z := ⟨ky, e, none, "undone"⟩) hkn) fun H' h' k' => qa hkn H' e h' k'
end
end KL
namespace KL
open PySem L2
section
variable {P : Program} {w : World} {K : W.Frag} {mg : Str -> Option Value} {base : Heap}
theorem pf2 (x y : V) : putF "closed_names" y [(("amounts" : Str), x)] = [(("amounts" : Str), x), ("closed_names", y)] := by
  unfold putF; rw [if_neg (by decide +kernel)]
  rfl
theorem pf3 (x y z : V) : putF "entries" z [(("amounts" : Str), x), ("closed_names", y)] = [(("amounts" : Str), x), ("closed_names", y), ("entries", z)] := by
  unfold putF; rw [if_neg (by decide +kernel)]
  unfold putF; rw [if_neg (by decide +kernel)]
  rfl
theorem pf4 (x y z v : V) : putF "amounts" v [(("amounts" : Str), x), ("closed_names", y), ("entries", z)] = [(("amounts" : Str), v), ("closed_names", y), ("entries", z)] := by
  unfold putF; rw [if_pos rfl]
theorem ok_hinit_body {C : Addr} (T : Txt K mg) (B : HsT K C) (c_House_close : Mth P w K mg base 1 C "close" ["self", "name"] (spClose C true)) (f : Addr) (cdv : Value) (A : Around) (outer : List Env) (s : Shared) (H : Hp) (vs : List V) (Q : VK) (E : XK)
    (hr : Room 1 (A.deeper (PyProof.Rows.envOfC "House.__init__" (defScope s_House___init__) s.heap.objs.size f cdv))) (h : spHInit C vs H Q E) :
    ∃ t, XB (cxOf CX0 P w K mg base ["self", "rows", "closed", "name"] "House.__init__" (defScope s_House___init__) f cdv A outer s H E).nox (defBody s_House___init__) t /\ t { nx := fun _ H' => Q .non H', rt := Q } (start ["self", "rows", "closed", "name"] vs) H := by
    obtain ⟨p, dx, r, c, prs, cs, rfl, hp, hR, ndp, hpl, hC, hcl, q⟩ := h
    have hr_House_close := hr
    refine ⟨_, (R.scons (R.ksfld (K := K) (R.v 0) R.dnew) (R.scons (R.ksfld (K := K) (R.v 0) R.dnew) (R.scons (R.ksfld (K := K) (R.v 0) R.dnew) (R.scons (R.ife (R.tcmp R.notN (R.v 1) R.non) (R.sone (R.ksfld (K := K) (R.v 0) (R.callTy (R.kdictOf (K := K) rfl) rfl T.b_dict bb_dict (R.cons (R.v 1) R.nil)))) R.snil) (R.sone (R.ife (R.tcmp R.notN (R.v 2) R.non) (R.sone (R.for_ PassesOwn.never rfl (R.kwL (K := K) (R.v 2)) (R.gn (i := 3) sc_House___init__.nd) (R.sone (R.expr (R.meth c_House_close hr_House_close (R.v 0) (R.cons (R.v 3) R.nil)))))) R.snil)))))), ?_⟩
    intro d1 hd1; have np1 := ne_of_none hp hd1
    refine ⟨C, dx, [], (by rw [upd_ne np1]; exact hp), B.cl, B.nA, (by show 0 < 1000; decide), ?_⟩
    have g1 : (upd (upd H d1 (.dK [])) p (.ins C dx [("amounts", .ref d1)])) p = some (.ins C dx [("amounts", .ref d1)]) := upd_same
    have a1 : (upd (upd H d1 (.dK [])) p (.ins C dx [("amounts", .ref d1)])) d1 = some (.dK []) := by rw [upd_ne np1.symm]; exact upd_same
    have k1 : ∀ b o, H b = some o -> b ≠ p -> (upd (upd H d1 (.dK [])) p (.ins C dx [("amounts", .ref d1)])) b = some o := fun b o e hb => by rw [upd_ne hb, upd_ne (ne_of_none e hd1)]; exact e
    dsimp only; rw [put0]; generalize upd (upd H d1 (.dK [])) p (.ins C dx [("amounts", .ref d1)]) = H1 at g1 a1 k1; intro d2 hd2; have np2 := ne_of_none g1 hd2
    refine ⟨C, dx, _, (by rw [upd_ne np2]; exact g1), B.cl, B.nC, (by show 1 < 1000; decide), ?_⟩
    dsimp only; rw [pf2]; have g2 : (upd (upd H1 d2 (.dK [])) p (.ins C dx [("amounts", .ref d1), ("closed_names", .ref d2)])) p = some (.ins C dx [("amounts", .ref d1), ("closed_names", .ref d2)]) := upd_same
    have c2 : (upd (upd H1 d2 (.dK [])) p (.ins C dx [("amounts", .ref d1), ("closed_names", .ref d2)])) d2 = some (.dK []) := by rw [upd_ne np2.symm]; exact upd_same
    have k2 : ∀ b o, H1 b = some o -> b ≠ p -> (upd (upd H1 d2 (.dK [])) p (.ins C dx [("amounts", .ref d1), ("closed_names", .ref d2)])) b = some o := fun b o e hb => by rw [upd_ne hb, upd_ne (ne_of_none e hd2)]; exact e
    have a2 := k2 _ _ a1 np1.symm
    have n12 : d1 ≠ d2 := ne_of_none a1 hd2
    generalize upd (upd H1 d2 (.dK [])) p (.ins C dx [("amounts", .ref d1), ("closed_names", .ref d2)]) = H2 at g2 c2 k2 a2; intro d3 hd3; have np3 := ne_of_none g2 hd3
    refine ⟨C, dx, _, (by rw [upd_ne np3]; exact g2), B.cl, B.nE, (by show 2 < 1000; decide), ?_⟩
    dsimp only; rw [pf3]; have g3 : (upd (upd H2 d3 (.dK [])) p (.ins C dx [("amounts", .ref d1), ("closed_names", .ref d2), ("entries", .ref d3)])) p = some (.ins C dx [("amounts", .ref d1), ("closed_names", .ref d2), ("entries", .ref d3)]) := upd_same
    have e3 : (upd (upd H2 d3 (.dK [])) p (.ins C dx [("amounts", .ref d1), ("closed_names", .ref d2), ("entries", .ref d3)])) d3 = some (.dK []) := by rw [upd_ne np3.symm]; exact upd_same
    have k3 : ∀ b o, H2 b = some o -> b ≠ p -> (upd (upd H2 d3 (.dK [])) p (.ins C dx [("amounts", .ref d1), ("closed_names", .ref d2), ("entries", .ref d3)])) b = some o := fun b o e hb => by rw [upd_ne hb, upd_ne (ne_of_none e hd3)]; exact e
    have a3 := k3 _ _ a2 np1.symm
    have c3 := k3 _ _ c2 np2.symm
    have n13 : d1 ≠ d3 := ne_of_none a2 hd3
    have n23 : d2 ≠ d3 := ne_of_none c2 hd3
    generalize upd (upd H2 d3 (.dK [])) p (.ins C dx [("amounts", .ref d1), ("closed_names", .ref d2), ("entries", .ref d3)]) = H3 at g3 e3 k3 a3 c3; have k03 : ∀ b o, H b = some o -> b ≠ p -> H3 b = some o := fun b o e hb => k3 _ _ (k2 _ _ (k1 _ _ e hb) hb) hb
    have fr2 : H d2 = none := by
      cases e : H d2 with
      | none => rfl
      | some o => rw [k1 _ _ e np2.symm] at hd2; cases hd2
    have fr3 : H d3 = none := by
      cases e : H d3 with
      | none => rfl
      | some o => rw [k2 _ _ (k1 _ _ e np3.symm) np3.symm] at hd3; cases hd3
    refine cutS (t := tIfS _ _ _) (fun σ' H' => σ' = [some (.ref p), some r, some c, none] /\ ∃ a : HF, HAt C H' p a prs (fun _ => false) [] 100 /\ H a.da = none /\ H a.dc = none /\ H a.de = none /\ ∀ b o, H b = some o -> b ≠ p -> H' b = some o) (fun nx hnx => ?_) ?_
    . rcases hR with ⟨rfl, rfl⟩ | ⟨l, zs, rfl, hl, hza, rfl⟩
      . exact hnx _ _ ⟨rfl, ⟨dx, d1, d2, d3⟩, ⟨g3, a3, ⟨[], c3, by decide, fun n => rfl⟩, e3, (fun _ h => nomatch h), List.nodup_nil, List.nodup_nil, by decide, by decide, n12, n13, n23⟩, hd1, fr2, fr3, k03⟩
      . have nl : l ≠ p := ne_of hl hp (fun z => nomatch z)
        have hza3 : ZAt H3 zs := fun z hz => k03 _ _ (hza z hz) (ne_of (hza z hz) hp (fun z => nomatch z))
        refine ⟨wz zs, by rw [wz_ref]; exact SqL.of (k03 _ _ hl nl), wz_at hza3, by unfold wz; rw [Zlm]; rw [Zlm] at hpl; omega, fun d4 hd4 => ?_⟩
        rw [wz_dkv, merge_dkv ndp]; have np4 := ne_of_none g3 hd4
        refine ⟨C, dx, _, (by rw [upd_ne np4]; exact g3), B.cl, B.nA, (by show 3 < 1000; decide), ?_⟩
        rw [pf4]; have fr4 : H d4 = none := by
          cases e : H d4 with
          | none => rfl
          | some o => rw [k03 _ _ e np4.symm] at hd4; cases hd4
        have k4 : ∀ b o, H3 b = some o -> b ≠ p -> (upd (upd H3 d4 (.dK (dkv (zs.map (·.2))))) p (.ins C dx [("amounts", .ref d4), ("closed_names", .ref d2), ("entries", .ref d3)])) b = some o := fun b o e hb => by rw [upd_ne hb, upd_ne (ne_of_none e hd4)]; exact e
        exact hnx _ _ ⟨rfl, ⟨dx, d4, d2, d3⟩, ⟨upd_same, by rw [upd_ne np4.symm]; exact upd_same, ⟨[], k4 _ _ c3 np2.symm, by decide, fun n => rfl⟩, k4 _ _ e3 np3.symm, (fun _ h => nomatch h), ndp, List.nodup_nil, hpl, by decide, (ne_of_none c3 hd4).symm, (ne_of_none e3 hd4).symm, n23⟩, fr4, fr2, fr3, fun b o e hb => k4 _ _ (k03 _ _ e hb) hb⟩
    rintro σ' H4 ⟨rfl, a, ht, f1, f2, f3, k4⟩
    rcases hC with ⟨rfl, rfl⟩ | ⟨l, rfl, hl⟩
    . exact q H4 a f1 f2 f3 ht k4
    have nl : l ≠ p := ne_of hl hp (fun z => nomatch z)
    have nlc : l ≠ a.dc := fun z => by rw [z, f2] at hl; cases hl
    have hl4 := k4 _ _ hl nl
    refine ⟨l, rfl, ⟨_, SqL.of hl4⟩, ?_⟩
    refine for_seq (seq_list K l (cs.map V.str)) (fun i σ H' => (∃ o3 : Option V, σ = [some (.ref p), some r, some (.ref l), o3]) /\ HAt C H' p a prs (fun n => decide (n ∈ cs.take i)) [] (100 + i) /\ ∀ b o, H4 b = some o -> b ≠ a.dc -> H' b = some o) (fun i σ H' ⟨_, _, k⟩ => SqL.of (k _ _ hl4 nlc)) ⟨⟨_, rfl⟩, by simpa using ht, fun b o e _ => e⟩ ?_ ?_
    . rintro i x σ H' hx ⟨⟨o3, rfl⟩, ht', k'⟩
      rw [Zgm] at hx; cases hn : cs[i]? with
      | none => rw [hn] at hx; cases hx
      | some nm =>
        rw [hn] at hx; cases hx
        have hi : i < cs.length := (Zgs.mp hn).1
        dsimp only [gName]; refine ⟨a.dx, _, ht'.hp, hf_no a (by decide +kernel) (by decide +kernel) (by decide +kernel), p, a, prs, _, [], 100 + i, nm, rfl, ht', by omega, fun H'' ht'' k'' => ⟨⟨_, rfl⟩, ?_, fun b o e hb => k'' _ _ (k' _ _ e hb) hb⟩⟩
        have : (fun m => if m = nm then true else decide (m ∈ cs.take i)) = fun m => decide (m ∈ cs.take (i + 1)) := by
          funext m
          rw [List.take_succ, hn]; by_cases e : m = nm
          . rw [if_pos e, e]; simp
          . rw [if_neg e]; simp [e]
        rw [this] at ht''; exact ht''
    . rintro σ H' ⟨⟨o3, rfl⟩, ht', k'⟩
      rw [Zlm, List.take_length] at ht'; refine q H' a f1 f2 f3 ht' fun b o e hb => k' _ _ (k4 _ _ e hb) fun z => ?_
      rw [z, f2] at e; cases e
theorem ok_hinit {C : Addr} (T : Txt K mg) (B : HsT K C) (c_House_close : Mth P w K mg base 1 C "close" ["self", "name"] (spClose C true)) (D : ClsAt K mg "House" C "House.__init__" s_House___init__ ["self", "rows", "closed"] [[.non]]) : ∀ d ∈ ([[.non]] : List (List V)), Mkr P w K mg base 2 "House" C ["self", "rows", "closed"] d (spHInit C) :=
  D.go sc_House___init__ (fun vs H Q E h => by obtain ⟨p, dx, r, c, prs, cs, rfl, _⟩ := h; rfl) fun f cdv A outer s H vs Q E hr h => ok_hinit_body T B c_House_close f cdv A outer s H vs Q E hr h
def rowsNZ (ks : List Str) (g : Str -> Int) : List (Str × Int) := ((srt ks).filter fun n => decide (g n ≠ 0)).map fun n => (n, g n)
def spHRows (C : Addr) : Sp := fun vs H Q _ => ∃ p a am cl en L, vs = [.ref p] /\ HAt C H p a am cl en L /\ am.length < 64 /\ ∀ l zs H', Same H H' -> H l = none -> H' l = some (.lst (zref zs)) -> ZAt H' zs -> zs.map (·.2) = rowsNZ (am.map (·.1)) (amt am) -> Q (.ref l) H'
theorem take_snoc' {α : Type} {xs : List α} {i : Nat} {x : α} (h : xs[i]? = some x) : xs.take (i + 1) = xs.take i ++ [x] := by
  rw [List.take_succ, h]; rfl
theorem dget_amt {prs : List (Str × Int)} {H : Hp} {k : Addr} {m : Str} (h : H k = some (.dK (dkv prs))) (hm : m ∈ prs.map (·.1)) : DGet H k (.str m) (some (.int (amt prs m))) := by
  obtain ⟨a, ha⟩ := has_lookup hm
  have := DGet.k (k := Sum.inr m) h
  rw [dkv_val, ha] at this; have e : amt prs m = a := by unfold amt; rw [ha]; rfl
  rw [e]; exact this
theorem ok_hrows {C : Addr} (T : Txt K mg) (B : HsT K C) (D : MethAt K C "rows" "House.rows" s_House_rows ["self"]) : Mth P w K mg base 1 C "rows" ["self"] (spHRows C) := by
  refine D.go sc_House_rows (fun vs H Q E h => ?_) (fun f cdv A outer s H vs Q E hr h => ?_)
  . obtain ⟨p, a, am, cl, en, L, rfl, _⟩ := h; rfl
  . obtain ⟨p, a, am, cl, en, L, rfl, ht, h64, q⟩ := h
    have hu1 := hu_of hr
    refine ⟨_, (R.sone (R.ret (R.comp rfl (js := [none, some 0]) (N := ["name", "self"]) (CompScope.by (defScope s_House_rows) ["self"] rfl rfl (by decide +kernel)) (gown_name rfl) (R.kwL (K := K) (R.callB (R.sortedD rfl) rfl T.b_sorted bb_sorted (R.cons (R.kfld (K := K) (R.v 0)) R.nil))) (fun C s₂ H₂ fp => ⟨(R.gn (i := 0) (show (["name", "self"] : List Str).Nodup by decide +kernel)), (R.ts1 (R.tcmp R.ne (R.dix hu1 (R.kfld (K := K) (R.v 1)) (R.v 0)) R.int)), (R.tup (R.cons (R.v 0) (R.cons (R.dix hu1 (R.kfld (K := K) (R.v 1)) (R.v 0)) R.nil)))⟩)))), ?_⟩
    refine ⟨C, a.dx, _, .ref a.da, ht.hp, B.cl, B.nA, hf_a a, am.map (·.1), _, .inl ht.ha, dkv_keys am, by rw [Zlm]; exact h64, fun l hl => ⟨l, rfl, ⟨_, SqL.of upd_same⟩, ?_⟩⟩
    have s1 : Same H (upd H l (.lst ((srt (am.map (·.1))).map V.str))) := same_upd hl
    have g1 : (upd H l (.lst ((srt (am.map (·.1))).map V.str))) l = some (.lst ((srt (am.map (·.1))).map V.str)) := upd_same
    generalize upd H l (.lst ((srt (am.map (·.1))).map V.str)) = H1 at s1 g1; have hlen : (srt (am.map (·.1))).length < 64 := by rw [srt_len, Zlm]; exact h64
    refine comp_seq (seq_list K l ((srt (am.map (·.1))).map V.str)) (by rw [Zlm]; omega) (fun i ys H' => ∃ zs : List Z, ys = zref zs /\ Same H1 H' /\ ZAt H' zs /\ zs.length <= i /\ zs.map (·.2) = (((srt (am.map (·.1))).take i).filter fun n => decide (amt am n ≠ 0)).map fun n => (n, amt am n))
      (fun i ys H' ⟨zs, e, s', _, hl', _⟩ => ⟨SqL.of (s' _ _ g1), by rw [e]; unfold zref; rw [Zlm]; exact hl'⟩) ⟨[], rfl, Same.refl _, (fun _ h => nomatch h), Znr _, rfl⟩ (fun i x ys H' hx ⟨zs, e, s', hza, hzl, hzm⟩ => ?_) (fun ys H' ⟨zs, e, s', hza, hzl, hzm⟩ => ?_)
    . rw [Zgm] at hx; cases hn : (srt (am.map (·.1)))[i]? with
      | none => rw [hn] at hx; cases hx
      | some n =>
        rw [hn] at hx; cases hx
        have hmem : n ∈ am.map (·.1) := (srt_perm _).mem_iff.mp (Zmg hn)
        have ht' := ht.same (s1.trans s')
        have gd := dget_amt ht'.ha hmem
        refine ⟨C, a.dx, _, .ref a.da, ht'.hp, B.cl, B.nA, hf_a a, a.da, _, rfl, gd, ?_⟩
        show if (!decide (amt am n = 0)) = true then _ else _
        refine if_b (fun hb => ?_) (fun hb => ?_)
        . refine ⟨C, a.dx, _, .ref a.da, ht'.hp, B.cl, B.nA, hf_a a, a.da, _, rfl, gd, szl rfl, fun t tt => ⟨zs ++ [(t, n, amt am n)], by rw [e]; unfold zref; rw [Zap]; rfl, s'.trans (same_upd tt), ?_, by rw [Zla]; simpa using hzl, ?_⟩⟩
          . intro z hz'; rcases Zma.mp hz' with m | m
            . exact (hza.same (same_upd tt)) z m
            . rw [Zms.mp m]; exact upd_same
          . rw [Zap, hzm, take_snoc' hn, List.filter_append, Zap]; congr 1
            rw [List.filter_cons, if_pos (by simpa using hb)]
            rfl
        . refine ⟨zs, e, s', hza, by omega, ?_⟩
          rw [hzm, take_snoc' hn, List.filter_append, List.filter_cons, if_neg (by simpa using hb)]
          simp
    . intro l2 hl2; subst e; refine q l2 zs _ (s1.trans (s'.trans (same_upd hl2))) ?_ upd_same (hza.same (same_upd hl2)) ?_
      . exact s1.free (s'.free hl2)
      . rw [hzm, Zlm, List.take_length]; rfl
def dT : Option (Addr × List V) -> TV
  | none => .sc .non
  | some q => .tp (q.2.map .sc)
def keptT (en : List EN) (k : Str) : TV := match en.find? (fun z => decide (z.key = k)) with | some z => .tp [tS z.key, dT z.dd, tS z.word] | none => .sc .non
def DdSc (en : List EN) : Prop := ∀ z ∈ en, ∀ d xs, z.dd = some (d, xs) -> ∀ y ∈ xs, isSc y = true
theorem rep_dd {H : Hp} {z : EN} (h : ∀ d xs, z.dd = some (d, xs) -> H d = some (.tup xs)) (hs : ∀ d xs, z.dd = some (d, xs) -> ∀ y ∈ xs, isSc y = true) : Rep H 1 (dT z.dd) (dvV z.dd) := by
  cases e : z.dd with
  | none => exact Rep.scal rfl
  | some q => exact ⟨q.1, q.2, rfl, h q.1 q.2 e, repSc (hs q.1 q.2 e)⟩
def spHKept (C : Addr) : Sp := fun vs H Q _ => ∃ p a am cl en L, vs = [.ref p] /\ HAt C H p a am cl en L /\ en.length < 64 /\ DdSc en /\ ∀ l us H', Same H H' -> H l = none -> H' l = some (.lst us) -> Paired (Rep H' 2) ((srt (en.map (·.key))).map (keptT en)) us -> Q (.ref l) H'
theorem find_key {z : EN} : ∀ {en : List EN}, (en.map (·.key)).Nodup -> z ∈ en -> en.find? (fun y => decide (y.key = z.key)) = some z
  | y :: r, hn, h => by
    obtain ⟨h1, h2⟩ := List.nodup_cons.mp hn
    rw [List.find?_cons]; rcases List.mem_cons.mp h with rfl | h
    . simp
    . have : ¬ y.key = z.key := fun e => h1 (by show y.key ∈ _; rw [e]; exact Zmm.mpr ⟨z, h, rfl⟩)
      rw [decide_eq_false this]; exact find_key h2 h
theorem psnoc {α β : Type} {R : α -> β -> Prop} {xs : List α} {ys : List β} {x : α} {y : β} (h : Paired R xs ys) (r : R x y) : Paired R (xs ++ [x]) (ys ++ [y]) := by
  induction h with
  | nil => exact .cons r .nil
  | cons h t ih => exact .cons h ih
theorem ekv_keys (en : List EN) : (ekv en).map (·.1) = (en.map (·.key)).map Sum.inr := by
  unfold ekv; rw [List.map_map, List.map_map]; rfl
theorem ok_hkept {C : Addr} (T : Txt K mg) (B : HsT K C) (D : MethAt K C "kept" "House.kept" s_House_kept ["self"]) : Mth P w K mg base 1 C "kept" ["self"] (spHKept C) := by
  refine D.go sc_House_kept (fun vs H Q E h => ?_) (fun f cdv A outer s H vs Q E hr h => ?_)
  . obtain ⟨p, a, am, cl, en, L, rfl, _⟩ := h; rfl
  . obtain ⟨p, a, am, cl, en, L, rfl, ht, h64, hsc, q⟩ := h
    have hu1 := hu_of hr
    refine ⟨_, (R.sone (R.ret (R.comp rfl (js := [none, some 0]) (N := ["key", "self"]) (CompScope.by (defScope s_House_kept) ["self"] rfl rfl (by decide +kernel)) (gown_name rfl) (R.kwL (K := K) (R.callB (R.sortedD rfl) rfl T.b_sorted bb_sorted (R.cons (R.kfld (K := K) (R.v 0)) R.nil))) (fun C s₂ H₂ fp => ⟨(R.gn (i := 0) (show (["key", "self"] : List Str).Nodup by decide +kernel)), R.ts0, (R.tup (R.cons (R.v 0) (R.cons (R.ix (R.kiT (K := K)) (R.dix hu1 (R.kfld (K := K) (R.v 1)) (R.v 0)) R.int) (R.cons (R.ix (R.kiT (K := K)) (R.dix hu1 (R.kfld (K := K) (R.v 1)) (R.v 0)) R.int) R.nil))))⟩)))), ?_⟩
    refine ⟨C, a.dx, _, .ref a.de, ht.hp, B.cl, B.nE, hf_e a, en.map (·.key), _, .inl ht.he, ekv_keys en, by rw [Zlm]; exact h64, fun l hl => ⟨l, rfl, ⟨_, SqL.of upd_same⟩, ?_⟩⟩
    have s1 : Same H (upd H l (.lst ((srt (en.map (·.key))).map V.str))) := same_upd hl
    have g1 : (upd H l (.lst ((srt (en.map (·.key))).map V.str))) l = some (.lst ((srt (en.map (·.key))).map V.str)) := upd_same
    generalize upd H l (.lst ((srt (en.map (·.key))).map V.str)) = H1 at s1 g1; have hlen : (srt (en.map (·.key))).length < 64 := by rw [srt_len, Zlm]; exact h64
    refine comp_seq (seq_list K l ((srt (en.map (·.key))).map V.str)) (by rw [Zlm]; omega) (fun i ys H' => Same H1 H' /\ ys.length = ((srt (en.map (·.key))).take i).length /\ Paired (Rep H' 2) (((srt (en.map (·.key))).take i).map (keptT en)) ys)
      (fun i ys H' ⟨s', e, _⟩ => ⟨SqL.of (s' _ _ g1), by rw [e, Zlk]; exact Nat.min_le_left _ _⟩) ⟨Same.refl _, rfl, .nil⟩ (fun i x ys H' hx ⟨s', e, pr⟩ => ?_) (fun ys H' ⟨s', e, pr⟩ => ?_)
    . rw [Zgm] at hx; cases hn : (srt (en.map (·.key)))[i]? with
      | none => rw [hn] at hx; cases hx
      | some ky =>
        rw [hn] at hx; cases hx
        obtain ⟨z, hz, rfl⟩ := Zmm.mp ((srt_perm _).mem_iff.mp (Zmg hn))
        have ht' := ht.same (s1.trans s')
        have gd : DGet H' a.de (.str z.key) (some (.ref z.ent)) := by
          have := DGet.k (k := Sum.inr z.key) ht'.he
          rw [ekv_at ht.nde hz] at this; exact this
        have ge := (ht'.ents z hz).1
        refine ⟨C, a.dx, _, .ref a.de, ht'.hp, B.cl, B.nE, hf_e a, a.de, _, rfl, gd, _, SqT.of ge, _, rfl, C, a.dx, _, .ref a.de, ht'.hp, B.cl, B.nE, hf_e a, a.de, _, rfl, gd, _, SqT.of ge, _, rfl, szl rfl, fun t tt => ⟨s'.trans (same_upd tt), ?_, ?_⟩⟩
        . rw [take_snoc' hn, Zla, Zla, e]; rfl
        . rw [take_snoc' hn, Zap]; refine psnoc (Paired.map' (fun _ _ h => h.same (same_upd tt)) pr) ?_
          have ek : keptT en z.key = .tp [tS z.key, dT z.dd, tS z.word] := by
            unfold keptT; rw [find_key ht.nde hz]
          rw [ek]; exact ⟨t, _, rfl, upd_same, .cons (Rep.scal rfl) (.cons (rep_dd (fun d xs e => same_upd tt _ _ ((ht'.ents z hz).2 d xs e)) (hsc z hz)) (.cons (Rep.scal rfl) .nil))⟩
    . intro l2 hl2; rw [Zlm, List.take_length] at pr; exact q l2 ys _ (s1.trans (s'.trans (same_upd hl2))) (s1.free (s'.free hl2)) upd_same (Paired.map' (fun _ _ h => h.same (same_upd hl2)) pr)
end
end KL
namespace KL
open PySem L2
section
variable {P : Program} {w : World} {K : W.Frag} {mg : Str -> Option Value} {base : Heap}
structure Marks (K : W.Frag) (mg : Str -> Option Value) (a0 a1 a2 a3 a4 a5 a6 a7 a8 a9 a10 a11 a12 a13 a14 a15 a16 a17 : Addr) : Prop where
  m_NoDeed : mg "NoDeed" = some (.ref a0)
  m_NoKey : mg "NoKey" = some (.ref a1)
  m_Other : mg "Other" = some (.ref a2)
  m_NoRow : mg "NoRow" = some (.ref a3)
  m_NoAsk : mg "NoAsk" = some (.ref a4)
  m_NoJournal : mg "NoJournal" = some (.ref a5)
  m_Busy : mg "Busy" = some (.ref a6)
  m_NoName : mg "NoName" = some (.ref a7)
  m_Late : mg "Late" = some (.ref a8)
  m_Down : mg "Down" = some (.ref a9)
  m_Up : mg "Up" = some (.ref a10)
  m_Unsafe : mg "Unsafe" = some (.ref a11)
  m_NoNumber : mg "NoNumber" = some (.ref a12)
  m_NoWay : mg "NoWay" = some (.ref a13)
  m_NoLine : mg "NoLine" = some (.ref a14)
  m_NoChange : mg "NoChange" = some (.ref a15)
  m_NoHouse : mg "NoHouse" = some (.ref a16)
  m_NoRows : mg "NoRows" = some (.ref a17)
structure MarkB (K : W.Frag) (C a0 a1 a2 a3 a4 a5 a6 a7 a8 a9 a10 a11 a12 a13 a14 a15 a16 a17 : Addr) (b : Nat -> Bool) (ix : Nat) (wd : Str) : Prop where
  xk : XKind K C
  k0 : W.kitOne K (.ref C) (.ref a0) = some (b 0)
  k1 : W.kitOne K (.ref C) (.ref a1) = some (b 1)
  k2 : W.kitOne K (.ref C) (.ref a2) = some (b 2)
  k3 : W.kitOne K (.ref C) (.ref a3) = some (b 3)
  k4 : W.kitOne K (.ref C) (.ref a4) = some (b 4)
  k5 : W.kitOne K (.ref C) (.ref a5) = some (b 5)
  k6 : W.kitOne K (.ref C) (.ref a6) = some (b 6)
  k7 : W.kitOne K (.ref C) (.ref a7) = some (b 7)
  k8 : W.kitOne K (.ref C) (.ref a8) = some (b 8)
  k9 : W.kitOne K (.ref C) (.ref a9) = some (b 9)
  k10 : W.kitOne K (.ref C) (.ref a10) = some (b 10)
  k11 : W.kitOne K (.ref C) (.ref a11) = some (b 11)
  k12 : W.kitOne K (.ref C) (.ref a12) = some (b 12)
  k13 : W.kitOne K (.ref C) (.ref a13) = some (b 13)
  k14 : W.kitOne K (.ref C) (.ref a14) = some (b 14)
  k15 : W.kitOne K (.ref C) (.ref a15) = some (b 15)
  k16 : W.kitOne K (.ref C) (.ref a16) = some (b 16)
  k17 : W.kitOne K (.ref C) (.ref a17) = some (b 17)
  kV : W.kitOne K (.ref C) (.type "ValueError") = some true
  cnt : ([b 0, b 1, b 2, b 3, b 4, b 5, b 6, b 7, b 8, b 9, b 10, b 11, b 12, b 13, b 14, b 15, b 16, b 17].count true : Int) = 1
  at_ : [b 0, b 1, b 2, b 3, b 4, b 5, b 6, b 7, b 8, b 9, b 10, b 11, b 12, b 13, b 14, b 15, b 16, b 17][ix]? = some true
  no : ∀ m, m < ix -> b m = false
  lt : ix < 7
  w : [V.str "deed", .str "key", .str "other", .str "row", .str "ask", .str "journal", .str "busy"][ix]? = some (.str wd)
def spMark (K : W.Frag) (a0 a1 a2 a3 a4 a5 a6 a7 a8 a9 a10 a11 a12 a13 a14 a15 a16 a17 : Addr) : Sp := fun vs H Q _ => ∃ (a C : Addr) (od : Option Addr) (b : Nat -> Bool) (ix : Nat) (wd : Str), vs = [.ref a] /\ H a = some (.ext (ExcO a (.ref C) od)) /\ MarkB K C a0 a1 a2 a3 a4 a5 a6 a7 a8 a9 a10 a11 a12 a13 a14 a15 a16 a17 b ix wd /\ ∀ p H', Same H H' -> H' p = some (.tup [.str "refused", .str wd]) -> Q (.ref p) H'
theorem ok_mark {a0 a1 a2 a3 a4 a5 a6 a7 a8 a9 a10 a11 a12 a13 a14 a15 a16 a17 : Addr} (T : Txt K mg) (M : Marks K mg a0 a1 a2 a3 a4 a5 a6 a7 a8 a9 a10 a11 a12 a13 a14 a15 a16 a17) (D : DefAt K mg "_law_mark" s_law_mark ["_law_error"]) : CalleeH P w K mg base 1 "_law_mark" ["_law_error"] (spMark K a0 a1 a2 a3 a4 a5 a6 a7 a8 a9 a10 a11 a12 a13 a14 a15 a16 a17) := by
  have M_NoDeed := M.m_NoDeed
  have M_NoKey := M.m_NoKey
  have M_Other := M.m_Other
  have M_NoRow := M.m_NoRow
  have M_NoAsk := M.m_NoAsk
  have M_NoJournal := M.m_NoJournal
  have M_Busy := M.m_Busy
  have M_NoName := M.m_NoName
  have M_Late := M.m_Late
  have M_Down := M.m_Down
  have M_Up := M.m_Up
  have M_Unsafe := M.m_Unsafe
  have M_NoNumber := M.m_NoNumber
  have M_NoWay := M.m_NoWay
  have M_NoLine := M.m_NoLine
  have M_NoChange := M.m_NoChange
  have M_NoHouse := M.m_NoHouse
  have M_NoRows := M.m_NoRows
  refine D.goH sc_law_mark (fun vs H Q E h => ?_) (fun f cdv A outer s H vs Q hr h => ?_)
  . obtain ⟨a, C, od, b, ix, wd, rfl, _⟩ := h; rfl
  . obtain ⟨a, C, od, b, ix, wd, rfl, ga, B, q⟩ := h
    have hu : A.units + 3 < cLine := by have := hr.2; have e : (A.deeper (PyProof.Rows.envOfC "_law_mark" (defScope s_law_mark) s.heap.objs.size f cdv)).units = A.units + 3 := rfl; omega
    refine ⟨_, (R.scons (R.set (i := 1) sc_law_mark.nd (R.lst (R.cons (R.callB (R.kisX (K := K)) rfl T.b_isinstance bb_isinstance (R.cons (R.v 0) (R.cons (R.gR rfl M_NoDeed) R.nil))) (R.cons (R.callB (R.kisX (K := K)) rfl T.b_isinstance bb_isinstance (R.cons (R.v 0) (R.cons (R.gR rfl M_NoKey) R.nil))) (R.cons (R.callB (R.kisX (K := K)) rfl T.b_isinstance bb_isinstance (R.cons (R.v 0) (R.cons (R.gR rfl M_Other) R.nil))) (R.cons (R.callB (R.kisX (K := K)) rfl T.b_isinstance bb_isinstance (R.cons (R.v 0) (R.cons (R.gR rfl M_NoRow) R.nil))) R.nil)))))) (R.scons (R.set (i := 1) sc_law_mark.nd (R.op R.cat (R.v 1) (R.lst (R.cons (R.callB (R.kisX (K := K)) rfl T.b_isinstance bb_isinstance (R.cons (R.v 0) (R.cons (R.gR rfl M_NoAsk) R.nil))) (R.cons (R.callB (R.kisX (K := K)) rfl T.b_isinstance bb_isinstance (R.cons (R.v 0) (R.cons (R.gR rfl M_NoJournal) R.nil))) (R.cons (R.callB (R.kisX (K := K)) rfl T.b_isinstance bb_isinstance (R.cons (R.v 0) (R.cons (R.gR rfl M_Busy) R.nil))) R.nil)))))) (R.scons (R.set (i := 1) sc_law_mark.nd (R.op R.cat (R.v 1) (R.lst (R.cons (R.callB (R.kisX (K := K)) rfl T.b_isinstance bb_isinstance (R.cons (R.v 0) (R.cons (R.gR rfl M_NoName) R.nil))) (R.cons (R.callB (R.kisX (K := K)) rfl T.b_isinstance bb_isinstance (R.cons (R.v 0) (R.cons (R.gR rfl M_Late) R.nil))) (R.cons (R.callB (R.kisX (K := K)) rfl T.b_isinstance bb_isinstance (R.cons (R.v 0) (R.cons (R.gR rfl M_Down) R.nil))) (R.cons (R.callB (R.kisX (K := K)) rfl T.b_isinstance bb_isinstance (R.cons (R.v 0) (R.cons (R.gR rfl M_Up) R.nil))) R.nil))))))) (R.scons (R.set (i := 1) sc_law_mark.nd (R.op R.cat (R.v 1) (R.lst (R.cons (R.callB (R.kisX (K := K)) rfl T.b_isinstance bb_isinstance (R.cons (R.v 0) (R.cons (R.gR rfl M_Unsafe) R.nil))) (R.cons (R.callB (R.kisX (K := K)) rfl T.b_isinstance bb_isinstance (R.cons (R.v 0) (R.cons (R.gR rfl M_NoNumber) R.nil))) (R.cons (R.callB (R.kisX (K := K)) rfl T.b_isinstance bb_isinstance (R.cons (R.v 0) (R.cons (R.gR rfl M_NoWay) R.nil))) R.nil)))))) (R.scons (R.set (i := 1) sc_law_mark.nd (R.op R.cat (R.v 1) (R.lst (R.cons (R.callB (R.kisX (K := K)) rfl T.b_isinstance bb_isinstance (R.cons (R.v 0) (R.cons (R.gR rfl M_NoLine) R.nil))) (R.cons (R.callB (R.kisX (K := K)) rfl T.b_isinstance bb_isinstance (R.cons (R.v 0) (R.cons (R.gR rfl M_NoChange) R.nil))) (R.cons (R.callB (R.kisX (K := K)) rfl T.b_isinstance bb_isinstance (R.cons (R.v 0) (R.cons (R.gR rfl M_NoHouse) R.nil))) R.nil)))))) (R.scons (R.set (i := 1) sc_law_mark.nd (R.op R.cat (R.v 1) (R.lst (R.cons (R.callB (R.kisX (K := K)) rfl T.b_isinstance bb_isinstance (R.cons (R.v 0) (R.cons (R.gR rfl M_NoRows) R.nil))) R.nil)))) (R.scons (R.ife (R.tw (R.wor (R.tnot (R.val (R.callB (R.kisX (K := K)) rfl T.b_isinstance bb_isinstance (R.cons (R.v 0) (R.cons (R.bty rfl T.b_ValueError bb_ValueError) R.nil))))) (R.wor1 (R.tcmp R.ne (R.kbm (K := K) PySem.F.plainAttrs_list PySem.F.slot_list_count PySem.F.type_list_count R.countB (R.v 1) (R.cons R.bl R.nil)) R.int)))) (R.sone (R.ret (R.wtup (R.cons R.str (R.cons R.str R.nil))))) R.snil) (R.sone (R.ret (R.wtup (R.cons R.str (R.cons (R.ix (R.kiL (K := K)) (R.op R.cat (R.lst (R.cons R.str (R.cons R.str (R.cons R.str (R.cons R.str (R.cons R.str (R.cons R.str (R.cons R.str R.nil)))))))) (R.op R.rep (R.lst (R.cons R.str R.nil)) R.int)) (R.kbm (K := K) PySem.F.plainAttrs_list PySem.F.slot_list_index PySem.F.type_list_index R.indexB (R.v 1) (R.cons R.bl R.nil))) R.nil)))))))))))), ?_⟩
    refine ⟨C, b 0, od, ga, B.xk, .inr B.k0, C, b 1, od, ga, B.xk, .inr B.k1, C, b 2, od, ga, B.xk, .inr B.k2, C, b 3, od, ga, B.xk, .inr B.k3, szl rfl, fun l0 h0 => ?_⟩
    dsimp only [gName]; obtain ⟨H0, e0⟩ : ∃ H0, H0 = upd H l0 (.lst [.bl (b 0), .bl (b 1), .bl (b 2), .bl (b 3)]) := ⟨_, rfl⟩
    have s0 : Same H H0 := e0 ▸ same_upd h0
    have g0 : H0 l0 = some (.lst [.bl (b 0), .bl (b 1), .bl (b 2), .bl (b 3)]) := e0 ▸ upd_same
    rw [<- e0]; clear e0; have ga0 := s0 _ _ ga
    refine ⟨C, b 4, od, ga0, B.xk, .inr B.k4, C, b 5, od, ga0, B.xk, .inr B.k5, C, b 6, od, ga0, B.xk, .inr B.k6, szl rfl, fun m1 hm1 => ⟨_, _, same_upd hm1 _ _ g0, upd_same, szl rfl, fun l1 h1 => ?_⟩⟩
    dsimp only [gName, List.cons_append, List.nil_append]; obtain ⟨H1, e1⟩ : ∃ H1, H1 = upd (upd H0 m1 (.lst [.bl (b 4), .bl (b 5), .bl (b 6)])) l1 (.lst [.bl (b 0), .bl (b 1), .bl (b 2), .bl (b 3), .bl (b 4), .bl (b 5), .bl (b 6)]) := ⟨_, rfl⟩
    have s1 : Same H H1 := e1 ▸ s0.trans ((same_upd hm1).trans (same_upd h1))
    have g1 : H1 l1 = some (.lst [.bl (b 0), .bl (b 1), .bl (b 2), .bl (b 3), .bl (b 4), .bl (b 5), .bl (b 6)]) := e1 ▸ upd_same
    rw [<- e1]; clear e1; have ga1 := s1 _ _ ga
    refine ⟨C, b 7, od, ga1, B.xk, .inr B.k7, C, b 8, od, ga1, B.xk, .inr B.k8, C, b 9, od, ga1, B.xk, .inr B.k9, C, b 10, od, ga1, B.xk, .inr B.k10, szl rfl, fun m2 hm2 => ⟨_, _, same_upd hm2 _ _ g1, upd_same, szl rfl, fun l2 h2 => ?_⟩⟩
    dsimp only [gName, List.cons_append, List.nil_append]; obtain ⟨H2, e2⟩ : ∃ H2, H2 = upd (upd H1 m2 (.lst [.bl (b 7), .bl (b 8), .bl (b 9), .bl (b 10)])) l2 (.lst [.bl (b 0), .bl (b 1), .bl (b 2), .bl (b 3), .bl (b 4), .bl (b 5), .bl (b 6), .bl (b 7), .bl (b 8), .bl (b 9), .bl (b 10)]) := ⟨_, rfl⟩
    have s2 : Same H H2 := e2 ▸ s1.trans ((same_upd hm2).trans (same_upd h2))
    have g2 : H2 l2 = some (.lst [.bl (b 0), .bl (b 1), .bl (b 2), .bl (b 3), .bl (b 4), .bl (b 5), .bl (b 6), .bl (b 7), .bl (b 8), .bl (b 9), .bl (b 10)]) := e2 ▸ upd_same
    rw [<- e2]; clear e2; have ga2 := s2 _ _ ga
    refine ⟨C, b 11, od, ga2, B.xk, .inr B.k11, C, b 12, od, ga2, B.xk, .inr B.k12, C, b 13, od, ga2, B.xk, .inr B.k13, szl rfl, fun m3 hm3 => ⟨_, _, same_upd hm3 _ _ g2, upd_same, szl rfl, fun l3 h3 => ?_⟩⟩
    dsimp only [gName, List.cons_append, List.nil_append]; obtain ⟨H3, e3⟩ : ∃ H3, H3 = upd (upd H2 m3 (.lst [.bl (b 11), .bl (b 12), .bl (b 13)])) l3 (.lst [.bl (b 0), .bl (b 1), .bl (b 2), .bl (b 3), .bl (b 4), .bl (b 5), .bl (b 6), .bl (b 7), .bl (b 8), .bl (b 9), .bl (b 10), .bl (b 11), .bl (b 12), .bl (b 13)]) := ⟨_, rfl⟩
    have s3 : Same H H3 := e3 ▸ s2.trans ((same_upd hm3).trans (same_upd h3))
    have g3 : H3 l3 = some (.lst [.bl (b 0), .bl (b 1), .bl (b 2), .bl (b 3), .bl (b 4), .bl (b 5), .bl (b 6), .bl (b 7), .bl (b 8), .bl (b 9), .bl (b 10), .bl (b 11), .bl (b 12), .bl (b 13)]) := e3 ▸ upd_same
    rw [<- e3]; clear e3; have ga3 := s3 _ _ ga
    refine ⟨C, b 14, od, ga3, B.xk, .inr B.k14, C, b 15, od, ga3, B.xk, .inr B.k15, C, b 16, od, ga3, B.xk, .inr B.k16, szl rfl, fun m4 hm4 => ⟨_, _, same_upd hm4 _ _ g3, upd_same, szl rfl, fun l4 h4 => ?_⟩⟩
    dsimp only [gName, List.cons_append, List.nil_append]; obtain ⟨H4, e4⟩ : ∃ H4, H4 = upd (upd H3 m4 (.lst [.bl (b 14), .bl (b 15), .bl (b 16)])) l4 (.lst [.bl (b 0), .bl (b 1), .bl (b 2), .bl (b 3), .bl (b 4), .bl (b 5), .bl (b 6), .bl (b 7), .bl (b 8), .bl (b 9), .bl (b 10), .bl (b 11), .bl (b 12), .bl (b 13), .bl (b 14), .bl (b 15), .bl (b 16)]) := ⟨_, rfl⟩
    have s4 : Same H H4 := e4 ▸ s3.trans ((same_upd hm4).trans (same_upd h4))
    have g4 : H4 l4 = some (.lst [.bl (b 0), .bl (b 1), .bl (b 2), .bl (b 3), .bl (b 4), .bl (b 5), .bl (b 6), .bl (b 7), .bl (b 8), .bl (b 9), .bl (b 10), .bl (b 11), .bl (b 12), .bl (b 13), .bl (b 14), .bl (b 15), .bl (b 16)]) := e4 ▸ upd_same
    rw [<- e4]; clear e4; have ga4 := s4 _ _ ga
    refine ⟨C, b 17, od, ga4, B.xk, .inr B.k17, szl rfl, fun m5 hm5 => ⟨_, _, same_upd hm5 _ _ g4, upd_same, szl rfl, fun l5 h5 => ?_⟩⟩
    dsimp only [gName, List.cons_append, List.nil_append]; obtain ⟨H5, e5⟩ : ∃ H5, H5 = upd (upd H4 m5 (.lst [.bl (b 17)])) l5 (.lst [.bl (b 0), .bl (b 1), .bl (b 2), .bl (b 3), .bl (b 4), .bl (b 5), .bl (b 6), .bl (b 7), .bl (b 8), .bl (b 9), .bl (b 10), .bl (b 11), .bl (b 12), .bl (b 13), .bl (b 14), .bl (b 15), .bl (b 16), .bl (b 17)]) := ⟨_, rfl⟩
    have s5 : Same H H5 := e5 ▸ s4.trans ((same_upd hm5).trans (same_upd h5))
    have g5 : H5 l5 = some (.lst [.bl (b 0), .bl (b 1), .bl (b 2), .bl (b 3), .bl (b 4), .bl (b 5), .bl (b 6), .bl (b 7), .bl (b 8), .bl (b 9), .bl (b 10), .bl (b 11), .bl (b 12), .bl (b 13), .bl (b 14), .bl (b 15), .bl (b 16), .bl (b 17)]) := e5 ▸ upd_same
    rw [<- e5]; clear e5; have ga5 := s5 _ _ ga
    refine ⟨C, true, od, ga5, B.xk, B.kV, ?_⟩
    refine ⟨.inl ⟨rfl, _, SqL.of g5⟩, [b 0, b 1, b 2, b 3, b 4, b 5, b 6, b 7, b 8, b 9, b 10, b 11, b 12, b 13, b 14, b 15, b 16, b 17], g5, ?_⟩
    show if (!decide (([b 0, b 1, b 2, b 3, b 4, b 5, b 6, b 7, b 8, b 9, b 10, b 11, b 12, b 13, b 14, b 15, b 16, b 17].count true : Int) = 1)) = true then _ else _
    rw [decide_eq_true B.cnt, if_neg (by decide)]
    refine ⟨szl rfl, fun l6 h6 => ⟨szl rfl, fun l7 h7 => ⟨_, upd_same, by decide, by decide, by decide, fun l8 h8 => ⟨_, _, at_upd (at_upd upd_same h7) h8, upd_same, szl' (by decide), fun l9 h9 => ?_⟩⟩⟩⟩
    have s9 := ((same_upd (o := .lst [.str "deed", .str "key", .str "other", .str "row", .str "ask", .str "journal", .str "busy"]) h6).trans (same_upd (o := .lst [.str "else"]) h7)).trans ((same_upd (o := .lst (List.replicate (11 : Int).toNat [V.str "else"]).flatten) h8).trans (same_upd (o := .lst ([V.str "deed", .str "key", .str "other", .str "row", .str "ask", .str "journal", .str "busy"] ++ (List.replicate (11 : Int).toNat [V.str "else"]).flatten)) h9))
    have lt := B.lt
    refine ⟨.inl ⟨rfl, _, SqL.of (s9 _ _ g5)⟩, [b 0, b 1, b 2, b 3, b 4, b 5, b 6, b 7, b 8, b 9, b 10, b 11, b 12, b 13, b 14, b 15, b 16, b 17], ix, s9 _ _ g5, B.at_, (fun m hm => ?_), ?_⟩
    . have nm := B.no m hm
      have h7 : m = 0 ∨ m = 1 ∨ m = 2 ∨ m = 3 ∨ m = 4 ∨ m = 5 := by omega
      rcases h7 with rfl | rfl | rfl | rfl | rfl | rfl <;> simp [nm]
    refine ⟨_, SqL.of upd_same, .str wd, ?_, ?_⟩
    . exact atI_nat (by rw [List.getElem?_append_left (by show ix < 7; exact lt)]; exact B.w)
    exact ⟨by simp, fun p H' s' g' => q p H' ((s5.trans s9).trans s') g'⟩
def refW (H : Hp) (Q : VK) (w : Str) : Prop := ∀ t H', Same H H' -> H' t = some (.tup [.str "refused", .str w]) -> Q (.ref t) H'
structure ThreeM (K : W.Frag) (CK CN CO CD a0 a1 a2 a3 a4 a5 a6 a7 a8 a9 a10 a11 a12 a13 a14 a15 a16 a17 : Addr) : Prop where
  xK : W.exmOne K (.ref CK) (.ref CD) = some true
  xN : W.exmOne K (.ref CN) (.ref CD) = some true
  xO : W.exmOne K (.ref CO) (.ref CD) = some true
  mK : ∃ b ix, MarkB K CK a0 a1 a2 a3 a4 a5 a6 a7 a8 a9 a10 a11 a12 a13 a14 a15 a16 a17 b ix "key"
  mN : ∃ b ix, MarkB K CN a0 a1 a2 a3 a4 a5 a6 a7 a8 a9 a10 a11 a12 a13 a14 a15 a16 a17 b ix "deed"
  mO : ∃ b ix, MarkB K CO a0 a1 a2 a3 a4 a5 a6 a7 a8 a9 a10 a11 a12 a13 a14 a15 a16 a17 b ix "other"
def spSaidY (C CO : Addr) : Sp := fun vs H Q _ => ∃ p x y, vs = [.ref p, x, y] /\ Pt H x /\ Tg H y /\ (∃ a am cl en L, HAt C H p a am cl en L) /\ (kyV x = false -> refW H Q "key") /\ (kyV x = true -> plainV H y = false -> refW H Q "deed") /\ (∀ ky d, x = .str ky -> y = .ref d -> kyV x = true -> plainV H y = true -> askOk C CO p ky d H Q (fun c o H1 => refW H1 Q "other"))
theorem ok_saidY {C CO CK CN CD a0 a1 a2 a3 a4 a5 a6 a7 a8 a9 a10 a11 a12 a13 a14 a15 a16 a17 : Addr} (T : Txt K mg) (M_DoorError : mg "DoorError" = some (.ref CD)) (M3 : ThreeM K CK CN CO CD a0 a1 a2 a3 a4 a5 a6 a7 a8 a9 a10 a11 a12 a13 a14 a15 a16 a17) (c_House_ask : MthX P w K mg base 5 C "ask" ["self", "key", "deed"] (spAskY C CO CK CN)) (cLmark : CalleeH P w K mg base 1 "_law_mark" ["_law_error"] (spMark K a0 a1 a2 a3 a4 a5 a6 a7 a8 a9 a10 a11 a12 a13 a14 a15 a16 a17))
    (D : DefAt K mg "_law_said" s_law_said ["_law_house", "_law_key_here", "_law_deed_here"]) : Callee P w K mg base 6 "_law_said" ["_law_house", "_law_key_here", "_law_deed_here"] (spSaidY C CO) := by
  refine D.go sc_law_said (fun vs H Q E h => ?_) (fun f cdv A outer s H vs Q E hr h => ?_)
  . obtain ⟨p, x, y, rfl, _⟩ := h; rfl
  . obtain ⟨p, x, y, rfl, px, ty, ⟨a, am, cl, en, L, ht⟩, qk, qd, q⟩ := h
    have hr_House_ask := hr
    have hLmark : RoomH 1 _ := (hr.mono (by decide : 1 <= 5)).toH
    refine ⟨_, (R.scons (R.set (i := 3) sc_law_said.nd R.non) (R.scons (R.ktry (K := K) (i := 4) M_DoorError rfl sc_law_said.nd (fun pn Ex => (R.sone (R.set (i := 3) sc_law_said.nd (R.methX c_House_ask hr_House_ask takes_trying (R.v 0) (R.cons (R.v 1) (R.cons (R.v 2) R.nil)))))) (fun a => (R.sone (R.set (i := 3) sc_law_said.nd (R.fnH cLmark hLmark rfl (R.cons (R.v 4) R.nil)))))) (R.sone (R.ret (R.v 3))))), ?_⟩
    refine ⟨a.dx, _, ht.hp, hf_no a (by decide +kernel) (by decide +kernel) (by decide +kernel), p, x, y, rfl, px, ty, fun hk H1 s1 => ⟨M3.xK, fun c hc => ?_⟩, fun hk hp H1 s1 => ⟨M3.xN, fun c hc => ?_⟩, fun ky d e1 e2 hk hp => ?_⟩
    . obtain ⟨b, ix, mb⟩ := M3.mK
      exact ⟨c, CK, none, b, ix, "key", rfl, upd_same, mb, fun t H2 s2 g2 => qk hk t H2 ((s1.trans (same_upd hc)).trans s2) g2⟩
    . obtain ⟨b, ix, mb⟩ := M3.mN
      exact ⟨c, CN, none, b, ix, "deed", rfl, upd_same, mb, fun t H2 s2 g2 => qd hk hp t H2 ((s1.trans (same_upd hc)).trans s2) g2⟩
    . obtain ⟨a', am', cl', en', L', nm, n, wd, xs, b, h1, h2, h3, h4, h5, h6, h7, h8, h9, qn, qs, qo⟩ := q ky d e1 e2 hk hp
      refine ⟨a', am', cl', en', L', nm, n, wd, xs, b, h1, h2, h3, h4, h5, h6, h7, h8, h9, qn, qs, fun z hz hzk hw hx H1 s1 => ⟨M3.xO, fun c hc => ?_⟩⟩
      obtain ⟨b', ix, mb⟩ := M3.mO
      exact ⟨c, CO, none, b', ix, "other", rfl, upd_same, mb, fun t H2 s2 g2 => qo z hz hzk hw hx H1 s1 t H2 ((same_upd hc).trans s2) g2⟩
def spUndoneY (C : Addr) : Sp := fun vs H Q _ => ∃ p x, vs = [.ref p, x] /\ Pt H x /\ (∃ a am cl en L, HAt C H p a am cl en L) /\ (kyV x = false -> refW H Q "key") /\ (∀ ky, x = .str ky -> kyV x = true -> undoOk C p ky H Q)
theorem ok_undoneY {C CO CK CN CD a0 a1 a2 a3 a4 a5 a6 a7 a8 a9 a10 a11 a12 a13 a14 a15 a16 a17 : Addr} (T : Txt K mg) (M_DoorError : mg "DoorError" = some (.ref CD)) (M3 : ThreeM K CK CN CO CD a0 a1 a2 a3 a4 a5 a6 a7 a8 a9 a10 a11 a12 a13 a14 a15 a16 a17) (c_House_undo : MthX P w K mg base 4 C "undo" ["self", "key"] (spUndoY C CK)) (cLmark : CalleeH P w K mg base 1 "_law_mark" ["_law_error"] (spMark K a0 a1 a2 a3 a4 a5 a6 a7 a8 a9 a10 a11 a12 a13 a14 a15 a16 a17))
    (D : DefAt K mg "_law_undone" s_law_undone ["_law_house", "_law_key_here"]) : Callee P w K mg base 5 "_law_undone" ["_law_house", "_law_key_here"] (spUndoneY C) := by
  refine D.go sc_law_undone (fun vs H Q E h => ?_) (fun f cdv A outer s H vs Q E hr h => ?_)
  . obtain ⟨p, x, rfl, _⟩ := h; rfl
  . obtain ⟨p, x, rfl, px, ⟨a, am, cl, en, L, ht⟩, qk, q⟩ := h
    have hr_House_undo := hr
    have hLmark : RoomH 1 _ := (hr.mono (by decide : 1 <= 4)).toH
    refine ⟨_, (R.scons (R.set (i := 2) sc_law_undone.nd R.non) (R.scons (R.ktry (K := K) (i := 3) M_DoorError rfl sc_law_undone.nd (fun pn Ex => (R.sone (R.set (i := 2) sc_law_undone.nd (R.methX c_House_undo hr_House_undo takes_trying (R.v 0) (R.cons (R.v 1) R.nil))))) (fun a => (R.sone (R.set (i := 2) sc_law_undone.nd (R.fnH cLmark hLmark rfl (R.cons (R.v 3) R.nil)))))) (R.sone (R.ret (R.v 2))))), ?_⟩
    refine ⟨a.dx, _, ht.hp, hf_no a (by decide +kernel) (by decide +kernel) (by decide +kernel), p, x, rfl, px, fun hk H1 s1 => ⟨M3.xK, fun c hc => ?_⟩, fun ky e1 hk => ?_⟩
    . obtain ⟨b, ix, mb⟩ := M3.mK
      exact ⟨c, CK, none, b, ix, "key", rfl, upd_same, mb, fun t H2 s2 g2 => qk hk t H2 ((s1.trans (same_upd hc)).trans s2) g2⟩
    . exact q ky e1 hk
theorem ok_lword (T : Txt K mg) (D : DefAt K mg "_law_is_word" s_law_is_word ["_law_thing", "_law_signs", "_law_most"]) : Callee P w K mg base 1 "_law_is_word" ["_law_thing", "_law_signs", "_law_most"] spMade := by
  refine D.go sc_law_is_word (fun vs H Q E h => ?_) (fun f cdv A outer s H vs Q E hr h => ?_)
  . obtain ⟨x, sg, n, k, rfl, _⟩ := h; rfl
  . obtain ⟨x, sg, n, k, rfl, hk, hz, q⟩ := h
    have hu := hr.units0
    refine ⟨_, (R.scons (R.ife (R.tw (R.wor (R.tnot (R.val (R.isi .str (R.v 0) rfl T.b_isinstance rfl T.b_str bb_str))) (R.wor1 (R.tnot (R.tchain R.le R.le R.int (R.callB R.lenS rfl T.b_len bb_len (R.cons (R.v 0) R.nil)) (R.v 2)))))) (R.sone (R.ret R.bl)) R.snil) (R.sone (R.ret (R.cmp (R.keqNil (K := K) hu) (R.comp rfl (js := [none, some 1]) (N := ["_law_sign", "_law_signs"]) (CompScope.by (defScope s_law_is_word) ["_law_thing", "_law_signs", "_law_most"] rfl rfl (by decide +kernel)) (gown_name rfl) (R.wS (R.v 0)) (fun C s₂ H₂ fp => ⟨(R.gn (i := 0) (show (["_law_sign", "_law_signs"] : List Str).Nodup by decide +kernel)), (R.ts1 (R.tcmp R.notInS (R.v 0) (R.v 1))), (R.v 0)⟩)) (R.lst R.nil))))), ?_⟩
    have h := q H (Same.refl H)
    refine ⟨k, hk, ?_⟩
    cases x with
    | str z =>
      cases k <;> first | exact hk.elim | skip
      have hz1 := hz z rfl
      refine ⟨szl' hz1, ?_⟩
      have e : madeOf (.str z) sg.cps.toList n = (decide (1 <= (z.length : Int)) && decide ((z.length : Int) <= n) && z.cps.toList.all (fun c => decide (c ∈ sg.cps.toList))) := madeOf_str _ _ _
      refine if_b (fun h1 => ?_) (fun h1 => ?_)
      . show if (!decide ((z.length : Int) <= n)) = true then _ else _
        refine if_b (fun h2 => ?_) (fun h2 => ?_)
        . have h2' : decide ((z.length : Int) <= n) = false := by simpa using h2
          rw [e, h2', Bool.and_false, Bool.false_and] at h; exact h
        . have h2' : decide ((z.length : Int) <= n) = true := by simpa using h2
          refine ⟨z, rfl, comp_str (Znt hz1 (by decide)) (fun c => !decide (c ∈ sg.cps.toList)) (fun c => .str (tx [c])) (fun c ys N hv ht hf => ?_) ?_⟩
          . refine ⟨c, rfl, ?_⟩
            exact if_b (fun h => ht h) (fun h => hf h)
          . intro p hp; refine ⟨szl rfl, fun p2 hp2 => ⟨p, p2, _, rfl, rfl, SqL.of (at_upd upd_same hp2), SqL.of upd_same, ?_⟩⟩
            have h5 := q (upd _ p2 (.lst [])) ((same_upd hp).trans (same_upd hp2))
            rw [e, h1, h2', <- all_filter] at h5; show Q (.bl (List.map _ _).isEmpty) _
            rw [List.isEmpty_map]; exact h5
      . rw [e, h1] at h; exact h
    | _ => cases k <;> first | exact hk.elim | exact h
theorem ok_lkey (T : Txt K mg) (cLis_word : Callee P w K mg base 1 "_law_is_word" ["_law_thing", "_law_signs", "_law_most"] spMade) (D : DefAt K mg "_law_is_key" s_law_is_key ["_law_thing"]) : Callee P w K mg base 2 "_law_is_key" ["_law_thing"] (spTell (LET ++ FIG) 12) := by
  refine D.go sc_law_is_key (fun vs H Q E h => ?_) (fun f cdv A outer s H vs Q E hr h => ?_)
  . obtain ⟨x, k, rfl, _⟩ := h; rfl
  . obtain ⟨x, k, rfl, hk, hz, q⟩ := h
    have hLis_word := hr
    refine ⟨_, (R.sone (R.ret (R.fn cLis_word hLis_word rfl (R.cons (R.v 0) (R.cons R.str (R.cons R.int R.nil)))))), ?_⟩
    refine ⟨x, _, _, k, rfl, hk, hz, fun H' s' => ?_⟩
    rw [show (("abcdefghijklmnopqrstuvwxyz0123456789" : Str).cps.toList) = LET ++ FIG from klet_eq]; exact q H' s'
end
end KL
namespace KL
open PySem L2
section
variable {P : Program} {w : World} {K : W.Frag} {mg : Str -> Option Value} {base : Heap}
theorem PenAt.tup {H : Hp} {p t : Addr} {xs : List V} (h : PenAt H p) (e : H t = some (.tup xs)) : t ≠ p := fun z => by
  obtain ⟨i, j, g, _⟩ := h
  rw [z, g] at e; cases e
def Dp : Nat -> Hp -> V -> Prop
  | 0, H, x => Pc H x /\ partsV H x = none
  | d + 1, H, x => (Pc H x /\ partsV H x = none) ∨ ∃ a xs, x = .ref a /\ H a = some (.tup xs) /\ xs.length <= 10 + d /\ ∀ y ∈ xs, Dp d H y
theorem Dp.of0 {H : Hp} {x : V} (h : Pc H x /\ partsV H x = none) : ∀ d, Dp d H x
  | 0 => h
  | _ + 1 => .inl h
theorem Dp.up {H : Hp} : ∀ {d : Nat} {x : V}, Dp d H x -> Dp (d + 1) H x
  | 0, x, h => .inl h
  | d + 1, x, h => by
    rcases h with h | ⟨a, xs, e, g, l, hy⟩
    . exact .inl h
    . exact .inr ⟨a, xs, e, g, by omega, fun y h => (hy y h).up⟩
theorem Dp.pc {H : Hp} : ∀ {d : Nat} {x : V}, Dp d H x -> Pc H x
  | 0, x, h => h.1
  | d + 1, x, h => by
    rcases h with h | ⟨a, xs, rfl, g, l, hy⟩
    . exact h.1
    . exact .tup g
theorem Dp.parts {H : Hp} {d : Nat} {a : Addr} {xs : List V} (h : Dp d H (.ref a)) (g : H a = some (.tup xs)) : ∃ e, d = e + 1 /\ xs.length <= 10 + e /\ ∀ y ∈ xs, Dp e H y := by
  have e0 := partsV_tup g
  cases d with
  | zero => have := h.2; rw [e0] at this; cases this
  | succ d =>
    rcases h with h | ⟨b, ys, e, g', l, hy⟩
    . have := h.2; rw [e0] at this; cases this
    . cases e; rw [g] at g'; cases g'; exact ⟨d, rfl, l, hy⟩
theorem Dp.tg {H : Hp} {d : Nat} {x : V} (h : Dp d H x) (hd : d <= 9) : Tg H x := by
  refine ⟨h.pc, fun a xs e g => ?_⟩
  subst e; obtain ⟨e, rfl, l, hy⟩ := h.parts g
  exact ⟨by omega, fun y h => (hy y h).pc⟩
theorem none_same {H H' : Hp} {x : V} (s : Same H H') (h : Pc H x /\ partsV H x = none) : Pc H' x /\ partsV H' x = none := ⟨h.1.same s, by rw [partsV_same s h.1]; exact h.2⟩
theorem Dp.same {H H' : Hp} (s : Same H H') : ∀ {d : Nat} {x : V}, Dp d H x -> Dp d H' x
  | 0, x, h => none_same s h
  | d + 1, x, h => by
    rcases h with h | ⟨a, xs, e, g, l, hy⟩
    . exact .inl (none_same s h)
    . exact .inr ⟨a, xs, e, s _ _ g, l, fun y h => (hy y h).same s⟩
theorem none_pen {H H' : Hp} {p : Addr} {x : V} (k : K1 p H H') (pn : PenAt H p) (pn' : PenAt H' p) (h : Pc H x /\ partsV H x = none) : Pc H' x /\ partsV H' x = none := by
  obtain ⟨h, h0⟩ := h
  rcases h with ⟨hf, hz⟩ | ⟨a, ys, rfl, h | h⟩ | ⟨a, kvs, rfl, h⟩
  . refine ⟨.inl ⟨hf, hz⟩, ?_⟩
    cases x <;> first | rfl | cases hf
  . by_cases e : a = p
    . subst e; obtain ⟨i, j, g, _⟩ := pn'
      exact ⟨.lst g, by unfold partsV; dsimp only; rw [g]⟩
    . have g := k _ _ h e
      exact ⟨.lst g, by unfold partsV; dsimp only; rw [g]⟩
  . rw [partsV_tup h] at h0; cases h0
  . have e : a ≠ p := fun e => by
      subst e; obtain ⟨i, j, g, _⟩ := pn
      rw [h] at g; cases g
    have g := k _ _ h e
    exact ⟨.dct g, by unfold partsV; dsimp only; rw [g]⟩
theorem Dp.pen {H H' : Hp} {p : Addr} (k : K1 p H H') (pn : PenAt H p) (pn' : PenAt H' p) : ∀ {d : Nat} {x : V}, Dp d H x -> Dp d H' x
  | 0, x, h => none_pen k pn pn' h
  | d + 1, x, h => by
    rcases h with h | ⟨a, xs, e, g, l, hy⟩
    . exact .inl (none_pen k pn pn' h)
    . exact .inr ⟨a, xs, e, k _ _ g (PenAt.tup pn g), l, fun y h => (hy y h).pen k pn pn'⟩
theorem Dp.flat {H : Hp} {x : V} (d : Nat) (h : flatV x = true) (hz : ∀ z, x = .str z -> z.length <= 1000) : Dp d H x := .of0 ⟨.inl ⟨h, hz⟩, by cases x <;> first | rfl | cases h⟩ d
theorem Dp.lst {H : Hp} {a : Addr} {ys : List V} (d : Nat) (h : H a = some (.lst ys)) : Dp d H (.ref a) := .of0 ⟨.lst h, by unfold partsV; dsimp only; rw [h]⟩ d
theorem Dp.dct {H : Hp} {a : Addr} {ys : List (Key × V)} (d : Nat) (h : H a = some (.dK ys)) : Dp d H (.ref a) := .of0 ⟨.dct h, by unfold partsV; dsimp only; rw [h]⟩ d
def sml (x : V) : Bool := match x with | .non => true | .bl _ => true | .int _ => true | .str z => decide (z.length <= 1000) | _ => false
theorem Dp.sml {H : Hp} {x : V} (d : Nat) (h : sml x = true) : Dp d H x := by
  cases x with
  | non => exact .flat d rfl (fun z e => by cases e)
  | bl b => exact .flat d rfl (fun z e => by cases e)
  | int b => exact .flat d rfl (fun z e => by cases e)
  | str z => exact .flat d rfl (fun z' e => by cases e; exact of_decide_eq_true h)
  | _ => cases h
theorem Dp.smls {H : Hp} {xs : List V} (d : Nat) (h : xs.all KL.sml = true) : ∀ y ∈ xs, Dp d H y := fun y hy => .sml d (List.all_eq_true.mp h y hy)
theorem Dp.tup {H : Hp} {a : Addr} {xs : List V} {d : Nat} (g : H a = some (.tup xs)) (hl : xs.length <= 10 + d) (h : ∀ y ∈ xs, Dp d H y) : Dp (d + 1) H (.ref a) := .inr ⟨a, xs, rfl, g, hl, h⟩
theorem at0 (x : V) (r : List V) : atI (x :: r) 0 = some x := atI_nat (j := 0) rfl
theorem tup_case {H : Hp} {x : V} {k : Kd} (h : Pc H x) (hk : Kof H x k) : (isK .tup k = false /\ partsV H x = none) ∨ ∃ a ys, x = .ref a /\ H a = some (.tup ys) /\ k = .tup := by
  rcases h with ⟨hf, _⟩ | ⟨a, ys, rfl, h | h⟩ | ⟨a, kvs, rfl, h⟩
  . left
    cases x <;> first | cases hf | skip
    all_goals (cases k <;> first | exact hk.elim | exact ⟨rfl, rfl⟩)
  . left
    have e : partsV H (.ref a) = none := by unfold partsV; dsimp only; rw [h]
    refine ⟨?_, e⟩
    cases k <;> first | rfl | (exact hk.elim) | (obtain ⟨zs, hz⟩ := hk; rw [h] at hz; cases hz)
  . refine .inr ⟨a, ys, rfl, h, ?_⟩
    cases k <;> first | rfl | exact hk.elim | (rcases hk with ⟨zs, hz⟩ | ⟨o, zs, hz⟩ <;> (rw [h] at hz; cases hz)) | (obtain ⟨zs, hz⟩ := hk; rw [h] at hz; cases hz)
  . left
    have e : partsV H (.ref a) = none := by unfold partsV; dsimp only; rw [h]
    refine ⟨?_, e⟩
    cases k <;> first | rfl | (exact hk.elim) | (obtain ⟨zs, hz⟩ := hk; rw [h] at hz; cases hz)
theorem isK_str {H : Hp} {y : V} {k : Kd} (hk : Kof H y k) (hy : ∀ u, y ≠ .str u) : isK .str k = false := by
  cases y with
  | str u => exact absurd rfl (hy u)
  | _ => cases k <;> first | exact hk.elim | rfl
theorem fits_one {z : Str} {y : V} (h : z = "add" ∨ z = "take") : fitsB (.str z) [y] = nmV y := by
  rcases h with rfl | rfl
  all_goals
    show (true && (nmV y && true) && (true || _)) = nmV y
    simp
theorem plain3 (z : Str) (y w : V) : plainB [.str z, y, w] = (inV (.str z) [V.str "add", .str "take"] && (nmV y && numV 1 1000000000000 w)) := by
  have e : plainB [.str z, y, w] = ((fitsB (.str z) [y] && numV 1 1000000000000 w) && inV (.str z) [V.str "add", .str "take"]) := rfl
  rw [e]; cases hi : inV (.str z) [V.str "add", .str "take"] with
  | false => simp
  | true =>
    have hz : z = "add" ∨ z = "take" := by
      rw [show ([V.str "add", .str "take"] : List V) = (["add", "take"] : List Str).map V.str from rfl, inV_str] at hi; have := of_decide_eq_true hi
      simpa using this
    rw [fits_one hz]; simp
theorem plain_len {xs : List V} (h : ¬ xs.length = 3) : plainB xs = false := by
  cases e : plainB xs with
  | false => rfl
  | true =>
    obtain ⟨nm, n, wd, b, hd, _⟩ := plain_hd e
    cases hd <;> exact absurd rfl h
theorem plain_str {y : V} {r : List V} (h : ∀ u, y ≠ .str u) : plainB (y :: r) = false := by
  cases e : plainB (y :: r) with
  | false => rfl
  | true =>
    obtain ⟨nm, n, wd, b, hd, _⟩ := plain_hd e
    cases hd <;> exact absurd rfl (h _)
def spPlain : Sp := fun vs H Q _ => ∃ x, vs = [x] /\ Tg H x /\ ∀ H', Same H H' -> Q (.bl (plainV H x)) H'
theorem ok_plain (T : Txt K mg) (cLis_word : Callee P w K mg base 1 "_law_is_word" ["_law_thing", "_law_signs", "_law_most"] spMade) (D : DefAt K mg "_law_is_plain" s_law_is_plain ["_law_thing"]) : Callee P w K mg base 2 "_law_is_plain" ["_law_thing"] spPlain := by
  refine D.go sc_law_is_plain (fun vs H Q E h => ?_) (fun f cdv A outer s H vs Q E hr h => ?_)
  . obtain ⟨x, rfl, _⟩ := h; rfl
  . obtain ⟨x, rfl, tg, q⟩ := h
    have hLis_word := hr
    have e12 : (10 : Int) ^ (12 : Int).toNat = 1000000000000 := by decide
    refine ⟨_, (R.scons (R.ife (R.tw (R.wor (R.tnot (R.val (R.isi .tup (R.v 0) rfl T.b_isinstance rfl T.b_tuple bb_tuple))) (R.wor (R.tcmp R.ne (R.callB (R.klenL (K := K)) rfl T.b_len bb_len (R.cons (R.v 0) R.nil)) R.int) (R.wor1 (R.tnot (R.val (R.isi .str (R.ix (R.kiT (K := K)) (R.v 0) R.int) rfl T.b_isinstance rfl T.b_str bb_str))))))) (R.sone (R.ret R.bl)) R.snil) (R.scons (R.ife (R.tw (R.wor (R.tcmp (R.knotInQ (K := K)) (R.ix (R.kiT (K := K)) (R.v 0) R.int) (R.wtup (R.cons R.str (R.cons R.str R.nil)))) (R.wor1 (R.tnot (R.val (R.fn cLis_word hLis_word rfl (R.cons (R.ix (R.kiT (K := K)) (R.v 0) R.int) (R.cons R.str (R.cons R.int R.nil))))))))) (R.sone (R.ret R.bl)) R.snil) (R.sone (R.ret (R.and (R.isi .int (R.ix (R.kiT (K := K)) (R.v 0) R.int) rfl T.b_isinstance rfl T.b_int bb_int) (R.and (R.not (R.isi .bl (R.ix (R.kiT (K := K)) (R.v 0) R.int) rfl T.b_isinstance rfl T.b_bool bb_bool)) (R.one (R.chain R.le R.le R.int (R.ix (R.kiT (K := K)) (R.v 0) R.int) (R.op R.pow R.int R.int))))))))), ?_⟩
    obtain ⟨k, hk⟩ := tg.1.kd
    refine ⟨k, hk, ?_⟩
    rcases tup_case tg.1 hk with ⟨e1, e2⟩ | ⟨a, ys, rfl, ga, rfl⟩
    . refine if_t (c := !isK .tup k) (by rw [e1]; rfl) ?_
      have q' := q H (Same.refl H)
      unfold plainV at q'; rw [e2] at q'; exact q'
    have hys := tg.2 a ys rfl ga
    have eV : plainV H (.ref a) = plainB ys := by unfold plainV; rw [partsV_tup ga]
    rw [eV] at q; have q0 := q H (Same.refl H)
    refine ⟨_, .inr (SqT.of ga), ?_⟩
    show if (!decide ((ys.length : Int) = 3)) = true then _ else _
    refine if_b (fun hl => ?_) (fun hl => ?_)
    . have : ¬ ys.length = 3 := fun e => by rw [decide_eq_true (by omega)] at hl; cases hl
      rw [plain_len this] at q0; exact q0
    have hl' : ys.length = 3 := by
      have : decide ((ys.length : Int) = 3) = true := by simpa using hl
      have := of_decide_eq_true this
      omega
    match ys, hl' with
    | [y, y1, y2], _ =>
    have pc : ∀ {H' : Hp}, Same H H' -> ∀ {z : V}, z ∈ [y, y1, y2] -> Pc H' z := fun s' z hz => (hys.2 z hz).same s'
    obtain ⟨ky, hky⟩ := (pc (Same.refl H) (z := y) (by simp)).kd
    refine ⟨_, SqT.of ga, y, at0 _ _, ky, hky, ?_⟩
    by_cases hs : ∃ u, y = .str u
    case neg =>
      have hy : ∀ u, y ≠ .str u := fun u e => hs ⟨u, e⟩
      rw [plain_str hy] at q0; have hks := isK_str hky hy
      show if (!isK .str ky) = true then _ else _
      exact if_t (by rw [hks]; rfl) q0
    obtain ⟨u, rfl⟩ := hs
    cases ky <;> first | exact hky.elim | skip
    rw [plain3] at q; show tNext _ _ _
    dsimp only [tNext]; refine cutT (t := tOr _ _) (fun v H' => v = !(inV (.str u) [V.str "add", .str "take"] && nmV y1) /\ Same H H') (fun kk hkk => ?_) (fun v H1 ⟨ev, s1⟩ => ?_)
    . refine ⟨_, SqT.of ga, .str u, at0 _ _, by simp, fun t1 H1 s1 g1 => ⟨t1, _, rfl, .inr (SqT.of g1), rfl, rfl, ?_⟩⟩
      show if (!inV (.str u) [V.str "add", .str "take"]) = true then _ else _
      refine if_b (fun h1 => ?_) (fun h1 => ?_)
      . have h1' : inV (.str u) [V.str "add", .str "take"] = false := by simpa using h1
        exact hkk _ _ ⟨by rw [h1']; rfl, s1⟩
      have h1' : inV (.str u) [V.str "add", .str "take"] = true := by simpa using h1
      obtain ⟨k1, hk1, hz1⟩ := (pc s1 (z := y1) (by simp)).pt
      refine ⟨_, SqT.of (s1 _ _ ga), y1, atI_nat (j := 1) rfl, y1, _, 8, k1, rfl, hk1, hz1, fun H2 s2 => hkk _ _ ⟨?_, s1.trans s2⟩⟩
      rw [h1', Bool.true_and, let_eq]; rfl
    subst ev; refine if_b (fun h2 => ?_) (fun h2 => ?_)
    . have h2' : (inV (.str u) [V.str "add", .str "take"] && nmV y1) = false := by rw [Bool.not_eq_true'] at h2; exact h2
      have q' := q H1 s1
      rw [<- Bool.and_assoc, h2'] at q'; exact q'
    have h2' : (inV (.str u) [V.str "add", .str "take"] && nmV y1) = true := by simpa using h2
    have q' := q H1 s1
    rw [<- Bool.and_assoc, h2', Bool.true_and] at q'; dsimp only [tNext]; have ga1 := s1 _ _ ga
    obtain ⟨k2, hk2⟩ := (pc s1 (z := y2) (by simp)).kd
    refine ⟨_, SqT.of ga1, y2, atI_nat (j := 2) rfl, k2, hk2, ?_⟩
    cases y2 with
    | int n =>
      cases k2 <;> first | exact hk2.elim | skip
      refine ⟨_, SqT.of ga1, .int n, atI_nat (j := 2) rfl, .int, trivial, ?_⟩
      refine ⟨_, SqT.of ga1, .int n, atI_nat (j := 2) rfl, ?_⟩
      have e : numV 1 1000000000000 (.int n) = (decide (1 <= n) && decide (n <= 1000000000000)) := rfl
      rw [e] at q'; show if decide (1 <= n) = true then _ else _
      refine if_b (fun h1 => ?_) (fun h1 => ?_)
      . rw [h1, Bool.true_and] at q'; refine ⟨⟨by decide, by decide, by decide⟩, ?_⟩
        show Q (.bl (decide (n <= (10 : Int) ^ (12 : Int).toNat))) H1
        rw [e12]; exact q'
      . rw [h1, Bool.false_and] at q'; exact q'
    | bl t =>
      cases k2 <;> first | exact hk2.elim | skip
      exact ⟨_, SqT.of ga1, .bl t, atI_nat (j := 2) rfl, .bl, trivial, q'⟩
    | _ => cases k2 <;> first | exact hk2.elim | exact q'
end
end KL
namespace KL
open PySem L2
section
variable {P : Program} {w : World} {K : W.Frag} {mg : Str -> Option Value} {base : Heap}
theorem tx_app (a b : List Nat) : tx (a ++ b) = tx a ++ tx b := by
  rw [<- tx_cps (tx a ++ tx b), app_cps]
theorem len_app (x y : Str) : (x ++ y).length = x.length + y.length := by
  have e : ∀ z : Str, z.length = z.cps.toList.length := fun z => by simp [Str.length]
  rw [e, app_cps, Zla, <- e, <- e]
theorem upper_len : ∀ l : List Nat, (∀ c ∈ l, c < 128) -> (Txt.upper (tx l)).length = l.length
  | [], _ => by decide +kernel
  | c :: l, h => by
    have ih := upper_len l fun d hd => h d (Zmc _ hd)
    have e : tx (c :: l) = (⟨#[c]⟩ : Str) ++ tx l := tx_app [c] l
    rw [e, W.KOpn.upper_app, W.KOpn.upper_one (h c Zcs), len_app, ih]; show 1 + l.length = l.length + 1
    omega
theorem ky_upper {z : Str} (h : isKy z) : (Txt.upper z).length <= 12 := by
  have := upper_len z.cps.toList fun c hc => by
    have h1 := h.2.2 c hc
    have : ∀ c, c ∈ LET ++ FIG -> c < 128 := by decide
    exact this c h1
  rw [tx_cps] at this; have hl : z.cps.toList.length = z.length := by simp [Str.length]
  have := h.2.1
  omega
def spKeyD : Sp := fun vs H Q _ => ∃ (p lk : Addr) (ks : List Str), vs = [.ref p, .ref lk] /\ PenAt H p /\ H lk = some (.lst (ks.map V.str)) /\ lk ≠ p /\ (1 <= ks.length /\ ks.length <= 100) /\ (∀ z ∈ ks, isKy z) /\ ∀ x H', Dp 1 H' x -> (kyV x = true -> ∃ z ∈ ks, x = .str z) -> PenAt H' p -> K1 p H H' -> Q x H'
theorem cutl (z : Str) (lo hi : Option Int) : (tx (cut z.cps.toList lo hi)).length <= z.length := by
  rw [tx_len]; have := cut_len z.cps.toList lo hi
  have e : z.length = z.cps.toList.length := by simp [Str.length]
  omega
theorem Dp.txt {H : Hp} {z : Str} (d : Nat) (h : z.length <= 1000) : Dp d H (.str z) := .flat d rfl (fun z' e => by cases e; exact h)
theorem kyV_bad {z : Str} {c : Nat} (hc : c ∈ z.cps.toList) (hn : c ∉ LET ++ FIG) : kyV (.str z) = false := by
  cases h : kyV (.str z) with
  | false => rfl
  | true =>
    obtain ⟨z', e, hz⟩ := kyV_inv h
    cases e
    exact absurd (hz.2.2 c hc) hn
theorem kyV_long {z : Str} (h : 12 < z.length) : kyV (.str z) = false := by
  cases h' : kyV (.str z) with
  | false => rfl
  | true =>
    obtain ⟨z', e, hz⟩ := kyV_inv h'
    cases e
    have := hz.2.1
    omega
theorem app_right {x y : Str} {c : Nat} (h : c ∈ y.cps.toList) : c ∈ (x ++ y).cps.toList := by rw [app_cps]; exact List.mem_append_right _ h
theorem ok_keyD (T : Txt K mg) (cLtake : Callee P w K mg base 1 "_law_take" ["_law_pen_here", "_law_most"] spTake) (D : DefAt K mg "_law_key" s_law_key ["_law_pen_here", "_law_keys_here"]) : Callee P w K mg base 2 "_law_key" ["_law_pen_here", "_law_keys_here"] spKeyD := by
  refine D.go sc_law_key (fun vs H Q E h => ?_) (fun f cdv A outer s H vs Q E hr h => ?_)
  . obtain ⟨p, lk, ks, rfl, _⟩ := h; rfl
  . obtain ⟨p, lk, ks, rfl, pn, glk, nlk, hkl, hky, q⟩ := h
    have hLtake := hr
    refine ⟨_, (R.scons (R.set (i := 2) sc_law_key.nd (R.ix (R.kiL (K := K)) (R.v 1) (R.fn cLtake hLtake rfl (R.cons (R.v 0) (R.cons (R.callB (R.klenL (K := K)) rfl T.b_len bb_len (R.cons (R.v 1) R.nil)) R.nil))))) (R.scons (R.set (i := 3) sc_law_key.nd (R.lst (R.cons R.non (R.cons R.bl (R.cons R.int (R.cons R.int (R.cons R.str (R.cons R.str (R.cons (R.op R.addS (R.v 2) R.str) (R.cons (R.op R.addS (R.sl R.sS (R.v 2) R.pn (R.ps R.int)) R.str) (R.cons (R.op R.addS (R.sl R.sS (R.v 2) R.pn (R.ps R.int)) R.str) (R.cons R.str (R.cons (R.lst (R.cons (R.v 2) R.nil)) (R.cons (R.wtup (R.cons (R.v 2) R.nil)) (R.cons R.dnew R.nil))))))))))))))) (R.scons (R.set (i := 3) sc_law_key.nd (R.op R.cat (R.v 3) (R.lst (R.cons (R.op R.addS (R.kbm0 (K := K) PySem.F.plainAttrs_str PySem.F.slot_str_upper PySem.F.type_str_upper R.upper (R.v 2)) R.str) (R.cons (R.op R.addS (R.op R.addS (R.op R.addS (R.v 2) (R.v 2)) (R.v 2)) R.str) R.nil))))) (R.scons (R.ife (R.tcmp R.eq (R.fn cLtake hLtake rfl (R.cons (R.v 0) (R.cons R.int R.nil))) R.int) (R.sone (R.ret (R.v 2))) R.snil) (R.sone (R.ret (R.ix (R.kiL (K := K)) (R.v 3) (R.fn cLtake hLtake rfl (R.cons (R.v 0) (R.cons (R.callB (R.klenL (K := K)) rfl T.b_len bb_len (R.cons (R.v 3) R.nil)) R.nil)))))))))), ?_⟩
    have lm : (ks.map V.str).length = ks.length := Zlm _
    refine ⟨_, .inl (SqL.of glk), p, _, rfl, pn, by rw [lm]; omega, by rw [lm]; omega, fun r H1 r0 r1 pn1 k1 => ?_⟩
    obtain ⟨i, rfl⟩ := Zio r0
    have hi : i < ks.length := by rw [lm] at r1; omega
    refine ⟨_, SqL.of (k1 _ _ glk nlk), .str ks[i], atI_nat (by rw [Zgm, Zge hi]; rfl), ?_⟩
    have kyi := hky _ (List.getElem_mem hi)
    have kmem := List.getElem_mem hi
    generalize ks[i] = ky at kyi kmem ⊢; have kl := kyi.2.1
    have ku := ky_upper kyi
    dsimp only [gName]; show tSeq _ _ _ [some (.ref p), some (.ref lk), some (.str ky), none] H1
    have c5 := cutl ky none (some (5 : Int))
    have l1 : (" " : Str).length = 1 := by decide +kernel
    have l2 : ("-" : Str).length = 1 := by decide +kernel
    have l3 : ("\n" : Str).length = 1 := by decide +kernel
    have l4 : ("_" : Str).length = 1 := by decide +kernel
    have l5 : ("0123456789" : Str).length = 10 := by decide +kernel
    refine cutS (t := tAsg _ _) (fun σ' H' => ∃ l vs, σ' = [some (.ref p), some (.ref lk), some (.str ky), some (.ref l)] /\ H' l = some (.lst vs) /\ vs.length = 13 /\ (∀ y ∈ vs, Dp 1 H' y) /\ (∀ y ∈ vs, kyV y = false) /\ Same H1 H') (fun nx hnx => ?_) (fun σ2 H2 ⟨la, va, ea, ga, na, da, fa, sa⟩ => ?_)
    . refine ⟨szl' (by omega), szl' (by omega), szl' (by omega), szl' (by omega), szl' (by omega), szl rfl, fun m1 n1 => ⟨by simp, fun t1 G1 r1 f1 => fun d1 hd1 => ⟨szl rfl, fun l hl => hnx _ _ ⟨l, _, rfl, upd_same, rfl, ?_, ?_, ((same_upd n1).trans r1).trans ((same_upd hd1).trans (same_upd hl))⟩⟩⟩⟩
      rotate_left
      . exact Zfm.mpr ⟨rfl, Zfm.mpr ⟨rfl, Zfm.mpr ⟨rfl, Zfm.mpr ⟨rfl, Zfm.mpr ⟨by decide +kernel, Zfm.mpr ⟨by decide +kernel, Zfm.mpr ⟨kyV_bad (c := 32) (app_right (by decide +kernel)) (by decide), Zfm.mpr ⟨kyV_bad (c := 45) (app_right (by decide +kernel)) (by decide), Zfm.mpr ⟨kyV_bad (c := 10) (app_right (by decide +kernel)) (by decide), Zfm.mpr ⟨by decide +kernel, Zfm.mpr ⟨rfl, Zfm.mpr ⟨rfl, Zfm.mpr ⟨rfl, fun _ h => nomatch h⟩⟩⟩⟩⟩⟩⟩⟩⟩⟩⟩⟩⟩
      have sl := same_upd (o := .lst [V.non, .bl true, .int 0, .int 7, .str "", .str "A", .str (ky ++ " "), .str (tx (cut ky.cps.toList none (some 5)) ++ "-"), .str (tx (cut ky.cps.toList none (some 5)) ++ "\n"), .str "0123456789abc", .ref m1, .ref t1, .ref d1]) hl
      have sd := (same_upd (o := .dK []) hd1).trans sl
      have st := r1.trans sd
      refine Zfm.mpr ⟨.sml _ rfl, Zfm.mpr ⟨.sml _ rfl, Zfm.mpr ⟨.sml _ rfl, Zfm.mpr ⟨.sml _ rfl, Zfm.mpr ⟨.sml _ (by decide +kernel), Zfm.mpr ⟨.sml _ (by decide +kernel), ?_⟩⟩⟩⟩⟩⟩
      refine Zfm.mpr ⟨.txt _ (by rw [len_app]; omega), Zfm.mpr ⟨.txt _ (by rw [len_app]; omega), Zfm.mpr ⟨.txt _ (by rw [len_app]; omega), Zfm.mpr ⟨.sml _ (by decide +kernel), Zfm.mpr ⟨.lst _ (st _ _ upd_same), Zfm.mpr ⟨.tup (sd _ _ f1) (by simp) (fun y hy => ?_), Zfm.mpr ⟨.dct _ (sl _ _ upd_same), fun _ h => nomatch h⟩⟩⟩⟩⟩⟩⟩
      rw [Zms.mp hy]; exact .txt _ (by omega)
    subst ea; dsimp only [tSeq]; refine cutS (t := tAsg _ _) (fun σ' H' => ∃ l vs, σ' = [some (.ref p), some (.ref lk), some (.str ky), some (.ref l)] /\ H' l = some (.lst vs) /\ vs.length = 15 /\ (∀ y ∈ vs, Dp 1 H' y) /\ (∀ y ∈ vs, kyV y = false) /\ Same H1 H' /\ l ≠ p) (fun nx hnx => ?_) (fun σ3 H3 ⟨lb, vb, eb, gb, nb, db, fb, sb, neb⟩ => ?_)
    . refine ⟨rfl, ky, rfl, rfl, decide_eq_false (Nat.not_lt.mpr (Znt ku (by decide))), szl' (by omega), szl' (by omega), szl' (by rw [len_app]; omega), szl' (by rw [len_app, len_app]; omega), szl rfl, fun m1 n1 => ⟨va, _, at_upd ga n1, upd_same, szl' (by rw [na]; exact Nat.le_of_ble_eq_true rfl), fun l' hl' => hnx _ _ ⟨l', _, rfl, upd_same, by rw [Zla, na]; rfl, ?_, ?_, sa.trans ((same_upd n1).trans (same_upd hl')), ((pn1.same sa).same (same_upd n1)).ne hl'⟩⟩⟩
      rotate_left
      . exact List.forall_mem_append.mpr ⟨fa, Zfm.mpr ⟨kyV_bad (c := 95) (app_right (by decide +kernel)) (by decide), Zfm.mpr ⟨kyV_long (by rw [len_app, len_app, len_app, l5]; have := kyi.1; omega), fun _ h => nomatch h⟩⟩⟩
      refine List.forall_mem_append.mpr ⟨fun y hy => ((da y hy).same (same_upd n1)).same (same_upd hl'), Zfm.mpr ⟨.txt _ (by rw [len_app]; omega), Zfm.mpr ⟨.txt _ (by rw [len_app, len_app, len_app]; omega), fun _ h => nomatch h⟩⟩⟩
    subst eb; dsimp only [tSeq]; have pn3 := pn1.same sb
    have k3 := k1.trans (K1.of sb)
    refine ⟨p, 2, rfl, pn3, by decide, by decide, fun r4 H4 r40 r41 pn4 k4 => ?_⟩
    show if decide (r4 = 0) = true then _ else _
    refine if_b (fun h => q _ _ (.txt _ (by omega)) (fun _ => ⟨ky, kmem, rfl⟩) pn4 (k3.trans k4)) (fun h => ?_)
    dsimp only [tNext]; have gb4 := k4 _ _ gb neb
    refine ⟨_, .inl (SqL.of gb4), p, _, rfl, pn4, by rw [nb]; decide, by rw [nb]; decide, fun r5 H5 r50 r51 pn5 k5 => ?_⟩
    rw [nb] at r51; obtain ⟨j, rfl⟩ := Zio r50
    have hj : j < vb.length := by omega
    exact ⟨_, SqL.of (k5 _ _ gb4 neb), vb[j], atI_nat (Zge hj), q _ _ (((db _ (List.getElem_mem hj)).pen k4 pn3 pn4).pen k5 pn4 pn5) (fun hk => by rw [fb _ (List.getElem_mem hj)] at hk; cases hk) pn5 ((k3.trans k4).trans k5)⟩
end
end KL
namespace KL
open PySem L2
section
variable {P : Program} {w : World} {K : W.Frag} {mg : Str -> Option Value} {base : Heap}
def FlX (x : List V) : Prop := x.length <= 10 /\ x.all KL.sml = true
def spDeedD : Sp := fun vs H Q _ => ∃ (p ln lf e0 e1 : Addr) (z0 z1 z2 z3 : Str) (x0 x1 : List V), vs = [.ref p, .ref ln, .ref lf] /\ PenAt H p /\ H ln = some (.lst [.str z0, .str z1, .str z2, .str z3]) /\ ln ≠ p /\ (isNm z0 /\ isNm z1 /\ isNm z2 /\ isNm z3) /\ H lf = some (.lst [.ref e0, .ref e1]) /\ lf ≠ p /\ H e0 = some (.tup x0) /\ H e1 = some (.tup x1) /\ FlX x0 /\ FlX x1 /\ ∀ y H', Dp 2 H' y -> PenAt H' p -> K1 p H H' -> Q y H'
theorem ok_deedD (T : Txt K mg) (cLtake : Callee P w K mg base 1 "_law_take" ["_law_pen_here", "_law_most"] spTake) (D : DefAt K mg "_law_deed" s_law_deed ["_law_pen_here", "_law_names_here", "_law_firsts"]) : Callee P w K mg base 2 "_law_deed" ["_law_pen_here", "_law_names_here", "_law_firsts"] spDeedD := by
  refine D.go sc_law_deed (fun vs H Q E h => ?_) (fun f cdv A outer s H vs Q E hr h => ?_)
  . obtain ⟨p, ln, lf, e0, e1, z0, z1, z2, z3, x0, x1, rfl, _⟩ := h; rfl
  . obtain ⟨p, ln, lf, e0, e1, z0, z1, z2, z3, x0, x1, rfl, pn, gln, nln, ⟨n0, n1, n2, n3⟩, glf, nlf, ge0, ge1, fx0, fx1, q⟩ := h
    have hLtake := hr
    refine ⟨_, (R.scons (R.set (i := 3) sc_law_deed.nd (R.ix (R.kiL (K := K)) (R.v 1) (R.fn cLtake hLtake rfl (R.cons (R.v 0) (R.cons R.int R.nil))))) (R.scons (R.set (i := 4) sc_law_deed.nd (R.op R.add R.int (R.fn cLtake hLtake rfl (R.cons (R.v 0) (R.cons R.int R.nil))))) (R.scons (R.set (i := 5) sc_law_deed.nd (R.wtup (R.cons (R.ix (R.kiL (K := K)) (R.lst (R.cons R.str (R.cons R.str R.nil))) (R.fn cLtake hLtake rfl (R.cons (R.v 0) (R.cons R.int R.nil)))) (R.cons (R.v 3) (R.cons (R.v 4) R.nil))))) (R.scons (R.set (i := 6) sc_law_deed.nd (R.lst (R.cons (R.v 5) (R.cons (R.ix (R.kiL (K := K)) (R.v 2) R.int) (R.cons (R.ix (R.kiL (K := K)) (R.v 2) R.int) (R.cons (R.wtup (R.cons R.str (R.cons (R.ix (R.kiL (K := K)) (R.v 1) R.int) (R.cons (R.ix (R.kiL (K := K)) (R.v 1) R.int) (R.cons (R.v 4) R.nil))))) (R.cons (R.wtup (R.cons R.str (R.cons (R.ix (R.kiL (K := K)) (R.v 1) R.int) (R.cons (R.v 3) (R.cons (R.v 4) R.nil))))) R.nil))))))) (R.scons (R.set (i := 6) sc_law_deed.nd (R.op R.cat (R.v 6) (R.lst (R.cons (R.wtup (R.cons R.str (R.cons (R.ix (R.kiL (K := K)) (R.v 1) R.int) (R.cons (R.v 3) (R.cons (R.v 4) R.nil))))) (R.cons (R.wtup (R.cons R.str (R.cons (R.ix (R.kiL (K := K)) (R.v 1) R.int) (R.cons (R.ix (R.kiL (K := K)) (R.v 1) R.int) (R.cons (R.v 3) (R.cons (R.v 4) R.nil)))))) (R.cons R.non (R.cons R.bl (R.cons R.str R.nil)))))))) (R.scons (R.set (i := 6) sc_law_deed.nd (R.op R.cat (R.v 6) (R.lst (R.cons (R.callTy (R.ktoList (K := K)) rfl T.b_list bb_list (R.cons (R.v 5) R.nil)) (R.cons (R.sl R.sT (R.v 5) R.pn (R.ps R.int)) (R.cons (R.op R.catT (R.v 5) (R.wtup (R.cons (R.v 4) R.nil))) (R.cons (R.op R.catT (R.sl R.sT (R.v 5) R.pn (R.ps R.int)) (R.wtup (R.cons R.int R.nil))) (R.cons (R.op R.catT (R.sl R.sT (R.v 5) R.pn (R.ps R.int)) (R.wtup (R.cons (R.neg R.int) R.nil))) (R.cons R.dnew (R.cons (R.wtup R.nil) R.nil)))))))))) (R.scons (R.set (i := 6) sc_law_deed.nd (R.op R.cat (R.v 6) (R.lst (R.cons (R.op R.catT (R.sl R.sT (R.v 5) R.pn (R.ps R.int)) (R.wtup (R.cons (R.op R.add (R.op R.pow R.int R.int) (R.v 4)) R.nil))) R.nil)))) (R.scons (R.set (i := 6) sc_law_deed.nd (R.op R.cat (R.v 6) (R.lst (R.cons (R.op R.catT (R.sl R.sT (R.v 5) R.pn (R.ps R.int)) (R.wtup (R.cons R.bl R.nil))) (R.cons (R.op R.catT (R.sl R.sT (R.v 5) R.pn (R.ps R.int)) (R.wtup (R.cons R.str R.nil))) (R.cons (R.op R.catT (R.sl R.sT (R.v 5) R.pn (R.ps R.int)) (R.wtup (R.cons R.non R.nil))) (R.cons (R.wtup (R.cons (R.lst (R.cons R.str R.nil)) (R.cons (R.v 3) (R.cons (R.v 4) R.nil)))) (R.cons (R.wtup (R.cons R.str (R.cons (R.v 3) (R.cons (R.v 4) R.nil)))) R.nil)))))))) (R.scons (R.set (i := 6) sc_law_deed.nd (R.op R.cat (R.v 6) (R.lst (R.cons (R.wtup (R.cons R.str (R.cons (R.v 3) (R.cons (R.v 4) R.nil)))) (R.cons (R.wtup (R.cons R.str (R.cons R.str (R.cons (R.v 4) R.nil)))) (R.cons (R.wtup (R.cons R.str (R.cons (R.op R.addS (R.v 3) R.str) (R.cons (R.v 4) R.nil)))) (R.cons (R.wtup (R.cons R.str (R.cons R.str (R.cons (R.v 4) R.nil)))) (R.cons (R.wtup (R.cons R.str (R.cons (R.lst (R.cons (R.v 3) R.nil)) (R.cons (R.v 4) R.nil)))) R.nil)))))))) (R.scons (R.set (i := 6) sc_law_deed.nd (R.op R.cat (R.v 6) (R.lst (R.cons (R.wtup (R.cons R.str (R.cons R.int (R.cons (R.v 4) R.nil)))) (R.cons (R.wtup (R.cons R.str (R.cons R.non (R.cons (R.v 4) R.nil)))) (R.cons (R.wtup (R.cons (R.v 5) R.nil)) (R.cons (R.wtup (R.cons R.str (R.cons R.str (R.cons (R.v 4) R.nil)))) (R.cons (R.wtup (R.cons R.str (R.cons R.str (R.cons (R.v 4) R.nil)))) R.nil)))))))) (R.scons (R.ife (R.tcmp R.eq (R.fn cLtake hLtake rfl (R.cons (R.v 0) (R.cons R.int R.nil))) R.int) (R.sone (R.ret (R.ix (R.kiL (K := K)) (R.v 6) (R.fn cLtake hLtake rfl (R.cons (R.v 0) (R.cons R.int R.nil)))))) R.snil) (R.sone (R.ret (R.ix (R.kiL (K := K)) (R.v 6) (R.fn cLtake hLtake rfl (R.cons (R.v 0) (R.cons (R.callB (R.klenL (K := K)) rfl T.b_len bb_len (R.cons (R.v 6) R.nil)) R.nil))))))))))))))))), ?_⟩
    refine ⟨p, 3, rfl, pn, by decide, by decide, fun r1 H1 r10 r11 pn1 k1 => ⟨_, SqL.of (k1 _ _ gln nln), ?_⟩⟩
    obtain ⟨nm, hnm, hat⟩ : ∃ nm : Str, isNm nm /\ atI [V.str z0, .str z1, .str z2, .str z3] r1 = some (.str nm) := by
      have c3 : r1 = 0 ∨ r1 = 1 ∨ r1 = 2 := by omega
      rcases c3 with rfl | rfl | rfl
      . exact ⟨z0, n0, rfl⟩
      . exact ⟨z1, n1, rfl⟩
      . exact ⟨z2, n2, rfl⟩
    refine ⟨_, hat, ?_⟩
    dsimp only [gName]; show tSeq _ _ _ [some (.ref p), some (.ref ln), some (.ref lf), some (.str nm), none, none, none] H1
    refine cutS (t := tAsg _ _) (fun σ' H' => ∃ n, σ' = [some (.ref p), some (.ref ln), some (.ref lf), some (.str nm), some (.int n), none, none] /\ PenAt H' p /\ K1 p H1 H') (fun nx hnx => ⟨p, 9, rfl, pn1, by decide, by decide, fun r2 H2 r20 r21 pn2 k2 => hnx _ _ ⟨_, rfl, pn2, k2⟩⟩) (fun σ2 H2 ⟨n, en, pn2, k2⟩ => ?_)
    subst en; dsimp only [tSeq]; refine ⟨szl rfl, fun l1 h1 => ⟨p, 2, rfl, pn2.same (same_upd h1), by decide, by decide, fun r3 Ha r30 r31 pna ka => ⟨_, SqL.of (ka _ _ upd_same (pn2.ne h1)), ?_⟩⟩⟩
    obtain ⟨w5, hw5, hat5⟩ : ∃ w5 : Str, w5.length <= 1000 /\ atI [V.str "add", .str "take"] r3 = some (.str w5) := by
      have c2 : r3 = 0 ∨ r3 = 1 := by omega
      rcases c2 with rfl | rfl
      . exact ⟨"add", by decide +kernel, rfl⟩
      . exact ⟨"take", by decide +kernel, rfl⟩
    refine ⟨_, hat5, by simp, fun d5 H3 s3 g50 => ?_⟩
    dsimp only [gName]; show tSeq _ _ _ [some (.ref p), some (.ref ln), some (.ref lf), some (.str nm), some (.int n), some (.ref d5), none] H3
    have kH : K1 p H H3 := (k1.trans k2).trans (((K1.of (same_upd h1)).trans ka).trans (K1.of s3))
    have pn3 := pna.same s3
    have gz0 := kH _ _ gln nln
    have gf00 := kH _ _ glf nlf
    have gfa := kH _ _ ge0 (PenAt.tup pn ge0)
    have gfb := kH _ _ ge1 (PenAt.tup pn ge1)
    have hnl : nm.length <= 1000 := by have := hnm.2.1; omega
    have hnl8 := hnm.2.1
    have hz0 : z0.length <= 1000 := by have := n0.2.1; omega
    have hz1 : z1.length <= 1000 := by have := n1.2.1; omega
    have hz2 : z2.length <= 1000 := by have := n2.2.1; omega
    have lab : ("abcdefgh" : Str).length = 8 := by decide +kernel
    have el5 : ∀ {d : Nat} {G : Hp}, ∀ y ∈ ([.str w5, .str nm, .int n] : List V), Dp d G y := fun {d G} => Zfm.mpr ⟨.txt _ hw5, Zfm.mpr ⟨.txt _ hnl, Zfm.mpr ⟨.sml _ rfl, fun _ h => nomatch h⟩⟩⟩
    have hf0 : ∀ (d : Nat) {G : Hp}, ∀ y ∈ x0, Dp d G y := fun d {G} => .smls d fx0.2
    have hf1 : ∀ (d : Nat) {G : Hp}, ∀ y ∈ x1, Dp d G y := fun d {G} => .smls d fx1.2
    have hx0 : x0.length <= 10 + 1 := Nat.le_succ_of_le fx0.1
    have hx1 : x1.length <= 10 + 1 := Nat.le_succ_of_le fx1.1
    have at0z : atI [V.str z0, .str z1, .str z2, .str z3] 0 = some (.str z0) := rfl
    have at1z : atI [V.str z0, .str z1, .str z2, .str z3] 1 = some (.str z1) := rfl
    have at2z : atI [V.str z0, .str z1, .str z2, .str z3] 2 = some (.str z2) := rfl
    have at0f : atI [V.ref e0, .ref e1] 0 = some (.ref e0) := rfl
    have at1f : atI [V.ref e0, .ref e1] 1 = some (.ref e1) := rfl
    have sS : Same H3 H3 := Same.refl _
    have g5 := g50
    have gz := gz0
    have gf := gf00
    have gf0 := gfa
    have gf1 := gfb
    have pnS := pn3
    refine cutS (t := tAsg _ _) (fun σ' H' => ∃ l vs, σ' = [some (.ref p), some (.ref ln), some (.ref lf), some (.str nm), some (.int n), some (.ref d5), some (.ref l)] /\ H' l = some (.lst vs) /\ vs.length = 5 /\ (∀ y ∈ vs, Dp 2 H' y) /\ Same H3 H' /\ l ≠ p) (fun nx hnx => ?_) (fun σ0 G ⟨lS, vS, eS, gS, nS, dS, sS, neS⟩ => ?_)
    . refine ⟨_, SqL.of (gf), .ref e0, at0f, _, SqL.of (gf), .ref e1, at1f, _, SqL.of (gz), .str z0, at0z, _, SqL.of (gz), .str z1, at1z, by simp, fun t1 G1 r1 f1 => ⟨_, SqL.of (r1 _ _ (gz)), .str z2, at2z, by simp, fun t2 G2 r2 f2 => ⟨szl rfl, fun l hl => hnx _ _ ⟨l, _, rfl, upd_same, rfl, ?_, (((sS).trans (r1)).trans (r2)).trans (same_upd hl), ?_⟩⟩⟩⟩
      . exact Zfm.mpr ⟨.tup (same_upd hl _ _ (r2 _ _ (r1 _ _ (g5)))) (by simp) el5, Zfm.mpr ⟨.tup (same_upd hl _ _ (r2 _ _ (r1 _ _ (gf0)))) hx0 (hf0 1), Zfm.mpr ⟨.tup (same_upd hl _ _ (r2 _ _ (r1 _ _ (gf1)))) hx1 (hf1 1), Zfm.mpr ⟨.tup (same_upd hl _ _ (r2 _ _ (f1))) (by simp) (Zfm.mpr ⟨.sml _ (by decide +kernel), Zfm.mpr ⟨.txt _ hz0, Zfm.mpr ⟨.txt _ hz1, Zfm.mpr ⟨.sml _ rfl, fun _ h => nomatch h⟩⟩⟩⟩), Zfm.mpr ⟨.tup (same_upd hl _ _ (f2)) (by simp) (Zfm.mpr ⟨.sml _ (by decide +kernel), Zfm.mpr ⟨.txt _ hz2, Zfm.mpr ⟨.txt _ hnl, Zfm.mpr ⟨.sml _ rfl, fun _ h => nomatch h⟩⟩⟩⟩), fun _ h => nomatch h⟩⟩⟩⟩⟩
      . exact (((pnS).same (r1)).same (r2)).ne hl
    subst eS; dsimp only [tSeq]; have g5 := sS _ _ g50
    have gz := sS _ _ gz0
    have gf := sS _ _ gf00
    have gf0 := sS _ _ gfa
    have gf1 := sS _ _ gfb
    have pnS := pn3.same sS
    refine cutS (t := tAsg _ _) (fun σ' H' => ∃ l vs, σ' = [some (.ref p), some (.ref ln), some (.ref lf), some (.str nm), some (.int n), some (.ref d5), some (.ref l)] /\ H' l = some (.lst vs) /\ vs.length = 10 /\ (∀ y ∈ vs, Dp 2 H' y) /\ Same H3 H' /\ l ≠ p) (fun nx hnx => ?_) (fun σ1 G ⟨lS, vS, eS, gS, nS, dS, sS, neS⟩ => ?_)
    . refine ⟨_, SqL.of (gz), .str z1, at1z, by simp, fun t1 G1 r1 f1 => ⟨_, SqL.of (r1 _ _ (gz)), .str z0, at0z, _, SqL.of (r1 _ _ (gz)), .str z1, at1z, by simp, fun t2 G2 r2 f2 => ⟨szl rfl, fun l hl => ⟨vS, _, same_upd hl _ _ (r2 _ _ (r1 _ _ (gS))), upd_same, szl' (by rw [nS]; exact Nat.le_of_ble_eq_true rfl), fun l' hl' => hnx _ _ ⟨l', _, rfl, upd_same, by rw [Zla, nS]; rfl, ?_, ((((sS).trans (r1)).trans (r2)).trans (same_upd hl)).trans (same_upd hl'), ?_⟩⟩⟩⟩⟩
      . exact List.forall_mem_append.mpr ⟨fun y hy => ((((dS y hy).same (r1)).same (r2)).same (same_upd hl)).same (same_upd hl'), Zfm.mpr ⟨.tup (same_upd hl' _ _ (same_upd hl _ _ (r2 _ _ (f1)))) (by simp) (Zfm.mpr ⟨.sml _ (by decide +kernel), Zfm.mpr ⟨.txt _ hz1, Zfm.mpr ⟨.txt _ hnl, Zfm.mpr ⟨.sml _ rfl, fun _ h => nomatch h⟩⟩⟩⟩), Zfm.mpr ⟨.tup (same_upd hl' _ _ (same_upd hl _ _ (f2))) (by simp) (Zfm.mpr ⟨.sml _ (by decide +kernel), Zfm.mpr ⟨.txt _ hz0, Zfm.mpr ⟨.txt _ hz1, Zfm.mpr ⟨.txt _ hnl, Zfm.mpr ⟨.sml _ rfl, fun _ h => nomatch h⟩⟩⟩⟩⟩), Zfm.mpr ⟨.sml _ rfl, Zfm.mpr ⟨.sml _ rfl, Zfm.mpr ⟨.sml _ (by decide +kernel), fun _ h => nomatch h⟩⟩⟩⟩⟩⟩
      . exact ((((pnS).same (r1)).same (r2)).same (same_upd hl)).ne hl'
    subst eS; dsimp only [tSeq]; have g5 := sS _ _ g50
    have gz := sS _ _ gz0
    have gf := sS _ _ gf00
    have gf0 := sS _ _ gfa
    have gf1 := sS _ _ gfb
    have pnS := pn3.same sS
    refine cutS (t := tAsg _ _) (fun σ' H' => ∃ l vs, σ' = [some (.ref p), some (.ref ln), some (.ref lf), some (.str nm), some (.int n), some (.ref d5), some (.ref l)] /\ H' l = some (.lst vs) /\ vs.length = 17 /\ (∀ y ∈ vs, Dp 2 H' y) /\ Same H3 H' /\ l ≠ p) (fun nx hnx => ?_) (fun σ2 G ⟨lS, vS, eS, gS, nS, dS, sS, neS⟩ => ?_)
    . refine ⟨_, .inr (SqT.of (g5)), fun l1 n1 => ⟨_, same_upd n1 _ _ (g5), fun t2 G2 r2 f2 => ⟨by simp, fun t3 G3 r3 f3 => ⟨_, _, r3 _ _ (r2 _ _ (same_upd n1 _ _ (g5))), f3, by simp, fun t4 G4 r4 f4 => ⟨_, r4 _ _ (r3 _ _ (r2 _ _ (same_upd n1 _ _ (g5)))), fun t5 G5 r5 f5 => ⟨by simp, fun t6 G6 r6 f6 => ⟨_, _, r6 _ _ (f5), f6, Znt (Nat.add_le_add_right (cut_len _ _ _) _) (by simp), fun t7 G7 r7 f7 => ⟨_, r7 _ _ (r6 _ _ (r5 _ _ (r4 _ _ (r3 _ _ (r2 _ _ (same_upd n1 _ _ (g5))))))), fun t8 G8 r8 f8 => ⟨by simp, fun t9 G9 r9 f9 => ⟨_, _, r9 _ _ (f8), f9, Znt (Nat.add_le_add_right (cut_len _ _ _) _) (by simp), fun t10 G10 r10 f10 => fun d11 n11 => ⟨by simp, fun t12 G12 r12 f12 => ⟨szl rfl, fun l hl => ⟨vS, _, same_upd hl _ _ (r12 _ _ (same_upd n11 _ _ (r10 _ _ (r9 _ _ (r8 _ _ (r7 _ _ (r6 _ _ (r5 _ _ (r4 _ _ (r3 _ _ (r2 _ _ (same_upd n1 _ _ (gS))))))))))))), upd_same, szl' (by rw [nS]; exact Nat.le_of_ble_eq_true rfl), fun l' hl' => hnx _ _ ⟨l', _, rfl, upd_same, by rw [Zla, nS]; rfl, ?_, ((((((((((((((sS).trans (same_upd n1)).trans (r2)).trans (r3)).trans (r4)).trans (r5)).trans (r6)).trans (r7)).trans (r8)).trans (r9)).trans (r10)).trans (same_upd n11)).trans (r12)).trans (same_upd hl)).trans (same_upd hl'), ?_⟩⟩⟩⟩⟩⟩⟩⟩⟩⟩⟩⟩⟩⟩
      . exact List.forall_mem_append.mpr ⟨fun y hy => ((((((((((((((dS y hy).same (same_upd n1)).same (r2)).same (r3)).same (r4)).same (r5)).same (r6)).same (r7)).same (r8)).same (r9)).same (r10)).same (same_upd n11)).same (r12)).same (same_upd hl)).same (same_upd hl'), Zfm.mpr ⟨.lst _ (same_upd hl' _ _ (same_upd hl _ _ (r12 _ _ (same_upd n11 _ _ (r10 _ _ (r9 _ _ (r8 _ _ (r7 _ _ (r6 _ _ (r5 _ _ (r4 _ _ (r3 _ _ (r2 _ _ (upd_same)))))))))))))), Zfm.mpr ⟨.tup (same_upd hl' _ _ (same_upd hl _ _ (r12 _ _ (same_upd n11 _ _ (r10 _ _ (r9 _ _ (r8 _ _ (r7 _ _ (r6 _ _ (r5 _ _ (r4 _ _ (r3 _ _ (f2))))))))))))) (Znt (cut_len _ _ _) (by simp)) (fun y hy => el5 y (cut_mem hy)), Zfm.mpr ⟨.tup (same_upd hl' _ _ (same_upd hl _ _ (r12 _ _ (same_upd n11 _ _ (r10 _ _ (r9 _ _ (r8 _ _ (r7 _ _ (r6 _ _ (r5 _ _ (f4))))))))))) (by simp) (List.forall_mem_append.mpr ⟨el5, Zfm.mpr ⟨.sml _ rfl, fun _ h => nomatch h⟩⟩), Zfm.mpr ⟨.tup (same_upd hl' _ _ (same_upd hl _ _ (r12 _ _ (same_upd n11 _ _ (r10 _ _ (r9 _ _ (r8 _ _ (f7)))))))) (Znt (by rw [Zla]; exact Nat.add_le_add_right (cut_len _ _ _) _) (by simp)) (List.forall_mem_append.mpr ⟨fun y hy => el5 y (cut_mem hy), Zfm.mpr ⟨.sml _ rfl, fun _ h => nomatch h⟩⟩), Zfm.mpr ⟨.tup (same_upd hl' _ _ (same_upd hl _ _ (r12 _ _ (same_upd n11 _ _ (f10))))) (Znt (by rw [Zla]; exact Nat.add_le_add_right (cut_len _ _ _) _) (by simp)) (List.forall_mem_append.mpr ⟨fun y hy => el5 y (cut_mem hy), Zfm.mpr ⟨.sml _ rfl, fun _ h => nomatch h⟩⟩), Zfm.mpr ⟨.dct _ (same_upd hl' _ _ (same_upd hl _ _ (r12 _ _ (upd_same)))), Zfm.mpr ⟨.tup (same_upd hl' _ _ (same_upd hl _ _ (f12))) (by simp) (fun _ h => nomatch h), fun _ h => nomatch h⟩⟩⟩⟩⟩⟩⟩⟩
      . exact ((((((((((((((pnS).same (same_upd n1)).same (r2)).same (r3)).same (r4)).same (r5)).same (r6)).same (r7)).same (r8)).same (r9)).same (r10)).same (same_upd n11)).same (r12)).same (same_upd hl)).ne hl'
    subst eS; dsimp only [tSeq]; have g5 := sS _ _ g50
    have gz := sS _ _ gz0
    have gf := sS _ _ gf00
    have gf0 := sS _ _ gfa
    have gf1 := sS _ _ gfb
    have pnS := pn3.same sS
    refine cutS (t := tAsg _ _) (fun σ' H' => ∃ l vs, σ' = [some (.ref p), some (.ref ln), some (.ref lf), some (.str nm), some (.int n), some (.ref d5), some (.ref l)] /\ H' l = some (.lst vs) /\ vs.length = 18 /\ (∀ y ∈ vs, Dp 2 H' y) /\ Same H3 H' /\ l ≠ p) (fun nx hnx => ?_) (fun σ3 G ⟨lS, vS, eS, gS, nS, dS, sS, neS⟩ => ?_)
    . refine ⟨_, g5, fun t1 G1 r1 f1 => ⟨⟨by decide, by decide, by decide⟩, by simp, fun t2 G2 r2 f2 => ⟨_, _, r2 _ _ (f1), f2, Znt (Nat.add_le_add_right (cut_len _ _ _) _) (by simp), fun t3 G3 r3 f3 => ⟨szl rfl, fun l hl => ⟨vS, _, same_upd hl _ _ (r3 _ _ (r2 _ _ (r1 _ _ (gS)))), upd_same, szl' (by rw [nS]; exact Nat.le_of_ble_eq_true rfl), fun l' hl' => hnx _ _ ⟨l', _, rfl, upd_same, by rw [Zla, nS]; rfl, ?_, (((((sS).trans (r1)).trans (r2)).trans (r3)).trans (same_upd hl)).trans (same_upd hl'), ?_⟩⟩⟩⟩⟩⟩
      . exact List.forall_mem_append.mpr ⟨fun y hy => (((((dS y hy).same (r1)).same (r2)).same (r3)).same (same_upd hl)).same (same_upd hl'), Zfm.mpr ⟨.tup (same_upd hl' _ _ (same_upd hl _ _ (f3))) (Znt (by rw [Zla]; exact Nat.add_le_add_right (cut_len _ _ _) _) (by simp)) (List.forall_mem_append.mpr ⟨fun y hy => el5 y (cut_mem hy), Zfm.mpr ⟨.sml _ rfl, fun _ h => nomatch h⟩⟩), fun _ h => nomatch h⟩⟩
      . exact (((((pnS).same (r1)).same (r2)).same (r3)).same (same_upd hl)).ne hl'
    subst eS; dsimp only [tSeq]; have g5 := sS _ _ g50
    have gz := sS _ _ gz0
    have gf := sS _ _ gf00
    have gf0 := sS _ _ gfa
    have gf1 := sS _ _ gfb
    have pnS := pn3.same sS
    refine cutS (t := tAsg _ _) (fun σ' H' => ∃ l vs, σ' = [some (.ref p), some (.ref ln), some (.ref lf), some (.str nm), some (.int n), some (.ref d5), some (.ref l)] /\ H' l = some (.lst vs) /\ vs.length = 23 /\ (∀ y ∈ vs, Dp 2 H' y) /\ Same H3 H' /\ l ≠ p) (fun nx hnx => ?_) (fun σ4 G ⟨lS, vS, eS, gS, nS, dS, sS, neS⟩ => ?_)
    . refine ⟨_, g5, fun t1 G1 r1 f1 => ⟨by simp, fun t2 G2 r2 f2 => ⟨_, _, r2 _ _ (f1), f2, Znt (Nat.add_le_add_right (cut_len _ _ _) _) (by simp), fun t3 G3 r3 f3 => ⟨_, r3 _ _ (r2 _ _ (r1 _ _ (g5))), fun t4 G4 r4 f4 => ⟨by simp, fun t5 G5 r5 f5 => ⟨_, _, r5 _ _ (f4), f5, Znt (Nat.add_le_add_right (cut_len _ _ _) _) (by simp), fun t6 G6 r6 f6 => ⟨_, r6 _ _ (r5 _ _ (r4 _ _ (r3 _ _ (r2 _ _ (r1 _ _ (g5)))))), fun t7 G7 r7 f7 => ⟨by simp, fun t8 G8 r8 f8 => ⟨_, _, r8 _ _ (f7), f8, Znt (Nat.add_le_add_right (cut_len _ _ _) _) (by simp), fun t9 G9 r9 f9 => ⟨szl rfl, fun l10 n10 => ⟨by simp, fun t11 G11 r11 f11 => ⟨by simp, fun t12 G12 r12 f12 => ⟨szl rfl, fun l hl => ⟨vS, _, same_upd hl _ _ (r12 _ _ (r11 _ _ (same_upd n10 _ _ (r9 _ _ (r8 _ _ (r7 _ _ (r6 _ _ (r5 _ _ (r4 _ _ (r3 _ _ (r2 _ _ (r1 _ _ (gS))))))))))))), upd_same, szl' (by rw [nS]; exact Nat.le_of_ble_eq_true rfl), fun l' hl' => hnx _ _ ⟨l', _, rfl, upd_same, by rw [Zla, nS]; rfl, ?_, ((((((((((((((sS).trans (r1)).trans (r2)).trans (r3)).trans (r4)).trans (r5)).trans (r6)).trans (r7)).trans (r8)).trans (r9)).trans (same_upd n10)).trans (r11)).trans (r12)).trans (same_upd hl)).trans (same_upd hl'), ?_⟩⟩⟩⟩⟩⟩⟩⟩⟩⟩⟩⟩⟩⟩⟩
      . exact List.forall_mem_append.mpr ⟨fun y hy => ((((((((((((((dS y hy).same (r1)).same (r2)).same (r3)).same (r4)).same (r5)).same (r6)).same (r7)).same (r8)).same (r9)).same (same_upd n10)).same (r11)).same (r12)).same (same_upd hl)).same (same_upd hl'), Zfm.mpr ⟨.tup (same_upd hl' _ _ (same_upd hl _ _ (r12 _ _ (r11 _ _ (same_upd n10 _ _ (r9 _ _ (r8 _ _ (r7 _ _ (r6 _ _ (r5 _ _ (r4 _ _ (f3)))))))))))) (Znt (by rw [Zla]; exact Nat.add_le_add_right (cut_len _ _ _) _) (by simp)) (List.forall_mem_append.mpr ⟨fun y hy => el5 y (cut_mem hy), Zfm.mpr ⟨.sml _ rfl, fun _ h => nomatch h⟩⟩), Zfm.mpr ⟨.tup (same_upd hl' _ _ (same_upd hl _ _ (r12 _ _ (r11 _ _ (same_upd n10 _ _ (r9 _ _ (r8 _ _ (r7 _ _ (f6))))))))) (Znt (by rw [Zla]; exact Nat.add_le_add_right (cut_len _ _ _) _) (by simp)) (List.forall_mem_append.mpr ⟨fun y hy => el5 y (cut_mem hy), Zfm.mpr ⟨.sml _ (by decide +kernel), fun _ h => nomatch h⟩⟩), Zfm.mpr ⟨.tup (same_upd hl' _ _ (same_upd hl _ _ (r12 _ _ (r11 _ _ (same_upd n10 _ _ (f9)))))) (Znt (by rw [Zla]; exact Nat.add_le_add_right (cut_len _ _ _) _) (by simp)) (List.forall_mem_append.mpr ⟨fun y hy => el5 y (cut_mem hy), Zfm.mpr ⟨.sml _ rfl, fun _ h => nomatch h⟩⟩), Zfm.mpr ⟨.tup (same_upd hl' _ _ (same_upd hl _ _ (r12 _ _ (f11)))) (by simp) (Zfm.mpr ⟨.lst _ (same_upd hl' _ _ (same_upd hl _ _ (r12 _ _ (r11 _ _ (upd_same))))), Zfm.mpr ⟨.txt _ hnl, Zfm.mpr ⟨.sml _ rfl, fun _ h => nomatch h⟩⟩⟩), Zfm.mpr ⟨.tup (same_upd hl' _ _ (same_upd hl _ _ (f12))) (by simp) (Zfm.mpr ⟨.sml _ (by decide +kernel), Zfm.mpr ⟨.txt _ hnl, Zfm.mpr ⟨.sml _ rfl, fun _ h => nomatch h⟩⟩⟩), fun _ h => nomatch h⟩⟩⟩⟩⟩⟩
      . exact ((((((((((((((pnS).same (r1)).same (r2)).same (r3)).same (r4)).same (r5)).same (r6)).same (r7)).same (r8)).same (r9)).same (same_upd n10)).same (r11)).same (r12)).same (same_upd hl)).ne hl'
    subst eS; dsimp only [tSeq]; have g5 := sS _ _ g50
    have gz := sS _ _ gz0
    have gf := sS _ _ gf00
    have gf0 := sS _ _ gfa
    have gf1 := sS _ _ gfb
    have pnS := pn3.same sS
    refine cutS (t := tAsg _ _) (fun σ' H' => ∃ l vs, σ' = [some (.ref p), some (.ref ln), some (.ref lf), some (.str nm), some (.int n), some (.ref d5), some (.ref l)] /\ H' l = some (.lst vs) /\ vs.length = 28 /\ (∀ y ∈ vs, Dp 2 H' y) /\ Same H3 H' /\ l ≠ p) (fun nx hnx => ?_) (fun σ5 G ⟨lS, vS, eS, gS, nS, dS, sS, neS⟩ => ?_)
    . refine ⟨by simp, fun t1 G1 r1 f1 => ⟨by simp, fun t2 G2 r2 f2 => ⟨szl' (by omega), by simp, fun t3 G3 r3 f3 => ⟨by simp, fun t4 G4 r4 f4 => ⟨szl rfl, fun l5 n5 => ⟨by simp, fun t6 G6 r6 f6 => ⟨szl rfl, fun l hl => ⟨vS, _, same_upd hl _ _ (r6 _ _ (same_upd n5 _ _ (r4 _ _ (r3 _ _ (r2 _ _ (r1 _ _ (gS))))))), upd_same, szl' (by rw [nS]; exact Nat.le_of_ble_eq_true rfl), fun l' hl' => hnx _ _ ⟨l', _, rfl, upd_same, by rw [Zla, nS]; rfl, ?_, ((((((((sS).trans (r1)).trans (r2)).trans (r3)).trans (r4)).trans (same_upd n5)).trans (r6)).trans (same_upd hl)).trans (same_upd hl'), ?_⟩⟩⟩⟩⟩⟩⟩⟩⟩
      . exact List.forall_mem_append.mpr ⟨fun y hy => ((((((((dS y hy).same (r1)).same (r2)).same (r3)).same (r4)).same (same_upd n5)).same (r6)).same (same_upd hl)).same (same_upd hl'), Zfm.mpr ⟨.tup (same_upd hl' _ _ (same_upd hl _ _ (r6 _ _ (same_upd n5 _ _ (r4 _ _ (r3 _ _ (r2 _ _ (f1)))))))) (by simp) (Zfm.mpr ⟨.sml _ (by decide +kernel), Zfm.mpr ⟨.txt _ hnl, Zfm.mpr ⟨.sml _ rfl, fun _ h => nomatch h⟩⟩⟩), Zfm.mpr ⟨.tup (same_upd hl' _ _ (same_upd hl _ _ (r6 _ _ (same_upd n5 _ _ (r4 _ _ (r3 _ _ (f2))))))) (by simp) (Zfm.mpr ⟨.sml _ (by decide +kernel), Zfm.mpr ⟨.sml _ (by decide +kernel), Zfm.mpr ⟨.sml _ rfl, fun _ h => nomatch h⟩⟩⟩), Zfm.mpr ⟨.tup (same_upd hl' _ _ (same_upd hl _ _ (r6 _ _ (same_upd n5 _ _ (r4 _ _ (f3)))))) (by simp) (Zfm.mpr ⟨.sml _ (by decide +kernel), Zfm.mpr ⟨.txt _ (by rw [len_app]; omega), Zfm.mpr ⟨.sml _ rfl, fun _ h => nomatch h⟩⟩⟩), Zfm.mpr ⟨.tup (same_upd hl' _ _ (same_upd hl _ _ (r6 _ _ (same_upd n5 _ _ (f4))))) (by simp) (Zfm.mpr ⟨.sml _ (by decide +kernel), Zfm.mpr ⟨.sml _ (by decide +kernel), Zfm.mpr ⟨.sml _ rfl, fun _ h => nomatch h⟩⟩⟩), Zfm.mpr ⟨.tup (same_upd hl' _ _ (same_upd hl _ _ (f6))) (by simp) (Zfm.mpr ⟨.sml _ (by decide +kernel), Zfm.mpr ⟨.lst _ (same_upd hl' _ _ (same_upd hl _ _ (r6 _ _ (upd_same)))), Zfm.mpr ⟨.sml _ rfl, fun _ h => nomatch h⟩⟩⟩), fun _ h => nomatch h⟩⟩⟩⟩⟩⟩
      . exact ((((((((pnS).same (r1)).same (r2)).same (r3)).same (r4)).same (same_upd n5)).same (r6)).same (same_upd hl)).ne hl'
    subst eS; dsimp only [tSeq]; have g5 := sS _ _ g50
    have gz := sS _ _ gz0
    have gf := sS _ _ gf00
    have gf0 := sS _ _ gfa
    have gf1 := sS _ _ gfb
    have pnS := pn3.same sS
    refine cutS (t := tAsg _ _) (fun σ' H' => ∃ l vs, σ' = [some (.ref p), some (.ref ln), some (.ref lf), some (.str nm), some (.int n), some (.ref d5), some (.ref l)] /\ H' l = some (.lst vs) /\ vs.length = 33 /\ (∀ y ∈ vs, Dp 2 H' y) /\ Same H3 H' /\ l ≠ p) (fun nx hnx => ?_) (fun σ6 G ⟨lS, vS, eS, gS, nS, dS, sS, neS⟩ => ?_)
    . refine ⟨by simp, fun t1 G1 r1 f1 => ⟨by simp, fun t2 G2 r2 f2 => ⟨by simp, fun t3 G3 r3 f3 => ⟨by simp, fun t4 G4 r4 f4 => ⟨by simp, fun t5 G5 r5 f5 => ⟨szl rfl, fun l hl => ⟨vS, _, same_upd hl _ _ (r5 _ _ (r4 _ _ (r3 _ _ (r2 _ _ (r1 _ _ (gS)))))), upd_same, szl' (by rw [nS]; exact Nat.le_of_ble_eq_true rfl), fun l' hl' => hnx _ _ ⟨l', _, rfl, upd_same, by rw [Zla, nS]; rfl, ?_, (((((((sS).trans (r1)).trans (r2)).trans (r3)).trans (r4)).trans (r5)).trans (same_upd hl)).trans (same_upd hl'), ?_⟩⟩⟩⟩⟩⟩⟩⟩
      . exact List.forall_mem_append.mpr ⟨fun y hy => (((((((dS y hy).same (r1)).same (r2)).same (r3)).same (r4)).same (r5)).same (same_upd hl)).same (same_upd hl'), Zfm.mpr ⟨.tup (same_upd hl' _ _ (same_upd hl _ _ (r5 _ _ (r4 _ _ (r3 _ _ (r2 _ _ (f1))))))) (by simp) (Zfm.mpr ⟨.sml _ (by decide +kernel), Zfm.mpr ⟨.sml _ rfl, Zfm.mpr ⟨.sml _ rfl, fun _ h => nomatch h⟩⟩⟩), Zfm.mpr ⟨.tup (same_upd hl' _ _ (same_upd hl _ _ (r5 _ _ (r4 _ _ (r3 _ _ (f2)))))) (by simp) (Zfm.mpr ⟨.sml _ (by decide +kernel), Zfm.mpr ⟨.sml _ rfl, Zfm.mpr ⟨.sml _ rfl, fun _ h => nomatch h⟩⟩⟩), Zfm.mpr ⟨.tup (same_upd hl' _ _ (same_upd hl _ _ (r5 _ _ (r4 _ _ (f3))))) (by simp) (Zfm.mpr ⟨.tup (same_upd hl' _ _ (same_upd hl _ _ (r5 _ _ (r4 _ _ (r3 _ _ (r2 _ _ (r1 _ _ (g5)))))))) (by simp) (el5), fun _ h => nomatch h⟩), Zfm.mpr ⟨.tup (same_upd hl' _ _ (same_upd hl _ _ (r5 _ _ (f4)))) (by simp) (Zfm.mpr ⟨.sml _ (by decide +kernel), Zfm.mpr ⟨.sml _ (by decide +kernel), Zfm.mpr ⟨.sml _ rfl, fun _ h => nomatch h⟩⟩⟩), Zfm.mpr ⟨.tup (same_upd hl' _ _ (same_upd hl _ _ (f5))) (by simp) (Zfm.mpr ⟨.sml _ (by decide +kernel), Zfm.mpr ⟨.sml _ (by decide +kernel), Zfm.mpr ⟨.sml _ rfl, fun _ h => nomatch h⟩⟩⟩), fun _ h => nomatch h⟩⟩⟩⟩⟩⟩
      . exact (((((((pnS).same (r1)).same (r2)).same (r3)).same (r4)).same (r5)).same (same_upd hl)).ne hl'
    subst eS; dsimp only [tSeq]; have g5 := sS _ _ g50
    have gz := sS _ _ gz0
    have gf := sS _ _ gf00
    have gf0 := sS _ _ gfa
    have gf1 := sS _ _ gfb
    have pnS := pn3.same sS
    have kS := kH.trans (K1.of sS)
    refine ⟨p, 3, rfl, pnS, by decide, by decide, fun r5 H5 r50 r51 pn5 k5 => ?_⟩
    have gS5 := k5 _ _ gS neS
    have dS5 : ∀ y ∈ vS, Dp 2 H5 y := fun y hy => (dS y hy).pen k5 pnS pn5
    show if decide (r5 = 0) = true then _ else _
    refine if_b (fun h => ?_) (fun h => ?_)
    . refine ⟨p, 3, rfl, pn5, by decide, by decide, fun r6 H6 r60 r61 pn6 k6 => ?_⟩
      obtain ⟨j, rfl⟩ := Zio r60
      have hj : j < vS.length := by rw [nS]; omega
      exact ⟨_, SqL.of (k6 _ _ gS5 neS), vS[j], atI_nat (Zge hj), q _ _ ((dS5 _ (List.getElem_mem hj)).pen k6 pn5 pn6) pn6 ((kS.trans k5).trans k6)⟩
    . dsimp only [tNext]; refine ⟨_, .inl (SqL.of gS5), p, _, rfl, pn5, by rw [nS]; decide, by rw [nS]; decide, fun r6 H6 r60 r61 pn6 k6 => ?_⟩
      obtain ⟨j, rfl⟩ := Zio r60
      have hj : j < vS.length := by rw [nS] at r61 ⊢; omega
      exact ⟨_, SqL.of (k6 _ _ gS5 neS), vS[j], atI_nat (Zge hj), q _ _ ((dS5 _ (List.getElem_mem hj)).pen k6 pn5 pn6) pn6 ((kS.trans k5).trans k6)⟩
end
end KL
namespace KL
open PySem L2
section
variable {P : Program} {w : World} {K : W.Frag} {mg : Str -> Option Value} {base : Heap}
def fnd (en : List EN) (ky : Str) : Option EN := en.find? (fun z => decide (z.key = ky))
theorem fnd_mem {en : List EN} {ky : Str} {z : EN} (h : fnd en ky = some z) : z ∈ en /\ z.key = ky := ⟨List.mem_of_find?_eq_some h, by have := List.find?_some h; simpa using this⟩
theorem fnd_none {en : List EN} {ky : Str} (h : fnd en ky = none) : ¬ ky ∈ en.map (·.key) := fun hm => by
  obtain ⟨z, hz, e⟩ := Zmm.mp hm
  have := List.find?_eq_none.mp h z hz
  simp [e] at this
def askV (en : List EN) (ky : Str) : Option V := (fnd en ky).map fun z => if z.word = ("undone" : Str) then V.non else dvV z.dd
def AskD (H : Hp) (kd : Addr) (en : List EN) (L : Nat) : Prop := ∃ kvs, H kd = some (.dK kvs) /\ kvs.length <= L /\ ∀ ky : Str, valV kvs (Sum.inr ky) = askV en ky
theorem AskD.same {H H' : Hp} {kd : Addr} {en : List EN} {L : Nat} (s : Same H H') (h : AskD H kd en L) : AskD H' kd en L := let ⟨kvs, g, r⟩ := h; ⟨kvs, s _ _ g, r⟩
def dueW (H : Hp) (en : List EN) (x y : V) : Option Str :=
  if kyV x = false then some "key" else if plainV H y = false then some "deed"
  else match x with
    | .str ky => (match fnd en ky with
      | some z => if z.word = ("undone" : Str) then none else if z.dd.map (·.2) = partsV H y then none else some "other"
      | none => none)
    | _ => none
theorem plainV_same {H H' : Hp} {x : V} (s : Same H H') (h : Pc H x) : plainV H' x = plainV H x := by unfold plainV; rw [partsV_same s h]
theorem dueW_same {H H' : Hp} {en : List EN} {x y : V} (s : Same H H') (h : Pc H y) : dueW H' en x y = dueW H en x y := by unfold dueW; rw [plainV_same s h, partsV_same s h]
theorem plain_of {H : Hp} {y : V} (h : plainV H y = true) : ∃ d xs, y = .ref d /\ H d = some (.tup xs) /\ plainB xs = true := by
  unfold plainV at h; cases hp : partsV H y with
  | none => rw [hp] at h; cases h
  | some xs =>
    rw [hp] at h; obtain ⟨a, e, g⟩ := parts_of hp
    exact ⟨a, xs, e, g, h⟩
def spDue : Sp := fun vs H Q _ => ∃ x y kd en L, vs = [x, y, .ref kd] /\ Pt H x /\ Tg H y /\ AskD H kd en L /\ EAt H en /\ (∀ z ∈ en, Said z) /\ (∀ w, dueW H en x y = some w -> refW H Q w) /\ (dueW H en x y = none -> ∀ H', Same H H' -> Q .non H')
theorem ok_due (T : Txt K mg) (cLis_key : Callee P w K mg base 2 "_law_is_key" ["_law_thing"] (spTell (LET ++ FIG) 12)) (cLis_plain : Callee P w K mg base 2 "_law_is_plain" ["_law_thing"] spPlain) (D : DefAt K mg "_law_due" s_law_due ["_law_key_here", "_law_deed_here", "_law_asked"]) : Callee P w K mg base 3 "_law_due" ["_law_key_here", "_law_deed_here", "_law_asked"] spDue := by
  refine D.go sc_law_due (fun vs H Q E h => ?_) (fun f cdv A outer s H vs Q E hr h => ?_)
  . obtain ⟨x, y, kd, en, L, rfl, _⟩ := h; rfl
  . obtain ⟨x, y, kd, en, L, rfl, ⟨k, hk, hz⟩, ty, ⟨kvs, gk, hkl, hv⟩, ents, said, qs, qn⟩ := h
    have hu1 := hu_of hr
    have hu64 := hr.units
    have hLis_key := hr
    have hLis_plain := hr
    refine ⟨_, (R.scons (R.ife (R.tnot (R.val (R.fn cLis_key hLis_key rfl (R.cons (R.v 0) R.nil)))) (R.sone (R.ret (R.wtup (R.cons R.str (R.cons R.str R.nil))))) R.snil) (R.scons (R.ife (R.tnot (R.val (R.fn cLis_plain hLis_plain rfl (R.cons (R.v 1) R.nil)))) (R.sone (R.ret (R.wtup (R.cons R.str (R.cons R.str R.nil))))) R.snil) (R.scons (R.ife (R.tw (R.wand (R.tcmp (R.inD hu1) (R.v 0) (R.v 2)) (R.wand (R.tcmp R.notN (R.dix hu1 (R.v 2) (R.v 0)) R.non) (R.wand1 (R.tcmp (R.neF hu64) (R.dix hu1 (R.v 2) (R.v 0)) (R.v 1)))))) (R.sone (R.ret (R.wtup (R.cons R.str (R.cons R.str R.nil))))) R.snil) (R.sone (R.ret R.non))))), ?_⟩
    refine ⟨x, k, rfl, hk, hz, fun H1 s1 => ?_⟩
    show if (!kyV x) = true then _ else _
    refine if_b (fun hb => ?_) (fun hb => ?_)
    . have hb' : kyV x = false := by simpa using hb
      exact ⟨by simp, fun t H' s' g' => qs "key" (by unfold dueW; rw [if_pos hb']) t H' (s1.trans s') g'⟩
    have hb' : kyV x = true := by simpa using hb
    dsimp only [tNext]; refine ⟨y, rfl, ty.same s1, fun H2 s2 => ?_⟩
    rw [plainV_same s1 ty.1]; have s12 := s1.trans s2
    show if (!plainV H y) = true then _ else _
    refine if_b (fun hp => ?_) (fun hp => ?_)
    . have hp' : plainV H y = false := by simpa using hp
      exact ⟨by simp, fun t H' s' g' => qs "deed" (by unfold dueW; rw [hb', if_neg (by decide), if_pos hp']) t H' (s12.trans s') g'⟩
    have hp' : plainV H y = true := by simpa using hp
    dsimp only [tNext]; obtain ⟨ky, rfl, _⟩ := kyV_inv hb'
    obtain ⟨d, xs, rfl, gd, hpB⟩ := plain_of hp'
    obtain ⟨nm, n, wd, b, hD, _⟩ := plain_hd hpB
    have hx : HDX xs := ⟨_, _, _, _, hD⟩
    have eW : dueW H en (.str ky) (.ref d) = (match fnd en ky with | some z => if z.word = ("undone" : Str) then none else if z.dd.map (·.2) = some xs then none else some "other" | none => none) := by
      unfold dueW; rw [hb', if_neg (by decide), hp', if_neg (by decide), partsV_tup gd]
    have gk2 := s12 _ _ gk
    have gd2 := s12 _ _ gd
    refine cutT (t := tAnd _ _) (fun v H' => v = (dueW H en (.str ky) (.ref d)).isSome /\ H2 = H') (fun kk hkk => ?_) (fun v H' ⟨ev, eH⟩ => ?_)
    . refine ⟨kvs, gk2, ?_⟩
      show if (valV kvs (Sum.inr ky)).isSome = true then _ else _
      rw [hv ky]; cases hf : fnd en ky with
      | none =>
        rw [eW, hf] at hkk; refine if_f (by unfold askV; rw [hf]; rfl) (hkk _ _ ⟨rfl, rfl⟩)
      | some z =>
        obtain ⟨hz', hzk⟩ := fnd_mem hf
        rw [eW, hf] at hkk; dsimp only at hkk
        have eA : askV en ky = some (if z.word = ("undone" : Str) then V.non else dvV z.dd) := by unfold askV; rw [hf]; rfl
        refine if_t (by rw [eA]; rfl) ?_
        have dg : DGet H2 kd (.str ky) (some (if z.word = ("undone" : Str) then V.non else dvV z.dd)) := by
          have := DGet.k (k := Sum.inr ky) gk2
          rw [hv ky, eA] at this; exact this
        rcases said z hz' with hu | ⟨hw, d0, xs0, ed, hx0⟩
        . rw [if_pos hu] at dg hkk; exact ⟨kd, _, rfl, dg, hkk _ _ ⟨rfl, rfl⟩⟩
        have hund : z.word ≠ "undone" := by rcases hw with h | h <;> rw [h] <;> decide +kernel
        rw [if_neg hund] at dg hkk; have edv : dvV z.dd = .ref d0 := by rw [ed]; rfl
        rw [edv] at dg; have gd0 := s12 _ _ ((ents z hz').2 d0 xs0 ed)
        refine ⟨kd, _, rfl, dg, kd, _, rfl, dg, _, _, gd0, gd2, (fun j u v hu hv => ⟨hx0.flat hu, hx.flat hv⟩), ?_⟩
        refine hkk _ _ ⟨?_, rfl⟩
        show (!eqTup xs0 xs) = _
        rw [hx0.eqT hx, ed]; by_cases e : xs0 = xs
        . rw [decide_eq_true e, if_pos (show Option.map (fun x => x.2) (some (d0, xs0)) = some xs by rw [e]; rfl)]; rfl
        . rw [decide_eq_false e, if_neg (show ¬ Option.map (fun x => x.2) (some (d0, xs0)) = some xs from fun h => e (Option.some.inj h))]; rfl
    subst ev eH; refine if_b (fun h => ?_) (fun h => ?_)
    . refine ⟨by simp, fun t H' s' g' => qs "other" ?_ t H' (s12.trans s') g'⟩
      rw [eW] at h ⊢; cases hf : fnd en ky with
      | none => rw [hf] at h; cases h
      | some z =>
        rw [hf] at h; dsimp only at h ⊢
        split
        . rename_i h1; rw [if_pos h1] at h; cases h
        . rename_i h1
          split
          . rename_i h2; rw [if_neg h1, if_pos h2] at h; cases h
          . rfl
    . dsimp only [tNext]; refine qn ?_ _ s12
      cases e : dueW H en (.str ky) (.ref d) with
      | none => rfl
      | some v => rw [e] at h; cases h
end
end KL
namespace KL
open PySem L2
section
variable {P : Program} {w : World} {K : W.Frag} {mg : Str -> Option Value} {base : Heap}
theorem due_key {H : Hp} {en : List EN} {x y : V} (h : kyV x = false) : dueW H en x y = some ("key" : Str) := by unfold dueW; rw [if_pos h]
theorem due_deed {H : Hp} {en : List EN} {x y : V} (h : kyV x = true) (h2 : plainV H y = false) : dueW H en x y = some ("deed" : Str) := by unfold dueW; rw [h, if_neg (by decide), if_pos h2]
theorem due_rest {H : Hp} {en : List EN} {ky : Str} {d : Addr} {xs : List V} (h : kyV (.str ky) = true) (gd : H d = some (.tup xs)) (hp : plainV H (.ref d) = true) : dueW H en (.str ky) (.ref d) = (match fnd en ky with | some z => if z.word = ("undone" : Str) then none else if z.dd.map (·.2) = some xs then none else some "other" | none => none) := by
  unfold dueW; rw [h, if_neg (by decide), hp, if_neg (by decide), partsV_tup gd]
  try rfl
theorem ask_snoc {en : List EN} {z : EN} (h : ¬ z.key ∈ en.map (·.key)) (k : Str) : askV (en ++ [z]) k = if k = z.key then some (if z.word = ("undone" : Str) then V.non else dvV z.dd) else askV en k := by
  unfold askV fnd; rw [List.find?_append]; by_cases e : k = z.key
  . subst e; rw [if_pos rfl, List.find?_eq_none.mpr (fun y hy => by simp only [decide_eq_true_eq]; exact fun e => h (Zmm.mpr ⟨y, hy, e⟩))]
    simp
  . rw [if_neg e]; cases hf : en.find? (fun z => decide (z.key = k)) with
    | some y => rfl
    | none =>
      rw [List.find?_cons_of_neg (by simp only [decide_eq_true_eq]; exact fun e' => e e'.symm)]
      rfl
theorem ask_rep {en : List EN} {ky : Str} {z' : EN} (h : ky ∈ en.map (·.key)) (hk : z'.key = ky) (hw : z'.word = "undone") (k : Str) : askV (repE en ky z') k = if k = ky then some V.non else askV en k := by
  unfold askV fnd repE; rw [List.find?_map]; have ef : ((fun z : EN => decide (z.key = k)) ∘ fun z => if z.key = ky then z' else z) = fun z => decide (z.key = k) := funext fun z => by
    show decide ((if z.key = ky then z' else z).key = k) = _
    split
    . rename_i e; rw [hk, e]
    . rfl
  rw [ef]; cases hf : en.find? (fun z => decide (z.key = k)) with
  | none =>
    rw [if_neg fun e => ?_]
    . rfl
    obtain ⟨z, hz, e'⟩ := Zmm.mp h
    have := List.find?_eq_none.mp hf z hz
    simp [e', e] at this
  | some z =>
    have hz : z.key = k := by have := List.find?_some hf; simpa using this
    show some _ = _
    dsimp only; by_cases e : k = ky
    . rw [if_pos (hz.trans e), if_pos e, if_pos hw]
    . rw [if_neg (fun e' => e (hz.symm.trans e')), if_neg e]; rfl
def SD (z : EN) : Prop := Said z /\ ∀ d xs, z.dd = some (d, xs) -> HDX xs
theorem HDX.sc {xs : List V} (h : HDX xs) : ∀ y ∈ xs, isSc y = true := by
  obtain ⟨a, b, c, rfl⟩ := h.shape
  intro y hy; simp only [List.mem_cons, List.not_mem_nil, or_false] at hy
  rcases hy with rfl | rfl | rfl <;> rfl
theorem HAt.off1 {C : Addr} {H H' : Hp} {p kd : Addr} {a : HF} {am : List (Str × Int)} {cl : Str -> Bool} {en : List EN} {L : Nat} {x1 : List (Key × V)} (h : HAt C H p a am cl en L) (hk : H kd = some (.dK x1))
    (n1 : kd ≠ a.da /\ kd ≠ a.dc /\ kd ≠ a.de) (k : ∀ b o, H b = some o -> b ≠ kd -> H' b = some o) : HAt C H' p a am cl en L := by
  obtain ⟨kvs, g, l, r⟩ := h.hc
  have kt : ∀ {b : Addr} {ys : List V}, H b = some (.tup ys) -> H' b = some (.tup ys) := fun e => k _ _ e (ne_of e hk (fun z => nomatch z))
  exact ⟨k _ _ h.hp (ne_of h.hp hk (fun z => nomatch z)), k _ _ h.ha n1.1.symm, ⟨kvs, k _ _ g n1.2.1.symm, l, r⟩, k _ _ h.he n1.2.2.symm, h.ents.keep (fun b xs e => kt e), h.nda, h.nde, h.la, h.le, h.ac, h.ae, h.ce⟩
structure StD (C : Addr) (H : Hp) (p : Addr) (a : HF) (kd : Addr) (am : List (Str × Int)) (cl : Str -> Bool) (en : List EN) (L : Nat) : Prop where
  ht : HAt C H p a am cl en L
  ask : AskD H kd en L
  sd : ∀ z ∈ en, SD z
  n1 : kd ≠ a.da /\ kd ≠ a.dc /\ kd ≠ a.de
theorem StD.same {C : Addr} {H H' : Hp} {p kd : Addr} {a : HF} {am : List (Str × Int)} {cl : Str -> Bool} {en : List EN} {L : Nat} (h : StD C H p a kd am cl en L) (s : Same H H') : StD C H' p a kd am cl en L := ⟨h.ht.same s, h.ask.same s, h.sd, h.n1⟩
theorem StD.said {C : Addr} {H : Hp} {p kd : Addr} {a : HF} {am : List (Str × Int)} {cl : Str -> Bool} {en : List EN} {L : Nat} (h : StD C H p a kd am cl en L) : ∀ z ∈ en, Said z := fun z hz => (h.sd z hz).1
theorem StD.dsc {C : Addr} {H : Hp} {p kd : Addr} {a : HF} {am : List (Str × Int)} {cl : Str -> Bool} {en : List EN} {L : Nat} (h : StD C H p a kd am cl en L) : DdSc en := fun z hz d xs e => ((h.sd z hz).2 d xs e).sc
theorem ask_put {H : Hp} {kd : Addr} {en en' : List EN} {L : Nat} {ky : Str} {v : V} (h : AskD H kd en L) (hL : L <= 500) (e : ∀ k : Str, askV en' k = if k = ky then some v else askV en k) : ∃ H', DPut H kd (.str ky) v H' /\ AskD H' kd en' (L + 1) /\ (∀ b o, H b = some o -> b ≠ kd -> H' b = some o) := by
  obtain ⟨kvs, g, l, r⟩ := h
  refine ⟨_, DPut.k (k := Sum.inr ky) g (Znl (by omega : kvs.length <= 500) (by decide)), ⟨_, upd_same, ?_, fun k => ?_⟩, fun b o e h => by rw [upd_ne h]; exact e⟩
  . have := length_putK kvs (Sum.inr ky) v
    omega
  . rw [valV_put, e, r]; by_cases e : k = ky
    . rw [if_pos e, if_pos (congrArg Sum.inr e)]
    . rw [if_neg e, if_neg (fun h => e (Sum.inr.inj h))]
def refB (H : Hp) (en : List EN) (x y : V) (un : Bool) : Bool := !kyV x || (!un && (dueW H en x y).isSome)
def UnD (C : Addr) (H H' : Hp) (p : Addr) (a : HF) (am : List (Str × Int)) (cl : Str -> Bool) (en : List EN) (L : Nat) (ky : Str) : Prop := ∃ am' en', HAt C H' p a am' cl en' (L + 1) /\ (∀ z ∈ en', SD z) /\ (∀ k : Str, askV en' k = if k = ky then some V.non else askV en k) /\ am'.length <= am.length + 1 /\ en'.length <= en.length + 1 /\ ∀ c o, H c = some o -> c ≠ a.da -> c ≠ a.de -> H' c = some o
theorem UnD.same {C : Addr} {H H' H2 : Hp} {p : Addr} {a : HF} {am : List (Str × Int)} {cl : Str -> Bool} {en : List EN} {L : Nat} {ky : Str} (h : UnD C H H' p a am cl en L ky) (s : Same H' H2) : UnD C H H2 p a am cl en L ky :=
  let ⟨am', en', h1, h2, h3, h4, h5, h6⟩ := h
  ⟨am', en', h1.same s, h2, h3, h4, h5, fun c o e a b => s _ _ (h6 c o e a b)⟩
theorem sd_rep {en : List EN} {ky : Str} {z z' : EN} {e : Addr} (h : ∀ z ∈ en, SD z) (hz : z ∈ en) (hz' : z' ∈ repE en ky ⟨ky, e, z.dd, "undone"⟩) : SD z' := by
  obtain ⟨y, hy, rfl⟩ := Zmm.mp hz'
  split
  . exact ⟨.inl rfl, (h z hz).2⟩
  . exact h y hy
def spStep (C : Addr) : Sp := fun vs H Q _ => ∃ (p kd : Addr) (x y : V) (un : Bool) (a : HF) (am : List (Str × Int)) (cl : Str -> Bool) (en : List EN) (L : Nat), vs = [.ref p, x, y, .ref kd, .bl un] /\ StD C H p a kd am cl en L /\ L <= 400 /\ Pt H x /\ Tg H y ∧
  (refB H en x y un = true -> ∀ H', Same H H' -> Q (.bl true) H') ∧
  (refB H en x y un = false -> ∀ H' am' en', StD C H' p a kd am' cl en' (L + 1) -> am'.length <= am.length + 1 -> en'.length <= en.length + 1 -> (∀ c o, H c = some o -> c ≠ a.da -> c ≠ a.de -> c ≠ kd -> H' c = some o) -> Q (.bl true) H')
theorem ok_step {C CO : Addr} (T : Txt K mg) (cLsame : Callee P w K mg base 5 "_law_same" ["_law_found", "_law_due_here"] (spSame 3)) (cLdue : Callee P w K mg base 3 "_law_due" ["_law_key_here", "_law_deed_here", "_law_asked"] spDue) (cLis_key : Callee P w K mg base 2 "_law_is_key" ["_law_thing"] (spTell (LET ++ FIG) 12))
    (cLundone : Callee P w K mg base 5 "_law_undone" ["_law_house", "_law_key_here"] (spUndoneY C)) (cLsaid : Callee P w K mg base 6 "_law_said" ["_law_house", "_law_key_here", "_law_deed_here"] (spSaidY C CO))
    (D : DefAt K mg "_law_step" s_law_step ["_law_house", "_law_key_here", "_law_deed_here", "_law_asked", "_law_undoes"]) : Callee P w K mg base 7 "_law_step" ["_law_house", "_law_key_here", "_law_deed_here", "_law_asked", "_law_undoes"] (spStep C) := by
  refine D.go sc_law_step (fun vs H Q E h => ?_) (fun f cdv A outer s H vs Q E hr h => ?_)
  . obtain ⟨p, kd, x, y, un, a, am, cl, en, L, rfl, _⟩ := h; rfl
  . obtain ⟨p, kd, x, y, un, a, am, cl, en, L, rfl, st, hL, px, ty, q1, q2⟩ := h
    have hu1 := hu_of hr
    have hu64 := hr.units
    have hLsame : Room 5 _ := hr.mono (by decide)
    have hLdue : Room 3 _ := hr.mono (by decide)
    have hLis_key : Room 2 _ := hr.mono (by decide)
    have hLundone : Room 5 _ := hr.mono (by decide)
    have hLsaid := hr
    refine ⟨_, (R.scons (R.set (i := 5) sc_law_step.nd (R.fn cLdue hLdue rfl (R.cons (R.v 1) (R.cons (R.v 2) (R.cons (R.v 3) R.nil))))) (R.scons (R.ife (R.val (R.v 4)) (R.scons (R.set (i := 5) sc_law_step.nd (R.ix (R.kiL (K := K)) (R.lst (R.cons R.non (R.cons (R.wtup (R.cons R.str (R.cons R.str R.nil))) R.nil))) (R.callTy R.toInt rfl T.b_int bb_int (R.cons (R.not (R.fn cLis_key hLis_key rfl (R.cons (R.v 1) R.nil))) R.nil)))) (R.scons (R.ife (R.tnot (R.val (R.fn cLsame hLsame rfl (R.cons (R.fn cLundone hLundone rfl (R.cons (R.v 0) (R.cons (R.v 1) R.nil))) (R.cons (R.v 5) R.nil))))) (R.sone (R.ret R.bl)) R.snil) (R.scons (R.ife (R.tcmp R.isN (R.v 5) R.non) (R.sone (R.asg R.non (R.gsub (R.v 3) (R.v 1) (R.setD hu1)))) R.snil) (R.sone (R.ret R.bl))))) R.snil) (R.scons (R.set (i := 6) sc_law_step.nd (R.fn cLsaid hLsaid rfl (R.cons (R.v 0) (R.cons (R.v 1) (R.cons (R.v 2) R.nil))))) (R.scons (R.ife (R.tcmp R.notN (R.v 5) R.non) (R.sone (R.ret (R.fn cLsame hLsame rfl (R.cons (R.v 6) (R.cons (R.v 5) R.nil))))) R.snil) (R.scons (R.ife (R.tcmp (R.notInD hu1) (R.v 1) (R.v 3)) (R.sone (R.asg (R.v 2) (R.gsub (R.v 3) (R.v 1) (R.setD hu1)))) R.snil) (R.sone (R.ret (R.and (R.isi .str (R.v 6) rfl T.b_isinstance rfl T.b_str bb_str) (R.one (R.cmp (R.kinQ (K := K)) (R.v 6) (R.ix (R.kiL (K := K)) (R.lst (R.cons (R.lst (R.cons R.str R.nil)) (R.cons (R.lst (R.cons R.str (R.cons R.str R.nil))) R.nil))) (R.callTy R.toInt rfl T.b_int bb_int (R.cons (R.cmp R.notN (R.dix hu1 (R.v 3) (R.v 1)) R.non) R.nil))))))))))))), ?_⟩
    have rp : ∀ {H' : Hp} {t : Addr} {w : Str}, H' t = some (.tup [.str "refused", .str w]) -> Rep H' 3 (.tp [.sc (.str "refused"), .sc (.str w)]) (.ref t) := fun {H' t w} g => ⟨t, _, rfl, g, .cons (Rep.scal rfl) (.cons (Rep.scal rfl) .nil)⟩
    have okr : ∀ w : Str, okT 3 (.tp [.sc (.str "refused"), .sc (.str w)]) := fun w => ⟨by simp, fun t h => by
      simp only [List.mem_cons, List.not_mem_nil, or_false] at h
      rcases h with rfl | rfl <;> trivial⟩
    refine cutS (t := tAsg _ _) (fun σ' H' => ∃ v, σ' = [some (.ref p), some x, some y, some (.ref kd), some (.bl un), some v, none] /\ Same H H' /\ ((dueW H en x y = none /\ v = .non) ∨ ∃ w t, dueW H en x y = some w /\ v = .ref t /\ H' t = some (.tup [.str "refused", .str w]))) (fun nx hnx => ?_) ?_
    . exact ⟨x, y, kd, en, L, rfl, px, ty, st.ask, st.ht.ents, st.said, fun w hw t H1 s1 g1 => hnx _ _ ⟨_, rfl, s1, .inr ⟨w, t, hw, rfl, g1⟩⟩, fun hn H1 s1 => hnx _ _ ⟨_, rfl, s1, .inl ⟨hn, rfl⟩⟩⟩
    rintro σ' H1 ⟨v5, rfl, s1, hv⟩
    dsimp only; have st1 := st.same s1
    have px1 : Pt H1 x := px.same s1
    have ty1 := ty.same s1
    show if un = true then _ else _
    cases un with
    | true =>
      rw [if_pos rfl]; refine cutS (t := tAsg _ _) (fun σ' H' => ∃ v, σ' = [some (.ref p), some x, some y, some (.ref kd), some (.bl true), some v, none] /\ Same H1 H' /\ ((kyV x = true /\ v = .non) ∨ (kyV x = false /\ ∃ t, v = .ref t /\ H' t = some (.tup [.str "refused", .str "key"])))) (fun nx hnx => ?_) ?_
      . refine ⟨by simp, fun t H2 s2 g2 => ⟨szl rfl, fun l hl => ?_⟩⟩
        have s13 := s2.trans (same_upd (o := .lst [.non, .ref t]) hl)
        obtain ⟨k, hk, hz⟩ := px1.same s13
        refine ⟨x, k, rfl, hk, hz, fun H3 s3 => ?_⟩
        cases hb : kyV x with
        | false => 
          rw [show madeOf x (LET ++ FIG) 12 = false from hb]; exact ⟨_, SqL.of (s3 _ _ upd_same), .ref t, rfl, hnx _ _ ⟨_, rfl, s13.trans s3, .inr ⟨hb, t, rfl, s3 _ _ (same_upd hl _ _ g2)⟩⟩⟩
        | true => 
          rw [show madeOf x (LET ++ FIG) 12 = true from hb]; exact ⟨_, SqL.of (s3 _ _ upd_same), .non, rfl, hnx _ _ ⟨_, rfl, s13.trans s3, .inl ⟨hb, rfl⟩⟩⟩
      rintro σ' H2 ⟨v, rfl, s2, hv2⟩
      dsimp only; have s12 := s1.trans s2
      have st2 := st.same s12
      refine cutS (t := tIfS _ _ _) (fun σ' H' => σ' = [some (.ref p), some x, some y, some (.ref kd), some (.bl true), some v, none] /\ ((kyV x = false /\ Same H H' /\ ∃ t, v = .ref t) ∨ (v = .non /\ ∃ ky, x = .str ky /\ kyV x = true /\ UnD C H H' p a am cl en L ky))) (fun nx hnx => ?_) ?_
      . refine cutE (t := tFn (spUndoneY C) _) (fun v' H' => (kyV x = false /\ Same H2 H' /\ ∃ t, v' = .ref t /\ H' t = some (.tup [.str "refused", .str "key"])) ∨ (v' = .non /\ ∃ ky, x = .str ky /\ kyV x = true /\ UnD C H H' p a am cl en L ky)) (fun kk hkk => ?_) (fun v' H3 h => ?_)
        . refine ⟨p, x, rfl, px.same s12, ⟨a, am, cl, en, L, st2.ht⟩, fun hk t H3 s3 g3 => hkk _ _ (.inl ⟨hk, s3, t, rfl, g3⟩), fun ky e hk => ?_⟩
          subst e; have hky : isKy ky := by obtain ⟨z, e, h⟩ := kyV_inv hk; cases e; exact h
          refine ⟨a, am, cl, en, L, st2.ht, by omega, hky, st.said, fun hn H3 e ht3 k3 => ?_, fun z hz hzk hw H3 e ht3 k3 => ?_, fun z hz hzk hw d xs nm n wd b hd hD H3 e ht3 k3 => ?_⟩
          . refine hkk _ _ (.inr ⟨rfl, ky, rfl, hk, am, _, ht3, fun z hz => ?_, ask_snoc (z := ⟨ky, e, none, "undone"⟩) hn, Nat.le_succ _, by rw [Zla]; exact Znr _, fun c o e h1 h2 => k3 c o (s12 _ _ e) h1 h2⟩)
            rcases Zma.mp hz with h | h
            . exact st.sd z h
            . rw [Zms.mp h]; exact ⟨.inl rfl, fun _ _ e => nomatch e⟩
          . have hm : ky ∈ en.map (·.key) := Zmm.mpr ⟨z, hz, hzk⟩
            refine hkk _ _ (.inr ⟨rfl, ky, rfl, hk, am, _, ht3, fun z' hz' => ?_, ask_rep hm rfl rfl, Nat.le_succ _, by unfold repE; rw [Zlm]; exact Nat.le_succ _, fun c o e h1 h2 => k3 c o (s12 _ _ e) h1 h2⟩)
            exact sd_rep st.sd hz hz'
          . have hm : ky ∈ en.map (·.key) := Zmm.mpr ⟨z, hz, hzk⟩
            refine hkk _ _ (.inr ⟨rfl, ky, rfl, hk, _, _, ht3, fun z' hz' => ?_, ask_rep hm rfl rfl, len_putB _ _ _, by unfold repE; rw [Zlm]; exact Nat.le_succ _, fun c o e h1 h2 => k3 c o (s12 _ _ e) h1 h2⟩)
            exact sd_rep st.sd hz hz'
        rcases h with ⟨hk, s3, t, rfl, g3⟩ | ⟨rfl, ky, ex, hk, hu⟩
        . rcases hv2 with ⟨h, _⟩ | ⟨_, t2, rfl, g2⟩
          . rw [hk] at h; cases h
          refine ⟨_, _, _, rfl, rp g3, rp (s3 _ _ g2), okr _, fun H4 s4 => ?_⟩
          exact hnx _ _ ⟨rfl, .inl ⟨hk, (s12.trans s3).trans s4, t2, rfl⟩⟩
        . rcases hv2 with ⟨_, rfl⟩ | ⟨h, _⟩
          rotate_left
          . rw [hk] at h; cases h
          refine ⟨_, _, .sc .non, rfl, Rep.scal rfl, Rep.scal rfl, trivial, fun H4 s4 => ?_⟩
          exact hnx _ _ ⟨rfl, .inr ⟨rfl, ky, ex, hk, hu.same s4⟩⟩
      rintro σ' H3 ⟨rfl, h⟩
      dsimp only; show if decide (v = V.non) = true then _ else _
      rcases h with ⟨hk, s3, t, rfl⟩ | ⟨rfl, ky, rfl, hk, am', en', ht', sd', ea, hal, hel, k3⟩
      . rw [decide_eq_false (fun h => nomatch h), if_neg (by decide)]
        exact q1 (by unfold refB; rw [hk]; rfl) H3 s3
      . rw [decide_eq_true rfl, if_pos rfl]; have ak3 : AskD H3 kd en L := let ⟨kvs, g, r⟩ := st.ask; ⟨kvs, k3 _ _ g st.n1.1 st.n1.2.2, r⟩
        obtain ⟨H4, dp, ak4, k4⟩ := ask_put ak3 (by omega) ea
        refine ⟨kd, H4, rfl, dp, ?_⟩
        obtain ⟨kvs3, gk3, _⟩ := ak3
        exact q2 (by unfold refB; rw [hk]; rfl) H4 am' en' ⟨ht'.off1 gk3 st.n1 k4, ak4, sd', st.n1⟩ hal hel fun c o e h1 h2 h3 => k4 _ _ (k3 _ _ e h1 h2) h3
    | false =>
      rw [if_neg (by decide)]
      dsimp only [tNext]; refine cutS (t := tAsg _ _) (fun σ' H' => ∃ v, σ' = [some (.ref p), some x, some y, some (.ref kd), some (.bl false), some v5, some v] /\ ((∃ w t, dueW H en x y = some w /\ v = .ref t /\ H' t = some (.tup [.str "refused", .str w]) /\ Same H1 H') ∨ (dueW H en x y = none /\ ∃ ky d xs, x = .str ky /\ y = .ref d /\ H d = some (.tup xs) /\ HDX xs /\ kyV x = true /\ ((∃ z, fnd en ky = some z /\ v = .str z.word /\ Same H1 H') ∨ (fnd en ky = none /\ ∃ c e am', v = .str (yn c) /\ am'.length <= am.length + 1 /\ HAt C H' p a am' cl (en ++ [⟨ky, e, some (d, xs), yn c⟩]) (L + 1) /\ ∀ c o, H1 c = some o -> c ≠ a.da -> c ≠ a.de -> H' c = some o))))) (fun nx hnx => ?_) ?_
      . refine ⟨p, x, y, rfl, px1, ty1, ⟨a, am, cl, en, L, st1.ht⟩, fun hk t H2 s2 g2 => hnx _ _ ⟨_, rfl, .inl ⟨"key", t, due_key hk, rfl, g2, s2⟩⟩, fun hk hp t H2 s2 g2 => hnx _ _ ⟨_, rfl, .inl ⟨"deed", t, due_deed hk (by rw [plainV_same s1 ty.1] at hp; exact hp), rfl, g2, s2⟩⟩, fun ky d ex ey hk hp => ?_⟩
        subst ex ey; rw [plainV_same s1 ty.1] at hp; obtain ⟨d', xs, ed, gd, hB⟩ := plain_of hp
        cases ed
        obtain ⟨nm, n, wd, b, hD, hnm, h1, h2⟩ := plain_hd hB
        have hx : HDX xs := ⟨_, _, _, _, hD⟩
        have eW := due_rest (en := en) hk gd hp
        have hky : isKy ky := by obtain ⟨z, e, h⟩ := kyV_inv hk; cases e; exact h
        refine ⟨a, am, cl, en, L, nm, n, wd, xs, b, st1.ht, by omega, s1 _ _ gd, hD, hnm, h1, h2, hky, st.said, fun hn H2 e ht2 k2 => ?_, fun z hz hzk hw H2 s2 => ?_, fun z hz hzk hw hx' H2 s2 t H3 s3 g3 => ?_⟩
        . have hf : fnd en ky = none := List.find?_eq_none.mpr (fun y hy => by simp only [decide_eq_true_eq]; exact fun e => hn (Zmm.mpr ⟨y, hy, e⟩))
          rw [hf] at eW; refine hnx _ _ ⟨_, rfl, .inr ⟨eW, ky, d, xs, rfl, rfl, gd, hx, hk, .inr ⟨hf, _, e, _, rfl, ?_, ht2, k2⟩⟩⟩
          unfold aft; split
          . exact len_putB _ _ _
          . exact Nat.le_succ _
        . have hf : fnd en ky = some z := by subst hzk; exact find_key st.ht.nde hz
          refine hnx _ _ ⟨_, rfl, .inr ⟨?_, ky, d, xs, rfl, rfl, gd, hx, hk, .inl ⟨z, hf, rfl, s2⟩⟩⟩
          rw [eW, hf]; dsimp only; rcases hw with h | h
          . rw [if_pos h]
          . rw [if_pos h]; split <;> rfl
        . have hf : fnd en ky = some z := by subst hzk; exact find_key st.ht.nde hz
          refine hnx _ _ ⟨_, rfl, .inl ⟨"other", t, ?_, rfl, g3, s2.trans s3⟩⟩
          rw [eW, hf]; dsimp only; rw [if_neg hw, if_neg hx']
      rintro σ' H2 ⟨v6, rfl, h6⟩
      dsimp only; show if (!decide (v5 = V.non)) = true then _ else _
      rcases h6 with ⟨w, t, hd, rfl, g2, s2⟩ | ⟨hd, ky, d, xs, rfl, rfl, gd, hx, hk, h6⟩
      . rcases hv with ⟨h, _⟩ | ⟨w', t', hd', rfl, g1⟩
        . rw [hd] at h; cases h
        obtain rfl : w' = w := by rw [hd] at hd'; exact (Option.some.inj hd').symm
        rw [decide_eq_false (fun h => nomatch h), if_pos (by decide)]
        refine ⟨_, _, _, rfl, rp g2, rp (s2 _ _ g1), okr _, fun H3 s3 => ?_⟩
        exact q1 (by unfold refB; rw [hd]; simp) H3 ((s1.trans s2).trans s3)
      . rcases hv with ⟨_, rfl⟩ | ⟨w', t', hd', _⟩
        rotate_left
        . rw [hd] at hd'; cases hd'
        rw [decide_eq_true rfl, if_neg (by decide)]
        dsimp only [tNext]; have rb : refB H en (.str ky) (.ref d) false = false := by unfold refB; rw [hk, hd]; rfl
        refine cutS (t := tIfS _ _ _) (fun σ' H' => ∃ wd u, σ' = [some (.ref p), some (.str ky), some (.ref d), some (.ref kd), some (.bl false), some .non, some (.str wd)] /\ (∀ H'', Same H' H'' -> DGet H'' kd (.str ky) (some u)) /\ ((u = .non /\ wd = "undone") ∨ ((∃ d0, u = .ref d0) /\ (wd = "yes" ∨ wd = "no"))) /\ ∀ H'', Same H' H'' -> Q (.bl true) H'') (fun nx hnx => ?_) ?_
        . rcases h6 with ⟨z, hf, rfl, s2⟩ | ⟨hf, c, e, am', rfl, hal, ht2, k2⟩
          . obtain ⟨hz, hzk⟩ := fnd_mem hf
            obtain ⟨kvs, gk, hkl, hva⟩ := st1.ask
            have eA : askV en ky = some (if z.word = ("undone" : Str) then V.non else dvV z.dd) := by unfold askV; rw [hf]; rfl
            refine ⟨kvs, s2 _ _ gk, ?_⟩
            show if (!(valV kvs (Sum.inr ky)).isSome) = true then _ else _
            rw [hva ky, eA, if_neg (by simp)]
            have dg : ∀ H'', Same H2 H'' -> DGet H'' kd (.str ky) (some (if z.word = ("undone" : Str) then V.non else dvV z.dd)) := fun H'' s'' => by
              have := DGet.k (k := Sum.inr ky) (s'' _ _ (s2 _ _ gk))
              rw [hva ky, eA] at this; exact this
            refine hnx _ _ ⟨_, _, rfl, dg, ?_, fun H3 s3 => q2 rb H3 am en ⟨(st.ht.more (Nat.le_succ _)).same ((s1.trans s2).trans s3), ?_, st.sd, st.n1⟩ (Nat.le_succ _) (Nat.le_succ _) fun c o e _ _ _ => s3 _ _ (s2 _ _ (s1 _ _ e))⟩
            . rcases st.said z hz with hu | ⟨hw, d0, xs0, ed, hx0⟩
              . exact .inl ⟨by rw [if_pos hu], hu⟩
              . have hund : z.word ≠ "undone" := by rcases hw with h | h <;> rw [h] <;> decide +kernel
                exact .inr ⟨⟨d0, by rw [if_neg hund, ed]; rfl⟩, hw⟩
            . exact ⟨kvs, s3 _ _ (s2 _ _ gk), Nat.le_succ_of_le hkl, hva⟩
          . have hn := fnd_none hf
            have eA : askV en ky = none := by unfold askV; rw [hf]; rfl
            have ak2 : AskD H2 kd en L := let ⟨kvs, g, r⟩ := st1.ask; ⟨kvs, k2 _ _ g st.n1.1 st.n1.2.2, r⟩
            have hund : yn c ≠ "undone" := by cases c <;> decide +kernel
            have ea : ∀ k : Str, askV (en ++ [⟨ky, e, some (d, xs), yn c⟩]) k = if k = ky then some (V.ref d) else askV en k := fun k => by
              rw [ask_snoc (z := ⟨ky, e, some (d, xs), yn c⟩) hn, if_neg hund]; rfl
            obtain ⟨H3, dp, ak3, k3⟩ := ask_put ak2 (by omega) ea
            obtain ⟨kvs, gk, hkl, hva⟩ := ak2
            refine ⟨kvs, gk, ?_⟩
            show if (!(valV kvs (Sum.inr ky)).isSome) = true then _ else _
            rw [hva ky, eA, if_pos (by rfl)]
            refine ⟨kd, H3, rfl, dp, ?_⟩
            obtain ⟨kvs3, gk3, hkl3, hva3⟩ := ak3
            have dg : ∀ H'', Same H3 H'' -> DGet H'' kd (.str ky) (some (.ref d)) := fun H'' s'' => by
              have := DGet.k (k := Sum.inr ky) (s'' _ _ gk3)
              rw [hva3 ky, ea, if_pos rfl] at this; exact this
            refine hnx _ _ ⟨_, _, rfl, dg, .inr ⟨⟨d, rfl⟩, by cases c <;> first | exact .inl rfl | exact .inr rfl⟩, fun H4 s4 => q2 rb H4 am' _ (StD.same ⟨ht2.off1 gk st.n1 k3, ⟨kvs3, gk3, hkl3, hva3⟩, fun z hz => ?_, st.n1⟩ s4) hal (by rw [Zla]; exact Znr _) fun c o e h1 h2 h3 => s4 _ _ (k3 _ _ (k2 _ _ (s1 _ _ e) h1 h2) h3)⟩
            rcases Zma.mp hz with h | h
            . exact st.sd z h
            . rw [Zms.mp h]; exact ⟨.inr ⟨by cases c <;> first | exact .inl rfl | exact .inr rfl, d, xs, rfl, hx⟩, fun _ _ e => by cases e; exact hx⟩
        rintro σ' H3 ⟨wd, u, rfl, dg, hu, fin⟩
        dsimp only; have hw : inV (.str wd) (if u = .non then [V.str "undone"] else [V.str "yes", .str "no"]) = true := by
          rcases hu with ⟨rfl, rfl⟩ | ⟨⟨d0, rfl⟩, rfl | rfl⟩
          . rw [if_pos rfl]; decide +kernel
          . rw [if_neg (fun h => nomatch h)]; decide +kernel
          . rw [if_neg (fun h => nomatch h)]; decide +kernel
        refine ⟨.str, trivial, ?_⟩
        refine ⟨szl rfl, fun l1 h1 => ⟨szl rfl, fun l2 h2 => ⟨szl rfl, fun l3 h3 => ?_⟩⟩⟩
        have s3 : Same H3 (upd (upd (upd H3 l1 (.lst [.str "undone"])) l2 (.lst [.str "yes", .str "no"])) l3 (.lst [.ref l1, .ref l2])) := (same_upd h1).trans ((same_upd h2).trans (same_upd h3))
        refine ⟨kd, _, rfl, dg _ s3, ?_⟩
        have g3 : (upd (upd (upd H3 l1 (.lst [.str "undone"])) l2 (.lst [.str "yes", .str "no"])) l3 (.lst [.ref l1, .ref l2])) l3 = some (.lst [.ref l1, .ref l2]) := upd_same
        have g2 : (upd (upd (upd H3 l1 (.lst [.str "undone"])) l2 (.lst [.str "yes", .str "no"])) l3 (.lst [.ref l1, .ref l2])) l2 = some (.lst [.str "yes", .str "no"]) := same_upd h3 _ _ upd_same
        have g1 : (upd (upd (upd H3 l1 (.lst [.str "undone"])) l2 (.lst [.str "yes", .str "no"])) l3 (.lst [.ref l1, .ref l2])) l1 = some (.lst [.str "undone"]) := same_upd h3 _ _ (same_upd h2 _ _ upd_same)
        have f3 := fin _ s3
        rcases hu with ⟨rfl, rfl⟩ | ⟨⟨d0, rfl⟩, hu⟩
        . rw [if_pos rfl] at hw; refine ⟨_, SqL.of g3, .ref l1, rfl, l1, _, rfl, .inl (SqL.of g1), rfl, rfl, ?_⟩
          rw [if_neg (by decide), hw]
          exact f3
        . rw [if_neg (fun h => nomatch h)] at hw
          refine ⟨_, SqL.of g3, .ref l2, rfl, l2, _, rfl, .inl (SqL.of g2), rfl, rfl, ?_⟩
          rw [if_neg (by decide), hw]
          exact f3
end
end KL
namespace KL
open PySem L2
section
variable {P : Program} {w : World} {K : W.Frag} {mg : Str -> Option Value} {base : Heap}
theorem Rep.up {H : Hp} : ∀ {n : Nat} {t : TV} {x : V}, Rep H n t x -> Rep H (n + 1) t x
  | 0, .sc v, x, h => h
  | n + 1, .sc v, x, h => h
  | n + 1, .tp ts, x, ⟨a, xs, e, g, p⟩ => ⟨a, xs, e, g, Paired.map' (fun _ _ h => Rep.up h) p⟩
  | n + 1, .ls ts, x, ⟨a, xs, e, g, p⟩ => ⟨a, xs, e, g, Paired.map' (fun _ _ h => Rep.up h) p⟩
theorem sq_keep {K : W.Frag} {H H' : Hp} {a : Addr} {xs : List V} (h : SqL K H a xs) (k : ∀ o, H a = some o -> H' a = some o) : SqL K H' a xs := by
  rcases h with h | h
  . rcases h with h | ⟨ob, h⟩
    . exact .inl (.inl (k _ h))
    . exact .inl (.inr ⟨ob, k _ h⟩)
  . exact .inr h
theorem okRows (qs : List (Str × Int)) (h : qs.length <= 1000) : okT 3 (rowsT qs) := by
  refine ⟨by rw [Zlm]; exact h, fun t ht => ?_⟩
  obtain ⟨q, _, rfl⟩ := Zmm.mp ht
  refine ⟨by simp, fun t ht => ?_⟩
  simp only [List.mem_cons, List.not_mem_nil, or_false] at ht
  rcases ht with rfl | rfl <;> trivial
theorem okKept {en : List EN} (h : ∀ z ∈ en, SD z) (k : Str) : okT 2 (keptT en k) := by
  unfold keptT; cases e : en.find? (fun z => decide (z.key = k)) with
  | none => trivial
  | some z =>
    have hz := List.mem_of_find?_eq_some e
    refine ⟨by simp, fun t ht => ?_⟩
    simp only [List.mem_cons, List.not_mem_nil, or_false] at ht
    rcases ht with rfl | rfl | rfl
    . trivial
    . cases ed : z.dd with
      | none => trivial
      | some q =>
        obtain ⟨a, b, c, exs⟩ := ((h z hz).2 q.1 q.2 ed).shape
        show (q.2.map TV.sc).length <= 1000 /\ ∀ t ∈ q.2.map TV.sc, okT 0 t
        rw [exs]; refine ⟨by simp, fun t ht => ?_⟩
        simp only [List.map_cons, List.map_nil, List.mem_cons, List.not_mem_nil, or_false] at ht
        rcases ht with rfl | rfl | rfl <;> trivial
    . trivial
def spLaw (K : W.Frag) : Sp := fun vs H Q _ => ∃ (a : Addr) (ns : List Int), vs = [.ref a] /\ SqL K H a (ns.map V.int) /\ ns.length <= 63 /\ ∀ H', Q (.bl true) H'
structure LI (C : Addr) (H : Hp) (x : Addr) (a : HF) (ln lk lf kd lsc t0 t1 : Addr) (z0 z1 z2 z3 : Str) (KS : List Str) (ms : List Int) (i : Nat) (am : List (Str × Int)) (cl : Str -> Bool) (en : List EN) : Prop where
  st : StD C H x a kd am cl en (104 + i)
  nm : H ln = some (.lst [.str z0, .str z1, .str z2, .str z3])
  ky : H lk = some (.lst (KS.map V.str))
  fs : H lf = some (.lst [.ref t0, .ref t1])
  d0 : H t0 = some (.tup [.str "add", .str z0, .int 5])
  d1 : H t1 = some (.tup [.str "take", .str z1, .int 9])
  sc : H lsc = some (.lst (ms.map V.int))
  al : am.length <= 3 + i
  el : en.length <= 3 + i
theorem LI.same {C : Addr} {H H' : Hp} {x : Addr} {a : HF} {ln lk lf kd lsc t0 t1 : Addr} {z0 z1 z2 z3 : Str} {KS : List Str} {ms : List Int} {i : Nat} {am : List (Str × Int)} {cl : Str -> Bool} {en : List EN} (h : LI C H x a ln lk lf kd lsc t0 t1 z0 z1 z2 z3 KS ms i am cl en) (s : Same H H') : LI C H' x a ln lk lf kd lsc t0 t1 z0 z1 z2 z3 KS ms i am cl en :=
  ⟨h.st.same s, s _ _ h.nm, s _ _ h.ky, s _ _ h.fs, s _ _ h.d0, s _ _ h.d1, s _ _ h.sc, h.al, h.el⟩
theorem LI.step {C : Addr} {H H' : Hp} {x : Addr} {a : HF} {ln lk lf kd lsc t0 t1 : Addr} {z0 z1 z2 z3 : Str} {KS : List Str} {ms : List Int} {i : Nat} {am am' : List (Str × Int)} {cl : Str -> Bool} {en en' : List EN} (h : LI C H x a ln lk lf kd lsc t0 t1 z0 z1 z2 z3 KS ms i am cl en) (st' : StD C H' x a kd am' cl en' (104 + i + 1)) (la : am'.length <= am.length + 1) (le : en'.length <= en.length + 1) (k : ∀ c o, H c = some o -> c ≠ a.da -> c ≠ a.de -> c ≠ kd -> H' c = some o) : LI C H' x a ln lk lf kd lsc t0 t1 z0 z1 z2 z3 KS ms (i + 1) am' cl en' := by
  obtain ⟨kvs, gk, _⟩ := h.st.ask
  have nl : ∀ {c : Addr} {xs : List V}, H c = some (.lst xs) -> H' c = some (.lst xs) := fun e => k _ _ e (ne_of e h.st.ht.ha (fun z => nomatch z)) (ne_of e h.st.ht.he (fun z => nomatch z)) (ne_of e gk (fun z => nomatch z))
  have nt : ∀ {c : Addr} {xs : List V}, H c = some (.tup xs) -> H' c = some (.tup xs) := fun e => k _ _ e (ne_of e h.st.ht.ha (fun z => nomatch z)) (ne_of e h.st.ht.he (fun z => nomatch z)) (ne_of e gk (fun z => nomatch z))
  exact ⟨st', nl h.nm, nl h.ky, nl h.fs, nt h.d0, nt h.d1, nl h.sc, by have := h.al; omega, by have := h.el; omega⟩
theorem LI.up {C : Addr} {H : Hp} {x : Addr} {a : HF} {ln lk lf kd lsc t0 t1 : Addr} {z0 z1 z2 z3 : Str} {KS : List Str} {ms : List Int} {i : Nat} {am : List (Str × Int)} {cl : Str -> Bool} {en : List EN} (h : LI C H x a ln lk lf kd lsc t0 t1 z0 z1 z2 z3 KS ms i am cl en) : LI C H x a ln lk lf kd lsc t0 t1 z0 z1 z2 z3 KS ms (i + 1) am cl en := by
  obtain ⟨kvs, gk, hl, hv⟩ := h.st.ask
  exact ⟨⟨h.st.ht.more (by omega), ⟨kvs, gk, by omega, hv⟩, h.st.sd, h.st.n1⟩, h.nm, h.ky, h.fs, h.d0, h.d1, h.sc, by have := h.al; omega, by have := h.el; omega⟩
theorem plain_pv {H : Hp} {d : Addr} {xs : List V} (g : H d = some (.tup xs)) (h : plainB xs = true) : plainV H (.ref d) = true := by unfold plainV; rw [partsV_tup g]; exact h
theorem aft_len (am : List (Str × Int)) (c : Bool) (nm : Str) (b : Int) : (aft am c nm b).length <= am.length + 1 := by
  unfold aft; split
  . exact len_putB _ _ _
  . exact Nat.le_succ _
theorem sd_new {ky : Str} {e d : Addr} {xs : List V} {c : Bool} (h : HDX xs) : SD ⟨ky, e, some (d, xs), yn c⟩ :=
  ⟨.inr ⟨by cases c <;> first | exact .inl rfl | exact .inr rfl, d, xs, rfl, h⟩, fun _ _ e => by cases e; exact h⟩
theorem fl3 {wd nm : Str} {n : Int} (h : wd.length <= 1000) (hn : isNm nm) : ([.str wd, .str nm, .int n] : List V).all KL.sml = true := by
  simp [KL.sml, h, hn.len]
theorem refB_same {H H' : Hp} {en : List EN} {x y : V} {un : Bool} (s : Same H H') (h : Pc H y) : refB H' en x y un = refB H en x y un := by unfold refB; rw [dueW_same s h]
theorem ok_law {C CO CK CN : Addr} (T : Txt K mg) (B : HsT K C) (cLpen : Callee P w K mg base 1 "_law_pen" ["_law_cell", "_law_k"] spPen) (cLtake : Callee P w K mg base 1 "_law_take" ["_law_pen_here", "_law_most"] spTake)
    (cLnames : Callee P w K mg base 2 "_law_names" ["_law_pen_here", "_law_many"] spNames20) (cLkeys : Callee P w K mg base 2 "_law_keys" ["_law_pen_here", "_law_many"] spKeys20)
    (c_House1 : Mkr P w K mg base 2 "House" C ["self", "rows", "closed"] [.non] (spHInit C)) (c_House_ask : MthX P w K mg base 5 C "ask" ["self", "key", "deed"] (spAskY C CO CK CN)) (c_House_undo : MthX P w K mg base 4 C "undo" ["self", "key"] (spUndoY C CK))
    (cLkey : Callee P w K mg base 2 "_law_key" ["_law_pen_here", "_law_keys_here"] spKeyD) (cLdeed : Callee P w K mg base 2 "_law_deed" ["_law_pen_here", "_law_names_here", "_law_firsts"] spDeedD)
    (cLis_key : Callee P w K mg base 2 "_law_is_key" ["_law_thing"] (spTell (LET ++ FIG) 12)) (cLdue : Callee P w K mg base 3 "_law_due" ["_law_key_here", "_law_deed_here", "_law_asked"] spDue)
    (cLstep : Callee P w K mg base 7 "_law_step" ["_law_house", "_law_key_here", "_law_deed_here", "_law_asked", "_law_undoes"] (spStep C))
    (c_House_rows : Mth P w K mg base 1 C "rows" ["self"] (spHRows C)) (c_House_kept : Mth P w K mg base 1 C "kept" ["self"] (spHKept C)) (cLsame : Callee P w K mg base 6 "_law_same" ["_law_found", "_law_due_here"] (spSame 4))
    {f : Addr} {fd : FuncData} (F : Fun K "law" "law" s_law f fd) : FnOk P w K mg base CX0 8 f fd ["_law_script"] (spLaw K) := by
  refine F.go sc_law (fun vs H Q E h => ?_) (fun cdv A outer s H vs Q E hr h => ?_)
  . obtain ⟨a, ns, rfl, _⟩ := h; rfl
  . obtain ⟨sa, ns, rfl, hS, hlen, q⟩ := h
    have hLpen : Room 1 _ := hr.mono (by decide)
    have hLtake : Room 1 _ := hr.mono (by decide)
    have hLnames : Room 2 _ := hr.mono (by decide)
    have hLkeys : Room 2 _ := hr.mono (by decide)
    have hr_House : Room 3 _ := hr.mono (by decide)
    have hr_House_ask : Room 5 _ := hr.mono (by decide)
    have hr_House_undo : Room 4 _ := hr.mono (by decide)
    have hLkey : Room 2 _ := hr.mono (by decide)
    have hLdeed : Room 2 _ := hr.mono (by decide)
    have hLis_key : Room 2 _ := hr.mono (by decide)
    have hLdue : Room 3 _ := hr.mono (by decide)
    have hLstep : Room 7 _ := hr
    have hr_House_rows : Room 1 _ := hr.mono (by decide)
    have hr_House_kept : Room 1 _ := hr.mono (by decide)
    have hLsame : Room 6 _ := hr.mono (by decide)
    have hu1 := hu_of hr
    refine ⟨_, (R.scons (R.set (i := 1) sc_law.nd (R.fn cLpen hLpen rfl (R.cons (R.callB (R.ksum (K := K) rfl) rfl T.b_sum bb_sum (R.cons (R.sl (R.ksL (K := K)) (R.v 0) R.pn (R.ps R.int)) R.nil)) (R.cons R.int R.nil)))) (R.scons (R.set (i := 2) sc_law.nd (R.fn cLnames hLnames rfl (R.cons (R.v 1) (R.cons R.int R.nil)))) (R.scons (R.set (i := 3) sc_law.nd (R.fn cLkeys hLkeys rfl (R.cons (R.v 1) (R.cons R.int R.nil)))) (R.scons (R.set (i := 4) sc_law.nd (R.lst (R.cons (R.wtup (R.cons R.str (R.cons (R.ix (R.kiL (K := K)) (R.v 2) R.int) (R.cons R.int R.nil)))) (R.cons (R.wtup (R.cons R.str (R.cons (R.ix (R.kiL (K := K)) (R.v 2) R.int) (R.cons R.int R.nil)))) R.nil)))) (R.scons (R.set (i := 5) sc_law.nd (R.makeD c_House1 hr_House rfl (R.cons (R.lst (R.cons (R.wtup (R.cons (R.ix (R.kiL (K := K)) (R.v 2) R.int) (R.cons R.int R.nil))) R.nil)) R.nil))) (R.scons (R.expr (R.methX c_House_ask hr_House_ask takes_none (R.v 5) (R.cons (R.ix (R.kiL (K := K)) (R.v 3) R.int) (R.cons (R.ix (R.kiL (K := K)) (R.v 4) R.int) R.nil)))) (R.scons (R.expr (R.methX c_House_ask hr_House_ask takes_none (R.v 5) (R.cons (R.ix (R.kiL (K := K)) (R.v 3) R.int) (R.cons (R.ix (R.kiL (K := K)) (R.v 4) R.int) R.nil)))) (R.scons (R.expr (R.methX c_House_undo hr_House_undo takes_none (R.v 5) (R.cons (R.ix (R.kiL (K := K)) (R.v 3) R.int) R.nil))) (R.scons (R.set (i := 6) sc_law.nd (R.disp (R.ppc (R.ix (R.kiL (K := K)) (R.v 3) R.int) (R.ix (R.kiL (K := K)) (R.v 4) R.int) (R.ppc (R.ix (R.kiL (K := K)) (R.v 3) R.int) (R.ix (R.kiL (K := K)) (R.v 4) R.int) (R.ppc (R.ix (R.kiL (K := K)) (R.v 3) R.int) R.non R.ppn))))) (R.scons (R.for_ PassesOwn.never rfl (R.enum (K := K) rfl T.b_enumerate (R.op R.cat (R.lst (R.cons R.int R.nil)) (R.sl (R.ksL (K := K)) (R.v 0) R.pn (R.ps R.int)))) (R.kgt (K := K) (n := 2) rfl (R.gsc (R.gn (i := 7) sc_law.nd) (R.gsc (R.gn (i := 8) sc_law.nd) R.gsn))) (R.scons (R.set (i := 1) sc_law.nd (R.fn cLpen hLpen rfl (R.cons (R.v 8) (R.cons (R.op R.add (R.v 7) R.int) R.nil)))) (R.scons (R.set (i := 9) sc_law.nd (R.fn cLkey hLkey rfl (R.cons (R.v 1) (R.cons (R.v 3) R.nil)))) (R.scons (R.set (i := 10) sc_law.nd (R.fn cLdeed hLdeed rfl (R.cons (R.v 1) (R.cons (R.v 2) (R.cons (R.v 4) R.nil))))) (R.scons (R.set (i := 11) sc_law.nd (R.cmp R.eq (R.fn cLtake hLtake rfl (R.cons (R.v 1) (R.cons R.int R.nil))) R.int)) (R.scons (R.set (i := 12) sc_law.nd (R.or (R.not (R.fn cLis_key hLis_key rfl (R.cons (R.v 9) R.nil))) (R.one (R.and (R.not (R.v 11)) (R.one (R.cmp R.notN (R.fn cLdue hLdue rfl (R.cons (R.v 9) (R.cons (R.v 10) (R.cons (R.v 6) R.nil)))) R.non)))))) (R.scons (R.set (i := 13) sc_law.nd (R.wtup (R.cons (R.meth0 c_House_kept hr_House_kept (R.v 5)) (R.cons (R.meth0 c_House_rows hr_House_rows (R.v 5)) R.nil)))) (R.scons (R.ife (R.tnot (R.val (R.fn cLstep hLstep rfl (R.cons (R.v 5) (R.cons (R.v 9) (R.cons (R.v 10) (R.cons (R.v 6) (R.cons (R.v 11) R.nil)))))))) (R.sone (R.ret R.bl)) R.snil) (R.sone (R.ife (R.tw (R.wand (R.val (R.v 12)) (R.wand1 (R.tnot (R.val (R.fn cLsame hLsame rfl (R.cons (R.wtup (R.cons (R.meth0 c_House_kept hr_House_kept (R.v 5)) (R.cons (R.meth0 c_House_rows hr_House_rows (R.v 5)) R.nil))) (R.cons (R.v 13) R.nil)))))))) (R.sone (R.ret R.bl)) R.snil)))))))))) (R.sone (R.ret R.bl)))))))))))), ?_⟩
    refine ⟨_, hS, fun l0 h0 => ⟨l0, cut ns none (some 63), rfl, by rw [<- cut_map]; exact SqL.of upd_same, _, 0, rfl, fun p H1 f1 s1 pn1 => ?_⟩⟩
    dsimp only [gName]; have s01 := (same_upd (o := .lst (cut (ns.map V.int) none (some 63))) h0).trans s1
    refine ⟨p, 4, rfl, pn1, by decide, fun ln ZN H2 hzl hnm hnd nln gln pn2 k2 => ?_⟩
    dsimp only [gName]; refine ⟨p, 5, rfl, pn2, by decide, fun lk KS H3 hkl hky hknd nlk glk pn3 k3 => ?_⟩
    dsimp only [gName]; obtain ⟨z0, z1, z2, z3, rfl⟩ : ∃ z0 z1 z2 z3, ZN = [z0, z1, z2, z3] := by
      match ZN, hzl with
      | [a, b, c, d], _ => exact ⟨a, b, c, d, rfl⟩
    obtain ⟨w0, w1, w2, w3, w4, rfl⟩ : ∃ w0 w1 w2 w3 w4, KS = [w0, w1, w2, w3, w4] := by
      match KS, hkl with
      | [a, b, c, d, e], _ => exact ⟨a, b, c, d, e, rfl⟩
    have hn0 : isNm z0 := hnm z0 (by simp)
    have hn1 : isNm z1 := hnm z1 (by simp)
    have hy0 : isKy w0 := hky w0 (by simp)
    have hy1 : isKy w1 := hky w1 (by simp)
    have hy2 : isKy w2 := hky w2 (by simp)
    have n01 : w0 ≠ w1 := fun e => by subst e; simp at hknd
    have n02 : w0 ≠ w2 := fun e => by subst e; simp at hknd
    have n12 : w1 ≠ w2 := fun e => by subst e; simp at hknd
    have npl : ln ≠ p := pn1.ne nln
    have npk : lk ≠ p := pn2.ne nlk
    have gln3 := k3 _ _ gln npl
    have s03 : Same H H3 := fun c o e => k3 _ _ (k2 _ _ (s01 _ _ e) (ne_of_none (same_upd h0 _ _ e) f1)) (ne_of_none (same_upd h0 _ _ e) f1)
    refine ⟨_, SqL.of gln3, .str z0, rfl, by simp, fun t0 H4 s4 gt0 => ⟨_, SqL.of (s4 _ _ gln3), .str z1, rfl, by simp, fun t1 H5 s5 gt1 => ⟨szl rfl, fun lf hlf => ?_⟩⟩⟩
    dsimp only [gName]; have s36 : Same H3 (upd H5 lf (.lst [.ref t0, .ref t1])) := (s4.trans s5).trans (same_upd hlf)
    have glf : (upd H5 lf (.lst [.ref t0, .ref t1])) lf = some (.lst [.ref t0, .ref t1]) := upd_same
    have gt0 := same_upd (o := .lst [.ref t0, .ref t1]) hlf _ _ (s5 _ _ gt0)
    have gt1 := same_upd (o := .lst [.ref t0, .ref t1]) hlf _ _ gt1
    generalize upd H5 lf (.lst [.ref t0, .ref t1]) = H6 at s36 glf gt0 gt1 ⊢; have gln6 := s36 _ _ gln3
    have glk6 := s36 _ _ glk
    refine ⟨_, SqL.of gln6, .str z0, rfl, by simp, fun t2 H7 s7 gt2 => ⟨szl rfl, fun lr hlr => ?_⟩⟩
    have s10 : Same H6 (upd H7 lr (.lst [.ref t2])) := s7.trans (same_upd hlr)
    have glr : (upd H7 lr (.lst [.ref t2])) lr = some (.lst [.ref t2]) := upd_same
    have gt2 := same_upd (o := .lst [.ref t2]) hlr _ _ gt2
    generalize upd H7 lr (.lst [.ref t2]) = HA at s10 glr gt2 ⊢; intro x dx hx0 hdx0 hne; have sD : Same HA (upd (upd HA dx (.own x)) x (.ins C dx [])) := fun c o e => by
      rw [upd_ne (ne_of_none e hx0), upd_ne (ne_of_none e hdx0)]; exact e
    refine ⟨x, dx, .ref lr, .non, [(z0, 2)], [], rfl, upd_same, .inr ⟨lr, [(t2, z0, 2)], rfl, sD _ _ glr, (fun z hz => by rw [Zms.mp hz]; exact sD _ _ gt2), rfl⟩, by simp, by simp, .inl ⟨rfl, rfl⟩, by simp, fun HE a fa fc fe ht kE => ⟨rfl, ?_⟩⟩
    dsimp only [gName]; have sE : Same HA HE := fun c o e => kE c o (sD c o e) (ne_of_none e hx0)
    have s6E : Same H6 HE := s10.trans sE
    generalize (fun n : Str => decide (n ∈ ([] : List Str))) = cl at ht
    have kk : ∀ {G G' : Hp} {am : List (Str × Int)} {en : List EN} {L : Nat}, HAt C G x a am cl en L -> (∀ c o, G c = some o -> c ≠ a.da -> c ≠ a.de -> G' c = some o) -> (∀ {c : Addr} {xs : List V}, G c = some (.lst xs) -> G' c = some (.lst xs)) /\ (∀ {c : Addr} {xs : List V}, G c = some (.tup xs) -> G' c = some (.tup xs)) := fun h k => ⟨fun e => k _ _ e (ne_of e h.ha (fun z => nomatch z)) (ne_of e h.he (fun z => nomatch z)), fun e => k _ _ e (ne_of e h.ha (fun z => nomatch z)) (ne_of e h.he (fun z => nomatch z))⟩
    have hp0 : plainB [.str "add", .str z0, .int 5] = true := hd_plain .add hn0 (by decide) (by decide)
    have hp1 : plainB [.str "take", .str z1, .int 9] = true := hd_plain .take hn1 (by decide) (by decide)
    have kyt : ∀ {z : Str}, isKy z -> kyV (.str z) = true := fun h => kyV_of h
    have tg : ∀ {G : Hp} {d : Addr} {wd nm : Str} {n : Int}, isNm nm -> wd.length <= 1000 -> G d = some (.tup [.str wd, .str nm, .int n]) -> Tg G (.ref d) := fun hn hw g => .tup g (by simp) (fun y hy => by
      simp only [List.mem_cons, List.not_mem_nil, or_false] at hy
      rcases hy with rfl | rfl | rfl
      . exact .str hw
      . exact .str hn.len
      . exact .int)
    refine ⟨a.dx, _, ht.hp, hf_no a (by decide +kernel) (by decide +kernel) (by decide +kernel), _, SqL.of (s6E _ _ glk6), .str w0, rfl, _, SqL.of (s6E _ _ glf), .ref t0, rfl, x, .str w0, .ref t0, rfl, (Pc.str hy0.len).pt, tg hn0 (by decide) (s6E _ _ gt0), (fun h => by rw [kyt hy0] at h; cases h), (fun _ h => by rw [plain_pv (s6E _ _ gt0) hp0] at h; cases h), fun ky d e1 e2 _ _ => ?_⟩
    cases e1
    cases e2
    refine ⟨a, _, cl, [], _, z0, 5, _, _, _, ht, by decide, s6E _ _ gt0, .add, hn0, by decide, by decide, hy0, (fun _ h => nomatch h), fun _ H11 e0 ht11 k11 => ?_, (fun _ h => nomatch h), (fun _ h => nomatch h)⟩
    have hx0' : HDX [.str "add", .str z0, .int 5] := ⟨_, _, _, _, .add⟩
    have hx1' : HDX [.str "take", .str z1, .int 9] := ⟨_, _, _, _, .take⟩
    have al11 := aft_len [(z0, 2)] (can [(z0, 2)] cl "add" z0 5) z0 5
    generalize can [(z0, 2)] cl "add" z0 5 = c0 at ht11 al11; generalize aft [(z0, 2)] c0 z0 5 = am1 at ht11 al11; obtain ⟨kl11, kt11⟩ := kk ht k11
    have glk11 := kl11 (s6E _ _ glk6)
    have glf11 := kl11 (s6E _ _ glf)
    have gln11 := kl11 (s6E _ _ gln6)
    have gt011 := kt11 (s6E _ _ gt0)
    have gt111 := kt11 (s6E _ _ gt1)
    have sd11 : ∀ z ∈ ([] ++ [⟨w0, e0, some (t0, [.str "add", .str z0, .int 5]), yn c0⟩] : List EN), SD z := fun z hz => by
      rw [Zms.mp hz]; exact sd_new hx0'
    refine ⟨a.dx, _, ht11.hp, hf_no a (by decide +kernel) (by decide +kernel) (by decide +kernel), _, SqL.of glk11, .str w1, rfl, _, SqL.of glf11, .ref t1, rfl, x, .str w1, .ref t1, rfl, (Pc.str hy1.len).pt, tg hn1 (by decide) gt111, (fun h => by rw [kyt hy1] at h; cases h), (fun _ h => by rw [plain_pv gt111 hp1] at h; cases h), fun ky d e1 e2 _ _ => ?_⟩
    cases e1
    cases e2
    have k1no : ¬ w1 ∈ ([] ++ [⟨w0, e0, some (t0, [.str "add", .str z0, .int 5]), yn c0⟩] : List EN).map (·.key) := fun h => n01 (Zms.mp h).symm
    refine ⟨a, _, cl, _, _, z1, 9, _, _, _, ht11, by decide, gt111, .take, hn1, by decide, by decide, hy1, (fun z hz => (sd11 z hz).1), fun _ H12 e1 ht12 k12 => ?_, (fun z hz e => absurd (Zmm.mpr ⟨z, hz, e⟩) k1no), (fun z hz e => absurd (Zmm.mpr ⟨z, hz, e⟩) k1no)⟩
    have al12 := aft_len am1 (can am1 cl "take" z1 9) z1 (-9)
    generalize can am1 cl "take" z1 9 = c1 at ht12 al12; generalize aft am1 c1 z1 (-9) = am2 at ht12 al12; obtain ⟨kl12, kt12⟩ := kk ht11 k12
    have glk12 := kl12 glk11
    have glf12 := kl12 glf11
    have gln12 := kl12 gln11
    have gt012 := kt12 gt011
    have gt112 := kt12 gt111
    have k2no : ¬ w2 ∈ (([] ++ [⟨w0, e0, some (t0, [.str "add", .str z0, .int 5]), yn c0⟩] ++ [⟨w1, e1, some (t1, [.str "take", .str z1, .int 9]), yn c1⟩]) : List EN).map (·.key) := fun h => by
      simp at h
      rcases h with h | h
      . exact n02 h.symm
      . exact n12 h.symm
    have sd12 : ∀ z ∈ (([] ++ [⟨w0, e0, some (t0, [.str "add", .str z0, .int 5]), yn c0⟩] ++ [⟨w1, e1, some (t1, [.str "take", .str z1, .int 9]), yn c1⟩]) : List EN), SD z := fun z hz => by
      rcases Zma.mp hz with h | h
      . exact sd11 z h
      . rw [Zms.mp h]; exact sd_new hx1'
    refine ⟨a.dx, _, ht12.hp, hf_no a (by decide +kernel) (by decide +kernel) (by decide +kernel), _, SqL.of glk12, .str w2, rfl, x, .str w2, rfl, (Pc.str hy2.len).pt, (fun h => by rw [kyt hy2] at h; cases h), fun ky e2 _ => ?_⟩
    cases e2
    refine ⟨a, _, cl, _, _, ht12, by decide, hy2, (fun z hz => (sd12 z hz).1), fun _ H13 e2 ht13 k13 => ?_, (fun z hz e => absurd (Zmm.mpr ⟨z, hz, e⟩) k2no), (fun z hz e => absurd (Zmm.mpr ⟨z, hz, e⟩) k2no)⟩
    obtain ⟨kl13, kt13⟩ := kk ht12 k13
    have glk13 := kl13 glk12
    have glf13 := kl13 glf12
    have gln13 := kl13 gln12
    have gt013 := kt13 gt012
    have gt113 := kt13 gt112
    have sd13 : ∀ z ∈ ((([] ++ [⟨w0, e0, some (t0, [.str "add", .str z0, .int 5]), yn c0⟩] ++ [⟨w1, e1, some (t1, [.str "take", .str z1, .int 9]), yn c1⟩]) ++ [⟨w2, e2, none, "undone"⟩]) : List EN), SD z := fun z hz => by
      rcases Zma.mp hz with h | h
      . exact sd12 z h
      . rw [Zms.mp h]; exact ⟨.inl rfl, fun _ _ e => nomatch e⟩
    intro kd hkd; refine ⟨_, SqL.of (same_upd hkd _ _ glk13), .str w0, rfl, _, SqL.of (same_upd hkd _ _ glf13), .ref t0, rfl, _, SqL.of (same_upd hkd _ _ glk13), .str w1, rfl, _, SqL.of (same_upd hkd _ _ glf13), .ref t1, rfl, _, SqL.of (same_upd hkd _ _ glk13), .str w2, rfl, upd_same, [(Sum.inr w0, .ref t0), (Sum.inr w1, .ref t1), (Sum.inr w2, .non)], rfl, by simp, ?_⟩
    have gkd : (upd (upd H13 kd (.dK [])) kd (.dK (mergeK [] [(Sum.inr w0, V.ref t0), (Sum.inr w1, .ref t1), (Sum.inr w2, .non)]))) kd = some (.dK (mergeK [] [(Sum.inr w0, V.ref t0), (Sum.inr w1, .ref t1), (Sum.inr w2, .non)])) := upd_same
    have sK : Same H13 (upd (upd H13 kd (.dK [])) kd (.dK (mergeK [] [(Sum.inr w0, V.ref t0), (Sum.inr w1, .ref t1), (Sum.inr w2, .non)]))) := fun c o e => by rw [upd_ne (ne_of_none e hkd), upd_ne (ne_of_none e hkd)]; exact e
    generalize upd (upd H13 kd (.dK [])) kd (.dK (mergeK [] [(Sum.inr w0, V.ref t0), (Sum.inr w1, .ref t1), (Sum.inr w2, .non)])) = HK at gkd sK ⊢; have nkd : kd ≠ a.da /\ kd ≠ a.dc /\ kd ≠ a.de := by
      obtain ⟨kv, gc, _⟩ := ht13.hc
      exact ⟨(ne_of_none ht13.ha hkd).symm, (ne_of_none gc hkd).symm, (ne_of_none ht13.he hkd).symm⟩
    have hund0 : yn c0 ≠ "undone" := by cases c0 <;> decide +kernel
    have hund1 : yn c1 ≠ "undone" := by cases c1 <;> decide +kernel
    have hak : AskD HK kd ((([] ++ [⟨w0, e0, some (t0, [.str "add", .str z0, .int 5]), yn c0⟩] ++ [⟨w1, e1, some (t1, [.str "take", .str z1, .int 9]), yn c1⟩]) ++ [⟨w2, e2, none, "undone"⟩]) : List EN) 104 := by
      refine ⟨_, gkd, ?_, fun ky => ?_⟩
      . show (putK (putK (putK [] (Sum.inr w0) (V.ref t0)) (Sum.inr w1) (.ref t1)) (Sum.inr w2) .non : List (Key × V)).length <= 104
        have h1 := length_putK ([] : List (Key × V)) (Sum.inr w0) (V.ref t0)
        have h2 := length_putK (putK ([] : List (Key × V)) (Sum.inr w0) (V.ref t0)) (Sum.inr w1) (V.ref t1)
        have h3 := length_putK (putK (putK ([] : List (Key × V)) (Sum.inr w0) (V.ref t0)) (Sum.inr w1) (V.ref t1)) (Sum.inr w2) V.non
        rw [List.length_nil] at h1; omega
      . show valV (putK (putK (putK [] (Sum.inr w0) (V.ref t0)) (Sum.inr w1) (.ref t1)) (Sum.inr w2) .non : List (Key × V)) (Sum.inr ky) = _
        rw [valV_put, valV_put, valV_put, ask_snoc (z := ⟨w2, e2, none, "undone"⟩) k2no, ask_snoc (z := ⟨w1, e1, some (t1, [.str "take", .str z1, .int 9]), yn c1⟩) k1no, ask_snoc (z := ⟨w0, e0, some (t0, [.str "add", .str z0, .int 5]), yn c0⟩) (by simp), if_neg hund0, if_neg hund1]
        by_cases h2 : ky = w2
        . rw [if_pos h2, if_pos (congrArg Sum.inr h2)]; rfl
        . rw [if_neg h2, if_neg (fun h => h2 (Sum.inr.inj h))]
          by_cases h1 : ky = w1
          . rw [if_pos h1, if_pos (congrArg Sum.inr h1)]; rfl
          . rw [if_neg h1, if_neg (fun h => h1 (Sum.inr.inj h))]
            by_cases h0 : ky = w0
            . rw [if_pos h0, if_pos (congrArg Sum.inr h0)]; rfl
            . rw [if_neg h0, if_neg (fun h => h0 (Sum.inr.inj h))]; rfl
    have stK : StD C HK x a kd am2 cl ((([] ++ [⟨w0, e0, some (t0, [.str "add", .str z0, .int 5]), yn c0⟩] ++ [⟨w1, e1, some (t1, [.str "take", .str z1, .int 9]), yn c1⟩]) ++ [⟨w2, e2, none, "undone"⟩]) : List EN) (104 + 0) := ⟨(ht13.same sK).more (by decide), hak, sd13, nkd⟩
    have elK : ((([] ++ [⟨w0, e0, some (t0, [.str "add", .str z0, .int 5]), yn c0⟩] ++ [⟨w1, e1, some (t1, [.str "take", .str z1, .int 9]), yn c1⟩]) ++ [⟨w2, e2, none, "undone"⟩]) : List EN).length = 3 := rfl
    generalize ((([] ++ [⟨w0, e0, some (t0, [.str "add", .str z0, .int 5]), yn c0⟩] ++ [⟨w1, e1, some (t1, [.str "take", .str z1, .int 9]), yn c1⟩]) ++ [⟨w2, e2, none, "undone"⟩]) : List EN) = en0 at stK elK; have hSK : SqL K HK sa (ns.map V.int) := sq_keep hS fun o e => by
      have e6 := s6E _ _ (s36 _ _ (s03 _ _ e))
      have c1 : ∀ {G G' : Hp} {am : List (Str × Int)} {en : List EN} {L : Nat}, H sa = some o -> HAt C G x a am cl en L -> (∀ c o, G c = some o -> c ≠ a.da -> c ≠ a.de -> G' c = some o) -> sa ≠ a.da -> sa ≠ a.de -> G sa = some o -> G' sa = some o := fun _ _ k h1 h2 e => k _ _ e h1 h2
      have n1 : sa ≠ a.da := ne_of_none (sD _ _ (s10 _ _ (s36 _ _ (s03 _ _ e)))) fa
      have n2 : sa ≠ a.de := ne_of_none (sD _ _ (s10 _ _ (s36 _ _ (s03 _ _ e)))) fe
      exact sK _ _ (k13 _ _ (k12 _ _ (k11 _ _ e6 n1 n2) n1 n2) n1 n2)
    dsimp only [gName]; have hkyA : ∀ z ∈ [w0, w1, w2, w3, w4], isKy z := hky
    have glkK := sK _ _ glk13
    have glfK := sK _ _ glf13
    have glnK := sK _ _ gln13
    have gt0K := sK _ _ gt013
    have gt1K := sK _ _ gt113
    refine ⟨szl rfl, fun l1 hl1 => ⟨_, sq_keep hSK (fun o e => same_upd hl1 _ _ e), fun l2 hl2 => ⟨_, _, same_upd hl2 _ _ upd_same, upd_same, ?_, fun lsc hlsc => ⟨_, SqL.of upd_same, ?_⟩⟩⟩⟩
    . rw [show cut (ns.map V.int) none (some 60) = (ns.map V.int).take 60 from cut_to _ 60, Zlk, Zlm]; have : ([V.int 0] : List V).length = 1 := rfl
      exact szl' (by omega)
    have hxs : ∃ ms : List Int, [V.int 0] ++ cut (ns.map V.int) none (some 60) = ms.map V.int /\ ms.length <= 61 := by
      refine ⟨0 :: ns.take 60, ?_, ?_⟩
      . rw [show cut (ns.map V.int) none (some 60) = (ns.map V.int).take 60 from cut_to _ 60, List.map_cons, List.map_take]; rfl
      . rw [Zlc, Zlk]; omega
    obtain ⟨ms, emx, hml⟩ := hxs
    have sJ : Same HK (upd (upd (upd HK l1 (.lst [.int 0])) l2 (.lst (cut (ns.map V.int) none (some 60)))) lsc (.lst ([V.int 0] ++ cut (ns.map V.int) none (some 60)))) := ((same_upd hl1).trans (same_upd hl2)).trans (same_upd hlsc)
    have gsc : (upd (upd (upd HK l1 (.lst [.int 0])) l2 (.lst (cut (ns.map V.int) none (some 60)))) lsc (.lst ([V.int 0] ++ cut (ns.map V.int) none (some 60)))) lsc = some (.lst ([V.int 0] ++ cut (ns.map V.int) none (some 60))) := upd_same
    rw [emx] at gsc sJ ⊢; have inv1 : LI C (upd (upd (upd HK l1 (.lst [.int 0])) l2 (.lst (cut (ns.map V.int) none (some 60)))) lsc (.lst (ms.map V.int))) x a ln lk lf kd lsc t0 t1 z0 z1 z2 z3 [w0, w1, w2, w3, w4] ms 0 am2 cl en0 :=
      ⟨stK.same sJ, sJ _ _ glnK, sJ _ _ glkK, sJ _ _ glfK, sJ _ _ gt0K, sJ _ _ gt1K, gsc, by simp at al11; omega, by omega⟩
    generalize upd (upd (upd HK l1 (.lst [.int 0])) l2 (.lst (cut (ns.map V.int) none (some 60)))) lsc (.lst (ms.map V.int)) = HJ at inv1 ⊢; have hx0' : FlX [.str "add", .str z0, .int 5] := ⟨by simp, fl3 (by decide) hn0⟩
    have hx1' : FlX [.str "take", .str z1, .int 9] := ⟨by simp, fl3 (by decide) hn1⟩
    have hn2 : isNm z2 := hnm z2 (by simp)
    have hn3 : isNm z3 := hnm z3 (by simp)
    clear stK elK al11 al12 hSK glkK glfK glnK gt0K gt1K sJ gsc; refine for_enum (fun i σ H' => ∃ (o1 o7 o8 o9 o10 o11 o12 o13 : Option V) (am : List (Str × Int)) (en : List EN), σ = [some (.ref sa), o1, some (.ref ln), some (.ref lk), some (.ref lf), some (.ref x), some (.ref kd), o7, o8, o9, o10, o11, o12, o13] /\ LI C H' x a ln lk lf kd lsc t0 t1 z0 z1 z2 z3 [w0, w1, w2, w3, w4] ms i am cl en) (fun i σ H' ⟨_, _, _, _, _, _, _, _, _, _, _, g⟩ => SqL.of g.sc) ⟨_, _, _, _, _, _, _, _, _, _, rfl, inv1⟩ ?_ ?_
    . rintro i v σ G t hv ⟨o1, o7, o8, o9, o10, o11, o12, o13, am, en, rfl, inv⟩ htn
      rw [Zgm] at hv; cases hc : ms[i]? with
      | none => rw [hc] at hv; cases hv
      | some cell =>
      rw [hc] at hv; cases hv
      have hi : i < 61 := by
        have := (Zgs.mp hc).1
        omega
      refine ⟨t, _, rfl, SqT.of upd_same, rfl, _, _, rfl, _, _, rfl, rfl, ?_⟩
      have inv := inv.same (same_upd (o := .tup [.int i, .int cell]) htn)
      generalize upd G t (.tup [.int i, .int cell]) = G0 at inv ⊢; refine ⟨cell, _, rfl, fun p1 G1 fp s1 pn1 => ?_⟩
      dsimp only [gName]; have inv1 := inv.same s1
      refine ⟨p1, lk, _, rfl, pn1, inv1.ky, ne_of_none inv.ky fp, by simp, hkyA, fun xk G2 dx2 hkx pn2 k2 => ?_⟩
      dsimp only [gName]; have s02 : Same G0 G2 := fun c o e => k2 _ _ (s1 _ _ e) (ne_of_none e fp)
      have inv2 := inv.same s02
      refine ⟨p1, ln, lf, t0, t1, z0, z1, z2, z3, _, _, rfl, pn2, inv2.nm, ne_of_none inv.nm fp, ⟨hn0, hn1, hn2, hn3⟩, inv2.fs, ne_of_none inv.fs fp, inv2.d0, inv2.d1, hx0', hx1', fun y G3 dy3 pn3 k3 => ?_⟩
      dsimp only [gName]; have dx3 := dx2.pen k3 pn2 pn3
      refine cutS (t := tAsg _ _) (fun σ' H' => ∃ un, σ' = [some (.ref sa), some (.ref p1), some (.ref ln), some (.ref lk), some (.ref lf), some (.ref x), some (.ref kd), some (.int i), some (.int cell), some xk, some y, some (.bl un), o12, o13] /\ PenAt H' p1 /\ K1 p1 G3 H') (fun nx hnx => ⟨p1, 4, rfl, pn3, by decide, by decide, fun r G4 r0 r1 pn4 k4 => hnx _ _ ⟨_, rfl, pn4, k4⟩⟩) ?_
      rintro σ' G4 ⟨un, rfl, pn4, k4⟩
      have dx4 := dx3.pen k4 pn3 pn4
      have dy4 := dy3.pen k4 pn3 pn4
      have s04 : Same G0 G4 := fun c o e => k4 _ _ (k3 _ _ (s02 _ _ e) (ne_of_none e fp)) (ne_of_none e fp)
      have inv4 := inv.same s04
      dsimp only; have px4 : Pt G4 xk := dx4.pc.pt
      have ty4 : Tg G4 y := dy4.tg (by decide)
      refine cutS (t := tAsg _ _) (fun σ' H' => σ' = [some (.ref sa), some (.ref p1), some (.ref ln), some (.ref lk), some (.ref lf), some (.ref x), some (.ref kd), some (.int i), some (.int cell), some xk, some y, some (.bl un), some (.bl (refB G4 en xk y un)), o13] /\ Same G4 H') (fun nx hnx => ?_) ?_
      . obtain ⟨k, hk, hz⟩ := px4
        refine ⟨xk, k, rfl, hk, hz, fun G5 s5 => ?_⟩
        cases hb : kyV xk with
        | false =>
          rw [show madeOf xk (LET ++ FIG) 12 = false from hb]; exact hnx _ _ ⟨by unfold refB; rw [hb]; rfl, s5⟩
        | true =>
          rw [show madeOf xk (LET ++ FIG) 12 = true from hb]; cases un with
          | true => exact hnx _ _ ⟨by unfold refB; rw [hb]; rfl, s5⟩
          | false =>
            refine ⟨xk, y, kd, en, _, rfl, Pt.same s5 ⟨k, hk, hz⟩, ty4.same s5, (inv4.st.same s5).ask, (inv4.st.same s5).ht.ents, inv4.st.said, fun w hw t' G6 s6 g6 => ?_, fun hn G6 s6 => ?_⟩
            . rw [dueW_same s5 ty4.1] at hw; exact hnx _ _ ⟨by unfold refB; rw [hb, hw]; rfl, s5.trans s6⟩
            . rw [dueW_same s5 ty4.1] at hn; exact hnx _ _ ⟨by unfold refB; rw [hb, hn]; rfl, s5.trans s6⟩
      rintro σ' G5 ⟨rfl, s5⟩
      dsimp only; generalize hrb : refB G4 en xk y un = rb; have inv5 := inv4.same s5
      have hal : am.length < 64 := by have := inv.al; omega
      have hel : en.length < 64 := by have := inv.el; omega
      have hL : 104 + i <= 400 := by omega
      refine ⟨a.dx, _, inv5.st.ht.hp, hf_no a (by decide +kernel) (by decide +kernel) (by decide +kernel), x, a, am, cl, en, _, rfl, inv5.st.ht, hel, inv5.st.dsc, fun lh us G6 s6 nl6 g6 pr6 => ?_⟩
      have inv6 := inv5.same s6
      refine ⟨a.dx, _, inv6.st.ht.hp, hf_no a (by decide +kernel) (by decide +kernel) (by decide +kernel), x, a, am, cl, en, _, rfl, inv6.st.ht, hal, fun lr zs G7 s7 nl7 g7 hza hzm => ⟨by simp, fun tt G8 s8 gtt => ?_⟩⟩
      dsimp only [gName]; have s68 : Same G6 G8 := s7.trans s8
      have s48 : Same G4 G8 := (s5.trans s6).trans s68
      have inv8 := inv4.same s48
      have rp : ∀ {G G' : Hp} {lh lr tt : Addr} {us : List V} {zs : List Z}, Paired (Rep G 2) ((srt (en.map (·.key))).map (keptT en)) us -> Same G G' -> G' lh = some (.lst us) -> G' lr = some (.lst (zref zs)) -> ZAt G' zs -> zs.map (·.2) = rowsNZ (am.map (·.1)) (amt am) -> G' tt = some (.tup [.ref lh, .ref lr]) -> Rep G' 4 (.tp [.ls ((srt (en.map (·.key))).map (keptT en)), rowsT (rowsNZ (am.map (·.1)) (amt am))]) (.ref tt) := fun {G G' lh lr tt us zs} pr s g1 g2 hz hm gt => by
        refine ⟨tt, _, rfl, gt, .cons ⟨lh, us, rfl, g1, Paired.map' (fun _ _ h => h.same s) pr⟩ (.cons ?_ .nil)⟩
        rw [<- hm]; exact Rep.up (rep_rows g2 hz)
      have r8 := rp pr6 s68 (s68 _ _ g6) (s8 _ _ g7) (hza.same s8) hzm gtt
      refine ⟨x, kd, xk, y, un, a, am, cl, en, _, rfl, inv8.st, hL, px4.same s48, ty4.same s48, fun hre G9 s9 => ?_, fun hre G9 am' en' st' la le k => ?_⟩
      . rw [refB_same s48 ty4.1, hrb] at hre; subst hre; have inv9 := inv8.same s9
        refine ⟨a.dx, _, inv9.st.ht.hp, hf_no a (by decide +kernel) (by decide +kernel) (by decide +kernel), x, a, am, cl, en, _, rfl, inv9.st.ht, hel, inv9.st.dsc, fun lh2 us2 GA sA nlA gA prA => ?_⟩
        have invA := inv9.same sA
        refine ⟨a.dx, _, invA.st.ht.hp, hf_no a (by decide +kernel) (by decide +kernel) (by decide +kernel), x, a, am, cl, en, _, rfl, invA.st.ht, hal, fun lr2 zs2 GB sB nlB gB hzaB hzmB => ⟨by simp, fun tt2 GC sC gttC => ?_⟩⟩
        have sAC : Same GA GC := sB.trans sC
        have rC := rp prA sAC (sAC _ _ gA) (sC _ _ gB) (hzaB.same sC) hzmB gttC
        refine ⟨_, _, _, rfl, rC, r8.same (s9.trans (sA.trans sAC)), ⟨by simp, fun t' ht' => ?_⟩, fun GD sD' => ?_⟩
        . simp only [List.mem_cons, List.not_mem_nil, or_false] at ht'
          rcases ht' with rfl | rfl
          . refine ⟨by rw [Zlm, srt_len, Zlm]; omega, fun t' ht' => ?_⟩
            obtain ⟨k, _, rfl⟩ := Zmm.mp ht'
            exact okKept inv.st.sd k
          . refine okRows _ ?_
            unfold rowsNZ; rw [Zlm]; refine Znt (List.length_filter_le _ _) ?_
            rw [srt_len, Zlm]; omega
        . exact ⟨_, _, _, _, _, _, _, _, am, en, rfl, (invA.same (sAC.trans sD')).up⟩
      . rw [refB_same s48 ty4.1, hrb] at hre; subst hre; exact ⟨_, _, _, _, _, _, _, _, am', en', rfl, LI.step inv8 st' la le k⟩
    . rintro σ H' _
      exact q H'
end
end KL
namespace KL
open PySem L2
structure FA (K : W.Frag) (x : Str) (st : Stmt) : Prop where
  ex : ∃ (f : Addr) (od an : Option Addr) (sl : Array (Option Value)) (oc kV dc pm cd ct : Value), W.nsIn K mainGlobals x = some (some (.ref f)) /\ K.lookup f = some ⟨oc, od, .func (W.fnOf x x (defArgs st) (defBody st) (defScope st) .none kV dc pm an cd ct), sl⟩ /\ W.codeIn K cd x = true /\ W.keepIn K (.ref f) = true
theorem FA.of {K : W.Frag} {x : Str} {st : Stmt} {f : Addr} {od an : Option Addr} {sl : Array (Option Value)} {oc kV dc pm cd ct : Value} (a : W.nsIn K mainGlobals x = some (some (.ref f))) (l : K.lookup f = some ⟨oc, od, .func (W.fnOf x x (defArgs st) (defBody st) (defScope st) .none kV dc pm an cd ct), sl⟩) (c : W.codeIn K cd x = true) (k : W.keepIn K (.ref f) = true) : FA K x st := ⟨f, od, an, sl, oc, kV, dc, pm, cd, ct, a, l, c, k⟩
theorem FA.at {K : W.Frag} {x : Str} {st : Stmt} {ps : List Str} {h : Heap} {mg : Str -> Option Value} (F : FA K x st) (X : K.In h) (G : h.Ns mainGlobals mg) (hb : ∀ (kV doc pm : Value) (an : Option Addr) (cdv ct : Value) (us : List Value), us.length = ps.length -> bindArgs (W.fnOf x x (defArgs st) (defBody st) (defScope st) .none kV doc pm an cdv ct) ⟨us, []⟩ = pure (ps.zip us)) : DefAt K mg x st ps := by
  obtain ⟨f, od, an, sl, oc, kV, dc, pm, cd, ct, a, l, c, k⟩ := F.ex
  exact def_at X G a l c k hb
structure MA (K : W.Frag) (C : Addr) (m qual : Str) (st : Stmt) : Prop where
  ex : ∃ (f : Addr) (od an : Option Addr) (sl : Array (Option Value)) (oc kV dc pm cd ct : Value), W.findIn K (.ref C) m = some (some (.ref f)) /\ W.isFn K (.ref f) = true /\ K.lookup f = some ⟨oc, od, .func (W.fnOf m qual (defArgs st) (defBody st) (defScope st) .none kV dc pm an cd ct), sl⟩ /\ W.codeIn K cd qual = true /\ W.keepIn K (.ref f) = true
theorem MA.of {K : W.Frag} {C : Addr} {m qual : Str} {st : Stmt} {f : Addr} {od an : Option Addr} {sl : Array (Option Value)} {oc kV dc pm cd ct : Value} (a : W.findIn K (.ref C) m = some (some (.ref f))) (i : W.isFn K (.ref f) = true) (l : K.lookup f = some ⟨oc, od, .func (W.fnOf m qual (defArgs st) (defBody st) (defScope st) .none kV dc pm an cd ct), sl⟩) (c : W.codeIn K cd qual = true) (k : W.keepIn K (.ref f) = true) : MA K C m qual st := ⟨f, od, an, sl, oc, kV, dc, pm, cd, ct, a, i, l, c, k⟩
theorem MA.at {K : W.Frag} {C : Addr} {m qual : Str} {st : Stmt} {ps : List Str} (F : MA K C m qual st) (cl : Cls K C) (hb : ∀ (kV doc pm : Value) (an : Option Addr) (cdv ct : Value) (us : List Value), us.length = ps.length -> bindArgs (W.fnOf m qual (defArgs st) (defBody st) (defScope st) .none kV doc pm an cdv ct) ⟨us, []⟩ = pure (ps.zip us)) : MethAt K C m qual st ps := by
  obtain ⟨f, od, an, sl, oc, kV, dc, pm, cd, ct, a, i, l, c, k⟩ := F.ex
  exact ⟨cl, _, _, fun_mk l c k, ⟨a, i, k⟩, (fun_mk (st := st) l c k).binds hb⟩
theorem all_mk {l : W.OpenLaw} {w : World} {K : W.Frag} {h : Heap} {mg : Str -> Option Value} {fa f_law : Addr} (X : K.In h) (G : h.Ns mainGlobals mg) (hfa : mg "law" = some (.ref fa))
    {od_law an_law : Option Addr} {sl_law : Array (Option Value)} {oc_law kV_law dc_law pm_law cd_law ct_law : Value}
    (a_is_name : FA K "is_name" s_is_name)
    (a_is_key : FA K "is_key" s_is_key)
    (a_is_whole : FA K "is_whole" s_is_whole)
    (a_is_made_of : FA K "is_made_of" s_is_made_of)
    (a_is_deed : FA K "is_deed" s_is_deed)
    (a_fits_word : FA K "fits_word" s_fits_word)
    (a_done_changes : FA K "done_changes" s_done_changes)
    (a_check_key : FA K "check_key" s_check_key)
    (a_law_pen : FA K "_law_pen" s_law_pen)
    (a_law_take : FA K "_law_take" s_law_take)
    (a_law_names : FA K "_law_names" s_law_names)
    (a_law_keys : FA K "_law_keys" s_law_keys)
    (a_law_same : FA K "_law_same" s_law_same)
    (a_law_mark : FA K "_law_mark" s_law_mark)
    (a_law_said : FA K "_law_said" s_law_said)
    (a_law_is_word : FA K "_law_is_word" s_law_is_word)
    (a_law_is_key : FA K "_law_is_key" s_law_is_key)
    (a_law_is_plain : FA K "_law_is_plain" s_law_is_plain)
    (a_law_key : FA K "_law_key" s_law_key)
    (a_law_deed : FA K "_law_deed" s_law_deed)
    (a_law_undone : FA K "_law_undone" s_law_undone)
    (a_law_due : FA K "_law_due" s_law_due)
    (a_law_step : FA K "_law_step" s_law_step)
    (a_law : W.nsIn K mainGlobals "law" = some (some (.ref f_law))) (l_law : K.lookup f_law = some ⟨oc_law, od_law, .func (W.fnOf "law" "law" (defArgs s_law) (defBody s_law) (defScope s_law) .none kV_law dc_law pm_law an_law cd_law ct_law), sl_law⟩) (c_law : W.codeIn K cd_law "law" = true) (k_law : W.keepIn K (.ref f_law) = true)
    {C_House : Addr} (aC_House : W.nsIn K mainGlobals "House" = some (some (.ref C_House))) (pg_House : W.plainGet K C_House Str.empty = true) (hd_House : W.hasDictIn K C_House = true) (po_House : W.plainOver K C_House = true) (sa_House : W.findIn K (.ref C_House) "__setattr__" = some (some (.builtin "object.__setattr__"))) (mk_House : W.makesIn K C_House = true) (kc_House : W.keepIn K (.ref C_House) = true)
    (n_House_amounts : W.findIn K (.ref C_House) "amounts" = some none)
    (n_House_closed_names : W.findIn K (.ref C_House) "closed_names" = some none)
    (n_House_entries : W.findIn K (.ref C_House) "entries" = some none)
    {f_House___init__ : Addr} {od_House___init__ an_House___init__ : Option Addr} {sl_House___init__ : Array (Option Value)} {oc_House___init__ kV_House___init__ dc_House___init__ pm_House___init__ cd_House___init__ ct_House___init__ : Value} {T_House : Addr}
    (a_House___init__ : W.findIn K (.ref C_House) "__init__" = some (some (.ref f_House___init__))) (i_House___init__ : W.isFn K (.ref f_House___init__) = true) (l_House___init__ : K.lookup f_House___init__ = some ⟨oc_House___init__, od_House___init__, .func (W.fnOf "__init__" "House.__init__" (defArgs s_House___init__) (defBody s_House___init__) (defScope s_House___init__) (.ref T_House) kV_House___init__ dc_House___init__ pm_House___init__ an_House___init__ cd_House___init__ ct_House___init__), sl_House___init__⟩) (c_House___init__ : W.codeIn K cd_House___init__ "House.__init__" = true) (k_House___init__ : W.keepIn K (.ref f_House___init__) = true)
    (a_House_ask : MA K C_House "ask" "House.ask" s_House_ask)
    (a_House_try_deed : MA K C_House "try_deed" "House.try_deed" s_House_try_deed)
    (a_House_can_do : MA K C_House "can_do" "House.can_do" s_House_can_do)
    (a_House_undo : MA K C_House "undo" "House.undo" s_House_undo)
    (a_House_close : MA K C_House "close" "House.close" s_House_close)
    (a_House_amount : MA K C_House "amount" "House.amount" s_House_amount)
    (a_House_rows : MA K C_House "rows" "House.rows" s_House_rows)
    (a_House_kept : MA K C_House "kept" "House.kept" s_House_kept)
    {dT_House : Option Addr} {itsT_House : List Value} {nT_House : Nat} {slT_House : Array (Option Value)} (lT_House : K.lookup T_House = some ⟨.type "tuple", dT_House, .seq (List.toArray itsT_House) nT_House, slT_House⟩) (vT_House : itsT_House = [.none, .none])
    {C_DoorError : Addr} (aC_DoorError : W.nsIn K mainGlobals "DoorError" = some (some (.ref C_DoorError)))
    {C_NoDeed : Addr} (aC_NoDeed : W.nsIn K mainGlobals "NoDeed" = some (some (.ref C_NoDeed)))
    {C_NoKey : Addr} (aC_NoKey : W.nsIn K mainGlobals "NoKey" = some (some (.ref C_NoKey)))
    {C_Other : Addr} (aC_Other : W.nsIn K mainGlobals "Other" = some (some (.ref C_Other)))
    {C_NoRow : Addr} (aC_NoRow : W.nsIn K mainGlobals "NoRow" = some (some (.ref C_NoRow)))
    {C_NoAsk : Addr} (aC_NoAsk : W.nsIn K mainGlobals "NoAsk" = some (some (.ref C_NoAsk)))
    {C_NoJournal : Addr} (aC_NoJournal : W.nsIn K mainGlobals "NoJournal" = some (some (.ref C_NoJournal)))
    {C_Busy : Addr} (aC_Busy : W.nsIn K mainGlobals "Busy" = some (some (.ref C_Busy)))
    {C_NoName : Addr} (aC_NoName : W.nsIn K mainGlobals "NoName" = some (some (.ref C_NoName)))
    {C_Late : Addr} (aC_Late : W.nsIn K mainGlobals "Late" = some (some (.ref C_Late)))
    {C_Down : Addr} (aC_Down : W.nsIn K mainGlobals "Down" = some (some (.ref C_Down)))
    {C_Up : Addr} (aC_Up : W.nsIn K mainGlobals "Up" = some (some (.ref C_Up)))
    {C_Unsafe : Addr} (aC_Unsafe : W.nsIn K mainGlobals "Unsafe" = some (some (.ref C_Unsafe)))
    {C_NoNumber : Addr} (aC_NoNumber : W.nsIn K mainGlobals "NoNumber" = some (some (.ref C_NoNumber)))
    {C_NoWay : Addr} (aC_NoWay : W.nsIn K mainGlobals "NoWay" = some (some (.ref C_NoWay)))
    {C_NoLine : Addr} (aC_NoLine : W.nsIn K mainGlobals "NoLine" = some (some (.ref C_NoLine)))
    {C_NoChange : Addr} (aC_NoChange : W.nsIn K mainGlobals "NoChange" = some (some (.ref C_NoChange)))
    {C_NoHouse : Addr} (aC_NoHouse : W.nsIn K mainGlobals "NoHouse" = some (some (.ref C_NoHouse)))
    {C_NoRows : Addr} (aC_NoRows : W.nsIn K mainGlobals "NoRows" = some (some (.ref C_NoRows)))
    (x_gg : W.specialIn K (.builtin "object.__class__") "__get__" = some (some (.builtin "getset_descriptor.__get__")))
    (x_tk : W.takesIn K (.builtin "object.__class__") = some true)
    (x_kexc : W.excIn K C_NoKey [.type "ValueError", .type "Exception", .type "BaseException", .type "object"] "ValueError.__new__" = true)
    (x_kga : W.findIn K (.ref C_NoKey) "__getattribute__" = some (some (.builtin "BaseException.__getattribute__")))
    (x_kgx : W.findIn K (.ref C_NoKey) "__getattr__" = some none)
    (x_kcl : W.findIn K (.ref C_NoKey) "__class__" = some (some (.builtin "object.__class__")))
    (x_kmo : W.mroIn K C_NoKey (.type "object") = some true)
    (x_kmb : W.mroIn K C_NoKey (.type "BaseException") = some true)
    (x_kci : W.isClsIn K C_NoKey = true)
    (x_kxm : W.exmOne K (.ref C_NoKey) (.ref C_DoorError) = some true)
    (x_kk_NoDeed : W.kitOne K (.ref C_NoKey) (.ref C_NoDeed) = some false)
    (x_kk_NoKey : W.kitOne K (.ref C_NoKey) (.ref C_NoKey) = some true)
    (x_kk_Other : W.kitOne K (.ref C_NoKey) (.ref C_Other) = some false)
    (x_kk_NoRow : W.kitOne K (.ref C_NoKey) (.ref C_NoRow) = some false)
    (x_kk_NoAsk : W.kitOne K (.ref C_NoKey) (.ref C_NoAsk) = some false)
    (x_kk_NoJournal : W.kitOne K (.ref C_NoKey) (.ref C_NoJournal) = some false)
    (x_kk_Busy : W.kitOne K (.ref C_NoKey) (.ref C_Busy) = some false)
    (x_kk_NoName : W.kitOne K (.ref C_NoKey) (.ref C_NoName) = some false)
    (x_kk_Late : W.kitOne K (.ref C_NoKey) (.ref C_Late) = some false)
    (x_kk_Down : W.kitOne K (.ref C_NoKey) (.ref C_Down) = some false)
    (x_kk_Up : W.kitOne K (.ref C_NoKey) (.ref C_Up) = some false)
    (x_kk_Unsafe : W.kitOne K (.ref C_NoKey) (.ref C_Unsafe) = some false)
    (x_kk_NoNumber : W.kitOne K (.ref C_NoKey) (.ref C_NoNumber) = some false)
    (x_kk_NoWay : W.kitOne K (.ref C_NoKey) (.ref C_NoWay) = some false)
    (x_kk_NoLine : W.kitOne K (.ref C_NoKey) (.ref C_NoLine) = some false)
    (x_kk_NoChange : W.kitOne K (.ref C_NoKey) (.ref C_NoChange) = some false)
    (x_kk_NoHouse : W.kitOne K (.ref C_NoKey) (.ref C_NoHouse) = some false)
    (x_kk_NoRows : W.kitOne K (.ref C_NoKey) (.ref C_NoRows) = some false)
    (x_kk_VE : W.kitOne K (.ref C_NoKey) (.type "ValueError") = some true)
    (x_nexc : W.excIn K C_NoDeed [.type "ValueError", .type "Exception", .type "BaseException", .type "object"] "ValueError.__new__" = true)
    (x_nga : W.findIn K (.ref C_NoDeed) "__getattribute__" = some (some (.builtin "BaseException.__getattribute__")))
    (x_ngx : W.findIn K (.ref C_NoDeed) "__getattr__" = some none)
    (x_ncl : W.findIn K (.ref C_NoDeed) "__class__" = some (some (.builtin "object.__class__")))
    (x_nmo : W.mroIn K C_NoDeed (.type "object") = some true)
    (x_nmb : W.mroIn K C_NoDeed (.type "BaseException") = some true)
    (x_nci : W.isClsIn K C_NoDeed = true)
    (x_nxm : W.exmOne K (.ref C_NoDeed) (.ref C_DoorError) = some true)
    (x_nk_NoDeed : W.kitOne K (.ref C_NoDeed) (.ref C_NoDeed) = some true)
    (x_nk_NoKey : W.kitOne K (.ref C_NoDeed) (.ref C_NoKey) = some false)
    (x_nk_Other : W.kitOne K (.ref C_NoDeed) (.ref C_Other) = some false)
    (x_nk_NoRow : W.kitOne K (.ref C_NoDeed) (.ref C_NoRow) = some false)
    (x_nk_NoAsk : W.kitOne K (.ref C_NoDeed) (.ref C_NoAsk) = some false)
    (x_nk_NoJournal : W.kitOne K (.ref C_NoDeed) (.ref C_NoJournal) = some false)
    (x_nk_Busy : W.kitOne K (.ref C_NoDeed) (.ref C_Busy) = some false)
    (x_nk_NoName : W.kitOne K (.ref C_NoDeed) (.ref C_NoName) = some false)
    (x_nk_Late : W.kitOne K (.ref C_NoDeed) (.ref C_Late) = some false)
    (x_nk_Down : W.kitOne K (.ref C_NoDeed) (.ref C_Down) = some false)
    (x_nk_Up : W.kitOne K (.ref C_NoDeed) (.ref C_Up) = some false)
    (x_nk_Unsafe : W.kitOne K (.ref C_NoDeed) (.ref C_Unsafe) = some false)
    (x_nk_NoNumber : W.kitOne K (.ref C_NoDeed) (.ref C_NoNumber) = some false)
    (x_nk_NoWay : W.kitOne K (.ref C_NoDeed) (.ref C_NoWay) = some false)
    (x_nk_NoLine : W.kitOne K (.ref C_NoDeed) (.ref C_NoLine) = some false)
    (x_nk_NoChange : W.kitOne K (.ref C_NoDeed) (.ref C_NoChange) = some false)
    (x_nk_NoHouse : W.kitOne K (.ref C_NoDeed) (.ref C_NoHouse) = some false)
    (x_nk_NoRows : W.kitOne K (.ref C_NoDeed) (.ref C_NoRows) = some false)
    (x_nk_VE : W.kitOne K (.ref C_NoDeed) (.type "ValueError") = some true)
    (x_oexc : W.excIn K C_Other [.type "ValueError", .type "Exception", .type "BaseException", .type "object"] "ValueError.__new__" = true)
    (x_oga : W.findIn K (.ref C_Other) "__getattribute__" = some (some (.builtin "BaseException.__getattribute__")))
    (x_ogx : W.findIn K (.ref C_Other) "__getattr__" = some none)
    (x_ocl : W.findIn K (.ref C_Other) "__class__" = some (some (.builtin "object.__class__")))
    (x_omo : W.mroIn K C_Other (.type "object") = some true)
    (x_omb : W.mroIn K C_Other (.type "BaseException") = some true)
    (x_oci : W.isClsIn K C_Other = true)
    (x_oxm : W.exmOne K (.ref C_Other) (.ref C_DoorError) = some true)
    (x_ok_NoDeed : W.kitOne K (.ref C_Other) (.ref C_NoDeed) = some false)
    (x_ok_NoKey : W.kitOne K (.ref C_Other) (.ref C_NoKey) = some false)
    (x_ok_Other : W.kitOne K (.ref C_Other) (.ref C_Other) = some true)
    (x_ok_NoRow : W.kitOne K (.ref C_Other) (.ref C_NoRow) = some false)
    (x_ok_NoAsk : W.kitOne K (.ref C_Other) (.ref C_NoAsk) = some false)
    (x_ok_NoJournal : W.kitOne K (.ref C_Other) (.ref C_NoJournal) = some false)
    (x_ok_Busy : W.kitOne K (.ref C_Other) (.ref C_Busy) = some false)
    (x_ok_NoName : W.kitOne K (.ref C_Other) (.ref C_NoName) = some false)
    (x_ok_Late : W.kitOne K (.ref C_Other) (.ref C_Late) = some false)
    (x_ok_Down : W.kitOne K (.ref C_Other) (.ref C_Down) = some false)
    (x_ok_Up : W.kitOne K (.ref C_Other) (.ref C_Up) = some false)
    (x_ok_Unsafe : W.kitOne K (.ref C_Other) (.ref C_Unsafe) = some false)
    (x_ok_NoNumber : W.kitOne K (.ref C_Other) (.ref C_NoNumber) = some false)
    (x_ok_NoWay : W.kitOne K (.ref C_Other) (.ref C_NoWay) = some false)
    (x_ok_NoLine : W.kitOne K (.ref C_Other) (.ref C_NoLine) = some false)
    (x_ok_NoChange : W.kitOne K (.ref C_Other) (.ref C_NoChange) = some false)
    (x_ok_NoHouse : W.kitOne K (.ref C_Other) (.ref C_NoHouse) = some false)
    (x_ok_NoRows : W.kitOne K (.ref C_Other) (.ref C_NoRows) = some false)
    (x_ok_VE : W.kitOne K (.ref C_Other) (.type "ValueError") = some true)
    (z_isinstance : W.nsIn K mainGlobals "isinstance" = some none)
    (z_int : W.nsIn K mainGlobals "int" = some none)
    (z_bool : W.nsIn K mainGlobals "bool" = some none)
    (z_all : W.nsIn K mainGlobals "all" = some none)
    (z_str : W.nsIn K mainGlobals "str" = some none)
    (z_len : W.nsIn K mainGlobals "len" = some none)
    (z_tuple : W.nsIn K mainGlobals "tuple" = some none)
    (z_zip : W.nsIn K mainGlobals "zip" = some none)
    (z_dict : W.nsIn K mainGlobals "dict" = some none)
    (z_sorted : W.nsIn K mainGlobals "sorted" = some none)
    (z_sum : W.nsIn K mainGlobals "sum" = some none)
    (z_list : W.nsIn K mainGlobals "list" = some none)
    (z_reversed : W.nsIn K mainGlobals "reversed" = some none)
    (z_range : W.nsIn K mainGlobals "range" = some none)
    (z_min : W.nsIn K mainGlobals "min" = some none)
    (z_max : W.nsIn K mainGlobals "max" = some none)
    (z_enumerate : W.nsIn K mainGlobals "enumerate" = some none)
    (z_ValueError : W.nsIn K mainGlobals "ValueError" = some none)
    {t_LETTERS : Tok} (y_LETTERS : W.nsIn K mainGlobals "LETTERS" = some (some (.str ("abcdefghijklmnopqrstuvwxyz") t_LETTERS)))
    {t_FIGURES : Tok} (y_FIGURES : W.nsIn K mainGlobals "FIGURES" = some (some (.str ("0123456789") t_FIGURES)))
    {t_LONGEST_NAME : Tok} (y_LONGEST_NAME : W.nsIn K mainGlobals "LONGEST_NAME" = some (some (.int (8) t_LONGEST_NAME)))
    {t_LONGEST_KEY : Tok} (y_LONGEST_KEY : W.nsIn K mainGlobals "LONGEST_KEY" = some (some (.int (12) t_LONGEST_KEY)))
    {t_MOST : Tok} (y_MOST : W.nsIn K mainGlobals "MOST" = some (some (.int (1000000000000) t_MOST)))
    {a_NAME_COUNTS : Addr} {es_NAME_COUNTS : List DictEntry} {n_NAME_COUNTS : Nat} (y_NAME_COUNTS : W.nsIn K mainGlobals "NAME_COUNTS" = some (some (.ref a_NAME_COUNTS))) (l_NAME_COUNTS : K.lookup a_NAME_COUNTS = some ⟨.type "dict", none, .dict (List.toArray es_NAME_COUNTS) n_NAME_COUNTS, #[]⟩) (t_NAME_COUNTS : Tab w.params es_NAME_COUNTS (WS)) (o_NAME_COUNTS : (a_NAME_COUNTS == sysModules) = false)
    {a_UNLIKE_WORDS : Addr} {its_UNLIKE_WORDS : List Value} {dd_UNLIKE_WORDS : Option Addr} {n_UNLIKE_WORDS : Nat} {sl_UNLIKE_WORDS : Array (Option Value)} (y_UNLIKE_WORDS : W.nsIn K mainGlobals "UNLIKE_WORDS" = some (some (.ref a_UNLIKE_WORDS))) (l_UNLIKE_WORDS : K.lookup a_UNLIKE_WORDS = some ⟨.type "tuple", dd_UNLIKE_WORDS, .seq (List.toArray its_UNLIKE_WORDS) n_UNLIKE_WORDS, sl_UNLIKE_WORDS⟩) (v_UNLIKE_WORDS : Vals (UW) its_UNLIKE_WORDS)
    {a_HOUSE_WORDS : Addr} {its_HOUSE_WORDS : List Value} {dd_HOUSE_WORDS : Option Addr} {n_HOUSE_WORDS : Nat} {sl_HOUSE_WORDS : Array (Option Value)} (y_HOUSE_WORDS : W.nsIn K mainGlobals "HOUSE_WORDS" = some (some (.ref a_HOUSE_WORDS))) (l_HOUSE_WORDS : K.lookup a_HOUSE_WORDS = some ⟨.type "tuple", dd_HOUSE_WORDS, .seq (List.toArray its_HOUSE_WORDS) n_HOUSE_WORDS, sl_HOUSE_WORDS⟩) (v_HOUSE_WORDS : Vals ([V.str "add", .str "take"]) its_HOUSE_WORDS)
    : ∃ fd : FuncData, (∀ (s : Shared) (v : Value), BindsTo s fd ⟨[v], []⟩ [("_law_script", v)]) /\ ∀ base : Heap, K.In base -> base.Ns mainGlobals mg -> FnOk l.prog w K mg base CX0 8 fa fd ["_law_script"] (spLaw K) := by
  have e := hfa.symm.trans (W.mg_of X G a_law)
  cases e
  have T : Txt K mg := ⟨W.mg_none_of X G z_isinstance, W.mg_none_of X G z_int, W.mg_none_of X G z_bool, W.mg_none_of X G z_all, W.mg_none_of X G z_str, W.mg_none_of X G z_len, W.mg_none_of X G z_tuple, W.mg_none_of X G z_zip, W.mg_none_of X G z_dict, W.mg_none_of X G z_sorted, W.mg_none_of X G z_sum, W.mg_none_of X G z_list, W.mg_none_of X G z_reversed, W.mg_none_of X G z_range, W.mg_none_of X G z_min, W.mg_none_of X G z_max, W.mg_none_of X G z_enumerate, W.mg_none_of X G z_ValueError, ⟨_, W.mg_of X G y_LETTERS⟩, ⟨_, W.mg_of X G y_FIGURES⟩, ⟨_, W.mg_of X G y_LONGEST_NAME⟩, ⟨_, W.mg_of X G y_LONGEST_KEY⟩, ⟨_, W.mg_of X G y_MOST⟩⟩
  have U : Top w.params K mg := ⟨⟨_, W.mg_of X G y_NAME_COUNTS, ⟨_, _, l_NAME_COUNTS, t_NAME_COUNTS, o_NAME_COUNTS⟩⟩, ⟨_, W.mg_of X G y_UNLIKE_WORDS, fun _ => .inr ⟨_, _, _, l_UNLIKE_WORDS, rfl, rfl, by rw [Zst, <- v_UNLIKE_WORDS.length]; decide, v_UNLIKE_WORDS⟩⟩, ⟨_, W.mg_of X G y_HOUSE_WORDS, fun _ => .inr ⟨_, _, _, l_HOUSE_WORDS, rfl, rfl, by rw [Zst, <- v_HOUSE_WORDS.length]; decide, v_HOUSE_WORDS⟩⟩⟩
  have D_is_name : DefAt K mg "is_name" s_is_name ["thing"] := a_is_name.at X G fun _ _ _ _ _ _ us hl => match us, hl with | [_], _ => rfl
  have D_is_key : DefAt K mg "is_key" s_is_key ["thing"] := a_is_key.at X G fun _ _ _ _ _ _ us hl => match us, hl with | [_], _ => rfl
  have D_is_whole : DefAt K mg "is_whole" s_is_whole ["thing", "least", "most"] := a_is_whole.at X G fun _ _ _ _ _ _ us hl => match us, hl with | [_, _, _], _ => rfl
  have D_is_made_of : DefAt K mg "is_made_of" s_is_made_of ["thing", "signs", "longest"] := a_is_made_of.at X G fun _ _ _ _ _ _ us hl => match us, hl with | [_, _, _], _ => rfl
  have D_is_deed : DefAt K mg "is_deed" s_is_deed ["thing"] := a_is_deed.at X G fun _ _ _ _ _ _ us hl => match us, hl with | [_], _ => rfl
  have D_fits_word : DefAt K mg "fits_word" s_fits_word ["word", "names"] := a_fits_word.at X G fun _ _ _ _ _ _ us hl => match us, hl with | [_, _], _ => rfl
  have D_done_changes : DefAt K mg "done_changes" s_done_changes ["deed"] := a_done_changes.at X G fun _ _ _ _ _ _ us hl => match us, hl with | [_], _ => rfl
  have D_check_key : DefAt K mg "check_key" s_check_key ["thing"] := a_check_key.at X G fun _ _ _ _ _ _ us hl => match us, hl with | [_], _ => rfl
  have D_law_pen : DefAt K mg "_law_pen" s_law_pen ["_law_cell", "_law_k"] := a_law_pen.at X G fun _ _ _ _ _ _ us hl => match us, hl with | [_, _], _ => rfl
  have D_law_take : DefAt K mg "_law_take" s_law_take ["_law_pen_here", "_law_most"] := a_law_take.at X G fun _ _ _ _ _ _ us hl => match us, hl with | [_, _], _ => rfl
  have D_law_names : DefAt K mg "_law_names" s_law_names ["_law_pen_here", "_law_many"] := a_law_names.at X G fun _ _ _ _ _ _ us hl => match us, hl with | [_, _], _ => rfl
  have D_law_keys : DefAt K mg "_law_keys" s_law_keys ["_law_pen_here", "_law_many"] := a_law_keys.at X G fun _ _ _ _ _ _ us hl => match us, hl with | [_, _], _ => rfl
  have D_law_same : DefAt K mg "_law_same" s_law_same ["_law_found", "_law_due_here"] := a_law_same.at X G fun _ _ _ _ _ _ us hl => match us, hl with | [_, _], _ => rfl
  have D_law_mark : DefAt K mg "_law_mark" s_law_mark ["_law_error"] := a_law_mark.at X G fun _ _ _ _ _ _ us hl => match us, hl with | [_], _ => rfl
  have D_law_said : DefAt K mg "_law_said" s_law_said ["_law_house", "_law_key_here", "_law_deed_here"] := a_law_said.at X G fun _ _ _ _ _ _ us hl => match us, hl with | [_, _, _], _ => rfl
  have D_law_is_word : DefAt K mg "_law_is_word" s_law_is_word ["_law_thing", "_law_signs", "_law_most"] := a_law_is_word.at X G fun _ _ _ _ _ _ us hl => match us, hl with | [_, _, _], _ => rfl
  have D_law_is_key : DefAt K mg "_law_is_key" s_law_is_key ["_law_thing"] := a_law_is_key.at X G fun _ _ _ _ _ _ us hl => match us, hl with | [_], _ => rfl
  have D_law_is_plain : DefAt K mg "_law_is_plain" s_law_is_plain ["_law_thing"] := a_law_is_plain.at X G fun _ _ _ _ _ _ us hl => match us, hl with | [_], _ => rfl
  have D_law_key : DefAt K mg "_law_key" s_law_key ["_law_pen_here", "_law_keys_here"] := a_law_key.at X G fun _ _ _ _ _ _ us hl => match us, hl with | [_, _], _ => rfl
  have D_law_deed : DefAt K mg "_law_deed" s_law_deed ["_law_pen_here", "_law_names_here", "_law_firsts"] := a_law_deed.at X G fun _ _ _ _ _ _ us hl => match us, hl with | [_, _, _], _ => rfl
  have D_law_undone : DefAt K mg "_law_undone" s_law_undone ["_law_house", "_law_key_here"] := a_law_undone.at X G fun _ _ _ _ _ _ us hl => match us, hl with | [_, _], _ => rfl
  have D_law_due : DefAt K mg "_law_due" s_law_due ["_law_key_here", "_law_deed_here", "_law_asked"] := a_law_due.at X G fun _ _ _ _ _ _ us hl => match us, hl with | [_, _, _], _ => rfl
  have D_law_step : DefAt K mg "_law_step" s_law_step ["_law_house", "_law_key_here", "_law_deed_here", "_law_asked", "_law_undoes"] := a_law_step.at X G fun _ _ _ _ _ _ us hl => match us, hl with | [_, _, _, _, _], _ => rfl
  have cl_House : Cls K C_House := ⟨pg_House, hd_House, po_House, sa_House⟩
  have M_House_ask : MethAt K C_House "ask" "House.ask" s_House_ask ["self", "key", "deed"] := a_House_ask.at cl_House fun _ _ _ _ _ _ us hl => match us, hl with | [_, _, _], _ => rfl
  have M_House_try_deed : MethAt K C_House "try_deed" "House.try_deed" s_House_try_deed ["self", "deed"] := a_House_try_deed.at cl_House fun _ _ _ _ _ _ us hl => match us, hl with | [_, _], _ => rfl
  have M_House_can_do : MethAt K C_House "can_do" "House.can_do" s_House_can_do ["self", "deed"] := a_House_can_do.at cl_House fun _ _ _ _ _ _ us hl => match us, hl with | [_, _], _ => rfl
  have M_House_undo : MethAt K C_House "undo" "House.undo" s_House_undo ["self", "key"] := a_House_undo.at cl_House fun _ _ _ _ _ _ us hl => match us, hl with | [_, _], _ => rfl
  have M_House_close : MethAt K C_House "close" "House.close" s_House_close ["self", "name"] := a_House_close.at cl_House fun _ _ _ _ _ _ us hl => match us, hl with | [_, _], _ => rfl
  have M_House_amount : MethAt K C_House "amount" "House.amount" s_House_amount ["self", "name"] := a_House_amount.at cl_House fun _ _ _ _ _ _ us hl => match us, hl with | [_, _], _ => rfl
  have M_House_rows : MethAt K C_House "rows" "House.rows" s_House_rows ["self"] := a_House_rows.at cl_House fun _ _ _ _ _ _ us hl => match us, hl with | [_], _ => rfl
  have M_House_kept : MethAt K C_House "kept" "House.kept" s_House_kept ["self"] := a_House_kept.at cl_House fun _ _ _ _ _ _ us hl => match us, hl with | [_], _ => rfl
  subst vT_House; have I_House : ClsAt K mg "House" C_House "House.__init__" s_House___init__ ["self", "rows", "closed"] [[.non]] := ⟨f_House___init__, _, _, W.mg_of X G aC_House, ⟨_, _, _, _, _, _, _, _, _, rfl, l_House___init__, c_House___init__⟩, ⟨mk_House, a_House___init__, i_House___init__, kc_House⟩, by
    intro d hd; obtain rfl := Zms.mp hd
    . exact ⟨[.none], fun s us KI hl => match us, (show us.length = 2 by simpa using hl) with | [_, _], _ => BindsTo.of_defaults (T := T_House) rfl (KI _ _ lT_House) rfl rfl rfl, (.cons rfl .nil)⟩⟩
  refine ⟨W.fnOf "law" "law" (defArgs s_law) (defBody s_law) (defScope s_law) .none kV_law dc_law pm_law an_law cd_law ct_law, fun s v => .of_eq rfl, fun base _ _ => ?_⟩
  have F_law := fun_mk (st := s_law) l_law c_law k_law
  have HT : HsT K C_House := ⟨cl_House, n_House_amounts, n_House_closed_names, n_House_entries⟩
  have c3 := ok_made (P := l.prog) (w := w) (base := base) T D_is_made_of
  have c4 := ok_is_name T c3 D_is_name
  have ck := ok_is_key T c3 D_is_key
  have c5 := ok_whole (P := l.prog) (w := w) (base := base) T D_is_whole
  have c6 := ok_fits T U c4 D_fits_word
  have c7 := ok_is_deed T c6 c5 D_is_deed
  have cc := ok_changes (P := l.prog) (w := w) (base := base) T D_done_changes
  have cp := ok_pen (P := l.prog) (w := w) (base := base) T D_law_pen
  have ct := ok_take (P := l.prog) (w := w) (base := base) T D_law_take
  have cna := ok_names20 T ct D_law_names
  have cke := ok_keys20 T ct D_law_keys
  have csa := ok_same (P := l.prog) (w := w) (base := base) T D_law_same
  have ham := ok_h_amount (P := l.prog) (w := w) (mg := mg) (base := base) HT M_House_amount
  have can := ok_can T HT ham M_House_can_do
  have tr := ok_try T HT can ham cc M_House_try_deed
  have clo := ok_close (P := l.prog) (w := w) (base := base) T HT M_House_close
  have X_NoKey : XCls K mg "NoKey" C_NoKey := ⟨W.mg_of X G aC_NoKey, x_kexc⟩
  have Q_NoKey : XKind K C_NoKey := ⟨x_kga, x_kgx, x_kcl, x_gg, x_tk, x_kmo, x_kmb, x_kci⟩
  have m_NoKey : MarkB K C_NoKey C_NoDeed C_NoKey C_Other C_NoRow C_NoAsk C_NoJournal C_Busy C_NoName C_Late C_Down C_Up C_Unsafe C_NoNumber C_NoWay C_NoLine C_NoChange C_NoHouse C_NoRows (fun i => decide (i = 1)) 1 "key" := ⟨Q_NoKey, x_kk_NoDeed, x_kk_NoKey, x_kk_Other, x_kk_NoRow, x_kk_NoAsk, x_kk_NoJournal, x_kk_Busy, x_kk_NoName, x_kk_Late, x_kk_Down, x_kk_Up, x_kk_Unsafe, x_kk_NoNumber, x_kk_NoWay, x_kk_NoLine, x_kk_NoChange, x_kk_NoHouse, x_kk_NoRows, x_kk_VE, by decide, rfl, (fun m hm => decide_eq_false (by omega)), by decide, rfl⟩
  have X_NoDeed : XCls K mg "NoDeed" C_NoDeed := ⟨W.mg_of X G aC_NoDeed, x_nexc⟩
  have Q_NoDeed : XKind K C_NoDeed := ⟨x_nga, x_ngx, x_ncl, x_gg, x_tk, x_nmo, x_nmb, x_nci⟩
  have m_NoDeed : MarkB K C_NoDeed C_NoDeed C_NoKey C_Other C_NoRow C_NoAsk C_NoJournal C_Busy C_NoName C_Late C_Down C_Up C_Unsafe C_NoNumber C_NoWay C_NoLine C_NoChange C_NoHouse C_NoRows (fun i => decide (i = 0)) 0 "deed" := ⟨Q_NoDeed, x_nk_NoDeed, x_nk_NoKey, x_nk_Other, x_nk_NoRow, x_nk_NoAsk, x_nk_NoJournal, x_nk_Busy, x_nk_NoName, x_nk_Late, x_nk_Down, x_nk_Up, x_nk_Unsafe, x_nk_NoNumber, x_nk_NoWay, x_nk_NoLine, x_nk_NoChange, x_nk_NoHouse, x_nk_NoRows, x_nk_VE, by decide, rfl, (fun m hm => decide_eq_false (by omega)), by decide, rfl⟩
  have X_Other : XCls K mg "Other" C_Other := ⟨W.mg_of X G aC_Other, x_oexc⟩
  have Q_Other : XKind K C_Other := ⟨x_oga, x_ogx, x_ocl, x_gg, x_tk, x_omo, x_omb, x_oci⟩
  have m_Other : MarkB K C_Other C_NoDeed C_NoKey C_Other C_NoRow C_NoAsk C_NoJournal C_Busy C_NoName C_Late C_Down C_Up C_Unsafe C_NoNumber C_NoWay C_NoLine C_NoChange C_NoHouse C_NoRows (fun i => decide (i = 2)) 2 "other" := ⟨Q_Other, x_ok_NoDeed, x_ok_NoKey, x_ok_Other, x_ok_NoRow, x_ok_NoAsk, x_ok_NoJournal, x_ok_Busy, x_ok_NoName, x_ok_Late, x_ok_Down, x_ok_Up, x_ok_Unsafe, x_ok_NoNumber, x_ok_NoWay, x_ok_NoLine, x_ok_NoChange, x_ok_NoHouse, x_ok_NoRows, x_ok_VE, by decide, rfl, (fun m hm => decide_eq_false (by omega)), by decide, rfl⟩
  have M3 : ThreeM K C_NoKey C_NoDeed C_Other C_DoorError C_NoDeed C_NoKey C_Other C_NoRow C_NoAsk C_NoJournal C_Busy C_NoName C_Late C_Down C_Up C_Unsafe C_NoNumber C_NoWay C_NoLine C_NoChange C_NoHouse C_NoRows := ⟨x_kxm, x_nxm, x_oxm, ⟨_, _, m_NoKey⟩, ⟨_, _, m_NoDeed⟩, ⟨_, _, m_Other⟩⟩
  have chk := ok_check_keyX T X_NoKey ck D_check_key
  have ask := ok_askY T U HT X_Other X_NoDeed chk c7 tr M_House_ask
  have und := ok_undoY T HT chk ham cc M_House_undo
  have hi := ok_hinit T HT clo I_House
  have hke := ok_hkept (P := l.prog) (w := w) (base := base) T HT M_House_kept
  have hro := ok_hrows (P := l.prog) (w := w) (base := base) T HT M_House_rows
  have mk := ok_mark (P := l.prog) (w := w) (base := base) T ⟨W.mg_of X G aC_NoDeed, W.mg_of X G aC_NoKey, W.mg_of X G aC_Other, W.mg_of X G aC_NoRow, W.mg_of X G aC_NoAsk, W.mg_of X G aC_NoJournal, W.mg_of X G aC_Busy, W.mg_of X G aC_NoName, W.mg_of X G aC_Late, W.mg_of X G aC_Down, W.mg_of X G aC_Up, W.mg_of X G aC_Unsafe, W.mg_of X G aC_NoNumber, W.mg_of X G aC_NoWay, W.mg_of X G aC_NoLine, W.mg_of X G aC_NoChange, W.mg_of X G aC_NoHouse, W.mg_of X G aC_NoRows⟩ D_law_mark
  have sd := ok_saidY T (W.mg_of X G aC_DoorError) M3 ask mk D_law_said
  have ud := ok_undoneY T (W.mg_of X G aC_DoorError) M3 und mk D_law_undone
  have lw := ok_lword (P := l.prog) (w := w) (base := base) T D_law_is_word
  have lk := ok_lkey T lw D_law_is_key
  have lp := ok_plain T lw D_law_is_plain
  have kd := ok_keyD T ct D_law_key
  have dd := ok_deedD T ct D_law_deed
  have du := ok_due T lk lp D_law_due
  have st := ok_step T (csa 3) du lk ud sd D_law_step
  exact ok_law T HT cp ct cna cke (hi [.non] (by simp)) ask und kd dd lk du st hro hke (csa 4) F_law
theorem walk {l : W.OpenLaw} {q : Program} {loose : List Str} {XP : (Str -> Option Value) -> Heap -> Prop} {YP : World -> Heap -> Prop} {d : DefRec} {K : Params -> W.Frag} (hn : l.most = some 63) (hdf : d.params.defaults = [])
    (hY : ∀ (w : World) (h : Heap), YP w h -> (K w.params).In h)
    (F : ∀ (w : World) (mg : Str -> Option Value) (fa : Addr) (h : Heap), (K w.params).In h -> h.Ns mainGlobals mg -> mg d.name = some (.ref fa) →
      ∃ fd : FuncData, (∀ (s : Shared) (u : Value), BindsTo s fd ⟨[u], []⟩ [("_law_script", u)]) /\ ∀ base : Heap, (K w.params).In base -> base.Ns mainGlobals mg -> FnOk l.prog w (K w.params) mg base CX0 8 fa fd ["_law_script"] (spLaw (K w.params))) :
    W.WalkO q loose XP YP l.row.toRowW d [] (fun f vs => PySem.call f vs) :=
  L2.walk_of (n := 63) (k := 8) (x := "_law_script") (CX := fun _ => CX0) (sp := fun w => spLaw (K w.params)) hn (by decide) hdf ⟨rfl, by decide, by decide⟩ hY F (fun _ _ a ns hl _ hS => ⟨a, ns, rfl, hS, hl, fun _ => rfl⟩) fun _ _ _ _ _ z => z
end KL
def PySem.W.Fast.tw3990848286895023943 : Nat := 0
def PySem.W.Fast.tw15403322814986388139 : Nat := 0
def PySem.W.Fast.tw10362652718059570552 : Nat := 0
def PySem.W.Fast.tw11330422787105083512 : Nat := 0
def PySem.W.Fast.tw5731676495729139609 : Nat := 0
def PySem.W.Fast.tw5879540558153910189 : Nat := 0
def PySem.W.Fast.tw17649103720944648167 : Nat := 0
def PySem.W.Fast.tw4284040681545948662 : Nat := 0
def PySem.W.Fast.tw10115432065216390297 : Nat := 0
def PySem.W.Fast.tw6334350234408378899 : Nat := 0
def PySem.W.Fast.tw10221503390435459316 : Nat := 0
def PySem.W.Fast.tw6407237714095111883 : Nat := 0
def PySem.W.Fast.tw9568247535804659598 : Nat := 0
def PySem.W.Fast.tw6001599195088464954 : Nat := 0
def PySem.W.Fast.tw6659486520856279575 : Nat := 0
def PySem.W.Fast.tw10055063395318964323 : Nat := 0
def PySem.W.Fast.tw2811099485894789975 : Nat := 0
def PySem.W.Fast.tw6447649389088501788 : Nat := 0
def PySem.W.Fast.tw6597897462866417696 : Nat := 0
def PySem.W.Fast.tw18306165104209611938 : Nat := 0
def PySem.W.Fast.tw6138615434628569811 : Nat := 0
def PySem.W.Fast.tw182533676401102226 : Nat := 0
def PySem.W.Fast.tw14255328045668973522 : Nat := 0
def PySem.W.Fast.tw8495406034728199274 : Nat := 0
def PySem.W.Fast.tw2738871733534435410 : Nat := 0
open PySem PySem.W PyProof.Rows
set_option maxRecDepth 100000 in
set_option maxHeartbeats 0 in
theorem PySem.Challenge.cw_oncedoor_k23_what_a_house_refuses_holds : PySem.Challenge.rw_oncedoor_k23_what_a_house_refuses.Holds := by
  w_on; o_law; k_head; (case hw => w_witness2)
  k_fill
  refine KL.walk (l := PySem.Challenge.rw_oncedoor_k23_what_a_house_refuses) rfl rfl (fun w h Y => W.kIn_of Y) ?F
  case F =>
    intro w mg fa h KX G hmg; refine' KL.all_mk KX G hmg ?a_is_name ?a_is_key ?a_is_whole ?a_is_made_of ?a_is_deed ?a_fits_word ?a_done_changes ?a_check_key ?a_law_pen ?a_law_take ?a_law_names ?a_law_keys ?a_law_same ?a_law_mark ?a_law_said ?a_law_is_word ?a_law_is_key ?a_law_is_plain ?a_law_key ?a_law_deed ?a_law_undone ?a_law_due ?a_law_step ?a_law ?l_law ?c_law ?k_law ?aC_House ?pg_House ?hd_House ?po_House ?sa_House ?mk_House ?kc_House ?n_House_amounts ?n_House_closed_names ?n_House_entries ?a_House___init__ ?i_House___init__ ?l_House___init__ ?c_House___init__ ?k_House___init__ ?a_House_ask ?a_House_try_deed ?a_House_can_do ?a_House_undo ?a_House_close ?a_House_amount ?a_House_rows ?a_House_kept ?lT_House ?vT_House ?aC_DoorError ?aC_NoDeed ?aC_NoKey ?aC_Other ?aC_NoRow ?aC_NoAsk ?aC_NoJournal ?aC_Busy ?aC_NoName ?aC_Late ?aC_Down ?aC_Up ?aC_Unsafe ?aC_NoNumber ?aC_NoWay ?aC_NoLine ?aC_NoChange ?aC_NoHouse ?aC_NoRows ?x_gg ?x_tk ?x_kexc ?x_kga ?x_kgx ?x_kcl ?x_kmo ?x_kmb ?x_kci ?x_kxm ?x_kk_NoDeed ?x_kk_NoKey ?x_kk_Other ?x_kk_NoRow ?x_kk_NoAsk ?x_kk_NoJournal ?x_kk_Busy ?x_kk_NoName ?x_kk_Late ?x_kk_Down ?x_kk_Up ?x_kk_Unsafe ?x_kk_NoNumber ?x_kk_NoWay ?x_kk_NoLine ?x_kk_NoChange ?x_kk_NoHouse ?x_kk_NoRows ?x_kk_VE ?x_nexc ?x_nga ?x_ngx ?x_ncl ?x_nmo ?x_nmb ?x_nci ?x_nxm ?x_nk_NoDeed ?x_nk_NoKey ?x_nk_Other ?x_nk_NoRow ?x_nk_NoAsk ?x_nk_NoJournal ?x_nk_Busy ?x_nk_NoName ?x_nk_Late ?x_nk_Down ?x_nk_Up ?x_nk_Unsafe ?x_nk_NoNumber ?x_nk_NoWay ?x_nk_NoLine ?x_nk_NoChange ?x_nk_NoHouse ?x_nk_NoRows ?x_nk_VE ?x_oexc ?x_oga ?x_ogx ?x_ocl ?x_omo ?x_omb ?x_oci ?x_oxm ?x_ok_NoDeed ?x_ok_NoKey ?x_ok_Other ?x_ok_NoRow ?x_ok_NoAsk ?x_ok_NoJournal ?x_ok_Busy ?x_ok_NoName ?x_ok_Late ?x_ok_Down ?x_ok_Up ?x_ok_Unsafe ?x_ok_NoNumber ?x_ok_NoWay ?x_ok_NoLine ?x_ok_NoChange ?x_ok_NoHouse ?x_ok_NoRows ?x_ok_VE ?z_isinstance ?z_int ?z_bool ?z_all ?z_str ?z_len ?z_tuple ?z_zip ?z_dict ?z_sorted ?z_sum ?z_list ?z_reversed ?z_range ?z_min ?z_max ?z_enumerate ?z_ValueError ?y_LETTERS ?y_FIGURES ?y_LONGEST_NAME ?y_LONGEST_KEY ?y_MOST ?y_NAME_COUNTS ?l_NAME_COUNTS ?t_NAME_COUNTS ?o_NAME_COUNTS ?y_UNLIKE_WORDS ?l_UNLIKE_WORDS ?v_UNLIKE_WORDS ?y_HOUSE_WORDS ?l_HOUSE_WORDS ?v_HOUSE_WORDS
    (case a_is_name => refine' KL.FA.of ?a ?l ?c ?k; (case a => k_is); (case l => k_is); (case c => k_is); case k => k_is)
    (case a_is_key => refine' KL.FA.of ?a ?l ?c ?k; (case a => k_is); (case l => k_is); (case c => k_is); case k => k_is)
    (case a_is_whole => refine' KL.FA.of ?a ?l ?c ?k; (case a => k_is); (case l => k_is); (case c => k_is); case k => k_is)
    (case a_is_made_of => refine' KL.FA.of ?a ?l ?c ?k; (case a => k_is); (case l => k_is); (case c => k_is); case k => k_is)
    (case a_is_deed => refine' KL.FA.of ?a ?l ?c ?k; (case a => k_is); (case l => k_is); (case c => k_is); case k => k_is)
    (case a_fits_word => refine' KL.FA.of ?a ?l ?c ?k; (case a => k_is); (case l => k_is); (case c => k_is); case k => k_is)
    (case a_done_changes => refine' KL.FA.of ?a ?l ?c ?k; (case a => k_is); (case l => k_is); (case c => k_is); case k => k_is)
    (case a_check_key => refine' KL.FA.of ?a ?l ?c ?k; (case a => k_is); (case l => k_is); (case c => k_is); case k => k_is)
    (case a_law_pen => refine' KL.FA.of ?a ?l ?c ?k; (case a => k_is); (case l => k_is); (case c => k_is); case k => k_is)
    (case a_law_take => refine' KL.FA.of ?a ?l ?c ?k; (case a => k_is); (case l => k_is); (case c => k_is); case k => k_is)
    (case a_law_names => refine' KL.FA.of ?a ?l ?c ?k; (case a => k_is); (case l => k_is); (case c => k_is); case k => k_is)
    (case a_law_keys => refine' KL.FA.of ?a ?l ?c ?k; (case a => k_is); (case l => k_is); (case c => k_is); case k => k_is)
    (case a_law_same => refine' KL.FA.of ?a ?l ?c ?k; (case a => k_is); (case l => k_is); (case c => k_is); case k => k_is)
    (case a_law_mark => refine' KL.FA.of ?a ?l ?c ?k; (case a => k_is); (case l => k_is); (case c => k_is); case k => k_is)
    (case a_law_said => refine' KL.FA.of ?a ?l ?c ?k; (case a => k_is); (case l => k_is); (case c => k_is); case k => k_is)
    (case a_law_is_word => refine' KL.FA.of ?a ?l ?c ?k; (case a => k_is); (case l => k_is); (case c => k_is); case k => k_is)
    (case a_law_is_key => refine' KL.FA.of ?a ?l ?c ?k; (case a => k_is); (case l => k_is); (case c => k_is); case k => k_is)
    (case a_law_is_plain => refine' KL.FA.of ?a ?l ?c ?k; (case a => k_is); (case l => k_is); (case c => k_is); case k => k_is)
    (case a_law_key => refine' KL.FA.of ?a ?l ?c ?k; (case a => k_is); (case l => k_is); (case c => k_is); case k => k_is)
    (case a_law_deed => refine' KL.FA.of ?a ?l ?c ?k; (case a => k_is); (case l => k_is); (case c => k_is); case k => k_is)
    (case a_law_undone => refine' KL.FA.of ?a ?l ?c ?k; (case a => k_is); (case l => k_is); (case c => k_is); case k => k_is)
    (case a_law_due => refine' KL.FA.of ?a ?l ?c ?k; (case a => k_is); (case l => k_is); (case c => k_is); case k => k_is)
    (case a_law_step => refine' KL.FA.of ?a ?l ?c ?k; (case a => k_is); (case l => k_is); (case c => k_is); case k => k_is)
    (case a_law => k_is)
    (case l_law => k_is)
    (case c_law => k_is)
    (case k_law => k_is)
    (case aC_House => k_is)
    (case pg_House => k_is)
    (case hd_House => k_is)
    (case po_House => k_is)
    (case sa_House => k_is)
    (case mk_House => k_is)
    (case kc_House => k_is)
    (case n_House_amounts => k_is)
    (case n_House_closed_names => k_is)
    (case n_House_entries => k_is)
    (case a_House___init__ => k_is)
    (case i_House___init__ => k_is)
    (case l_House___init__ => k_is)
    (case c_House___init__ => k_is)
    (case k_House___init__ => k_is)
    (case a_House_ask => refine' KL.MA.of ?a ?i ?l ?c ?k; (case a => k_is); (case i => k_is); (case l => k_is); (case c => k_is); case k => k_is)
    (case a_House_try_deed => refine' KL.MA.of ?a ?i ?l ?c ?k; (case a => k_is); (case i => k_is); (case l => k_is); (case c => k_is); case k => k_is)
    (case a_House_can_do => refine' KL.MA.of ?a ?i ?l ?c ?k; (case a => k_is); (case i => k_is); (case l => k_is); (case c => k_is); case k => k_is)
    (case a_House_undo => refine' KL.MA.of ?a ?i ?l ?c ?k; (case a => k_is); (case i => k_is); (case l => k_is); (case c => k_is); case k => k_is)
    (case a_House_close => refine' KL.MA.of ?a ?i ?l ?c ?k; (case a => k_is); (case i => k_is); (case l => k_is); (case c => k_is); case k => k_is)
    (case a_House_amount => refine' KL.MA.of ?a ?i ?l ?c ?k; (case a => k_is); (case i => k_is); (case l => k_is); (case c => k_is); case k => k_is)
    (case a_House_rows => refine' KL.MA.of ?a ?i ?l ?c ?k; (case a => k_is); (case i => k_is); (case l => k_is); (case c => k_is); case k => k_is)
    (case a_House_kept => refine' KL.MA.of ?a ?i ?l ?c ?k; (case a => k_is); (case i => k_is); (case l => k_is); (case c => k_is); case k => k_is)
    (case lT_House => k_is)
    (case vT_House => exact rfl)
    (case aC_DoorError => k_is)
    (case aC_NoDeed => k_is)
    (case aC_NoKey => k_is)
    (case aC_Other => k_is)
    (case aC_NoRow => k_is)
    (case aC_NoAsk => k_is)
    (case aC_NoJournal => k_is)
    (case aC_Busy => k_is)
    (case aC_NoName => k_is)
    (case aC_Late => k_is)
    (case aC_Down => k_is)
    (case aC_Up => k_is)
    (case aC_Unsafe => k_is)
    (case aC_NoNumber => k_is)
    (case aC_NoWay => k_is)
    (case aC_NoLine => k_is)
    (case aC_NoChange => k_is)
    (case aC_NoHouse => k_is)
    (case aC_NoRows => k_is)
    (case x_gg => k_is)
    (case x_tk => k_is)
    (case x_kexc => k_exc)
    (case x_kga => k_is)
    (case x_kgx => k_is)
    (case x_kcl => k_is)
    (case x_kmo => k_is)
    (case x_kmb => k_is)
    (case x_kci => k_is)
    (case x_kxm => kts_exm)
    (case x_kk_NoDeed => kit_is)
    (case x_kk_NoKey => kit_is)
    (case x_kk_Other => kit_is)
    (case x_kk_NoRow => kit_is)
    (case x_kk_NoAsk => kit_is)
    (case x_kk_NoJournal => kit_is)
    (case x_kk_Busy => kit_is)
    (case x_kk_NoName => kit_is)
    (case x_kk_Late => kit_is)
    (case x_kk_Down => kit_is)
    (case x_kk_Up => kit_is)
    (case x_kk_Unsafe => kit_is)
    (case x_kk_NoNumber => kit_is)
    (case x_kk_NoWay => kit_is)
    (case x_kk_NoLine => kit_is)
    (case x_kk_NoChange => kit_is)
    (case x_kk_NoHouse => kit_is)
    (case x_kk_NoRows => kit_is)
    (case x_kk_VE => kit_is)
    (case x_nexc => k_exc)
    (case x_nga => k_is)
    (case x_ngx => k_is)
    (case x_ncl => k_is)
    (case x_nmo => k_is)
    (case x_nmb => k_is)
    (case x_nci => k_is)
    (case x_nxm => kts_exm)
    (case x_nk_NoDeed => kit_is)
    (case x_nk_NoKey => kit_is)
    (case x_nk_Other => kit_is)
    (case x_nk_NoRow => kit_is)
    (case x_nk_NoAsk => kit_is)
    (case x_nk_NoJournal => kit_is)
    (case x_nk_Busy => kit_is)
    (case x_nk_NoName => kit_is)
    (case x_nk_Late => kit_is)
    (case x_nk_Down => kit_is)
    (case x_nk_Up => kit_is)
    (case x_nk_Unsafe => kit_is)
    (case x_nk_NoNumber => kit_is)
    (case x_nk_NoWay => kit_is)
    (case x_nk_NoLine => kit_is)
    (case x_nk_NoChange => kit_is)
    (case x_nk_NoHouse => kit_is)
    (case x_nk_NoRows => kit_is)
    (case x_nk_VE => kit_is)
    (case x_oexc => k_exc)
    (case x_oga => k_is)
    (case x_ogx => k_is)
    (case x_ocl => k_is)
    (case x_omo => k_is)
    (case x_omb => k_is)
    (case x_oci => k_is)
    (case x_oxm => kts_exm)
    (case x_ok_NoDeed => kit_is)
    (case x_ok_NoKey => kit_is)
    (case x_ok_Other => kit_is)
    (case x_ok_NoRow => kit_is)
    (case x_ok_NoAsk => kit_is)
    (case x_ok_NoJournal => kit_is)
    (case x_ok_Busy => kit_is)
    (case x_ok_NoName => kit_is)
    (case x_ok_Late => kit_is)
    (case x_ok_Down => kit_is)
    (case x_ok_Up => kit_is)
    (case x_ok_Unsafe => kit_is)
    (case x_ok_NoNumber => kit_is)
    (case x_ok_NoWay => kit_is)
    (case x_ok_NoLine => kit_is)
    (case x_ok_NoChange => kit_is)
    (case x_ok_NoHouse => kit_is)
    (case x_ok_NoRows => kit_is)
    (case x_ok_VE => kit_is)
    (case z_isinstance => k_is)
    (case z_int => k_is)
    (case z_bool => k_is)
    (case z_all => k_is)
    (case z_str => k_is)
    (case z_len => k_is)
    (case z_tuple => k_is)
    (case z_zip => k_is)
    (case z_dict => k_is)
    (case z_sorted => k_is)
    (case z_sum => k_is)
    (case z_list => k_is)
    (case z_reversed => k_is)
    (case z_range => k_is)
    (case z_min => k_is)
    (case z_max => k_is)
    (case z_enumerate => k_is)
    (case z_ValueError => k_is)
    (case y_LETTERS => k_is)
    (case y_FIGURES => k_is)
    (case y_LONGEST_NAME => k_is)
    (case y_LONGEST_KEY => k_is)
    (case y_MOST => k_is)
    (case y_NAME_COUNTS => k_is)
    (case l_NAME_COUNTS => k_is)
    (case t_NAME_COUNTS => repeat (first | exact True.intro | refine And.intro ⟨_, rfl⟩ (And.intro rfl (And.intro ⟨_, rfl⟩ ?_))))
    (case o_NAME_COUNTS => decide)
    (case y_UNLIKE_WORDS => k_is)
    (case l_UNLIKE_WORDS => k_is)
    (case v_UNLIKE_WORDS => repeat (first | exact .nil | refine .cons ⟨_, rfl⟩ ?_))
    (case y_HOUSE_WORDS => k_is)
    (case l_HOUSE_WORDS => k_is)
    (case v_HOUSE_WORDS => repeat (first | exact .nil | refine .cons ⟨_, rfl⟩ ?_))
