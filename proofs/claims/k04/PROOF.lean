import PyProof.Rows.All
import Wide.All
import OpenK.AllK
import Wide.FinOn
import Lean
import PyProof.EqAt
import PyProof.EqKinds
import PyProof.TupleCall
import KE.KSortTup
import KE.KDictSum
import KE.KDictOf
import PyProof.AttrMissHeap
import OpenK.KRaise
import KE.KIsAll
import KE.KTryMore
import KE.RegKIsAll
import KE.RegKTryMore
import PyProof.NsDelKeeps
import PyProof.ExcArgs
import PyProof.FitsReplace
import PyProof.Rows.StrJoin2
import PySem.Challenge.RW_oncedoor_k04_deeds_written_and_read
set_option Elab.async false
set_option linter.all false
set_option maxRecDepth 100000
set_option maxHeartbeats 4000000
-- CHANGE: your row's module here, as the last of these rows
/-! THE HAND LAYER, for ints, bools, texts, own classes, DICTS (int and text keys), calls, loops. Paste it whole ahead of your own text; what your proof does not reach may be deleted. -/
namespace L2
open PySem PySem.Spec PyProof.Rows

/-- a key: an int or a str -/
abbrev Key := Sum Int Str
def keyIs : Key → Value → Bool
  | .inl k, v => Value.isInt k v
  | .inr x, v => Value.isStrOf x v
def keyH (w : World) : Key → Int
  | .inl k => hashInt k
  | .inr x => hashStr w x
theorem keyIs_shape : ∀ {k : Key} {v : Value}, keyIs k v = true → (∃ i t, k = Sum.inl i ∧ v = Value.int i t) ∨ (∃ x t, k = Sum.inr x ∧ v = Value.str x t)
  | .inl i, v, h => by
    obtain ⟨t, e⟩ := Value.isInt_shape (k := i) (v := v) h
    exact .inl ⟨i, t, rfl, e⟩
  | .inr x, v, h => by
    obtain ⟨t, e⟩ := Value.isStrOf_shape (x := x) (v := v) h
    exact .inr ⟨x, t, rfl, e⟩
theorem key_ll (a b : Int) : decide ((Sum.inl a : Key) = Sum.inl b) = (a == b) := by
  by_cases e : a = b
  · subst e; simp
  · have h : ¬ (Sum.inl a : Key) = Sum.inl b := fun q => e (Sum.inl.inj q)
    rw [decide_eq_false h]
    exact (beq_eq_false_iff_ne.mpr e).symm
theorem key_rr (a b : Str) : decide ((Sum.inr a : Key) = Sum.inr b) = decide (a = b) := by
  by_cases e : a = b
  · subst e; simp
  · have h : ¬ (Sum.inr a : Key) = Sum.inr b := fun q => e (Sum.inr.inj q)
    rw [decide_eq_false h, decide_eq_false e]
theorem key_lr (a : Int) (b : Str) : decide ((Sum.inl a : Key) = Sum.inr b) = false := decide_eq_false (fun q => nomatch q)
theorem key_rl (a : Str) (b : Int) : decide ((Sum.inr a : Key) = Sum.inl b) = false := decide_eq_false (fun q => nomatch q)

def mixKind (prog : Program) (w : World) : PySem.KeyKind prog w Key where
  is := keyIs
  hash := keyH w
  inj := fun v a b ha hb => by
    rcases keyIs_shape ha with ⟨i, t, rfl, rfl⟩ | ⟨x, t, rfl, rfl⟩
    · rcases keyIs_shape hb with ⟨j, u, rfl, e⟩ | ⟨y, u, rfl, e⟩
      · injection e with e1 _; rw [e1]
      · exact nomatch e
    · rcases keyIs_shape hb with ⟨j, u, rfl, e⟩ | ⟨y, u, rfl, e⟩
      · exact nomatch e
      · injection e with e1 _; rw [e1]
  byValue := fun k v h => by
    rcases keyIs_shape h with ⟨i, t, rfl, rfl⟩ | ⟨x, t, rfl, rfl⟩ <;> rfl
  pyHash := fun hv h => by
    rcases keyIs_shape hv with ⟨i, t, rfl, rfl⟩ | ⟨x, t, rfl, rfl⟩
    · exact wpAny_pyHash_int h
    · exact wpAny_pyHash_str h
  eqBool := fun hu hv h => by
    rcases keyIs_shape hu with ⟨i, t, rfl, rfl⟩ | ⟨x, t, rfl, rfl⟩
    · rcases keyIs_shape hv with ⟨j, u, rfl, rfl⟩ | ⟨y, u, rfl, rfl⟩
      · rw [key_ll] at h; exact wpAny_eqBool_int h
      · rw [key_lr] at h; exact SeqAt.EqAt.int_str i t y u _ _ _ _ h
    · rcases keyIs_shape hv with ⟨j, u, rfl, rfl⟩ | ⟨y, u, rfl, rfl⟩
      · rw [key_rl] at h; exact SeqAt.EqAt.str_int x t j u _ _ _ _ h
      · rw [key_rr] at h; exact wpAny_eqBool_str h
  «strs» := fun k x t v h => by
    rcases keyIs_shape h with ⟨i, u, rfl, e⟩ | ⟨y, u, rfl, e⟩
    · exact nomatch e
    · injection e with e1 _
      subst e1
      cases v <;> rfl

end L2

namespace L2
open PySem PySem.Spec PyProof.Rows

/-- a value, without the heap -/
inductive V where
  | non | bl (b : Bool) | int (i : Int) | str (x : Str) | byt (b : Array UInt8) | flt (b : UInt64) | ref (a : Addr) | ty (n : String)
  deriving DecidableEq

def RelV : V → Value → Prop
  | .non, u => u = Value.none
  | .bl b, u => u = Value.bool b
  | .int i, u => ∃ t, u = Value.int i t
  | .str x, u => ∃ t, u = Value.str x t
  | .byt b, u => ∃ t, u = Value.bytes b t
  | .flt b, u => ∃ t, u = Value.float b t
  | .ref a, u => u = Value.ref a
  | .ty n, u => u = Value.type n

abbrev Vals : List V → List Value → Prop := Paired RelV
theorem Vals.length {xs : List V} {us : List Value} (r : Vals xs us) : xs.length = us.length := Paired.length r
theorem Vals.get : ∀ {xs : List V} {us : List Value} {i : Nat} {x : V}, Vals xs us → xs[i]? = some x → ∃ u, us[i]? = some u ∧ RelV x u
  | _, _, _, _, .nil, e => by simp at e
  | _, _, 0, _, .cons r _, e => by simp at e; subst e; exact ⟨_, rfl, r⟩
  | _, _, i + 1, x, .cons _ t, e => by
    obtain ⟨u, h1, h2⟩ := Vals.get (i := i) (x := x) t (by simpa using e)
    exact ⟨u, by simpa using h1, h2⟩
theorem Vals.set {x : V} {u : Value} (r : RelV x u) : ∀ {xs : List V} {us : List Value} (i : Nat), Vals xs us → Vals (xs.set i x) (us.set i u)
  | _, _, _, .nil => .nil
  | _, _, 0, .cons _ t => .cons r t
  | _, _, i + 1, .cons q t => .cons q (Vals.set r i t)
theorem Vals.append : ∀ {xs ys : List V} {us ws : List Value}, Vals xs us → Vals ys ws → Vals (xs ++ ys) (us ++ ws)
  | _, _, _, _, .nil, s => s
  | _, _, _, _, .cons r t, s => .cons r (Vals.append t s)
theorem Vals.take : ∀ {xs : List V} {us : List Value} (n : Nat), Vals xs us → Vals (xs.take n) (us.take n)
  | _, _, 0, _ => .nil
  | _, _, _ + 1, .nil => .nil
  | _, _, n + 1, .cons r t => .cons r (Vals.take n t)
theorem Vals.drop : ∀ {xs : List V} {us : List Value} (n : Nat), Vals xs us → Vals (xs.drop n) (us.drop n)
  | _, _, 0, r => r
  | _, _, _ + 1, .nil => .nil
  | _, _, n + 1, .cons _ t => Vals.drop n t

def RelO : Option V → Option Value → Prop
  | some v, some u => RelV v u
  | none, none => True
  | _, _ => False
def KV {κ : Type} : List (κ × V) → List (κ × Value) → Prop := Paired fun (p : κ × V) (q : κ × Value) => p.1 = q.1 ∧ RelV p.2 q.2

/-- a key of a dict (00_mix): an int or a text -/
def kV : Key → V
  | .inl i => .int i
  | .inr x => .str x

/-- what stands at a tracked address -/
inductive HO where
  /-- a list -/
  | lst (xs : List V)
  /-- a tuple (never changes) -/
  | tup (xs : List V)
  /-- a dict whose keys are ints and texts; one whose keys are tuples of ints and texts (the empty one is both) -/
  | dK (kvs : List (Key × V)) | dT (kvs : List (List Key × V))
  /-- a set of ints: its members, its size -/
  | set (S : Int → Bool) (n : Nat)
  /-- an instance of the class at C, its dict at dx, its attributes -/
  | ins (C dx : Addr) (fs : List (Str × V))
  /-- the dict of the instance at x -/
  | own (x : Addr)
  /-- the dict of an exception -/
  | xd (fs : List (Str × V))
  /-- a bound method, f of x -/
  | met (f x : Addr)
  /-- a range object lo, lo + 1, .. below hi -/
  | rng (lo hi : Int)
  /-- a thing that is known to the object (the script; a dict while a loop walks it): read, never written while it is so -/
  | frz (o : Obj) (u : HO)
  /-- a code object's table -/
  | tbl (ps : Array Value)
  /-- any other thing, by what is true of its one object (a def of one's own: SetO a S n := HO.ext fun h => ..) -/
  | ext (φ : Heap → Prop)

abbrev Hp := Addr → Option HO
def upd (H : Hp) (a : Addr) (o : HO) : Hp := fun b => if b = a then some o else H b
theorem upd_same {H : Hp} {a : Addr} {o : HO} : upd H a o a = some o := by unfold upd; rw [if_pos rfl]
theorem upd_ne {H : Hp} {a b : Addr} {o : HO} (h : b ≠ a) : upd H a o b = H b := by unfold upd; rw [if_neg h]
/-- two objects of different content stand apart -/
theorem ne_of {H : Hp} {a b : Addr} {o u : HO} (h : H a = some o) (h' : H b = some u) (d : o ≠ u) : a ≠ b := by
  intro e; subst e; rw [h] at h'; exact d (Option.some.inj h')
theorem ne_of_none {H : Hp} {a b : Addr} {o : HO} (h : H a = some o) (h' : H b = none) : a ≠ b := by
  intro e; subst e; rw [h] at h'; cases h'

section
variable (P : Program) (w : World)
def ObjOk (H : Hp) (h : Heap) (a : Addr) : HO → Prop
  | .lst xs => xs.length ≤ sizeLine ∧ ∃ (its : List Value) (n : Nat), Vals xs its ∧ h.get? a = some { cls := .type "list", data := .seq its.toArray n }
  | .tup xs => xs.length ≤ sizeLine ∧ ∃ its : List Value, Vals xs its ∧ IsTup h a its.toArray
  | .dK kvs => kvs.length ≤ sizeLine ∧ (a == sysModules) = false ∧ ∃ vs, KV kvs vs ∧ h.DictOf (mixKind P w) a vs
  | .dT kvs => kvs.length ≤ sizeLine ∧ (a == sysModules) = false ∧ ∃ xs : List (List Key × Addr × Value),
      Paired (fun (p : List Key × V) (q : List Key × Addr × Value) => p.1 = q.1 ∧ H q.2.1 = some (.tup (p.1.map kV)) ∧ RelV p.2 q.2.2) kvs xs ∧
      ∃ o es ep, h.get? a = some o ∧ o.ExactDict ∧ o.data = .dict es ep ∧ es.toList = xs.map (entryOfKey (tupleKind (mixKind P w))) ∧ (xs.map (·.1)).Nodup
  | .set S n => h.SetOf (intKind P w) a S n
  | .ins C dx fs => H dx = some (.own a) ∧ fs.length ≤ 1000 ∧ dx ≠ a ∧ h.get? a = some (PySem.W.instObj C dx) ∧
      ∃ mA, h.Ns1 dx mA ∧ (∀ f, RelO (fs.lookup f) (mA f)) ∧ PySem.Within mA (fs.map (·.1))
  | .own _ => ∃ o, h.get? a = some o
  | .xd fs => ∃ mA, h.Ns1 a mA ∧ ∀ f, RelO (fs.lookup f) (mA f)
  | .rng lo hi => ∃ t u v, h.get? a = some { cls := .type "range", data := .fields #[.int lo t, .int hi u, .int 1 v] }
  | .frz o u => h.get? a = some o ∧ ObjOk H h a u
  | .tbl ps => h.get? a = some { cls := .none, data := .fields ps }
  | .met f x => h.get? a = some (PySem.W.methodObj (.ref f) (.ref x))
  | .ext φ => φ h ∧ (∃ o, h.get? a = some o) ∧ ∀ h1 h2 : Heap, φ h1 → (∀ o, h1.get? a = some o → h2.get? a = some o) → φ h2
/-- the abstract heap is held -/
def HOk (H : Hp) (h : Heap) : Prop := ∀ a o, H a = some o → ObjOk P w H h a o
end

section
variable {P : Program} {w : World} {H H' : Hp} {h h' : Heap} {a : Addr} {o : HO}
theorem ObjOk.lt (x : ObjOk P w H h a o) : a < h.objs.size := by
  cases o with
  | lst xs => obtain ⟨_, _, _, _, e⟩ := x; exact Heap.lt_size e
  | tup xs => obtain ⟨_, _, _, p⟩ := x; exact p.lt
  | dK kvs => obtain ⟨_, _, _, _, o, _, _, e, _⟩ := x; exact Heap.lt_size e
  | dT kvs => obtain ⟨_, _, _, _, o, _, _, e, _⟩ := x; exact Heap.lt_size e
  | set S n => obtain ⟨o, _, _, _, e, _⟩ := x; exact Heap.lt_size e
  | ins C dx fs => obtain ⟨_, _, _, e, _⟩ := x; exact Heap.lt_size e
  | own y => obtain ⟨_, e⟩ := x; exact Heap.lt_size e
  | xd fs => obtain ⟨_, ⟨_, _, _, e, _⟩, _⟩ := x; exact Heap.lt_size e
  | rng lo hi => obtain ⟨_, _, _, e⟩ := x; exact Heap.lt_size e
  | frz ob u => obtain ⟨e, _⟩ := x; exact Heap.lt_size e
  | tbl ps => exact Heap.lt_size (show h.get? a = some _ from x)
  | met f y => exact Heap.lt_size (show h.get? a = some _ from x)
  | ext φ => obtain ⟨_, ⟨_, e⟩, _⟩ := x; exact Heap.lt_size e
theorem Paired.mapP {α β : Type} {F G : α → β → Prop} : ∀ {l₁ : List α} {l₂ : List β}, Paired F l₁ l₂ → (∀ a b, F a b → G a b) → Paired G l₁ l₂
  | _, _, .nil, _ => .nil
  | _, _, .cons r t, f => .cons (f _ _ r) (Paired.mapP t f)
/-- what an object's description leans on: its own object, its own dict, the tuples -/
theorem ObjOk.stay (x : ObjOk P w H h a o) (k : ∀ b u, (b = a ∨ H b = some (.own a)) → h.get? b = some u → h'.get? b = some u)
    (ho : ∀ b, H b = some (.own a) → H' b = some (.own a)) (ht : ∀ b xs, H b = some (.tup xs) → H' b = some (.tup xs)) : ObjOk P w H' h' a o := by
  induction o with
  | lst xs => obtain ⟨z, its, n, r, e⟩ := x; exact ⟨z, its, n, r, k _ _ (.inl rfl) e⟩
  | tup xs => obtain ⟨z, its, r, ob, e, c⟩ := x; exact ⟨z, its, r, ob, k _ _ (.inl rfl) e, c⟩
  | dK kvs => obtain ⟨z, y, vs, r, ob, es, ep, e, c⟩ := x; exact ⟨z, y, vs, r, ob, es, ep, k _ _ (.inl rfl) e, c⟩
  | dT kvs =>
    obtain ⟨z, y, xs, r, ob, es, ep, e, c⟩ := x
    exact ⟨z, y, xs, Paired.mapP r fun p q z => ⟨z.1, ht _ _ z.2.1, z.2.2⟩, ob, es, ep, k _ _ (.inl rfl) e, c⟩
  | set S n => obtain ⟨ob, es, ep, t, e, c⟩ := x; exact ⟨ob, es, ep, t, k _ _ (.inl rfl) e, c⟩
  | ins C dx fs =>
    obtain ⟨d, z, ne, e, mA, ⟨od, es, ep, e2, c⟩, r⟩ := x
    exact ⟨ho _ d, z, ne, k _ _ (.inl rfl) e, mA, ⟨od, es, ep, k _ _ (.inr d) e2, c⟩, r⟩
  | own y => obtain ⟨ob, e⟩ := x; exact ⟨ob, k _ _ (.inl rfl) e⟩
  | xd fs => obtain ⟨mA, ⟨od, es, ep, e, c⟩, r⟩ := x; exact ⟨mA, ⟨od, es, ep, k _ _ (.inl rfl) e, c⟩, r⟩
  | rng lo hi => obtain ⟨t, u, v, e⟩ := x; exact ⟨t, u, v, k _ _ (.inl rfl) e⟩
  | frz ob u ih => obtain ⟨e, q⟩ := x; exact ⟨k _ _ (.inl rfl) e, ih q⟩
  | tbl ps =>
    have e : h.get? a = some { cls := .none, data := .fields ps } := x
    show h'.get? a = some { cls := .none, data := .fields ps }
    exact k a _ (.inl rfl) e
  | met f y =>
    have e : h.get? a = some (PySem.W.methodObj (.ref f) (.ref y)) := x
    show h'.get? a = some (PySem.W.methodObj (.ref f) (.ref y))
    exact k a _ (.inl rfl) e
  | ext φ => obtain ⟨p, ⟨o, e⟩, st⟩ := x; exact ⟨st _ _ p fun o q => k _ _ (.inl rfl) q, ⟨o, k _ _ (.inl rfl) e⟩, st⟩
theorem HOk.lt (x : HOk P w H h) (e : H a = some o) : a < h.objs.size := (x a o e).lt
theorem HOk.fresh (x : HOk P w H h) (e : h.objs.size ≤ a) : H a = none := by
  cases q : H a with
  | none => rfl
  | some u => exact absurd (Nat.lt_of_lt_of_le (x.lt q) e) (Nat.lt_irrefl _)
/-- every object of the heap is kept -/
theorem HOk.kept (x : HOk P w H h) (k : ∀ b u, h.get? b = some u → h'.get? b = some u) : HOk P w H h' := fun a o e =>
  (x a o e).stay (fun b u _ q => k b u q) (fun _ q => q) fun _ _ q => q
/-- a new object is laid and tracked -/
theorem HOk.laid (x : HOk P w H h) (k : ∀ b u, h.get? b = some u → h'.get? b = some u) (hp : h.objs.size ≤ a) (new : ObjOk P w (upd H a o) h' a o) : HOk P w (upd H a o) h' := fun b u e => by
  have hn := x.fresh hp
  by_cases hb : b = a
  · subst hb; rw [upd_same] at e; cases e; exact new
  · rw [upd_ne hb] at e
    exact (x b u e).stay (fun c v _ q => k c v q) (fun c q => by rw [upd_ne (ne_of_none q hn)]; exact q) fun c xs q => by rw [upd_ne (ne_of_none q hn)]; exact q
end

/-- what may be read as u: it is u, or a known u -/
def Rd (H : Hp) (a : Addr) (u : HO) : Prop := H a = some u ∨ ∃ o, H a = some (.frz o u)
theorem Rd.ok {P : Program} {w : World} {H : Hp} {h : Heap} {a : Addr} {u : HO} (r : Rd H a u) (x : HOk P w H h) : ObjOk P w H h a u := by
  rcases r with r | ⟨o, r⟩
  · exact x a u r
  · obtain ⟨_, q⟩ := x a _ r
    exact q
/-- what may be written -/
def Mut : Option HO → Prop
  | some (.lst _) => True
  | some (.dK _) => True
  | some (.dT _) => True
  | some (.set _ _) => True
  | some (.ins _ _ _) => True
  | some (.ext _) => True
  | _ => False
section
variable {P : Program} {w : World} {H : Hp} {h h' : Heap} {x e : Addr} {o' : HO}
/-- the object at e is changed: x itself, or the dict of the instance x -/
theorem HOk.write (ok : HOk P w H h) (mu : Mut (H x)) (he : e = x ∨ H e = some (.own x)) (k : ∀ b u, b ≠ e → h.get? b = some u → h'.get? b = some u) (heo : ∃ u, h'.get? e = some u)
    (new : ObjOk P w (upd H x o') h' x o') : HOk P w (upd H x o') h' := fun b u q => by
  have nown : ∀ c y, H c = some (.own y) → c ≠ x := fun c y r z => by subst z; rw [r] at mu; exact mu
  have ntup : ∀ c xs, H c = some (.tup xs) → c ≠ x := fun c xs r z => by subst z; rw [r] at mu; exact mu
  by_cases hb : b = x
  · subst hb; rw [upd_same] at q; cases q; exact new
  · rw [upd_ne hb] at q
    by_cases hbe : b = e
    · have q' : H b = some (.own x) := by
        rcases he with z | z
        · exact absurd (hbe.trans z) hb
        · rw [hbe]; exact z
      rw [q] at q'; cases q'
      obtain ⟨v, hv⟩ := heo
      exact ⟨v, by rw [hbe]; exact hv⟩
    · refine (ok b u q).stay (fun c v hc r => k c v ?_ r) (fun c r => by rw [upd_ne (nown c b r)]; exact r) fun c xs r => by rw [upd_ne (ntup c xs r)]; exact r
      rcases hc with rfl | hc
      · exact hbe
      · rintro rfl
        rcases he with z | z
        · exact nown c b hc z
        · rw [hc] at z; cases z; exact hb rfl
end

/-! ### kept unless tracked; of the frames at fs (the callers') the slots may change (an exception that passes writes there); of the records at ex (iterators) nothing is said -/
structure Un (fs ex : List Addr) (H H' : Hp) (h h' : Heap) : Prop where
  keep : ∀ b o, h.get? b = some o → H b = none → b ∉ fs → b ∉ ex → h'.get? b = some o
  slot : ∀ b o, h.get? b = some o → H b = none → b ∈ fs → b ∉ ex → ∃ sl, h'.get? b = some { o with slots := sl }
  free : ∀ b o, h.get? b = some o → H b = none → b ∉ ex → H' b = none
  there : ∀ b o, h.get? b = some o → b ∉ ex → ∃ o', h'.get? b = some o'
  tups : ∀ b xs, H b = some (.tup xs) → H' b = some (.tup xs)
  frzs : ∀ b o u, H b = some (.frz o u) → H' b = some (.frz o u)
  tbls : ∀ b ps, H b = some (.tbl ps) → ∃ more, H' b = some (.tbl (ps ++ more))
section
variable {fs fs' ex ex' : List Addr} {H H1 H2 : Hp} {h h1 h2 h' : Heap} {a x e : Addr} {o : HO}
theorem Un.any (u : Un fs ex H H1 h h1) {b : Addr} {ob : Obj} (q : h.get? b = some ob) (n : H b = none) (hx : b ∉ ex) : ∃ sl, h1.get? b = some { ob with slots := sl } := by
  by_cases hb : b ∈ fs
  · exact u.slot b ob q n hb hx
  · exact ⟨ob.slots, u.keep b ob q n hb hx⟩
theorem Un.kept (k : ∀ b u, h.get? b = some u → h'.get? b = some u) : Un fs ex H H h h' :=
  ⟨fun b ob q _ _ _ => k b ob q, fun b ob q _ _ _ => ⟨ob.slots, k b ob q⟩, fun _ _ _ n _ => n, fun b ob q _ => ⟨ob, k b ob q⟩, fun _ _ q => q, fun _ _ _ q => q, fun _ ps q => ⟨#[], by rw [q]; simp⟩⟩
theorem Un.refl : Un fs ex H H h h := Un.kept fun _ _ q => q
theorem Un.laid (k : ∀ b u, h.get? b = some u → h'.get? b = some u) (hp : h.objs.size ≤ a) (hn : H a = none) : Un fs ex H (upd H a o) h h' where
  keep := fun b u q _ _ _ => k b u q
  slot := fun b u q _ _ _ => ⟨u.slots, k b u q⟩
  free := fun b u q n _ => by rw [upd_ne (Nat.ne_of_lt (Nat.lt_of_lt_of_le (Heap.lt_size q) hp))]; exact n
  there := fun b u q _ => ⟨u, k b u q⟩
  tups := fun b xs q => by rw [upd_ne (ne_of_none q hn)]; exact q
  frzs := fun b u xs q => by rw [upd_ne (ne_of_none q hn)]; exact q
  tbls := fun b ps q => ⟨#[], by rw [upd_ne (ne_of_none q hn), q]; simp⟩
theorem Un.write (mu : Mut (H x)) (he : e = x ∨ H e = some (.own x)) (k : ∀ b u, b ≠ e → h.get? b = some u → h'.get? b = some u) (heo : ∃ u, h'.get? e = some u) : Un fs ex H (upd H x o) h h' := by
  have hx : ∀ b, H b = none → b ≠ x := fun b n z => by subst z; rw [n] at mu; exact mu
  have hb : ∀ b, H b = none → b ≠ e := fun b n z => by
    subst z
    rcases he with r | r
    · exact hx b n r
    · rw [n] at r; cases r
  have hm : ∀ b u, H b = some u → ¬ Mut (some u) → b ≠ x := fun b u q nm z => by subst z; rw [q] at mu; exact nm mu
  refine ⟨fun b u q n _ _ => k b u (hb b n) q, fun b u q n _ _ => ⟨u.slots, k b u (hb b n) q⟩, fun b u q n _ => by rw [upd_ne (hx b n)]; exact n, fun b u q _ => ?_,
    fun b xs q => by rw [upd_ne (hm b _ q fun z => z)]; exact q, fun b u xs q => by rw [upd_ne (hm b _ q fun z => z)]; exact q, fun b ps q => ⟨#[], by rw [upd_ne (hm b _ q fun z => z), q]; simp⟩⟩
  by_cases hbe : b = e
  · subst hbe; exact heo
  · exact ⟨u, k b u hbe q⟩
end

/-! ### the heap without what is tracked -/
def trk (h : Heap) (H : Hp) : List Addr := (List.range h.objs.size).filter fun a => (H a).isSome
def hidT (h : Heap) (H : Hp) : Heap := PySem.W.hideAll h (trk h H)
theorem hidT_size (h : Heap) (H : Hp) : (hidT h H).objs.size = h.objs.size := PySem.W.hideAll_size _ _
theorem hidT_get {h : Heap} {H : Hp} {b : Addr} {o : Obj} (e : h.get? b = some o) (n : H b = none) : (hidT h H).get? b = some o :=
  PySem.W.hideAll_get _ e fun hm => by
    have q : (H b).isSome = true := (List.mem_filter.mp hm).2
    rw [n] at q; simp at q
theorem of_hidT {h : Heap} {H : Hp} {b : Addr} {o : Obj} (e : (hidT h H).get? b = some o) : h.get? b = some o ∧ H b = none := by
  have e' : h.get? b = some o := PySem.W.of_hideAll (trk h H) e
  refine ⟨e', ?_⟩
  cases q : H b with
  | none => rfl
  | some x =>
    have hm : b ∈ trk h H := List.mem_filter.mpr ⟨List.mem_range.mpr (Heap.lt_size e'), by simp [q]⟩
    have z : (hidT h H).get? b = none := PySem.W.hideAll_none (trk h H) hm
    rw [z] at e; cases e

/-! ### OpenK's ledger, filled with every new object but one -/
end L2

namespace L2
open PySem PySem.Spec PyProof.Rows

/-- the module's facts, over the base: the heap at the law's entry without what is tracked there -/
structure Mod (K : PySem.W.Frag) (mg : Str → Option Value) (base : Heap) : Prop where
  kin : K.In base
  glob : base.Ns mainGlobals mg
  blt : ∃ mb, base.Ns builtinsNs mb ∧ ∀ x : Str, x ≠ "__name__" → mb x = bootBuiltins x
  nolimit : base.NoLimit

/-- the context: a def's body (or a comprehension's block) running. base: fixed through the whole law; s₀, H₀: the entry; outer: the frames whose slots others may change (a def's callers); stack: all frames that run;
   ex: iterators that were made ahead of the entry and are walked here (a comprehension's); fn: the names whose cells were made at the entry (a def: all; a comprehension's block: its own); calm: not within an except suite; pn: pins that every state bears; xe: what is wanted of an exception that leaves the code -/
structure Cx where
  prog : Program
  w : World
  K : PySem.W.Frag
  mg : Str → Option Value
  base : Heap
  A : Around
  N : List Str
  s₀ : Shared
  H₀ : Hp
  env : Env
  outer : List Env
  stack : List Env
  ex : List Addr
  fn : Str → Bool
  calm : Bool
  pn : List (Addr × Obj)
  xe : Value → Shared → Prop
/-- the callers' frames -/
def frs (l : List Env) : List Addr := l.filterMap (·.frame)
abbrev Cx.fs (X : Cx) : List Addr := frs X.outer

def Vis (sc : Scope) (x : Str) : Prop := sc.names.lookup x = some .local ∨ sc.names.lookup x = some .cell ∨ sc.names.lookup x = some .free
def Loc (sc : Scope) (x : Str) : Prop := sc.names.lookup x = some .local ∨ sc.names.lookup x = some .cell
def Look (env : Env) (h : Heap) (m : Str → Option Value) (x : Str) (u : Value) : Prop :=
  (env.kindOf x = some .local ∧ m x = some u) ∨ ((env.kindOf x = some .cell ∨ env.kindOf x = some .free) ∧ ∃ c, env.cells.lookup x = some c ∧ h.IsCell c (some u))

structure Cx.Ok (X : Cx) : Prop where
  mod : Mod X.K X.mg X.base
  kind : X.env.scope.kind = .function
  glob : X.env.globals = mainGlobals
  blt : X.env.builtins = builtinsNs
  above : X.s₀.heap.objs.size ≤ X.env.locals
  inj : ∀ x y c, X.env.cells.lookup x = some c → X.env.cells.lookup y = some c → x = y
  has : ∀ x, (X.env.kindOf x = some .cell ∨ X.env.kindOf x = some .free) → ∃ c, X.env.cells.lookup x = some c
  cab : ∀ x c, X.fn x = true → X.env.cells.lookup x = some c → X.s₀.heap.objs.size ≤ c
  hd : X.calm = true → X.A.handled = none
  frames : X.A.frames = some X.stack
  stk : X.stack = X.outer ∨ (X.stack = X.env :: X.outer ∧ X.env.frame = some X.env.locals)
  exf : ∀ b ∈ X.ex, b ≠ X.env.locals ∧ ∀ x c, X.env.cells.lookup x = some c → c ≠ b
  bs : ∀ b o, X.base.get? b = some o → X.s₀.heap.get? b = some o ∧ X.H₀ b = none
  bsz : X.base.objs.size ≤ X.s₀.heap.objs.size
  noex : ∀ b o, X.base.get? b = some o → b ∉ X.ex
  exfs : ∀ b ∈ X.ex, b ∉ X.fs
  funs : X.s₀.heap.FunFrames X.base X.outer
  frf : ∀ b ∈ X.fs, X.H₀ b = none

structure Inv (X : Cx) (pins : List (Addr × Obj)) (σ : List (Option V)) (H : Hp) (s : Shared) : Prop where
  ok : X.Ok
  os : s.os = X.s₀.os
  bare : AllBare s.gens
  base : Un X.fs X.ex X.H₀ H X.s₀.heap s.heap
  loc : ∃ m, s.heap.Ns X.env.locals m ∧ ∀ (i : Nat) (x : Str) (v : V), X.N[i]? = some x → σ[i]? = some (some v) → Vis X.env.scope x → ∃ u, RelV v u ∧ Look X.env s.heap m x u
  cell : ∀ x c, X.env.cells.lookup x = some c → ∃ v, s.heap.IsCell c v
  free : H X.env.locals = none
  freeC : ∀ x c, X.env.cells.lookup x = some c → H c = none
  pin : ∀ p ∈ X.pn ++ pins, s.heap.get? p.1 = some p.2 ∧ H p.1 = none ∧ p.1 ≠ X.env.locals ∧ p.1 ∉ X.fs ∧ ∀ v, p.2.data ≠ .cell v
  hok : HOk X.prog X.w H s.heap
  len : σ.length = X.N.length

section
variable {X : Cx} {pins : List (Addr × Obj)} {σ : List (Option V)} {H H' : Hp} {s : Shared} {h' : Heap}

theorem Cx.Ok.nofr (ok : X.Ok) {b : Addr} {o : Obj} (e : X.base.get? b = some o) : b ∉ X.fs := fun hb => by
  have := (ok.funs.mem hb).1
  rw [e] at this; cases this
theorem Inv.bs (I : Inv X pins σ H s) : ∀ b o, X.base.get? b = some o → s.heap.get? b = some o ∧ H b = none := fun b o e =>
  ⟨I.base.keep b o (I.ok.bs b o e).1 (I.ok.bs b o e).2 (I.ok.nofr e) (I.ok.noex b o e), I.base.free b o (I.ok.bs b o e).1 (I.ok.bs b o e).2 (I.ok.noex b o e)⟩
theorem Inv.bk (I : Inv X pins σ H s) : ∀ b o, X.base.get? b = some o → s.heap.get? b = some o := fun b o e => (I.bs b o e).1
theorem Inv.mod (I : Inv X pins σ H s) : Mod X.K X.mg X.base := I.ok.mod
theorem Inv.kIn (I : Inv X pins σ H s) : X.K.In s.heap := I.ok.mod.kin.keeps I.bk
/-- the frame over the base: for OpenK's rules (K.In X.base is I.mod.kin) -/
theorem Inv.fr (I : Inv X pins σ H s) : ∃ m, Fr X.base X.env.locals s.heap m :=
  let ⟨m, hn, _⟩ := I.loc
  ⟨m, hn, I.bk, Nat.le_trans I.ok.bsz I.ok.above⟩
theorem Inv.lt (I : Inv X pins σ H s) : X.env.locals < s.heap.objs.size := let ⟨_, hn, _⟩ := I.loc; hn.lt
theorem Inv.sz (I : Inv X pins σ H s) : X.s₀.heap.objs.size ≤ s.heap.objs.size := Nat.le_trans I.ok.above (Nat.le_of_lt I.lt)
theorem Inv.nofs (I : Inv X pins σ H s) {a : Addr} (h : s.heap.objs.size ≤ a) : a ∉ X.fs := fun hb => by
  obtain ⟨_, o, ho, _⟩ := I.ok.funs.mem hb
  exact absurd (Nat.lt_of_lt_of_le (Heap.lt_size ho) (Nat.le_trans I.sz h)) (Nat.lt_irrefl _)
theorem Inv.cne (I : Inv X pins σ H s) : ∀ x c, X.env.cells.lookup x = some c → c ≠ X.env.locals := fun x c e z => by
  obtain ⟨v, o, ho, hd⟩ := I.cell x c e
  obtain ⟨m, ⟨o', es, ep, ho', hd', _⟩, _⟩ := I.loc
  rw [z, ho'] at ho; cases ho; rw [hd'] at hd; cases hd
theorem Inv.funs (I : Inv X pins σ H s) : s.heap.FunFrames X.base X.outer := by
  have all : ∀ (l : List Env), (∀ b ∈ frs l, b ∈ X.fs) → X.s₀.heap.FunFrames X.base l → s.heap.FunFrames X.base l := by
    intro l
    induction l with
    | nil => intro _ _; trivial
    | cons env r ih =>
      intro hs hl
      obtain ⟨hk, ⟨L, o, hf, hn, ho, hd⟩, hr⟩ := hl
      have hL : L ∈ X.fs := hs L (by unfold frs; rw [List.filterMap_cons, hf]; exact List.mem_cons_self)
      obtain ⟨sl, e⟩ := I.base.slot L o ho (I.ok.frf L hL) hL fun z => I.ok.exfs L z hL
      exact ⟨hk, ⟨L, _, hf, hn, e, hd⟩, ih (fun b hb => hs b (by unfold frs; rw [List.filterMap_cons, hf]; exact List.mem_cons_of_mem _ hb)) hr⟩
  exact all X.outer (fun _ hb => hb) I.ok.funs

/-- the frames that run, for a call -/
theorem Inv.stack (I : Inv X pins σ H s) : s.heap.FunFrames X.base X.stack := by
  rcases I.ok.stk with e | ⟨e, hf⟩
  · rw [e]; exact I.funs
  · rw [e]
    obtain ⟨m, hn, _⟩ := I.loc
    refine .cons (by rw [I.ok.kind]; decide) hf hn ?_ I.funs
    exact Heap.get?_none_of_le (Nat.le_trans I.ok.bsz I.ok.above)
theorem Inv.stkSub (I : Inv X pins σ H s) : ∀ b ∈ frs X.stack, b ∈ X.env.locals :: X.fs := fun b hb => by
  rcases I.ok.stk with e | ⟨e, hf⟩
  · rw [e] at hb; exact List.mem_cons_of_mem _ hb
  · rw [e] at hb
    unfold frs at hb
    rw [List.filterMap_cons, hf] at hb
    exact hb
theorem Inv.stkFree (I : Inv X pins σ H s) : ∀ b ∈ frs X.stack, H b = none := fun b hb => by
  rcases List.mem_cons.mp (I.stkSub b hb) with e | hb
  · rw [e]; exact I.free
  · obtain ⟨_, o, ho, _⟩ := I.ok.funs.mem hb
    exact I.base.free b o ho (I.ok.frf b hb) fun z => I.ok.exfs b z hb

/-- THE STEP: the untracked objects but the frame and the records at ch are kept (the callers' frames up to slots), the frame's map is kept, the new abstract heap is held -/
theorem Inv.step {g' : Array GenState} {t' : Nat} {d' : Drawn} {ch : List Addr} (I : Inv X pins σ H s)
    (hch : ∀ b ∈ ch, (b ∈ X.ex ∨ X.s₀.heap.objs.size ≤ b) ∧ b ≠ X.env.locals ∧ (∀ x c, X.env.cells.lookup x = some c → c ≠ b) ∧ ∀ p ∈ X.pn ++ pins, p.1 ≠ b)
    (keep : ∀ b o, b ≠ X.env.locals → b ∉ X.fs → b ∉ ch → s.heap.get? b = some o → H b = none → h'.get? b = some o)
    (slot : ∀ b o, b ≠ X.env.locals → b ∈ X.fs → b ∉ ch → s.heap.get? b = some o → H b = none → ∃ sl, h'.get? b = some { o with slots := sl }) (free : ∀ b o, b ∉ ch → s.heap.get? b = some o → H b = none → H' b = none)
    (there : ∀ b o, b ∉ ch → s.heap.get? b = some o → ∃ o', h'.get? b = some o')
    (tups : ∀ b xs, H b = some (.tup xs) → H' b = some (.tup xs)) (frzs : ∀ b o u, H b = some (.frz o u) → H' b = some (.frz o u)) (tbls : ∀ b ps, H b = some (.tbl ps) → ∃ more, H' b = some (.tbl (ps ++ more)))
    (ns : ∀ m, s.heap.Ns X.env.locals m → h'.Ns X.env.locals m) (hok : HOk X.prog X.w H' h') (hg : AllBare g') :
    Inv X pins σ H' { s with heap := h', gens := g', drawn := d', toks := t' } := by
  have neL : ∀ b o, X.s₀.heap.get? b = some o → b ≠ X.env.locals := fun b o e => Nat.ne_of_lt (Nat.lt_of_lt_of_le (Heap.lt_size e) I.ok.above)
  have neC : ∀ b o, X.s₀.heap.get? b = some o → b ∉ X.ex → b ∉ ch := fun b o e hx hb => by
    rcases (hch b hb).1 with z | z
    · exact hx z
    · exact absurd (Nat.lt_of_lt_of_le (Heap.lt_size e) z) (Nat.lt_irrefl _)
  have cellK : ∀ x c, X.env.cells.lookup x = some c → ∀ v, s.heap.IsCell c v → h'.IsCell c v := fun x c e v ⟨o, ho, hd⟩ => by
    have nch : c ∉ ch := fun z => (hch c z).2.2.1 x c e rfl
    by_cases hc : c ∈ X.fs
    · obtain ⟨sl, q⟩ := slot c o (I.cne x c e) hc nch ho (I.freeC x c e)
      exact ⟨_, q, hd⟩
    · exact ⟨o, keep c o (I.cne x c e) hc nch ho (I.freeC x c e), hd⟩
  refine ⟨I.ok, I.os, hg, ⟨fun b o e n hb hx => ?_, fun b o e n hb hx => ?_, fun b o e n hx => ?_, fun b o e hx => ?_, fun b xs e => tups b xs (I.base.tups b xs e), fun b o xs e => frzs b o xs (I.base.frzs b o xs e), fun b ps e => ?_⟩, ?_, fun x c e => ?_, ?_, fun x c e => ?_, fun p hp => ?_, hok, I.len⟩
  · exact keep b o (neL b o e) hb (neC b o e hx) (I.base.keep b o e n hb hx) (I.base.free b o e n hx)
  · obtain ⟨sl, e1⟩ := I.base.slot b o e n hb hx
    obtain ⟨sl', e2⟩ := slot b _ (neL b o e) hb (neC b o e hx) e1 (I.base.free b o e n hx)
    exact ⟨sl', e2⟩
  · obtain ⟨o', e1⟩ := I.base.there b o e hx
    exact free b o' (neC b o e hx) e1 (I.base.free b o e n hx)
  · obtain ⟨o', e1⟩ := I.base.there b o e hx
    exact there b o' (neC b o e hx) e1
  · obtain ⟨m1, e1⟩ := I.base.tbls b ps e
    obtain ⟨m2, e2⟩ := tbls b _ e1
    exact ⟨m1 ++ m2, by rw [e2, Array.append_assoc]⟩
  · obtain ⟨m, hn, hl⟩ := I.loc
    refine ⟨m, ns m hn, fun i x v e1 e2 e3 => ?_⟩
    obtain ⟨u, r, l⟩ := hl i x v e1 e2 e3
    refine ⟨u, r, ?_⟩
    rcases l with l | ⟨k, c, e, z⟩
    · exact .inl l
    · exact .inr ⟨k, c, e, cellK x c e _ z⟩
  · obtain ⟨v, z⟩ := I.cell x c e
    exact ⟨v, cellK x c e v z⟩
  · obtain ⟨m, ⟨o, _, _, ho, _⟩, _⟩ := I.loc
    exact free _ o (fun z => (hch _ z).2.1 rfl) ho I.free
  · obtain ⟨v, o, ho, hd⟩ := I.cell x c e
    exact free c o (fun z => (hch c z).2.2.1 x c e rfl) ho (I.freeC x c e)
  · obtain ⟨e, n, ne, nf, d⟩ := I.pin p hp
    have nch : p.1 ∉ ch := fun z => (hch p.1 z).2.2.2 p hp rfl
    exact ⟨keep p.1 p.2 ne nf nch e n, free p.1 p.2 nch e n, ne, nf, d⟩
/-- .. where the frame's own object is kept too -/
theorem Inv.un {t' : Nat} (I : Inv X pins σ H s) (u : Un X.fs [] H H' s.heap h') (hok : HOk X.prog X.w H' h') : Inv X pins σ H' { s with heap := h', toks := t' } := by
  obtain ⟨m, ⟨o, es, ep, ho, r⟩, _⟩ := id I.loc
  obtain ⟨sl, hL⟩ := u.any ho I.free (by simp)
  exact I.step (g' := s.gens) (d' := s.drawn) (ch := []) (fun _ z => nomatch z) (fun b o _ hb _ e n => u.keep b o e n hb (by simp)) (fun b o _ hb _ e n => u.slot b o e n hb (by simp)) (fun b o _ e n => u.free b o e n (by simp)) (fun b o _ e => u.there b o e (by simp)) u.tups u.frzs u.tbls (fun m' hm => by
    obtain ⟨o', es', ep', ho', r'⟩ := hm
    rw [ho] at ho'; cases ho'
    exact ⟨_, es', ep', hL, r'⟩) hok I.bare
/-- behind a call (or a comprehension's block): the slots of this frame may have changed too, the records at ch may have turned -/
theorem Inv.call {g' : Array GenState} {t' : Nat} {d' : Drawn} {ch : List Addr} (I : Inv X pins σ H s) (u : Un (frs X.stack) ch H H' s.heap h') (hok : HOk X.prog X.w H' h') (hg : AllBare g')
    (hch : ∀ b ∈ ch, (b ∈ X.ex ∨ X.s₀.heap.objs.size ≤ b) ∧ b ≠ X.env.locals ∧ (∀ x c, X.env.cells.lookup x = some c → c ≠ b) ∧ ∀ p ∈ X.pn ++ pins, p.1 ≠ b) :
    Inv X pins σ H' { s with heap := h', gens := g', drawn := d', toks := t' } := by
  obtain ⟨m, ⟨o, es, ep, ho, r⟩, _⟩ := id I.loc
  obtain ⟨sl, hL⟩ := u.any ho I.free fun z => (hch _ z).2.1 rfl
  exact I.step (ch := ch) hch (fun b o hL hb hc e n => u.keep b o e n (fun z => (List.mem_cons.mp (I.stkSub b z)).elim hL hb) hc) (fun b o _ _ hc e n => u.any e n hc) (fun b o hc e n => u.free b o e n hc) (fun b o hc e => u.there b o e hc) u.tups u.frzs u.tbls (fun m' hm => by
    obtain ⟨o', es', ep', ho', r'⟩ := hm
    rw [ho] at ho'; cases ho'
    exact ⟨_, es', ep', hL, r'⟩) hok hg
/-- an untracked record of ours (an iterator) has turned -/
theorem Inv.turned {t' : Nat} {it : Addr} (I : Inv X pins σ H s) (k : ∀ b o, b ≠ it → s.heap.get? b = some o → h'.get? b = some o) (hn : H it = none) (hL : it ≠ X.env.locals)
    (h1 : it ∈ X.ex ∨ X.s₀.heap.objs.size ≤ it) (h2 : ∀ x c, X.env.cells.lookup x = some c → c ≠ it) (h3 : ∀ p ∈ X.pn ++ pins, p.1 ≠ it) : Inv X pins σ H { s with heap := h', toks := t' } := by
  have nit : ∀ b u, H b = some u → b ≠ it := fun b u e z => by rw [z, hn] at e; cases e
  refine I.step (g' := s.gens) (d' := s.drawn) (ch := [it]) (fun b hb => ?_) (fun b o _ _ hc e _ => k b o (fun z => hc (by simp [z])) e) (fun b o _ _ hc e _ => ⟨o.slots, k b o (fun z => hc (by simp [z])) e⟩) (fun _ _ _ _ n => n)
    (fun b o hc e => ⟨o, k b o (fun z => hc (by simp [z])) e⟩) (fun _ _ e => e) (fun _ _ _ e => e) (fun b ps e => ⟨#[], by rw [e]; simp⟩) (fun m hm => ?_) (fun b u e => ?_) I.bare
  · have e : b = it := by simpa using hb
    subst e
    exact ⟨h1, hL, h2, h3⟩
  · obtain ⟨o, es, ep, ho, r⟩ := hm
    exact ⟨o, es, ep, k _ o (Ne.symm hL) ho, r⟩
  · refine (I.hok b u e).stay (fun c v hc q => k c v ?_ q) (fun _ q => q) fun _ _ q => q
    rcases hc with z | z
    · rw [z]; exact nit b u e
    · exact nit c _ z
theorem Inv.tok (I : Inv X pins σ H s) (t : Nat) : Inv X pins σ H { s with toks := t } := I.un (h' := s.heap) (t' := t) Un.refl I.hok
/-- all objects kept -/
theorem Inv.kept {t' : Nat} (I : Inv X pins σ H s) (k : ∀ b u, s.heap.get? b = some u → h'.get? b = some u) : Inv X pins σ H { s with heap := h', toks := t' } := I.un (Un.kept k) (I.hok.kept k)
/-- a new object laid and tracked -/
theorem Inv.laid {a : Addr} {o : HO} {t' : Nat} (I : Inv X pins σ H s) (k : ∀ b u, s.heap.get? b = some u → h'.get? b = some u) (hp : s.heap.objs.size ≤ a) (new : ObjOk X.prog X.w (upd H a o) h' a o) :
    Inv X pins σ (upd H a o) { s with heap := h', toks := t' } := I.un (Un.laid k hp (I.hok.fresh hp)) (I.hok.laid k hp new)
/-- an object written -/
theorem Inv.write {x e : Addr} {o : HO} {t' : Nat} (I : Inv X pins σ H s) (mu : Mut (H x)) (he : e = x ∨ H e = some (.own x)) (k : ∀ b u, b ≠ e → s.heap.get? b = some u → h'.get? b = some u) (heo : ∃ u, h'.get? e = some u)
    (new : ObjOk X.prog X.w (upd H x o) h' x o) : Inv X pins σ (upd H x o) { s with heap := h', toks := t' } := I.un (Un.write mu he k heo) (I.hok.write mu he k heo new)
/-- forgetting slots, pins -/
theorem Inv.weak {σ' : List (Option V)} (I : Inv X pins σ H s) (hl : σ'.length = σ.length) (w : ∀ (i : Nat) v, σ'[i]? = some (some v) → σ[i]? = some (some v)) : Inv X pins σ' H s :=
  ⟨I.ok, I.os, I.bare, I.base, let ⟨m, hn, hl'⟩ := I.loc; ⟨m, hn, fun i x v e1 e2 e3 => hl' i x v e1 (w i v e2) e3⟩, I.cell, I.free, I.freeC, I.pin, I.hok, hl.trans I.len⟩
theorem Inv.pins_of {pins' : List (Addr × Obj)} (I : Inv X pins σ H s) (h : ∀ p ∈ pins', s.heap.get? p.1 = some p.2 ∧ H p.1 = none ∧ p.1 ≠ X.env.locals ∧ p.1 ∉ X.fs ∧ ∀ v, p.2.data ≠ .cell v) : Inv X pins' σ H s :=
  ⟨I.ok, I.os, I.bare, I.base, I.loc, I.cell, I.free, I.freeC, fun p hp => (List.mem_append.mp hp).elim (fun z => I.pin p (List.mem_append_left _ z)) (h p), I.hok, I.len⟩

theorem nodup_ix {N : List Str} (hN : N.Nodup) {i j : Nat} {x : Str} (a : N[i]? = some x) (b : N[j]? = some x) : i = j := by
  obtain ⟨h1, e1⟩ := List.getElem?_eq_some_iff.mp a
  obtain ⟨h2, e2⟩ := List.getElem?_eq_some_iff.mp b
  exact (List.getElem_inj hN).mp (e1.trans e2.symm)

/-- a name is stored; what changed -/
theorem store_ok2 {M : Model} {A : Around} {E : Value → Shared → Prop} {i : Nat} {x : Str} {v : V} {u : Value} {Q : Unit → Shared → Prop} (I : Inv X pins σ H s) (hN : X.N.Nodup) (hi : X.N[i]? = some x) (hx : Loc X.env.scope x) (r : RelV v u)
    (h : ∀ s', Inv X pins (σ.set i (some v)) H s' → (∃ a, Heap.SameBut a s.heap s'.heap ∧ (a = X.env.locals ∨ X.env.cells.lookup x = some a)) → Q () s') (hf : X.fn x = true ∨ X.env.scope.names.lookup x = some .local := by first | exact .inl rfl | exact .inr rfl | assumption) : wpAny M A (storeName X.env x u) Q E s := by
  obtain ⟨m, hn, hl⟩ := id I.loc
  have hcls : (X.env.scope.kind == .class || (X.env.scope.kind == .module && X.env.locals != X.env.globals)) = false := by rw [I.ok.kind]; rfl
  have hiσ : i < σ.length := by rw [I.len]; exact (List.getElem?_eq_some_iff.mp hi).1
  have cne := I.cne
  have tracked : ∀ {a : Addr} {h' : Heap}, (∃ o, s.heap.get? a = some o ∧ H a = none) → Heap.SameBut a s.heap h' → HOk X.prog X.w H h' := fun {a h'} ha hs b ob e => by
    obtain ⟨_, _, hfree⟩ := ha
    refine (I.hok b ob e).stay (fun c w' hc q => (hs.2 c ?_).trans q) (fun _ q => q) fun _ _ q => q
    rintro rfl
    rcases hc with rfl | hc
    · rw [hfree] at e; cases e
    · rw [hfree] at hc; cases hc
  rcases hx with hk | hk
  · refine wpAny_storeName_local hk hn (fun h' hn' hs => ?_) hcls
    obtain ⟨oL, _, _, hoL, _⟩ := id hn
    refine h _ ⟨I.ok, I.os, I.bare, ⟨fun b o e n hb hx => ?_, fun b o e n hb hx => ?_, I.base.free, fun b o e hx => ?_, I.base.tups, I.base.frzs, I.base.tbls⟩, ⟨_, hn', fun j y v' e1 e2 e3 => ?_⟩, fun y c e => ?_, I.free, I.freeC, fun p hp => ?_, tracked ⟨oL, hoL, I.free⟩ hs, by simpa using I.len⟩ ⟨_, hs, .inl rfl⟩
    · exact (hs.2 b (Nat.ne_of_lt (Nat.lt_of_lt_of_le (Heap.lt_size e) I.ok.above))).trans (I.base.keep b o e n hb hx)
    · obtain ⟨sl, e1⟩ := I.base.slot b o e n hb hx
      exact ⟨sl, (hs.2 b (Nat.ne_of_lt (Nat.lt_of_lt_of_le (Heap.lt_size e) I.ok.above))).trans e1⟩
    · obtain ⟨o', e1⟩ := I.base.there b o e hx
      exact ⟨o', (hs.2 b (Nat.ne_of_lt (Nat.lt_of_lt_of_le (Heap.lt_size e) I.ok.above))).trans e1⟩
    · by_cases hj : j = i
      · subst hj
        rw [hi] at e1; cases e1
        rw [List.getElem?_set_self hiσ] at e2
        cases e2
        exact ⟨u, r, .inl ⟨hk, by simp⟩⟩
      · rw [List.getElem?_set_ne (Ne.symm hj)] at e2
        obtain ⟨u', r', q⟩ := hl j y v' e1 e2 e3
        refine ⟨u', r', ?_⟩
        rcases q with ⟨k, e⟩ | ⟨k, c, e, z⟩
        · refine .inl ⟨k, ?_⟩
          have : y ≠ x := fun e => hj (nodup_ix hN e1 (e ▸ hi))
          simp [this, e]
        · exact .inr ⟨k, c, e, z.sameBut hs (cne y c e)⟩
    · obtain ⟨w', z⟩ := I.cell y c e
      exact ⟨w', z.sameBut hs (cne y c e)⟩
    · obtain ⟨e, n, ne, nf, d⟩ := I.pin p hp
      exact ⟨(hs.2 p.1 ne).trans e, n, ne, nf, d⟩
  · have hfn : X.fn x = true := by
      rcases hf with z | z
      · exact z
      · rw [z] at hk; cases hk
    obtain ⟨c, hc⟩ := I.ok.has x (.inl hk)
    obtain ⟨w', z⟩ := I.cell x c hc
    refine wpAny_storeName_cell I.ok.kind hk hc z (fun h' hc' hs => ?_)
    obtain ⟨oc, hoc, hocd⟩ := id z
    refine h { s with heap := h' } ⟨I.ok, I.os, I.bare, ⟨fun b o e n hb hx => ?_, fun b o e n hb hx => ?_, I.base.free, fun b o e hx => ?_, I.base.tups, I.base.frzs, I.base.tbls⟩, ⟨m, hn.sameBut hs (Ne.symm (cne x c hc)), fun j y v' e1 e2 e3 => ?_⟩, fun y c' e => ?_, I.free, I.freeC, fun p hp => ?_, tracked ⟨oc, hoc, I.freeC x c hc⟩ hs, by simpa using I.len⟩ ⟨c, hs, .inr hc⟩
    · exact (hs.2 b (Nat.ne_of_lt (Nat.lt_of_lt_of_le (Heap.lt_size e) (I.ok.cab x c hfn hc)))).trans (I.base.keep b o e n hb hx)
    · obtain ⟨sl, e1⟩ := I.base.slot b o e n hb hx
      exact ⟨sl, (hs.2 b (Nat.ne_of_lt (Nat.lt_of_lt_of_le (Heap.lt_size e) (I.ok.cab x c hfn hc)))).trans e1⟩
    · obtain ⟨o', e1⟩ := I.base.there b o e hx
      exact ⟨o', (hs.2 b (Nat.ne_of_lt (Nat.lt_of_lt_of_le (Heap.lt_size e) (I.ok.cab x c hfn hc)))).trans e1⟩
    · by_cases hj : j = i
      · subst hj
        rw [hi] at e1; cases e1
        rw [List.getElem?_set_self hiσ] at e2
        cases e2
        exact ⟨u, r, .inr ⟨.inl hk, c, hc, hc'⟩⟩
      · rw [List.getElem?_set_ne (Ne.symm hj)] at e2
        obtain ⟨u', r', q⟩ := hl j y v' e1 e2 e3
        refine ⟨u', r', ?_⟩
        rcases q with q | ⟨k, c', e, z'⟩
        · exact .inl q
        · refine .inr ⟨k, c', e, z'.sameBut hs ?_⟩
          rintro rfl
          exact hj (nodup_ix hN e1 (I.ok.inj _ _ _ e hc ▸ hi))
    · by_cases hcc : c' = c
      · subst hcc; exact ⟨_, hc'⟩
      · obtain ⟨w2, z2⟩ := I.cell y c' e
        exact ⟨w2, z2.sameBut hs hcc⟩
    · obtain ⟨e, n, ne, nf, d⟩ := I.pin p hp
      refine ⟨(hs.2 p.1 ?_).trans e, n, ne, nf, d⟩
      intro q
      rw [q, hoc] at e
      have q' : oc = p.2 := Option.some.inj e
      exact d w' (by rw [← q']; exact hocd)
theorem store_ok {M : Model} {A : Around} {E : Value → Shared → Prop} {i : Nat} {x : Str} {v : V} {u : Value} {Q : Unit → Shared → Prop} (I : Inv X pins σ H s) (hN : X.N.Nodup) (hi : X.N[i]? = some x) (hx : Loc X.env.scope x) (r : RelV v u)
    (h : ∀ s', Inv X pins (σ.set i (some v)) H s' → Q () s') (hf : X.fn x = true ∨ X.env.scope.names.lookup x = some .local := by first | exact .inl rfl | exact .inr rfl | assumption) : wpAny M A (storeName X.env x u) Q E s :=
  store_ok2 I hN hi hx r (fun s' I' _ => h s' I') hf
/-- behind a call or a block, the state as it is -/
theorem Inv.call' {s' : Shared} {ch : List Addr} (I : Inv X pins σ H s) (ho : s'.os = s.os) (u : Un (frs X.stack) ch H H' s.heap s'.heap) (hok : HOk X.prog X.w H' s'.heap) (hg : AllBare s'.gens)
    (hch : ∀ b ∈ ch, (b ∈ X.ex ∨ X.s₀.heap.objs.size ≤ b) ∧ b ≠ X.env.locals ∧ (∀ x c, X.env.cells.lookup x = some c → c ≠ b) ∧ ∀ p ∈ X.pn ++ pins, p.1 ≠ b) : Inv X pins σ H' s' := by
  obtain ⟨h', g', d', t', o'⟩ := s'
  have e : o' = s.os := ho
  subst e
  exact I.call (g' := g') (t' := t') (d' := d') u hok hg hch
end

/-! ### the judgements -/
/-- an exception: its class, its own dict's address (where it has one), the abstract heap behind it -/
abbrev XK := Value → Option Addr → Hp → Prop
abbrev St := List (Option V)
abbrev VK := V → Hp → Prop
/-- an expression's reading; a test's; an argument list's -/
abbrev TE := St → Hp → VK → Prop
abbrev TT := St → Hp → (Bool → Hp → Prop) → Prop
abbrev TA := St → Hp → (List V → Hp → Prop) → Prop
/-- what is wanted behind a statement -/
structure Ends where
  nx : St → Hp → Prop
  rt : VK
  bk : St → Hp → Prop := fun _ _ => False
  ct : St → Hp → Prop := fun _ _ => False
abbrev TS := Ends → St → Hp → Prop

def EP (X : Cx) (pins : List (Addr × Obj)) (σ : St) (Q : VK) (u : Value) (s' : Shared) : Prop := ∃ v H', Inv X pins σ H' s' ∧ RelV v u ∧ Q v H'
def TP (X : Cx) (pins : List (Addr × Obj)) (σ : St) (Q : Bool → Hp → Prop) (b : Bool) (s' : Shared) : Prop := ∃ H', Inv X pins σ H' s' ∧ Q b H'
def AP (X : Cx) (pins : List (Addr × Obj)) (σ : St) (Q : List V → Hp → Prop) (us : List Value) (s' : Shared) : Prop := ∃ vs H', Inv X pins σ H' s' ∧ Vals vs us ∧ Q vs H'
def SP (X : Cx) (pins : List (Addr × Obj)) (D : Ends) (f : Flow) (s' : Shared) : Prop :=
  match f with
  | .next => ∃ σ' H', Inv X pins σ' H' s' ∧ D.nx σ' H'
  | .brk => ∃ σ' H', Inv X pins σ' H' s' ∧ D.bk σ' H'
  | .cont => ∃ σ' H', Inv X pins σ' H' s' ∧ D.ct σ' H'
  | .ret u => ∃ v σ' H', Inv X pins σ' H' s' ∧ RelV v u ∧ D.rt v H'

def PE (X : Cx) (e : Expr) (t : TE) : Prop :=
  ∀ (pins : List (Addr × Obj)) (s : Shared) (σ : St) (H : Hp) (Q : VK), Inv X pins σ H s → t σ H Q → wpAny (model X.prog X.w) X.A (eval e X.env) (EP X pins σ Q) X.xe s
def PT (X : Cx) (e : Expr) (t : TT) : Prop :=
  ∀ (pins : List (Addr × Obj)) (s : Shared) (σ : St) (H : Hp) (Q : Bool → Hp → Prop), Inv X pins σ H s → t σ H Q → wpAny (model X.prog X.w) X.A (isTrue e X.env (eval e X.env)) (TP X pins σ Q) X.xe s
/-- a test whatever its 'whole' is (and, or) -/
def PW (X : Cx) (e : Expr) (t : TT) : Prop :=
  ∀ (whole : Sem Value) (pins : List (Addr × Obj)) (s : Shared) (σ : St) (H : Hp) (Q : Bool → Hp → Prop), Inv X pins σ H s → t σ H Q → wpAny (model X.prog X.w) X.A (isTrue e X.env whole) (TP X pins σ Q) X.xe s
theorem PW.pt {X : Cx} {e : Expr} {t : TT} (h : PW X e t) : PT X e t := h _
/-- an argument list (no star), from the left -/
def PA (X : Cx) (es : List Expr) (t : TA) : Prop :=
  ∀ (pos : Pos) (pins : List (Addr × Obj)) (s : Shared) (σ : St) (H : Hp) (Q : List V → Hp → Prop), Inv X pins σ H s → t σ H Q → wpAny (model X.prog X.w) X.A (spliced (backTo pos (starEach es X.env))) (AP X pins σ Q) X.xe s
def PS (X : Cx) (st : Stmt) (t : TS) : Prop :=
  ∀ (pins : List (Addr × Obj)) (s : Shared) (σ : St) (H : Hp) (D : Ends), Inv X pins σ H s → t D σ H → wpAny (model X.prog X.w) X.A (exec st X.env) (SP X pins D) X.xe s
def PSs (X : Cx) (st : List Stmt) (t : TS) : Prop :=
  ∀ (pins : List (Addr × Obj)) (s : Shared) (σ : St) (H : Hp) (D : Ends), Inv X pins σ H s → t D σ H → wpAny (model X.prog X.w) X.A (execs st X.env) (SP X pins D) X.xe s
/-- weaken the end -/
theorem thn {α : Type} {t : Sem α} {Q Q' : α → Shared → Prop} {M : Model} {A : Around} {E : Value → Shared → Prop} {s : Shared} (h : wpAny M A t Q E s) (hQ : ∀ a s, Q a s → Q' a s) : wpAny M A t Q' E s := wpAny_mono h hQ fun _ _ x => x
end L2

namespace L2
open PySem PySem.Spec PyProof.Rows
section
variable {X : Cx}

/-- two expressions in a row -/
theorem bin {a b : Expr} {ta tb : TE} (ha : PE X a ta) (hb : PE X b tb) {pins : List (Addr × Obj)} {s : Shared} {σ : St} {H : Hp} {R : V → V → Hp → Prop} (I : Inv X pins σ H s) (h : ta σ H fun x H1 => tb σ H1 fun y H2 => R x y H2)
    {α : Type} {Q : α → Shared → Prop} {f : Value → Value → Sem α}
    (hf : ∀ v u s2 x y H2, Inv X pins σ H2 s2 → RelV x v → RelV y u → R x y H2 → wpAny (model X.prog X.w) X.A (f v u) Q X.xe s2) :
    wpAny (model X.prog X.w) X.A (eval a X.env) (fun v s₁ => wpAny (model X.prog X.w) X.A (eval b X.env) (fun u s₂ => wpAny (model X.prog X.w) X.A (f v u) Q X.xe s₂) X.xe s₁) X.xe s := by
  refine thn (ha pins s σ H _ I h) fun v s1 ⟨x, H1, I1, r1, q1⟩ => ?_
  refine thn (hb pins s1 σ H1 _ I1 q1) fun u s2 ⟨y, H2, I2, r2, q2⟩ => ?_
  exact hf v u s2 x y H2 I2 r1 r2 q2

/-! ### names and constants -/
def tVar (i : Nat) : TE := fun σ H Q => ∃ v, σ[i]? = some (some v) ∧ Q v H
def tC (v : V) : TE := fun _ H Q => Q v H
theorem pe_var {i : Nat} {x : Str} {pos : Pos} (hN : X.N[i]? = some x) (hv : Vis X.env.scope x) (hd : (x == ("__debug__" : Str)) = false := by decide) (hcd : (x == ("__classdict__" : Str)) = false := by decide) : PE X (.Name x pos) (tVar i) := by
  intro pins s σ H Q I h
  obtain ⟨v, e, h⟩ := h
  obtain ⟨m, hn, hl⟩ := I.loc
  obtain ⟨u, r, l⟩ := hl i x v hN e hv
  have fin : EP X pins σ Q u s := ⟨v, H, I, r, h⟩
  rcases l with ⟨hk, hm⟩ | ⟨hk, c, hc, hcell⟩
  · exact wpAny_Name (wpAny_loadName_local I.ok.kind hk hn hm fin) hd
  · rcases hk with hk | hk
    · exact wpAny_Name (wpAny_loadName_cell I.ok.kind hk hc hcell fin) hd
    · exact wpAny_Name (wpAny_loadName_free I.ok.kind hk hc hcell fin hcd) hd
theorem pe_int {i j pos} : PE X (.Constant (.int i) j pos) (tC (.int i)) := fun _ _ _ H _ I h => wpAny_Constant_int ⟨.int i, H, I.tok _, ⟨_, rfl⟩, h⟩
theorem pe_bl {b j pos} : PE X (.Constant (.bool b) j pos) (tC (.bl b)) := fun _ _ _ H _ I h => Constant_bool ⟨.bl b, H, I, rfl, h⟩
theorem pe_non {j pos} : PE X (.Constant .none j pos) (tC .non) := fun _ _ _ H _ I h => Constant_none ⟨.non, H, I, rfl, h⟩
theorem pe_str {x j pos} : PE X (.Constant (.str x) j pos) (tC (.str x)) := fun _ _ _ H _ I h => Calls.Constant_str ⟨.str x, H, I.tok _, ⟨_, rfl⟩, h⟩

/-- a global name of the def -/
def Gl (X : Cx) (x : Str) : Prop := X.env.kindOf x = some .globalImplicit
theorem ld_glob {E : Value → Shared → Prop} {pins : List (Addr × Obj)} {s : Shared} {σ : St} {H : Hp} {x : Str} {u : Value} {pos : Pos} {Q : Value → Shared → Prop} (I : Inv X pins σ H s) (hg : Gl X x) (hm : X.mg x = some u) (h : Q u s)
    (hd : (x == ("__debug__" : Str)) = false := by decide) : wpAny (model X.prog X.w) X.A (eval (.Name x pos) X.env) Q E s :=
  Calls.Name_function_global I.ok.kind hg (Calls.loadGlobal_global (by rw [I.ok.glob]; exact I.mod.glob.keeps I.bk) hm h) hd
theorem ld_blt {E : Value → Shared → Prop} {pins : List (Addr × Obj)} {s : Shared} {σ : St} {H : Hp} {x : Str} {u : Value} {pos : Pos} {Q : Value → Shared → Prop} (I : Inv X pins σ H s) (hg : Gl X x) (hm : X.mg x = none) (hv : bootBuiltins x = some u) (h : Q u s)
    (hn : x ≠ "__name__" := by decide) (hd : (x == ("__debug__" : Str)) = false := by decide) : wpAny (model X.prog X.w) X.A (eval (.Name x pos) X.env) Q E s := by
  obtain ⟨mb, h1, h2⟩ := I.mod.blt
  exact Calls.Name_function_global I.ok.kind hg (Calls.loadGlobal_builtin (by rw [I.ok.glob]; exact I.mod.glob.keeps I.bk) hm (by rw [I.ok.blt]; exact h1.keeps I.bk) ((h2 x hn).trans hv) h) hd
/-- a module's constant, a class, a function, as a value -/
theorem pe_glob {x : Str} {v : V} {u : Value} {pos : Pos} (hg : Gl X x) (hm : X.mg x = some u) (r : RelV v u) (hd : (x == ("__debug__" : Str)) = false := by decide) : PE X (.Name x pos) (tC v) :=
  fun _ _ _ H _ I h => ld_glob I hg hm ⟨v, H, I, r, h⟩ hd
theorem pe_bltn {x : Str} {v : V} {u : Value} {pos : Pos} (hg : Gl X x) (hm : X.mg x = none) (hv : bootBuiltins x = some u) (r : RelV v u) (hn : x ≠ "__name__" := by decide) (hd : (x == ("__debug__" : Str)) = false := by decide) : PE X (.Name x pos) (tC v) :=
  fun _ _ _ H _ I h => ld_blt I hg hm hv ⟨v, H, I, r, h⟩ hn hd

/-! ### arithmetic -/
variable {a b : Expr} {ta tb : TE} {pos : Pos}

/-! ### comparisons -/
def PC (X : Cx) (op : CmpOp) (a b : Expr) (t : TE) : Prop :=
  ∀ (pins : List (Addr × Obj)) (s : Shared) (σ : St) (H : Hp) (Q : VK), Inv X pins σ H s → t σ H Q →
    wpAny (model X.prog X.w) X.A (eval a X.env) (fun v s₁ => wpAny (model X.prog X.w) X.A (eval b X.env) (fun u s₂ => wpAny (model X.prog X.w) X.A (compareOp op v u) (EP X pins σ Q) X.xe s₂) X.xe s₁) X.xe s
/-- a comparison as a value, as a test -/
def tB (t : TE) : TT := fun σ H Q => t σ H fun x H1 => ∃ c, x = .bl c ∧ Q c H1
theorem pt_cmp {op : CmpOp} {t : TE} (h : PC X op a b t) (h1 : behindInMarks op b = false := by first | exact nobehind _ (by decide) (by decide) | rfl) : PT X (.Compare a [op] [b] pos) (tB t) := by
  intro pins s σ H Q I hw
  refine wpAny_isTrue_Compare1 (thn (h pins s σ H _ I hw) fun v s1 h1 => thn h1 fun u s2 h2 => thn h2 fun c s3 ⟨x, H1, I1, r1, q1⟩ => ?_) h1
  obtain ⟨d, rfl, q⟩ := q1
  cases r1
  exact wpAny_truthy_bool ⟨H1, I1, q⟩
/-- an expression whose value is a bool, as a test -/
theorem pt_val {e : Expr} {t : TE} (h : PE X e t) (he : ∀ whole, isTrue e X.env whole = (do let v ← whole; standAt e.pos; holding [v] (truthy v)) := by intro _; rfl) : PT X e (tB t) := by
  intro pins s σ H Q I hw
  refine isTrue_plain (thn (h pins s σ H _ I hw) fun v s1 ⟨x, H1, I1, r1, q1⟩ => ?_) (he _)
  obtain ⟨d, rfl, q⟩ := q1
  cases r1
  exact wpAny_truthy_bool ⟨H1, I1, q⟩

/-! ### and, or, not -/
variable {tA tB' : TT} {rest : List Expr}
def tAnd (t u : TT) : TT := fun σ H Q => t σ H fun c H1 => if c = true then u σ H1 Q else Q false H1
def tOr (t u : TT) : TT := fun σ H Q => t σ H fun c H1 => if c = true then Q true H1 else u σ H1 Q
def tNot (t : TT) : TT := fun σ H Q => t σ H fun c H1 => Q (!c) H1
theorem pw_and1 (ha : PT X a tA) : PW X (.BoolOp .And [a] pos) tA := by
  intro wh pins s σ H Q I h
  refine isTrue_and (thn (ha pins s σ H Q I h) fun c s1 e => ?_)
  cases c with
  | true => exact isTrue_and_nil e
  | false => exact e
theorem pw_or1 (ha : PT X a tA) : PW X (.BoolOp .Or [a] pos) tA := by
  intro wh pins s σ H Q I h
  refine isTrue_or (thn (ha pins s σ H Q I h) fun c s1 e => ?_)
  cases c with
  | false => exact isTrue_or_nil e
  | true => exact e
theorem pw_and (ha : PT X a tA) (hb : PW X (.BoolOp .And (b :: rest) pos) tB') : PW X (.BoolOp .And (a :: b :: rest) pos) (tAnd tA tB') := by
  intro wh pins s σ H Q I h
  refine isTrue_and (thn (ha pins s σ H _ I h) fun c s1 ⟨H1, I1, q1⟩ => ?_)
  cases c with
  | true => exact hb wh pins s1 σ H1 Q I1 q1
  | false => exact ⟨H1, I1, q1⟩
theorem pw_or (ha : PT X a tA) (hb : PW X (.BoolOp .Or (b :: rest) pos) tB') : PW X (.BoolOp .Or (a :: b :: rest) pos) (tOr tA tB') := by
  intro wh pins s σ H Q I h
  refine isTrue_or (thn (ha pins s σ H _ I h) fun c s1 ⟨H1, I1, q1⟩ => ?_)
  cases c with
  | true => exact ⟨H1, I1, q1⟩
  | false => exact hb wh pins s1 σ H1 Q I1 q1
theorem pt_not (ha : PT X a tA) : PT X (.UnaryOp .Not a pos) (tNot tA) := by
  intro pins s σ H Q I h
  exact isTrue_not (ha pins s σ H (fun c H1 => Q (!c) H1) I h)
/-- .. as values (bools) -/
def tAndV (ta tb : TE) : TE := fun σ H Q => ta σ H fun x H1 => ∃ c, x = .bl c ∧ if c = true then tb σ H1 Q else Q (.bl false) H1
def tOrV (ta tb : TE) : TE := fun σ H Q => ta σ H fun x H1 => ∃ c, x = .bl c ∧ if c = true then Q (.bl true) H1 else tb σ H1 Q
theorem pe_one {op} {t : TE} (h : PE X a t) : PE X (.BoolOp op [a] pos) t := fun pins s σ H Q I hw => BoolOp_one (h pins s σ H Q I hw)
theorem pe_and (ha : PE X a ta) (hb : PE X (.BoolOp .And (b :: rest) pos) tb) : PE X (.BoolOp .And (a :: b :: rest) pos) (tAndV ta tb) := by
  intro pins s σ H Q I h
  refine BoolOp_and (thn (ha pins s σ H _ I h) fun v s1 ⟨x, H1, I1, r1, q1⟩ => ?_)
  obtain ⟨c, rfl, q1⟩ := q1
  cases r1
  refine wpAny_truthy_bool ?_
  cases c with
  | true => exact hb pins s1 σ H1 Q I1 q1
  | false => exact ⟨.bl false, H1, I1, rfl, q1⟩
theorem pe_or (ha : PE X a ta) (hb : PE X (.BoolOp .Or (b :: rest) pos) tb) : PE X (.BoolOp .Or (a :: b :: rest) pos) (tOrV ta tb) := by
  intro pins s σ H Q I h
  refine BoolOp_or (thn (ha pins s σ H _ I h) fun v s1 ⟨x, H1, I1, r1, q1⟩ => ?_)
  obtain ⟨c, rfl, q1⟩ := q1
  cases r1
  refine wpAny_truthy_bool ?_
  cases c with
  | false => exact hb pins s1 σ H1 Q I1 q1
  | true => exact ⟨.bl true, H1, I1, rfl, q1⟩
/-- a if t else b -/
def tIf (t : TT) (ta tb : TE) : TE := fun σ H Q => t σ H fun c H1 => if c = true then ta σ H1 Q else tb σ H1 Q
theorem pe_ifExp {c : Expr} (hc : PT X c tA) (ha : PE X a ta) (hb : PE X b tb) : PE X (.IfExp c a b pos) (tIf tA ta tb) := by
  intro pins s σ H Q I h
  refine wpAny_IfExp (thn (hc pins s σ H _ I h) fun d s1 ⟨H1, I1, q1⟩ => ?_)
  cases d with
  | true => exact ha pins s1 σ H1 Q I1 q1
  | false => exact hb pins s1 σ H1 Q I1 q1
end
end L2

namespace L2
open PySem PySem.Spec PyProof.Rows

/-! ### a list, a tuple that is read: tracked, frozen, or an object of the module -/
def SqL (K : PySem.W.Frag) (H : Hp) (a : Addr) (xs : List V) : Prop :=
  Rd H a (.lst xs) ∨
    ∃ (o : Obj) (its : Array Value) (n : Nat), K.lookup a = some o ∧ o.cls = .type "list" ∧ o.dict = none ∧ o.data = .seq its n ∧ its.size ≤ sizeLine ∧ Vals xs its.toList
def SqT (K : PySem.W.Frag) (H : Hp) (a : Addr) (xs : List V) : Prop :=
  Rd H a (.tup xs) ∨
    ∃ (o : Obj) (its : Array Value) (n : Nat), K.lookup a = some o ∧ o.cls = .type "tuple" ∧ o.data = .seq its n ∧ its.size ≤ sizeLine ∧ Vals xs its.toList
def absV : Value → Option V
  | .none => some .non
  | .bool b => some (.bl b)
  | .int i _ => some (.int i)
  | .str x _ => some (.str x)
  | .bytes b _ => some (.byt b)
  | .float b _ => some (.flt b)
  | .ref a => some (.ref a)
  | .type n => some (.ty n)
  | _ => none
theorem RelV.abs {x : V} {u : Value} (r : RelV x u) : absV u = some x := by
  cases x with
  | non => cases r; rfl
  | bl _ => cases r; rfl
  | int _ => obtain ⟨t, rfl⟩ := r; rfl
  | str _ => obtain ⟨t, rfl⟩ := r; rfl
  | byt _ => obtain ⟨t, rfl⟩ := r; rfl
  | flt _ => obtain ⟨t, rfl⟩ := r; rfl
  | ref _ => cases r; rfl
  | ty _ => cases r; rfl
theorem RelV.inj {x y : V} {u : Value} (r : RelV x u) (q : RelV y u) : x = y := Option.some.inj (r.abs.symm.trans q.abs)
theorem Vals.inj : ∀ {xs ys : List V} {us : List Value}, Vals xs us → Vals ys us → xs = ys
  | _, _, _, .nil, .nil => rfl
  | _, _, _, .cons r t, .cons r' t' => by rw [r.inj r', Vals.inj t t']
section
variable {X : Cx} {pins : List (Addr × Obj)} {σ : St} {H : Hp} {s : Shared} {a : Addr} {xs ys : List V}
theorem SqL.of {K : PySem.W.Frag} (h : H a = some (.lst xs)) : SqL K H a xs := .inl (.inl h)
theorem SqT.of {K : PySem.W.Frag} (h : H a = some (.tup xs)) : SqT K H a xs := .inl (.inl h)
theorem Inv.list (I : Inv X pins σ H s) (h : SqL X.K H a xs) : ∃ its : List Value, Vals xs its ∧ PlainL s.heap a its.toArray ∧ xs.length ≤ sizeLine := by
  rcases h with h | ⟨o, its, n, hk, hc, hd, hs, hz, r⟩
  · obtain ⟨z, its, n, r, e⟩ := h.ok I.hok
    exact ⟨its, r, ⟨_, n, e, rfl, rfl, rfl⟩, z⟩
  · refine ⟨its.toList, r, ⟨o, n, I.kIn a o hk, hc, hd, by simpa using hs⟩, ?_⟩
    have e := r.length
    simp only [Array.length_toList] at e
    omega
theorem Inv.tuple (I : Inv X pins σ H s) (h : SqT X.K H a xs) : ∃ its : List Value, Vals xs its ∧ IsTup s.heap a its.toArray ∧ xs.length ≤ sizeLine := by
  rcases h with h | ⟨o, its, n, hk, hc, hs, hz, r⟩
  · obtain ⟨z, its, r, p⟩ := h.ok I.hok
    exact ⟨its, r, p, z⟩
  · refine ⟨its.toList, r, ⟨o, I.kIn a o hk, hc, n, by simpa using hs⟩, ?_⟩
    have e := r.length
    simp only [Array.length_toList] at e
    omega
theorem Inv.list_inj (I : Inv X pins σ H s) (h : SqL X.K H a xs) (h' : SqL X.K H a ys) : xs = ys := by
  obtain ⟨its, r, ⟨o, n, e, _, _, d⟩, _⟩ := I.list h
  obtain ⟨its', r', ⟨o', n', e', _, _, d'⟩, _⟩ := I.list h'
  rw [e] at e'; cases e'
  rw [d] at d'
  injection d' with d1 _
  have : its = its' := by simpa using congrArg Array.toList d1
  subst this
  exact r.inj r'
theorem Inv.tuple_inj (I : Inv X pins σ H s) (h : SqT X.K H a xs) (h' : SqT X.K H a ys) : xs = ys := by
  obtain ⟨its, r, ⟨o, e, _, n, d⟩, _⟩ := I.tuple h
  obtain ⟨its', r', ⟨o', e', _, n', d'⟩, _⟩ := I.tuple h'
  rw [e] at e'; cases e'
  rw [d] at d'
  injection d' with d1 _
  have : its = its' := by simpa using congrArg Array.toList d1
  subst this
  exact r.inj r'
end

/-! ### another wish about exceptions -/
abbrev Cx.wish (X : Cx) (E : Value → Shared → Prop) : Cx := { X with xe := E }
/-- no exception leaves -/
abbrev Cx.nox (X : Cx) : Cx := X.wish fun _ _ => False
theorem Cx.Ok.wish {X : Cx} (ok : X.Ok) (E : Value → Shared → Prop) : (X.wish E).Ok :=
  ⟨ok.mod, ok.kind, ok.glob, ok.blt, ok.above, ok.inj, ok.has, ok.cab, ok.hd, ok.frames, ok.stk, ok.exf, ok.bs, ok.bsz, ok.noex, ok.exfs, ok.funs, ok.frf⟩
theorem Cx.Ok.unwish {X : Cx} {E : Value → Shared → Prop} (ok : (X.wish E).Ok) : X.Ok :=
  ⟨ok.mod, ok.kind, ok.glob, ok.blt, ok.above, ok.inj, ok.has, ok.cab, ok.hd, ok.frames, ok.stk, ok.exf, ok.bs, ok.bsz, ok.noex, ok.exfs, ok.funs, ok.frf⟩
section
variable {X : Cx} {pins : List (Addr × Obj)} {σ : St} {H : Hp} {s : Shared} {E : Value → Shared → Prop}
theorem Inv.wish (I : Inv X pins σ H s) (E : Value → Shared → Prop) : Inv (X.wish E) pins σ H s := ⟨I.ok.wish E, I.os, I.bare, I.base, I.loc, I.cell, I.free, I.freeC, I.pin, I.hok, I.len⟩
theorem Inv.unwish (I : Inv (X.wish E) pins σ H s) : Inv X pins σ H s := ⟨I.ok.unwish, I.os, I.bare, I.base, I.loc, I.cell, I.free, I.freeC, I.pin, I.hok, I.len⟩
theorem SP.unwish {D : Ends} {f : Flow} {s' : Shared} (h : SP (X.wish E) pins D f s') : SP X pins D f s' := by
  cases f with
  | next => obtain ⟨σ', H', I, q⟩ := h; exact ⟨σ', H', I.unwish, q⟩
  | brk => obtain ⟨σ', H', I, q⟩ := h; exact ⟨σ', H', I.unwish, q⟩
  | cont => obtain ⟨σ', H', I, q⟩ := h; exact ⟨σ', H', I.unwish, q⟩
  | ret u => obtain ⟨v, σ', H', I, r, q⟩ := h; exact ⟨v, σ', H', I.unwish, r, q⟩
theorem PSs.nox {st : List Stmt} {t : TS} (h : PSs X.nox st t) : PSs X st t := fun pins s σ H D I hw =>
  wpAny_mono (h pins s σ H D (I.wish _) hw) (fun _ _ q => q.unwish) fun _ _ z => False.elim z
end

/-! ### blocks and small statements -/
section
variable {X : Cx} {st : Stmt} {rest : List Stmt} {t u : TS} {e : Expr} {te : TE} {pos : Pos}
def tNext : TS := fun D σ H => D.nx σ H
def tSeq (t u : TS) : TS := fun D σ H => t { D with nx := u D } σ H
theorem pss_nil : PSs X [] tNext := fun _ _ σ H _ I h => wpAny_execs_nil ⟨σ, H, I, h⟩
theorem pss_cons (h1 : PS X st t) (h2 : PSs X rest u) : PSs X (st :: rest) (tSeq t u) := by
  intro pins s σ H D I h
  refine wpAny_execs_cons (thn (h1 pins s σ H { D with nx := u D } I h) fun f s1 q => ?_)
  cases f with
  | next =>
    obtain ⟨σ', H', I', q⟩ := q
    exact h2 pins s1 σ' H' D I' q
  | ret v => exact q
  | brk => exact q
  | cont => exact q
theorem pss_one (h1 : PS X st t) : PSs X [st] t := by
  intro pins s σ H D I h
  refine wpAny_execs_cons (thn (h1 pins s σ H D I h) fun f s1 q => ?_)
  cases f with
  | next => exact wpAny_execs_nil q
  | ret v => exact q
  | brk => exact q
  | cont => exact q
/-- in a def's body nothing is shown -/
theorem Inv.quiet {pins : List (Addr × Obj)} {σ : St} {H : Hp} {s : Shared} (I : Inv X pins σ H s) : interactive X.env = false := by simp [interactive, I.ok.kind]
/-- an expression whose value is dropped -/
def tDrop (te : TE) : TS := fun D σ H => te σ H fun _ H1 => D.nx σ H1
theorem ps_expr (he : PE X e te) (hs : swapsWith e none pos.line X.env = pure false := by rfl) : PS X (.Expr e pos) (tDrop te) := by
  intro pins s σ H D I h
  exact wpAny_Expr_any (thn (he pins s σ H _ I h) fun v s1 ⟨x, H1, I1, r1, q1⟩ => ⟨σ, H1, I1, q1⟩) I.quiet hs
def tRet (te : TE) : TS := fun D σ H => te σ H D.rt
theorem ps_ret (he : PE X e te) : PS X (.Return (some e) pos) (tRet te) := by
  intro pins s σ H D I h
  exact wpAny_Return_some (thn (he pins s σ H _ I h) fun v s1 ⟨x, H1, I1, r1, q1⟩ => ⟨x, σ, H1, I1, r1, q1⟩)
def tIfS (c : TT) (t u : TS) : TS := fun D σ H => c σ H fun b H1 => if b = true then t D σ H1 else u D σ H1
theorem ps_if {c : Expr} {a b : List Stmt} {tc : TT} (hc : PT X c tc) (ha : PSs X a t) (hb : PSs X b u) : PS X (.If c a b pos) (tIfS tc t u) := by
  intro pins s σ H D I h
  refine wpAny_If (thn (hc pins s σ H _ I h) fun d s1 ⟨H1, I1, q1⟩ => ?_)
  cases d with
  | true => exact ha pins s1 σ H1 D I1 q1
  | false => exact hb pins s1 σ H1 D I1 q1
end

/-! ### targets -/
abbrev TG := V → St → Hp → (St → Hp → Prop) → Prop
def PG (X : Cx) (target : Expr) (t : TG) : Prop :=
  ∀ (pins : List (Addr × Obj)) (s : Shared) (σ : St) (H : Hp) (v : V) (u : Value) (Q : St → Hp → Prop), Inv X pins σ H s → RelV v u → t v σ H Q →
    wpAny (model X.prog X.w) X.A (assign target X.env u) (fun _ s' => ∃ σ' H', Inv X pins σ' H' s' ∧ Q σ' H') X.xe s
/-- o[i] = v, by values -/
abbrev TSet := V → V → V → Hp → (Hp → Prop) → Prop
def PSet (X : Cx) (t : TSet) : Prop :=
  ∀ (pins : List (Addr × Obj)) (s : Shared) (σ : St) (H : Hp) (o i v : V) (ov iv u : Value) (Q : Hp → Prop), Inv X pins σ H s → RelV o ov → RelV i iv → RelV v u → t o i v H Q →
    wpAny (model X.prog X.w) X.A (setItem ov iv u) (fun _ s' => ∃ H', Inv X pins σ H' s' ∧ Q H') X.xe s
section
variable {X : Cx} {pos : Pos}
def gName (i : Nat) : TG := fun v σ H Q => Q (σ.set i (some v)) H
theorem pg_name {i : Nat} {x : Str} (hN : X.N.Nodup) (hi : X.N[i]? = some x) (hx : Loc X.env.scope x) (hf : X.fn x = true ∨ X.env.scope.names.lookup x = some .local := by first | exact .inl rfl | exact .inr rfl | assumption) : PG X (.Name x pos) (gName i) := by
  intro pins s σ H v u Q I r h
  exact wpAny_assign_Name (store_ok I hN hi hx r (fun s' I' => ⟨_, H, I', h⟩) hf)
/-- o[i] = .. -/
def gSub (to ti : TE) (t : TSet) : TG := fun v σ H Q => to σ H fun o H1 => ti σ H1 fun i H2 => t o i v H2 fun H3 => Q σ H3
theorem pg_sub {o i : Expr} {to ti : TE} {t : TSet} (ho : PE X o to) (hi : PE X i ti) (hs : PSet X t)
    (ha : ∀ v, assign (.Subscript o i pos) X.env v = (do
      let ov ← holding [v] (eval o X.env)
      let iv ← holding [v, ov] (eval i X.env)
      standAt pos
      holding [v, ov, iv] (setItem ov iv v)
      release [v, ov, iv] []) := by intro _; rfl) : PG X (.Subscript o i pos) (gSub to ti t) := by
  intro pins s σ H v u Q I r h
  rw [ha]
  refine wpAny_bind (wpAny_holding (thn (ho pins s σ H _ I h) fun ov s1 ⟨x, H1, I1, r1, q1⟩ => ?_))
  refine wpAny_bind (wpAny_holding (thn (hi pins s1 σ H1 _ I1 q1) fun iv s2 ⟨y, H2, I2, r2, q2⟩ => ?_))
  refine wpAny_bind (wpAny_standAt (wpAny_bind (wpAny_holding (thn (hs pins s2 σ H2 x y v ov iv u _ I2 r1 r2 r q2) fun _ s3 ⟨H3, I3, q3⟩ => ?_))))
  exact wpAny_release ⟨σ, H3, I3, q3⟩
/-- target = value -/
def tAsg (te : TE) (g : TG) : TS := fun D σ H => te σ H fun x H1 => g x σ H1 D.nx
theorem ps_asg {tg e : Expr} {te : TE} {g : TG} (he : PE X e te) (hg : PG X tg g) (hs : swapsWithSole [tg] e pos.line X.env = pure false := by rfl) (hw : swappedStores [tg] e X.env = pure none := by rfl)
    (h1 : (assignEach [tg] X.env).map (·.2) = [assign tg X.env] := by rfl) : PS X (.Assign [tg] e pos) (tAsg te g) := by
  intro pins s σ H D I h
  refine wpAny_Assign_stores (thn (he pins s σ H _ I h) fun v s1 ⟨x, H1, I1, r1, q1⟩ => ?_) hs hw
  rw [h1]
  exact thn (hg pins s1 σ H1 x v _ I1 r1 q1) fun _ s2 q => q
/-- name = value -/
theorem ps_set {i : Nat} {x : Str} {e : Expr} {te : TE} {pos' : Pos} (hN : X.N.Nodup) (hi : X.N[i]? = some x) (hx : Loc X.env.scope x) (he : PE X e te) (hs : swapsWith e (some (.Name x pos')) pos.line X.env = pure false := by rfl) (hf : X.fn x = true ∨ X.env.scope.names.lookup x = some .local := by first | exact .inl rfl | exact .inr rfl | assumption) :
    PS X (.Assign [.Name x pos'] e pos) (tAsg te (gName i)) := by
  intro pins s σ H D I h
  refine wpAny_Assign_Name (thn (he pins s σ H _ I h) fun v s1 ⟨y, H1, I1, r1, q1⟩ => ?_) hs
  exact store_ok I1 hN hi hx r1 (fun s2 I2 => ⟨_, H1, I2, q1⟩) hf
end

/-! ### while -/
section
variable {X : Cx} {pos : Pos}
/-- the invariant W with its measure -/
def tWhile (c : TT) (tb : TS) : TS := fun D σ H => ∃ W : Nat → St → Hp → Prop, (∃ m, W m σ H) ∧ ∀ m σ H, W m σ H →
  c σ H fun b H1 => if b = true then ∃ N : St → Hp → Prop, (∀ σ' H', N σ' H' → ∃ m', m' < m ∧ W m' σ' H') ∧ tb { D with nx := N, ct := N, bk := D.nx } σ H1 else D.nx σ H1
theorem ps_while {c : Expr} {body : List Stmt} {tc : TT} {tb : TS} (hp : PassesOwn (model X.prog X.w) X.A X.env X.xe) (hc : PT X c tc) (hb : PSs X body tb) : PS X (.While c body [] pos) (tWhile tc tb) := by
  intro pins s σ H D I h
  obtain ⟨W, ⟨m0, w0⟩, turn⟩ := h
  refine wpAny_While (codeAny_whileLoop (fun n s' => ∃ σ' H', Inv X pins σ' H' s' ∧ W n σ' H') ?_ m0 ⟨σ, H, I, w0⟩)
  rintro n s1 ⟨σ1, H1, I1, w1⟩
  refine wpAny_passesOwn hp (thn (hc pins s1 σ1 H1 _ I1 (turn n σ1 H1 w1)) fun b s2 ⟨H2, I2, q2⟩ => ?_)
  cases b with
  | true =>
    obtain ⟨N, hN, q2⟩ := q2
    rw [if_pos rfl]
    refine wpAny_passesOwn hp (thn (hb pins s2 σ1 H2 _ I2 q2) fun f s3 q3 => ?_)
    cases f with
    | next =>
      obtain ⟨σ3, H3, I3, n3⟩ := q3
      obtain ⟨m', hm, w3⟩ := hN σ3 H3 n3
      exact ⟨m', hm, σ3, H3, I3, w3⟩
    | cont =>
      obtain ⟨σ3, H3, I3, n3⟩ := q3
      obtain ⟨m', hm, w3⟩ := hN σ3 H3 n3
      exact ⟨m', hm, σ3, H3, I3, w3⟩
    | brk => exact q3
    | ret v => exact q3
  | false =>
    rw [if_neg Bool.false_ne_true]
    exact wpAny_execs_nil ⟨σ1, H2, I2, q2⟩
end

/-! ### what a loop or a comprehension walks -/
/-- at turn i: it yields x (the heap may grow), or it stops -/
structure It where
  go : Nat → Hp → Prop
  yld : Nat → Hp → V → Hp → Prop
  stop : Nat → Hp → Prop
/-- the iterator's own objects may turn: they are not the frame's, not pinned, younger than the entry (or a comprehension's own) -/
def FpOk (X : Cx) (pins : List (Addr × Obj)) (H : Hp) (b : Addr) : Prop :=
  H b = none ∧ b ≠ X.env.locals ∧ b ∉ X.fs ∧ (b ∈ X.ex ∨ X.s₀.heap.objs.size ≤ b) ∧ (∀ x c, X.env.cells.lookup x = some c → c ≠ b) ∧ ∀ p ∈ X.pn ++ pins, p.1 ≠ b
theorem Inv.fpOk {X : Cx} {pins : List (Addr × Obj)} {σ : St} {H H' : Hp} {s : Shared} {b : Addr} (I : Inv X pins σ H s) (hb : s.heap.objs.size ≤ b) (hn : H' b = none) : FpOk X pins H' b := by
  refine ⟨hn, Nat.ne_of_gt (Nat.lt_of_lt_of_le I.lt hb), I.nofs hb, .inr (Nat.le_trans I.sz hb), fun x c e z => ?_, fun p hp z => ?_⟩
  · obtain ⟨v, q⟩ := I.cell x c e
    exact absurd (Nat.lt_of_lt_of_le q.lt (by rw [z]; exact hb)) (Nat.lt_irrefl _)
  · exact absurd (Nat.lt_of_lt_of_le (Heap.lt_size (I.pin p hp).1) (by rw [z]; exact hb)) (Nat.lt_irrefl _)
structure Turn (P : Program) (w : World) (K : PySem.W.Frag) (tg : Expr) (J : It) (fp : List Addr) (it : Addr) (tn : Nat → Heap → Prop) : Prop where
  mem : it ∈ fp
  obj : ∀ i h, tn i h → ∀ b ∈ fp, ∃ o, h.get? b = some o ∧ ∀ v, o.data ≠ .cell v
  keep : ∀ i h h', tn i h → (∀ b ∈ fp, ∀ o, h.get? b = some o → h'.get? b = some o) → tn i h'
  item : ∀ (X : Cx), X.prog = P → X.w = w → X.K = K → X.calm = true → ∀ (i : Nat) (pins : List (Addr × Obj)) (s : Shared) (σ : St) (H : Hp) (E : Value → Shared → Prop), Inv X pins σ H s → (∀ b ∈ fp, FpOk X pins H b) → tn i s.heap → J.go i H →
    wpAny (model P w) X.A (pyNext (.ref it)) (fun r s1 => ∃ u, r = some u ∧
      wpAny (model P w) X.A (letOwnedTupleGo tg (.ref it) u) (fun _ s2 => ∃ x H', Inv X pins σ H' s2 ∧ RelV x u ∧ J.yld i H x H' ∧ tn (i + 1) s2.heap ∧ ∀ b ∈ fp, H' b = none) E s1) E s
  done : ∀ (X : Cx), X.prog = P → X.w = w → X.K = K → X.calm = true → ∀ (i : Nat) (pins : List (Addr × Obj)) (s : Shared) (σ : St) (H : Hp) (E : Value → Shared → Prop), Inv X pins σ H s → (∀ b ∈ fp, FpOk X pins H b) → tn i s.heap → J.stop i H →
    wpAny (model P w) X.A (pyNext (.ref it)) (fun r s1 => r = none ∧ Inv X pins σ H s1) E s
  self : ∀ (A : Around) (i : Nat) (s : Shared) (Q : Value → Shared → Prop) (E : Value → Shared → Prop), tn i s.heap → Q (.ref it) s → wpAny (model P w) A (pyIter (.ref it)) Q E s
abbrev TI := St → Hp → (It → Hp → Prop) → Prop
/-- an iterator has come -/
def PIE (X : Cx) (pins : List (Addr × Obj)) (σ : St) (tg : Expr) (R : It → Hp → Prop) (itv : Value) (s2 : Shared) : Prop :=
  ∃ (it : Addr) (fp : List Addr) (tn : Nat → Heap → Prop) (J : It) (H' : Hp), itv = .ref it ∧ Inv X pins σ H' s2 ∧ Turn X.prog X.w X.K tg J fp it tn ∧ tn 0 s2.heap ∧ (∀ b ∈ fp, FpOk X pins H' b) ∧ R J H'
def PI (X : Cx) (tg iter : Expr) (wi : TI) : Prop :=
  ∀ (pins : List (Addr × Obj)) (s : Shared) (σ : St) (H : Hp) (R : It → Hp → Prop), Inv X pins σ H s → wi σ H R →
    wpAny (model X.prog X.w) X.A (eval iter X.env) (fun v s1 => wpAny (model X.prog X.w) X.A (pyIter v) (PIE X pins σ tg R) X.xe s1) X.xe s

/-- the step ahead of the store is nothing for an iterator that keeps no tuple -/
theorem go_of {M : Model} {A : Around} {E : Value → Shared → Prop} {s : Shared} {tg : Expr} {it : Addr} {u : Value} {o : Obj} {n : String} {vs : Array Value} {Q : Unit → Shared → Prop} (ho : s.heap.get? it = some o) (hc : o.cls = .type n) (hd : o.data = .fields vs)
    (hn : ["enumerate", "zip", "dict_itemiterator", "dict_reverseitemiterator", "odict_iterator", "itertools.zip_longest", "itertools.pairwise"].contains n = false) (hQ : Q () s) : wpAny M A (letOwnedTupleGo tg (.ref it) u) Q E s := by
  unfold letOwnedTupleGo
  cases tg <;> first
    | exact wpAny_pure hQ
    | (cases u <;> first
        | exact wpAny_pure hQ
        | (refine wpAny_bind (wpAny_load ho ?_)
           rw [hc, hd]
           show wpAny M A (if (["enumerate", "zip", "dict_itemiterator", "dict_reverseitemiterator", "odict_iterator", "itertools.zip_longest", "itertools.pairwise"].contains n && vs[0]? == some (rawInt _)) = true then _ else _) Q E s
           rw [if_neg (by intro h; rw [hn, Bool.false_and] at h; cases h)]
           exact wpAny_pure hQ))

/-- the list at a, as it stands at each turn (a loop may append to it) -/
def Itl (K : PySem.W.Frag) (a : Addr) : It :=
  ⟨fun i H => ∃ xs x, SqL K H a xs ∧ xs[i]? = some x, fun i H x H' => H' = H ∧ ∀ xs, SqL K H a xs → xs[i]? = some x, fun i H => ∃ xs, SqL K H a xs ∧ xs.length ≤ i⟩
def Itt (K : PySem.W.Frag) (a : Addr) : It :=
  ⟨fun i H => ∃ xs x, SqT K H a xs ∧ xs[i]? = some x, fun i H x H' => H' = H ∧ ∀ xs, SqT K H a xs → xs[i]? = some x, fun i H => ∃ xs, SqT K H a xs ∧ xs.length ≤ i⟩
/-- lo, lo + 1, .. (n of them) -/
def Itr (lo : Int) (n : Nat) : It := ⟨fun i _ => i < n, fun i H x H' => H' = H ∧ x = .int (lo + i), fun i _ => n ≤ i⟩
theorem turn_list {P : Program} {w : World} {K : PySem.W.Frag} {tg : Expr} (a it : Addr) : Turn P w K tg (Itl K a) [it] it (fun i h => h.IsListIter it a i) where
  mem := by simp
  obj := fun i h st b hb => by
    have e : b = it := by simpa using hb
    subst e
    obtain ⟨o, e, c, d⟩ := st
    exact ⟨o, e, fun v z => by rw [d] at z; cases z⟩
  keep := fun i h h' st k => st.at fun o e => k it (by simp) o e
  item := by
    intro X hP hw hK hc i pins s σ H E I hf st hg
    subst hP hw hK
    obtain ⟨xs, x, hq, hx⟩ := hg
    obtain ⟨its, rv, p, hz⟩ := I.list hq
    obtain ⟨u, hu, ru⟩ := rv.get hx
    obtain ⟨f0, f1, f2, f3, f4, f5⟩ := hf it (by simp)
    refine wpAny_pyNext_list_item st p.isList (x := u) (by simpa using hu) fun h' st' sb => ?_
    have I1 : Inv X pins σ H { s with heap := h' } := I.turned (t' := s.toks) (fun b o hb e => (sb.2 b hb).trans e) f0 f1 f3 f4 f5
    obtain ⟨o, e, c, d⟩ := id st'
    exact ⟨u, rfl, go_of (s := { s with heap := h' }) e c d (by decide) ⟨x, H, I1, ru, ⟨rfl, fun ys hy => by rw [I.list_inj hy hq]; exact hx⟩, st', fun b hb => (hf b hb).1⟩⟩
  done := by
    intro X hP hw hK hc i pins s σ H E I hf st hg
    subst hP hw hK
    obtain ⟨xs, hq, hx⟩ := hg
    obtain ⟨its, rv, p, hz⟩ := I.list hq
    obtain ⟨f0, f1, f2, f3, f4, f5⟩ := hf it (by simp)
    have hl := rv.length
    exact wpAny_pyNext_list_end (I.ok.hd hc) st p.isList (by simp; omega) fun h' eb => ⟨rfl, I.turned (t' := s.toks) (fun b o hb e => eb b o hb e) f0 f1 f3 f4 f5⟩
  self := fun _ _ _ _ _ st h => wpAny_pyIter_listiter st h
theorem turn_tuple {P : Program} {w : World} {K : PySem.W.Frag} {tg : Expr} (a it : Addr) : Turn P w K tg (Itt K a) [it] it (fun i h => h.IsTupleIter it a i) where
  mem := by simp
  obj := fun i h st b hb => by
    have e : b = it := by simpa using hb
    subst e
    obtain ⟨o, e, c, d⟩ := st
    exact ⟨o, e, fun v z => by rw [d] at z; cases z⟩
  keep := fun i h h' st k => st.at fun o e => k it (by simp) o e
  item := by
    intro X hP hw hK hc i pins s σ H E I hf st hg
    subst hP hw hK
    obtain ⟨xs, x, hq, hx⟩ := hg
    obtain ⟨its, rv, p, hz⟩ := I.tuple hq
    obtain ⟨u, hu, ru⟩ := rv.get hx
    obtain ⟨f0, f1, f2, f3, f4, f5⟩ := hf it (by simp)
    refine wpAny_pyNext_tuple_item st (show s.heap.IsTuple a its.toArray from p) (x := u) (by simpa using hu) fun h' st' sb => ?_
    have I1 : Inv X pins σ H { s with heap := h' } := I.turned (t' := s.toks) (fun b o hb e => (sb.2 b hb).trans e) f0 f1 f3 f4 f5
    obtain ⟨o, e, c, d⟩ := id st'
    exact ⟨u, rfl, go_of (s := { s with heap := h' }) e c d (by decide) ⟨x, H, I1, ru, ⟨rfl, fun ys hy => by rw [I.tuple_inj hy hq]; exact hx⟩, st', fun b hb => (hf b hb).1⟩⟩
  done := by
    intro X hP hw hK hc i pins s σ H E I hf st hg
    subst hP hw hK
    obtain ⟨xs, hq, hx⟩ := hg
    obtain ⟨its, rv, p, hz⟩ := I.tuple hq
    obtain ⟨f0, f1, f2, f3, f4, f5⟩ := hf it (by simp)
    have hl := rv.length
    exact wpAny_pyNext_tuple_end (I.ok.hd hc) st (show s.heap.IsTuple a its.toArray from p) (by simp; omega) fun h' eb => ⟨rfl, I.turned (t' := s.toks) (fun b o hb e => eb b o hb e) f0 f1 f3 f4 f5⟩
  self := fun _ _ _ _ _ st h => wpAny_pyIter_tupleiter st h
theorem turn_range {P : Program} {w : World} {K : PySem.W.Frag} {tg : Expr} (it : Addr) (lo : Int) (n : Nat) : Turn P w K tg (Itr lo n) [it] it (fun i h => IsRangeIter h it (lo + (i : Nat) * 1) ((n : Int) - (i : Nat)) 1) where
  mem := by simp
  obj := fun i h st b hb => by
    have e : b = it := by simpa using hb
    subst e
    exact ⟨_, st, fun v z => by
      have z' : Data.fields _ = Data.cell v := z
      cases z'⟩
  keep := fun i h h' st k => k it (by simp) _ st
  item := by
    intro X hP hw hK hc i pins s σ H E I hf st hg
    subst hP hw hK
    obtain ⟨f0, f1, f2, f3, f4, f5⟩ := hf it (by simp)
    have W := Walks.range (prog := X.prog) (w := X.w) (I.ok.hd hc) it lo 1 n
    refine W.item i s _ _ hg st fun v h' tk hv st' kk => ?_
    obtain ⟨t, rfl⟩ := hv
    have I1 : Inv X pins σ H { s with heap := h', toks := tk } := I.turned (fun b o hb e => kk b o (by simpa using hb) e) f0 f1 f3 f4 f5
    refine ⟨_, rfl, go_of (s := { s with heap := h', toks := tk }) (n := "range_iterator") st' rfl rfl (by decide) ⟨.int (lo + i), H, I1, ⟨t, ?_⟩, ⟨rfl, rfl⟩, st', fun b hb => (hf b hb).1⟩⟩
    rw [Int.mul_one]
  done := by
    intro X hP hw hK hc i pins s σ H E I hf st hg
    subst hP hw hK
    obtain ⟨f0, f1, f2, f3, f4, f5⟩ := hf it (by simp)
    exact wpAny_pyNext_range_end (I.ok.hd hc) st (by have : n ≤ i := hg; omega) fun h' eb => ⟨rfl, I.turned (t' := s.toks) (fun b o hb e => eb b o hb e) f0 f1 f3 f4 f5⟩
  self := fun _ _ _ _ _ st h => wpAny_pyIter_rangeiter st h
end L2

namespace L2
open PySem PySem.Spec PyProof.Rows
section
variable {X : Cx} {tg : Expr}
def iList (K : PySem.W.Frag) (tl : TE) : TI := fun σ H R => tl σ H fun x H1 => ∃ a, x = .ref a ∧ (∃ xs, SqL K H1 a xs) ∧ R (Itl K a) H1
def iTup (K : PySem.W.Frag) (tl : TE) : TI := fun σ H R => tl σ H fun x H1 => ∃ a, x = .ref a ∧ (∃ xs, SqT K H1 a xs) ∧ R (Itt K a) H1
theorem pi_list {l : Expr} {tl : TE} (hl : PE X l tl) : PI X tg l (iList X.K tl) := by
  intro pins s σ H R I h
  refine thn (hl pins s σ H _ I h) fun v s1 ⟨x, H1, I1, r1, q1⟩ => ?_
  obtain ⟨a, e, ⟨xs, hq⟩, q⟩ := q1
  subst e
  cases r1
  obtain ⟨its, rv, p, hz⟩ := I1.list hq
  refine wpAny_pyIter_list p.isList ?_
  refine ⟨s1.heap.objs.size, [s1.heap.objs.size], _, _, H1, rfl, I1.kept (t' := s1.toks) fun b o e => Heap.get?_push_of_some _ e, turn_list a _, ⟨_, Heap.get?_push_size _ rfl, rfl, rfl⟩, fun b hb => ?_, q⟩
  have e : b = s1.heap.objs.size := by simpa using hb
  subst e
  exact I1.fpOk (Nat.le_refl _) (I1.hok.fresh (Nat.le_refl _))
theorem pi_tup {l : Expr} {tl : TE} (hl : PE X l tl) : PI X tg l (iTup X.K tl) := by
  intro pins s σ H R I h
  refine thn (hl pins s σ H _ I h) fun v s1 ⟨x, H1, I1, r1, q1⟩ => ?_
  obtain ⟨a, e, ⟨xs, hq⟩, q⟩ := q1
  subst e
  cases r1
  obtain ⟨its, rv, p, hz⟩ := I1.tuple hq
  refine wpAny_pyIter_tuple (show s1.heap.IsTuple a its.toArray from p) ?_
  refine ⟨s1.heap.objs.size, [s1.heap.objs.size], _, _, H1, rfl, I1.kept (t' := s1.toks) fun b o e => Heap.get?_push_of_some _ e, turn_tuple a _, ⟨_, Heap.get?_push_size _ rfl, rfl, rfl⟩, fun b hb => ?_, q⟩
  have e : b = s1.heap.objs.size := by simpa using hb
  subst e
  exact I1.fpOk (Nat.le_refl _) (I1.hok.fresh (Nat.le_refl _))
/-- a range object just made, walked -/
theorem range_it {pins : List (Addr × Obj)} {σ : St} {H : Hp} {s : Shared} {R : It → Hp → Prop} {E : Value → Shared → Prop} {lo hi : Int} {t u v : Tok} {tk : Nat} (I : Inv X pins σ H s) (h1 : -(2 ^ 62) ≤ lo) (h2 : lo < 2 ^ 62) (h3 : -(2 ^ 62) ≤ hi) (h4 : hi < 2 ^ 62)
    (q : R (Itr lo (hi - lo).toNat) H) : wpAny (model X.prog X.w) X.A (pyIter (.ref s.heap.objs.size)) (PIE X pins σ tg R) E { s with heap := s.heap.push { cls := .type "range", data := .fields #[.int lo t, .int hi u, .int 1 v] }, toks := tk } := by
  refine wpAny_pyIter_range (IsRange.new ..) (small_one h1 h2 h3 h4) ?_
  have I1 : Inv X pins σ H { s with heap := s.heap.push { cls := .type "range", data := .fields #[.int lo t, .int hi u, .int 1 v] }, toks := tk } := I.kept fun b o e => Heap.get?_push_of_some _ e
  refine ⟨(s.heap.push { cls := .type "range", data := .fields #[.int lo t, .int hi u, .int 1 v] }).objs.size, [(s.heap.push { cls := .type "range", data := .fields #[.int lo t, .int hi u, .int 1 v] }).objs.size], _, _, H, rfl,
    I1.kept (t' := tk) fun b o e => Heap.get?_push_of_some _ e, turn_range _ lo (hi - lo).toNat, ?_, fun b hb => ?_, q⟩
  · have e1 : lo + ((0 : Nat) : Int) * 1 = lo := by simp
    have e2 : (((hi - lo).toNat : Nat) : Int) - ((0 : Nat) : Int) = Builtin.Range.rangeSize lo hi 1 := by rw [rangeSize_one]; split <;> omega
    show IsRangeIter _ _ (lo + ((0 : Nat) : Int) * 1) ((((hi - lo).toNat : Nat) : Int) - ((0 : Nat) : Int)) 1
    rw [e1, e2]
    exact Heap.get?_push_size _ rfl
  · have e : b = (s.heap.push { cls := .type "range", data := .fields #[.int lo t, .int hi u, .int 1 v] }).objs.size := by simpa using hb
    subst e
    exact I1.fpOk (Nat.le_refl _) (I1.hok.fresh (Nat.le_refl _))
def iRng1 (ta : TA) : TI := fun σ H R => ta σ H fun vs H1 => ∃ j : Int, vs = [.int j] ∧ -(2 ^ 62) ≤ j ∧ j < 2 ^ 62 ∧ R (Itr 0 j.toNat) H1
theorem pi_range1 {a : Expr} {ta : TA} {p pos : Pos} (hg : Gl X "range") (hm : X.mg "range" = none) (ha : PA X [a] ta) (hs : starEach [a] X.env = [(false, eval a X.env)] := by rfl) : PI X tg (.Call (.Name "range" p) [a] [] pos) (iRng1 ta) := by
  intro pins s σ H R I h
  refine Call_ (ld_blt I hg hm boot_range (PyProof.Rows.callWith_type1 (thn (ha pos pins s σ H _ I h) fun us s1 ⟨vs, H1, I1, r1, q1⟩ => ?_) hs rfl))
  obtain ⟨j, e, q1, q2, q⟩ := q1
  subst e
  cases r1 with
  | cons r rr =>
    cases rr
    obtain ⟨t, rfl⟩ := r
    exact call_range_1 (range_it I1 (by omega) (by omega) q1 q2 (by simpa using q))

/-! ### for -/
/-- W: the invariant by the turn and a measure; N: what the body is to reach -/
def tFor (wi : TI) (g : TG) (tb : TS) : TS := fun D σ H => wi σ H fun J H1 => ∃ W : Nat → Nat → St → Hp → Prop, (∃ m, W 0 m σ H1) ∧ ∀ i m σ H, W i m σ H →
  (J.stop i H ∧ D.nx σ H) ∨ (J.go i H ∧ ∃ N : St → Hp → Prop, (∀ σ' H', N σ' H' → ∃ m', m' < m ∧ W (i + 1) m' σ' H') ∧ ∀ x H', J.yld i H x H' → g x σ H' fun σ2 H2 => tb { D with nx := N, ct := N, bk := D.nx } σ2 H2)
/-- the records at fp as they stand -/
def pinsAt (fp : List Addr) (h : Heap) : List (Addr × Obj) := fp.filterMap fun b => (h.get? b).map fun o => (b, o)
theorem mem_pinsAt {fp : List Addr} {h : Heap} {b : Addr} {o : Obj} (hb : b ∈ fp) (e : h.get? b = some o) : (b, o) ∈ pinsAt fp h := List.mem_filterMap.mpr ⟨b, hb, by rw [e]; rfl⟩
theorem of_pinsAt {fp : List Addr} {h : Heap} {p : Addr × Obj} (hp : p ∈ pinsAt fp h) : p.1 ∈ fp ∧ h.get? p.1 = some p.2 := by
  obtain ⟨b, hb, e⟩ := List.mem_filterMap.mp hp
  cases q : h.get? b with
  | none => rw [q] at e; cases e
  | some o =>
    rw [q] at e
    have e' : (b, o) = p := Option.some.inj e
    subst e'
    exact ⟨hb, q⟩
theorem Inv.pinned {pins : List (Addr × Obj)} {σ : St} {H : Hp} {s : Shared} {fp : List Addr} (I : Inv X pins σ H s) (hf : ∀ b ∈ fp, FpOk X pins H b) (ho : ∀ b ∈ fp, ∃ o, s.heap.get? b = some o ∧ ∀ v, o.data ≠ .cell v) : Inv X (pins ++ pinsAt fp s.heap) σ H s :=
  I.pins_of fun p hp => (List.mem_append.mp hp).elim (fun z => I.pin p (List.mem_append_right _ z)) fun z => by
    obtain ⟨hb, e⟩ := of_pinsAt z
    obtain ⟨f0, f1, f2, _⟩ := hf p.1 hb
    obtain ⟨o, e', d⟩ := ho p.1 hb
    rw [e] at e'; cases e'
    exact ⟨e, f0, f1, f2, d⟩
theorem Inv.unpinned {pins pl : List (Addr × Obj)} {σ : St} {H : Hp} {s : Shared} (I : Inv X (pins ++ pl) σ H s) : Inv X pins σ H s := I.pins_of fun p hp => I.pin p (List.mem_append_right _ (List.mem_append_left _ hp))
theorem ps_for {iter : Expr} {body : List Stmt} {wi : TI} {g : TG} {tb : TS} {pos : Pos} (hp : PassesOwn (model X.prog X.w) X.A X.env X.xe) (hc : X.calm = true) (hi : PI X tg iter wi) (hg : PG X tg g) (hb : PSs X body tb)
    (hs : ∀ x, foldedSetIterable iter X.env x = pure x := by intro _; rfl) : PS X (.For tg iter body [] pos) (tFor wi g tb) := by
  intro pins s σ H D I h
  refine wpAny_For (thn (hi pins s σ H _ I h) fun v s1 h1 => thn h1 fun itv s2 h2 => ?_) hs
  obtain ⟨it, fp, tn, J, H2, e, I2, T, st2, f2, W, ⟨m0, w0⟩, turn⟩ := h2
  subst e
  -- what stays true of the iterator's objects through the loop
  have stat : ∀ {H' : Hp}, (∀ b ∈ fp, H' b = none) → ∀ b ∈ fp, FpOk X pins H' b := fun hn b hb => ⟨hn b hb, (f2 b hb).2⟩
  refine codeAny_forLoop_any (fun n s' => ∃ i σ' H', Inv X pins σ' H' s' ∧ tn i s'.heap ∧ (∀ b ∈ fp, H' b = none) ∧ W i n σ' H') ?_ m0 ⟨0, σ, H2, I2, st2, fun b hb => (f2 b hb).1, w0⟩
  rintro n s3 ⟨i, σ3, H3, I3, st3, fr3, w3⟩
  rcases turn i n σ3 H3 w3 with ⟨stop, qn⟩ | ⟨go, N, hN, step⟩
  · refine wpAny_passesOwn hp (thn (T.done X rfl rfl rfl hc i pins s3 σ3 H3 X.xe I3 (stat fr3) st3 stop) fun r s4 ⟨hr, I4⟩ => ?_)
    subst hr
    exact wpAny_execs_nil ⟨σ3, H3, I4, qn⟩
  · refine wpAny_passesOwn hp (thn (T.item X rfl rfl rfl hc i pins s3 σ3 H3 X.xe I3 (stat fr3) st3 go) fun r s4 ⟨u, hr, h4⟩ => ?_)
    subst hr
    refine wpAny_passesOwn hp (thn h4 fun _ s5 ⟨x, H5, I5, r5, y5, st5, fr5⟩ => ?_)
    have I5' := I5.pinned (stat fr5) (T.obj _ _ st5)
    refine wpAny_passesOwn hp (thn (hg _ s5 σ3 H5 x u _ I5' r5 (step x H5 y5)) fun _ s6 ⟨σ6, H6, I6, q6⟩ => ?_)
    refine wpAny_passesOwn hp (thn (hb _ s6 σ6 H6 _ I6 q6) fun f s7 q7 => ?_)
    have again : ∀ {σ7 : St} {H7 : Hp}, Inv X (pins ++ pinsAt fp s5.heap) σ7 H7 s7 → N σ7 H7 → ∃ m, m < n ∧ ∃ i σ' H', Inv X pins σ' H' s7 ∧ tn i s7.heap ∧ (∀ b ∈ fp, H' b = none) ∧ W i m σ' H' := fun {σ7 H7} I7 n7 => by
      obtain ⟨m', hm, w7⟩ := hN σ7 H7 n7
      refine ⟨m', hm, i + 1, σ7, H7, I7.unpinned, T.keep _ _ _ st5 fun b hb o e => (I7.pin (b, o) (List.mem_append_right _ (List.mem_append_right _ (mem_pinsAt hb e)))).1, fun b hb => ?_, w7⟩
      obtain ⟨o, e, d⟩ := T.obj _ _ st5 b hb
      exact (I7.pin (b, o) (List.mem_append_right _ (List.mem_append_right _ (mem_pinsAt hb e)))).2.1
    cases f with
    | next => obtain ⟨σ7, H7, I7, n7⟩ := q7; exact again I7 n7
    | cont => obtain ⟨σ7, H7, I7, n7⟩ := q7; exact again I7 n7
    | brk => obtain ⟨σ7, H7, I7, q7⟩ := q7; exact ⟨σ7, H7, I7.unpinned, q7⟩
    | ret v => obtain ⟨x7, σ7, H7, I7, r7, q7⟩ := q7; exact ⟨x7, σ7, H7, I7.unpinned, r7, q7⟩
end

/-! ### the forms one uses -/
end L2

namespace L2
open PySem PySem.Spec PyProof.Rows

abbrev R2 := V → V → Hp → VK → Prop
/-- a two-place operation on values: f is binaryOp op, inplaceOp op or compareOp op -/
def OpR (X : Cx) (f : Value → Value → Sem Value) (r : R2) : Prop :=
  ∀ (pins : List (Addr × Obj)) (s : Shared) (σ : St) (H : Hp) (x y : V) (v u : Value) (Q : VK), Inv X pins σ H s → RelV x v → RelV y u → r x y H Q →
    wpAny (model X.prog X.w) X.A (f v u) (EP X pins σ Q) X.xe s
/-- a one-place operation -/
def UnR (X : Cx) (f : Value → Sem Value) (r : V → Hp → VK → Prop) : Prop :=
  ∀ (pins : List (Addr × Obj)) (s : Shared) (σ : St) (H : Hp) (x : V) (v : Value) (Q : VK), Inv X pins σ H s → RelV x v → r x H Q →
    wpAny (model X.prog X.w) X.A (f v) (EP X pins σ Q) X.xe s
/-- a call of a value that is known (a builtin, a type) with values -/
def CallR (X : Cx) (f : Value) (r : List V → Hp → VK → Prop) : Prop :=
  ∀ (pins : List (Addr × Obj)) (s : Shared) (σ : St) (H : Hp) (xs : List V) (us : List Value) (Q : VK), Inv X pins σ H s → Vals xs us → r xs H Q →
    wpAny (model X.prog X.w) X.A (call f us) (EP X pins σ Q) X.xe s

def tOp (r : R2) (ta tb : TE) : TE := fun σ H Q => ta σ H fun x H1 => tb σ H1 fun y H2 => r x y H2 Q
def tUn (r : V → Hp → VK → Prop) (ta : TE) : TE := fun σ H Q => ta σ H fun x H1 => r x H1 Q
/-- ints in, under C, and a value out -/
def rI (C : Int → Int → Prop) (g : Int → Int → V) : R2 := fun x y H Q => ∃ i j, x = .int i ∧ y = .int j ∧ C i j ∧ Q (g i j) H
def rI0 (g : Int → Int → V) : R2 := fun x y H Q => ∃ i j, x = .int i ∧ y = .int j ∧ Q (g i j) H
def rU (g : Int → V) : V → Hp → VK → Prop := fun x H Q => ∃ i, x = .int i ∧ Q (g i) H

section
variable {X : Cx} {a b c : Expr} {ta tb tc : TE} {pos : Pos}

theorem binT (ha : PE X a ta) (hb : PE X b tb) {pins : List (Addr × Obj)} {s : Shared} {σ : St} {H : Hp} {R : V → V → Hp → Prop} (I : Inv X pins σ H s)
    (h : ta σ H fun x H1 => tb σ H1 fun y H2 => R x y H2) {Q : Value → Shared → Prop} {f : Value → Value → Sem Value}
    (hf : ∀ v u s2 x y H2, Inv X pins σ H2 s2 → RelV x v → RelV y u → R x y H2 → wpAny (model X.prog X.w) X.A (f v u) Q X.xe s2) :
    wpAny (model X.prog X.w) X.A (eval a X.env) (fun v s₁ => wpAny (model X.prog X.w) X.A (eval b X.env) (fun u s₂ => wpAny (model X.prog X.w) X.A (f v u) Q X.xe s₂) X.xe s₁) X.xe s := by
  refine thn (ha pins s σ H _ I h) fun v s1 ⟨x, H1, I1, r1, q1⟩ => ?_
  refine thn (hb pins s1 σ H1 _ I1 q1) fun u s2 ⟨y, H2, I2, r2, q2⟩ => ?_
  exact hf v u s2 x y H2 I2 r1 r2 q2

theorem pe_op {op : Operator} {r : R2} (ho : OpR X (binaryOp op) r) (ha : PE X a ta) (hb : PE X b tb) : PE X (.BinOp a op b pos) (tOp r ta tb) := by
  intro pins s σ H Q I h
  exact wpAny_BinOp (binT ha hb I h fun v u s2 x y H2 I2 rx ry q => ho pins s2 σ H2 x y v u Q I2 rx ry q)
theorem pe_un {op : UnaryOp} {r : V → Hp → VK → Prop} (ho : UnR X (unaryOp op) r) (ha : PE X a ta) : PE X (.UnaryOp op a pos) (tUn r ta) := by
  intro pins s σ H Q I h
  exact UnaryOp_ (thn (ha pins s σ H _ I h) fun v s1 ⟨x, H1, I1, r1, q1⟩ => ho pins s1 σ H1 x v Q I1 r1 q1)

/-! ### ints -/
theorem opI {f : Value → Value → Sem Value} {C : Int → Int → Prop} {g : Int → Int → Int}
    (rule : ∀ (i j : Int) (t u : Tok) (s : Shared) (Q : Value → Shared → Prop) (E : Value → Shared → Prop), C i j → Q (.int (g i j) s.toks) { s with toks := s.toks + 1 } → wpAny (model X.prog X.w) X.A (f (.int i t) (.int j u)) Q E s) :
    OpR X f (rI C fun i j => .int (g i j)) := by
  intro pins s σ H x y v u Q I rx ry h
  obtain ⟨i, j, rfl, rfl, hc, q⟩ := h
  obtain ⟨t, rfl⟩ := rx
  obtain ⟨t', rfl⟩ := ry
  exact rule i j t t' s _ _ hc ⟨.int (g i j), H, I.tok _, ⟨_, rfl⟩, q⟩
theorem opI0 {f : Value → Value → Sem Value} {g : Int → Int → Int}
    (rule : ∀ (i j : Int) (t u : Tok) (s : Shared) (Q : Value → Shared → Prop) (E : Value → Shared → Prop), Q (.int (g i j) s.toks) { s with toks := s.toks + 1 } → wpAny (model X.prog X.w) X.A (f (.int i t) (.int j u)) Q E s) :
    OpR X f (rI0 fun i j => .int (g i j)) := by
  intro pins s σ H x y v u Q I rx ry h
  obtain ⟨i, j, rfl, rfl, q⟩ := h
  obtain ⟨t, rfl⟩ := rx
  obtain ⟨t', rfl⟩ := ry
  exact rule i j t t' s _ _ ⟨.int (g i j), H, I.tok _, ⟨_, rfl⟩, q⟩
theorem opB0 {f : Value → Value → Sem Value} {g : Int → Int → Bool}
    (rule : ∀ (i j : Int) (t u : Tok) (s : Shared) (Q : Value → Shared → Prop) (E : Value → Shared → Prop), Q (.bool (g i j)) s → wpAny (model X.prog X.w) X.A (f (.int i t) (.int j u)) Q E s) :
    OpR X f (rI0 fun i j => .bl (g i j)) := by
  intro pins s σ H x y v u Q I rx ry h
  obtain ⟨i, j, rfl, rfl, q⟩ := h
  obtain ⟨t, rfl⟩ := rx
  obtain ⟨t', rfl⟩ := ry
  exact rule i j t t' s _ _ ⟨.bl (g i j), H, I, rfl, q⟩

def CDiv (i j : Int) : Prop := 0 < j ∧ j < 1073741824
def CPow (i j : Int) : Prop := 0 ≤ j ∧ j ≤ 1000000 ∧ i.natAbs < 2 ^ 64
def CMul (i j : Int) : Prop := (-(2 ^ 64) < i ∧ i < 2 ^ 64) ∨ (-(2 ^ 64) < j ∧ j < 2 ^ 64)
theorem CMul.ok {i j : Int} (h : CMul i j) : IntMulOk i j := by
  rcases h with ⟨h1, h2⟩ | ⟨h1, h2⟩
  · exact .of_left (intBits_le_64 h1 h2)
  · exact .of_right (intBits_le_64 h1 h2)

theorem op_add : OpR X (binaryOp .Add) (rI0 fun i j => .int (i + j)) := opI0 fun _ _ _ _ _ _ _ q => add_int q
theorem op_sub : OpR X (binaryOp .Sub) (rI0 fun i j => .int (i - j)) := opI0 fun _ _ _ _ _ _ _ q => sub_int q
theorem op_mul : OpR X (binaryOp .Mult) (rI CMul fun i j => .int (i * j)) := opI fun _ _ _ _ _ _ _ hc q => mul_int q hc.ok
/-- // by a positive divisor -/
theorem op_fdiv : OpR X (binaryOp .FloorDiv) (rI CDiv fun i j => .int (i / j)) := opI fun i j _ _ _ _ _ hc q => by
  have h1 : (0 : Int) < j := hc.1
  have h2 : j < 1073741824 := hc.2
  exact floordiv_int (by omega) (by rw [Int.fdiv_eq_ediv_of_nonneg i (by omega)]; exact q) (.inl (PyProof.noPylong_small (by omega)))
/-- % by a positive divisor of any size -/
theorem op_mod : OpR X (binaryOp .Mod) (rI (fun _ j => 0 < j) fun i j => .int (i % j)) := opI fun i j _ _ _ _ _ hc q => by
  have h1 : (0 : Int) < j := hc
  exact mod_int' (by omega) (by rw [Int.fmod_eq_emod_of_nonneg i (by omega)]; exact q)
theorem op_pow : OpR X (binaryOp .Pow) (rI CPow fun i j => .int (i ^ j.toNat)) := opI fun _ _ _ _ _ _ _ hc q => pow_int_small hc.1 hc.2.1 hc.2.2 q


theorem unI {f : Value → Sem Value} {g : Int → Int}
    (rule : ∀ (i : Int) (t : Tok) (s : Shared) (Q : Value → Shared → Prop) (E : Value → Shared → Prop), Q (.int (g i) s.toks) { s with toks := s.toks + 1 } → wpAny (model X.prog X.w) X.A (f (.int i t)) Q E s) :
    UnR X f (rU fun i => .int (g i)) := by
  intro pins s σ H x v Q I rx h
  obtain ⟨i, rfl, q⟩ := h
  obtain ⟨t, rfl⟩ := rx
  exact rule i t s _ _ ⟨.int (g i), H, I.tok _, ⟨_, rfl⟩, q⟩
theorem un_neg : UnR X (unaryOp .USub) (rU fun i => .int (-i)) := unI fun _ _ _ _ _ q => neg_int q

/-! ### bools among ints: n += (a < b) -/
end

/-! ### comparisons -/
/-- the scalars that == tells apart as data does -/
def scal : V → V → Bool
  | .non, .non => true | .non, .int _ => true | .int _, .non => true | .non, .bl _ => true | .bl _, .non => true | .non, .str _ => true | .str _, .non => true
  | .int _, .int _ => true | .bl _, .bl _ => true | .str _, .str _ => true | .byt _, .byt _ => true
  | .int _, .str _ => true | .str _, .int _ => true | .bl _, .str _ => true | .str _, .bl _ => true
  | _, _ => false
def rEq : R2 := fun x y H Q => scal x y = true ∧ Q (.bl (decide (x = y))) H
def rNe : R2 := fun x y H Q => scal x y = true ∧ Q (.bl (!decide (x = y))) H

theorem dec_int {i j : Int} : decide (V.int i = V.int j) = (i == j) := by
  rw [Bool.eq_iff_iff]
  simp
theorem dec_bl {i j : Bool} : decide (V.bl i = V.bl j) = (i == j) := by
  rw [Bool.eq_iff_iff]
  simp
theorem dec_str {i j : Str} : decide (V.str i = V.str j) = (i == j) := by
  rw [Bool.eq_iff_iff]
  simp
theorem dec_byt {i j : Array UInt8} : decide (V.byt i = V.byt j) = (i.toList == j.toList) := by
  rw [Bool.eq_iff_iff]
  cases i
  cases j
  simp

section
variable {X : Cx} {a b c : Expr} {ta tb tc : TE} {pos : Pos}
theorem fin_bl {pins : List (Addr × Obj)} {σ : St} {H : Hp} {s : Shared} {Q : VK} {k k' : Bool} (I : Inv X pins σ H s) (q : Q (.bl k) H) (e : k = k') : EP X pins σ Q (.bool k') s := by
  subst e
  exact ⟨.bl k, H, I, rfl, q⟩
theorem op_eq : OpR X (compareOp .Eq) rEq := by
  intro pins s σ H x y v u Q I rx ry h
  obtain ⟨hs, q⟩ := h
  cases x with
  | non =>
    cases rx
    cases y with
    | non => cases ry; exact PySem.EqNone.eq_none_none (fin_bl I q (by simp))
    | bl j => cases ry; exact PySem.EqNone.eq_none_bool (fin_bl I q (by simp))
    | int j => obtain ⟨t', rfl⟩ := ry; exact PySem.EqNone.eq_none_int (fin_bl I q (by simp))
    | str j => obtain ⟨t', rfl⟩ := ry; exact PySem.EqNone.eq_none_str (fin_bl I q (by simp))
    | _ => exact absurd (show false = true from hs) Bool.false_ne_true
  | bl i =>
    cases rx
    cases y with
    | non => cases ry; exact PySem.EqNone.eq_bool_none (fin_bl I q (by simp))
    | bl j => cases ry; exact eq_bool (fin_bl I q dec_bl)
    | str j => obtain ⟨t', rfl⟩ := ry; exact PySem.EqMixed.eq_bool_str (fin_bl I q (by simp))
    | _ => exact absurd (show false = true from hs) Bool.false_ne_true
  | int i =>
    obtain ⟨t, rfl⟩ := rx
    cases y with
    | non => cases ry; exact PySem.EqNone.eq_int_none (fin_bl I q (by simp))
    | int j => obtain ⟨t', rfl⟩ := ry; exact eq_int (fin_bl I q dec_int)
    | str j => obtain ⟨t', rfl⟩ := ry; exact PySem.EqMixed.eq_int_str (fin_bl I q (by simp))
    | _ => exact absurd (show false = true from hs) Bool.false_ne_true
  | str i =>
    obtain ⟨t, rfl⟩ := rx
    cases y with
    | non => cases ry; exact PySem.EqNone.eq_str_none (fin_bl I q (by simp))
    | bl j => cases ry; exact PySem.EqMixed.eq_str_bool (fin_bl I q (by simp))
    | int j => obtain ⟨t', rfl⟩ := ry; exact PySem.EqMixed.eq_str_int (fin_bl I q (by simp))
    | str j => obtain ⟨t', rfl⟩ := ry; exact eq_str (fin_bl I q dec_str)
    | _ => exact absurd (show false = true from hs) Bool.false_ne_true
  | byt i =>
    obtain ⟨t, rfl⟩ := rx
    cases y with
    | byt j => obtain ⟨t', rfl⟩ := ry; exact PySem.W.eq_bytes (fin_bl I q dec_byt)
    | _ => exact absurd (show false = true from hs) Bool.false_ne_true
  | _ => cases y <;> exact absurd (show false = true from hs) Bool.false_ne_true
theorem op_ne : OpR X (compareOp .NotEq) rNe := by
  intro pins s σ H x y v u Q I rx ry h
  obtain ⟨hs, q⟩ := h
  cases x with
  | non =>
    cases rx
    cases y with
    | non => cases ry; exact PySem.EqNone.ne_none_none (fin_bl I q (by simp))
    | bl j => cases ry; exact PySem.EqNone.ne_none_bool (fin_bl I q (by simp))
    | int j => obtain ⟨t', rfl⟩ := ry; exact PySem.EqNone.ne_none_int (fin_bl I q (by simp))
    | str j => obtain ⟨t', rfl⟩ := ry; exact PySem.EqNone.ne_none_str (fin_bl I q (by simp))
    | _ => exact absurd (show false = true from hs) Bool.false_ne_true
  | bl i =>
    cases rx
    cases y with
    | non => cases ry; exact PySem.EqNone.ne_bool_none (fin_bl I q (by simp))
    | bl j => cases ry; exact ne_bool (fin_bl I q (congrArg not dec_bl))
    | str j => obtain ⟨t', rfl⟩ := ry; exact PySem.EqMixed.ne_bool_str (fin_bl I q (by simp))
    | _ => exact absurd (show false = true from hs) Bool.false_ne_true
  | int i =>
    obtain ⟨t, rfl⟩ := rx
    cases y with
    | non => cases ry; exact PySem.EqNone.ne_int_none (fin_bl I q (by simp))
    | int j => obtain ⟨t', rfl⟩ := ry; exact ne_int (fin_bl I q (congrArg not dec_int))
    | str j => obtain ⟨t', rfl⟩ := ry; exact PySem.EqMixed.ne_int_str (fin_bl I q (by simp))
    | _ => exact absurd (show false = true from hs) Bool.false_ne_true
  | str i =>
    obtain ⟨t, rfl⟩ := rx
    cases y with
    | non => cases ry; exact PySem.EqNone.ne_str_none (fin_bl I q (by simp))
    | bl j => cases ry; exact PySem.EqMixed.ne_str_bool (fin_bl I q (by simp))
    | int j => obtain ⟨t', rfl⟩ := ry; exact PySem.EqMixed.ne_str_int (fin_bl I q (by simp))
    | str j => obtain ⟨t', rfl⟩ := ry; exact ne_str (fin_bl I q (congrArg not dec_str))
    | _ => exact absurd (show false = true from hs) Bool.false_ne_true
  | byt i =>
    obtain ⟨t, rfl⟩ := rx
    cases y with
    | byt j => obtain ⟨t', rfl⟩ := ry; exact PySem.W.ne_bytes (fin_bl I q (congrArg not dec_byt))
    | _ => exact absurd (show false = true from hs) Bool.false_ne_true
  | _ => cases y <;> exact absurd (show false = true from hs) Bool.false_ne_true

theorem op_lt : OpR X (compareOp .Lt) (rI0 fun i j => .bl (decide (i < j))) := opB0 fun _ _ _ _ _ _ _ q => lt_int q
theorem op_le : OpR X (compareOp .LtE) (rI0 fun i j => .bl (decide (i ≤ j))) := opB0 fun _ _ _ _ _ _ _ q => le_int q
theorem op_gt : OpR X (compareOp .Gt) (rI0 fun i j => .bl (decide (j < i))) := opB0 fun _ _ _ _ _ _ _ q => gt_int q
/-- the one string within the other -/
theorem op_in_str : OpR X (compareOp .In) (fun x y H Q => ∃ i j, x = .str i ∧ y = .str j ∧ Q (.bl (!(Builtin.Str.occurrences j i 0 j.length 1).isEmpty)) H) := by
  intro pins s σ H x y v u Q I rx ry h
  obtain ⟨i, j, rfl, rfl, q⟩ := h
  obtain ⟨t, rfl⟩ := rx
  obtain ⟨t', rfl⟩ := ry
  exact in_str (fin_bl I q rfl)




theorem nomark (b : Expr) {op : CmpOp} (h : op ≠ .In := by decide) (h2 : op ≠ .NotIn := by decide) : behindInMarks op b = false := by
  have e1 : (op == CmpOp.In) = false := by cases op <;> first | rfl | exact absurd rfl h
  have e2 : (op == CmpOp.NotIn) = false := by cases op <;> first | rfl | exact absurd rfl h2
  cases b <;> simp [behindInMarks, e1, e2]
/-- a comparison as a value; hm: nomark b, or (for in, not in) by with_unfolding_all rfl -/
theorem pe_cmpR {op : CmpOp} {r : R2} (ho : OpR X (compareOp op) r) (ha : PE X a ta) (hb : PE X b tb) (hm : behindInMarks op b = false) : PE X (.Compare a [op] [b] pos) (tOp r ta tb) := by
  intro pins s σ H Q I h
  exact wpAny_Compare1 (binT ha hb I h fun v u s2 x y H2 I2 rx ry q => ho pins s2 σ H2 x y v u Q I2 rx ry q) hm
/-- a reading of a value as a test -/
def tTest (t : TE) : TT := fun σ H Q => t σ H fun x H' => ∃ k, x = .bl k ∧ Q k H'
theorem pt_cmpR {op : CmpOp} {r : R2} (ho : OpR X (compareOp op) r) (ha : PE X a ta) (hb : PE X b tb) (hm : behindInMarks op b = false) : PT X (.Compare a [op] [b] pos) (tTest (tOp r ta tb)) := by
  intro pins s σ H Q I h
  refine wpAny_isTrue_Compare1 (thn (ha pins s σ H _ I h) fun v s1 ⟨x, H1, I1, r1, q1⟩ => thn (hb pins s1 σ H1 _ I1 q1) fun u s2 ⟨y, H2, I2, r2, q2⟩ =>
    thn (ho pins s2 σ H2 x y v u _ I2 r1 r2 q2) fun c s3 ⟨z, H3, I3, r3, k, e, q3⟩ => ?_) hm
  subst e
  cases r3
  exact wpAny_truthy_bool ⟨H3, I3, q3⟩
/-- a op1 b op2 c -/
def tChain (r r' : R2) (ta tb tc : TE) : TE := fun σ H Q => ta σ H fun x H1 => tb σ H1 fun y H2 => r x y H2 fun z H3 => ∃ k, z = .bl k ∧
  (if k = true then tc σ H3 fun w' H4 => r' y w' H4 Q else Q (.bl false) H3)
theorem pe_chain {op op' : CmpOp} {r r' : R2} (ho : OpR X (compareOp op) r) (ho' : OpR X (compareOp op') r') (ha : PE X a ta) (hb : PE X b tb) (hc : PE X c tc)
    (hm : lastMarks [op, op'] [b, c] = false := by with_unfolding_all rfl) : PE X (.Compare a [op, op'] [b, c] pos) (tChain r r' ta tb tc) := by
  intro pins s σ H Q I h
  refine Compare_chain (thn (ha pins s σ H _ I h) fun v s1 ⟨x, H1, I1, r1, q1⟩ => chain_link (thn (hb pins s1 σ H1 _ I1 q1) fun u s2 ⟨y, H2, I2, r2, q2⟩ =>
    thn (ho pins s2 σ H2 x y v u _ I2 r1 r2 q2) fun d s3 ⟨z, H3, I3, r3, k, e, q3⟩ => ?_)) hm
  subst e
  cases r3
  refine wpAny_truthy_bool ?_
  cases k with
  | false => exact ite_ff ⟨.bl false, H3, I3, rfl, q3⟩
  | true => exact ite_tt (chain_last (thn (hc pins s3 σ H3 _ I3 q3) fun w' s4 ⟨z', H4, I4, r4, q4⟩ => ho' pins s4 σ H4 y z' u w' Q I4 r2 r4 q4))
theorem pt_chain {op op' : CmpOp} {r r' : R2} (ho : OpR X (compareOp op) r) (ho' : OpR X (compareOp op') r') (ha : PE X a ta) (hb : PE X b tb) (hc : PE X c tc)
    (hm : lastMarks [op, op'] [b, c] = false := by with_unfolding_all rfl) : PT X (.Compare a [op, op'] [b, c] pos) (tTest (tChain r r' ta tb tc)) := by
  intro pins s σ H Q I h
  refine isTrue_chain (thn (ha pins s σ H _ I h) fun v s1 ⟨x, H1, I1, r1, q1⟩ => test_link (thn (hb pins s1 σ H1 _ I1 q1) fun u s2 ⟨y, H2, I2, r2, q2⟩ =>
    thn (ho pins s2 σ H2 x y v u _ I2 r1 r2 q2) fun d s3 ⟨z, H3, I3, r3, k, e, q3⟩ => ?_)) hm
  subst e
  cases r3
  refine wpAny_truthy_bool ?_
  cases k with
  | false =>
    obtain ⟨k', e', q'⟩ := q3
    cases e'
    exact ite_ff ⟨H3, I3, q'⟩
  | true =>
    refine ite_tt (test_last (thn (hc pins s3 σ H3 _ I3 q3) fun w' s4 ⟨z', H4, I4, r4, q4⟩ => thn (ho' pins s4 σ H4 y z' u w' _ I4 r2 r4 q4) fun d' s5 ⟨z2, H5, I5, r5, k2, e2, q5⟩ => ?_))
    subst e2
    cases r5
    exact wpAny_truthy_bool ⟨H5, I5, q5⟩

/-! ### truth -/
theorem line63 : (sizeLine : Nat) < 2 ^ 63 := by rw [sizeLine_eq]; decide

/-! ### strs and bytes -/
theorem op_add_str : OpR X (binaryOp .Add) (fun x y H Q => ∃ i j, x = .str i ∧ y = .str j ∧ i.length + j.length ≤ sizeLine ∧ Q (.str (i ++ j)) H) := by
  intro pins s σ H x y v u Q I rx ry h
  obtain ⟨i, j, rfl, rfl, hz, q⟩ := h
  obtain ⟨t, rfl⟩ := rx
  obtain ⟨t', rfl⟩ := ry
  exact add_str (fun t' tk => ⟨.str (i ++ j), H, I.tok _, ⟨_, rfl⟩, q⟩) hz


/-! ### scalar builtins, by CallR -/
theorem vals1 {x : V} {us : List Value} (r : Vals [x] us) : ∃ u, us = [u] ∧ RelV x u := by
  cases r with
  | cons r1 r2 => cases r2; exact ⟨_, rfl, r1⟩
theorem vals2 {x y : V} {us : List Value} (r : Vals [x, y] us) : ∃ u w', us = [u, w'] ∧ RelV x u ∧ RelV y w' := by
  cases r with
  | cons r1 r2 =>
    cases r2 with
    | cons r3 r4 => cases r4; exact ⟨_, _, rfl, r1, r3⟩
theorem call_max2 (hc : X.calm = true) : CallR X (.builtin "max") (fun xs H Q => ∃ i j, xs = [.int i, .int j] ∧ Q (.int (if j > i then j else i)) H) := by
  intro pins s σ H xs us Q I r h
  obtain ⟨i, j, rfl, q⟩ := h
  obtain ⟨u, w', rfl, ⟨t, rfl⟩, ⟨t', rfl⟩⟩ := vals2 r
  refine max_two_ints (I.ok.hd hc) fun h' tk k => ⟨_, H, I.kept k, ?_, q⟩
  by_cases hj : j > i
  · rw [if_pos hj, if_pos hj]; exact ⟨_, rfl⟩
  · rw [if_neg hj, if_neg hj]; exact ⟨_, rfl⟩
theorem call_str_int : CallR X (.type "str") (fun xs H Q => ∃ i, xs = [.int i] ∧ i.natAbs.log2 < 1920 ∧ Q (.str (toString i)) H) := by
  intro pins s σ H xs us Q I r h
  obtain ⟨i, rfl, hz, q⟩ := h
  obtain ⟨u, rfl, t, rfl⟩ := vals1 r
  exact PySem.P.str_of_int hz ⟨.str _, H, I.tok _, ⟨_, rfl⟩, q⟩
end
end L2

namespace L2
open PySem PySem.Spec PyProof.Rows

/-! ### an instance, its attributes a map -/
structure ObjM (h : Heap) (x dx C : Addr) (mA : Str → Option Value) : Prop where
  obj : h.get? x = some (PySem.W.instObj C dx)
  ns : h.Ns1 dx mA
  ne : dx ≠ x

theorem lookIn_ns {h : Heap} {dx : Addr} {mA : Str → Option Value} (n : h.Ns1 dx mA) : ∃ od, h.get? dx = some od ∧ ∀ name, PySem.W.lookIn name od = some (mA name) := by
  obtain ⟨o, es, ep, ho, hd, hk, _, hm⟩ := n
  refine ⟨o, ho, fun name => ?_⟩
  have e := hm name
  unfold nsFind findBy at e
  rw [← Array.find?_toList] at e
  unfold PySem.W.lookIn
  rw [hd]
  dsimp only
  split
  · rename_i y q
    rw [q] at e
    exact congrArg some e
  · rename_i q
    rw [q] at e
    have a : es.toList.any (·.refKey) = false := by
      rw [List.any_eq_false]
      intro y hy
      obtain ⟨z, t, hkey⟩ := hk y (Array.mem_toList_iff.mp hy)
      simp [DictEntry.refKey, hkey]
    have a' : ¬ es.toList.any (·.refKey) = true := by rw [a]; exact Bool.false_ne_true
    rw [if_neg a']
    exact congrArg some e

theorem ObjM.look {h : Heap} {x dx C : Addr} {mA : Str → Option Value} (I : ObjM h x dx C mA) : ∃ od, PySem.W.InstAt h x (PySem.W.instObj C dx) C (some od) ∧ ∀ name, PySem.W.lookIn name od = some (mA name) :=
  let ⟨od, ho, hl⟩ := lookIn_ns I.ns
  ⟨od, ⟨I.obj, rfl, rfl, ho⟩, hl⟩

section
variable {prog : Program} {w : World} {A : Around} {E : Value → Shared → Prop} {s : Shared} {K : PySem.W.Frag} {x dx C f : Addr} {mA : Str → Option Value} {name : Str} {v : Value}





end

/-! ### the attributes as a list of pairs -/


section
variable {P : Program} {w : World} {H H' : Hp} {h h' : Heap} {a C dx : Addr} {fs fs' : List (Str × V)}
theorem ins_get (hok : HOk P w H h) (e : H a = some (.ins C dx fs)) : ∃ mA, ObjM h a dx C mA ∧ (∀ f, RelO (fs.lookup f) (mA f)) ∧ PySem.Within mA (fs.map (·.1)) ∧ fs.length ≤ 1000 ∧ H dx = some (.own a) := by
  obtain ⟨d, z, ne, ob, mA, n, r, q⟩ := (show ObjOk P w H h a (.ins C dx fs) from hok a _ e)
  exact ⟨mA, ⟨ob, n, ne⟩, r, q, z, d⟩
end

/-! ### what of the text a class must have -/
structure Cls (K : PySem.W.Frag) (C : Addr) : Prop where
  pg : PySem.W.plainGet K C Str.empty = true
  hd : PySem.W.hasDictIn K C = true
  po : PySem.W.plainOver K C = true
  sa : PySem.W.findIn K (.ref C) "__setattr__" = some (some (.builtin "object.__setattr__"))
theorem Cls.get {K : PySem.W.Frag} {C : Addr} (c : Cls K C) (f : Str) : PySem.W.plainGet K C f = true := c.pg

section
variable {X : Cx} {pins : List (Addr × Obj)} {σ : St} {H : Hp} {s : Shared} {a C dx : Addr} {fs : List (Str × V)} {f : Str} {v : V} {A : Around} {E : Value → Shared → Prop}






end

/-! ### readings and rules -/

section
variable {X : Cx} {o e value : Expr} {f : Str} {pos pos' tpos : Pos} {ta tv : TE}

end

/-! ### isinstance -/
section
variable {X : Cx} {pins : List (Addr × Obj)} {σ : St} {H : Hp} {s : Shared} {A : Around} {E : Value → Shared → Prop} {Q : Value → Shared → Prop} {c : Value} {b : Bool}
/-- the type of a value, as the fragment's deciders take it; for an instance its class -/
inductive TyOf (K : PySem.W.Frag) (H : Hp) : V → Value → Prop where
  | non : TyOf K H .non (.type "NoneType")
  | bl (x : Bool) : TyOf K H (.bl x) (.type "bool")
  | int (i : Int) : TyOf K H (.int i) (.type "int")
  | str (x : Str) : TyOf K H (.str x) (.type "str")
  | flt (x : UInt64) : TyOf K H (.flt x) (.type "float")
  | lst {a : Addr} {xs : List V} (e : H a = some (.lst xs)) : TyOf K H (.ref a) (.type "list")
  | frz {a : Addr} {o : Obj} {xs : List V} (e : H a = some (.frz o (.lst xs))) : TyOf K H (.ref a) (.type "list")
  | tup {a : Addr} {xs : List V} (e : H a = some (.tup xs)) : TyOf K H (.ref a) (.type "tuple")
  | dK {a : Addr} {kvs : List (Key × V)} (e : H a = some (.dK kvs)) : TyOf K H (.ref a) (.type "dict")
  | dT {a : Addr} {kvs : List (List Key × V)} (e : H a = some (.dT kvs)) : TyOf K H (.ref a) (.type "dict")
  | ins {a C dx : Addr} {fs : List (Str × V)} (e : H a = some (.ins C dx fs)) (cl : Cls K C) (ha : PySem.W.findIn K (.ref C) "__class__" = some (some (.builtin "object.__class__")))
      (hn : PySem.W.specialIn K (.builtin "object.__class__") "__get__" = some (some (.builtin "getset_descriptor.__get__"))) (htk : PySem.W.takesIn K (.builtin "object.__class__") = some true)
      (hm : PySem.W.mroIn K C (.type "object") = some true) : TyOf K H (.ref a) (.ref C)
/-- isinstance(x, c) for one class c, a built-in or an own one: kitOne's answer -/
theorem isinst_ok {x : V} {u t : Value} (I : Inv X pins σ H s) (rx : RelV x u) (ty : TyOf X.K H x t) (e : PySem.W.kitOne X.K t c = some b) (h : ∀ tk, Q (.bool b) { s with toks := tk }) :
    wpAny (model X.prog X.w) A (call (.builtin "isinstance") [u, c]) Q E s := by
  cases ty with
  | non => cases (show u = Value.none from rx); exact PySem.W.kia_one PySem.W.kitx_none I.kIn True.intro e (fun z => nomatch z) h
  | bl y => cases (show u = Value.bool y from rx); exact PySem.W.kia_one PySem.W.kitx_bool I.kIn True.intro e (fun z => nomatch z) h
  | int i => obtain ⟨t, q⟩ := (show ∃ t, u = Value.int i t from rx); cases q; exact PySem.W.kia_one PySem.W.kitx_int I.kIn True.intro e (fun z => nomatch z) h
  | str y => obtain ⟨t, q⟩ := (show ∃ t, u = Value.str y t from rx); cases q; exact PySem.W.kia_one PySem.W.kitx_str I.kIn True.intro e (fun z => nomatch z) h
  | flt y => obtain ⟨t, q⟩ := (show ∃ t, u = Value.float y t from rx); cases q; exact PySem.W.kia_one PySem.W.kitx_float I.kIn True.intro e (fun z => nomatch z) h
  | @lst a xs ea =>
    cases (show u = Value.ref a from rx)
    obtain ⟨_, _, n, _, h1⟩ := (show ObjOk X.prog X.w H s.heap a (.lst xs) from I.hok a _ ea)
    exact PySem.W.kia_one PySem.W.kitx_list I.kIn ⟨_, h1, rfl⟩ e (fun z => nomatch z) h
  | @frz a ob xs ea =>
    cases (show u = Value.ref a from rx)
    obtain ⟨_, _, _, n, _, h1⟩ := (show ObjOk X.prog X.w H s.heap a (.frz ob (.lst xs)) from I.hok a _ ea)
    exact PySem.W.kia_one PySem.W.kitx_list I.kIn ⟨_, h1, rfl⟩ e (fun z => nomatch z) h
  | @tup a xs ea =>
    cases (show u = Value.ref a from rx)
    obtain ⟨_, _, _, p⟩ := (show ObjOk X.prog X.w H s.heap a (.tup xs) from I.hok a _ ea)
    obtain ⟨o, h1, h2, _⟩ := p
    exact PySem.W.kia_one PySem.W.kitx_tuple I.kIn ⟨o, h1, h2⟩ e (fun z => nomatch z) h
  | @dK a kvs ea =>
    cases (show u = Value.ref a from rx)
    obtain ⟨_, _, vs, _, p⟩ := (show ObjOk X.prog X.w H s.heap a (.dK kvs) from I.hok a _ ea)
    obtain ⟨o, es, ep, h1, h2, _⟩ := p
    exact PySem.W.kia_one PySem.W.kitx_dict I.kIn ⟨o, h1, h2.1⟩ e (fun z => nomatch z) h
  | @dT a kvs ea =>
    cases (show u = Value.ref a from rx)
    obtain ⟨_, _, xs, _, o, es, ep, h1, h2, _⟩ := (show ObjOk X.prog X.w H s.heap a (.dT kvs) from I.hok a _ ea)
    exact PySem.W.kia_one PySem.W.kitx_dict I.kIn ⟨o, h1, h2.1⟩ e (fun z => nomatch z) h
  | @ins a C dx fs ea cl ha hn htk hm =>
    cases (show u = Value.ref a from rx)
    obtain ⟨mA, O, _⟩ := ins_get I.hok ea
    obtain ⟨od, J, _⟩ := O.look
    exact PySem.W.kia_one (PySem.W.kitx_own (cl.get _) cl.hd ha hn htk hm) I.kIn J e (fun z => nomatch z) h
end
end L2

namespace L2
open PySem PySem.Spec PyProof.Rows

/-! ### room -/
structure Room (k : Nat) (A : Around) : Prop where
  hd : A.handled = none
  dp : A.depth + 3 * k + 5 < recursionLimit
  un : A.units + 16 * k + 200 < cLine
theorem Room.mono {j k : Nat} {A : Around} (r : Room k A) (h : j ≤ k) : Room j A := ⟨r.hd, by have := r.dp; omega, by have := r.un; omega⟩
theorem Room.deeper {k : Nat} {A : Around} (r : Room (k + 1) A) (env : Env) : Room k (A.deeper env) :=
  ⟨r.hd, by have := r.dp; show A.depth + 1 + 3 * k + 5 < _; omega, by have := r.un; show A.units + 3 + 16 * k + 200 < _; omega⟩
theorem Room.depth {k : Nat} {A : Around} (r : Room k A) : A.depth < recursionLimit := by have := r.dp; omega
theorem Room.units {k : Nat} {A : Around} (r : Room k A) : A.units + 64 < cLine := by have := r.un; omega
theorem Room.units0 {k : Nat} {A : Around} (r : Room k A) : A.units < cLine := by have := r.un; omega

/-! ### argument lists and displays -/
def tNil : TA := fun _ H Q => Q [] H
def tCons (ta : TE) (tr : TA) : TA := fun σ H Q => ta σ H fun x H1 => tr σ H1 fun xs H2 => Q (x :: xs) H2
section
variable {X : Cx} {e : Expr} {es : List Expr} {te : TE} {t : TA} {pos : Pos}
theorem pa_nil : PA X [] tNil := fun _ _ _ _ H Q I h => Calls.spliced_nil ⟨[], H, I, .nil, h⟩
theorem pa_cons (ha : PE X e te) (hr : PA X es t) (hs : starEach (e :: es) X.env = (false, eval e X.env) :: starEach es X.env := by rfl) : PA X (e :: es) (tCons te t) := by
  intro pos pins s σ H Q I h
  rw [hs]
  show wpAny _ _ (spliced ((false, eval e X.env) :: backTo pos (starEach es X.env))) _ _ s
  refine Calls.spliced_cons (thn (ha pins s σ H _ I h) fun u s1 ⟨x, H1, I1, r1, q1⟩ => ?_)
  exact thn (hr pos pins s1 σ H1 _ I1 q1) fun us s2 ⟨xs, H2, I2, r2, q2⟩ => ⟨x :: xs, H2, I2, .cons r1 r2, q2⟩

/-- a tuple, a list of written items -/
def tTup (t : TA) : TE := fun σ H Q => t σ H fun xs H1 => xs.length ≤ sizeLine ∧ ∀ p, H1 p = none → Q (.ref p) (upd H1 p (.tup xs))
def tLst (t : TA) : TE := fun σ H Q => t σ H fun xs H1 => xs.length ≤ sizeLine ∧ ∀ p, H1 p = none → Q (.ref p) (upd H1 p (.lst xs))
theorem pe_tup {x1} (h : PA X es t) : PE X (.Tuple es x1 pos) (tTup t) := by
  intro pins s σ H Q I hq
  refine wpAny_Tuple_spliced (thn (h pos pins s σ H _ I hq) fun us s1 ⟨xs, H1, I1, r, z, q⟩ => ⟨by rw [← r.length]; exact z, ?_⟩)
  have hf : H1 s1.heap.objs.size = none := I1.hok.fresh (Nat.le_refl _)
  refine ⟨.ref s1.heap.objs.size, upd H1 s1.heap.objs.size (.tup xs), I1.laid (t' := s1.toks) (fun b u e => Heap.get?_push_of_some _ e) (Nat.le_refl _) ?_, rfl, q _ hf⟩
  exact ⟨z, us, r, ⟨_, Heap.get?_push_size _ rfl, rfl, _, rfl⟩⟩
theorem pe_lst (h : PA X es t) : PE X (.List es pos) (tLst t) := by
  intro pins s σ H Q I hq
  refine wpAny_List_spliced (thn (h pos pins s σ H _ I hq) fun us s1 ⟨xs, H1, I1, r, z, q⟩ => ⟨by rw [← r.length]; exact z, ?_⟩)
  have hf : H1 s1.heap.objs.size = none := I1.hok.fresh (Nat.le_refl _)
  refine ⟨.ref s1.heap.objs.size, upd H1 s1.heap.objs.size (.lst xs), I1.laid (t' := s1.toks) (fun b u e => Heap.get?_push_of_some _ e) (Nat.le_refl _) ?_, rfl, q _ hf⟩
  exact ⟨z, us, 0, r, Heap.get?_push_size _ rfl⟩
end

/-! ### what a def promises -/
/-- a def's promise: the bound arguments in the parameters' order, the heap, the wanted end, the wanted exception -/
abbrev Sp := List V → Hp → VK → XK → Prop
/-- how an exception lies behind a call (file 08 gives it): the callers' frames, abstract heap and state ahead of the call, the wish, the exception, the state -/
abbrev CXT := List Env → Hp → Shared → XK → Value → Shared → Prop

/-- the state at a call -/
structure Env0 (P : Program) (w : World) (K : PySem.W.Frag) (mg : Str → Option Value) (base : Heap) (A : Around) (outer : List Env) (s : Shared) (H : Hp) : Prop where
  frames : A.frames = some outer
  mod : Mod K mg base
  bs : ∀ b o, base.get? b = some o → s.heap.get? b = some o ∧ H b = none
  bsz : base.objs.size ≤ s.heap.objs.size
  funs : s.heap.FunFrames base outer
  frf : ∀ b ∈ frs outer, H b = none
  hok : HOk P w H s.heap
  bare : AllBare s.gens
/-- a call's end -/
def CE (outer : List Env) (P : Program) (w : World) (H : Hp) (s : Shared) (Q : VK) (u : Value) (s' : Shared) : Prop :=
  ∃ v H', s'.os = s.os ∧ AllBare s'.gens ∧ Un (frs outer) [] H H' s.heap s'.heap ∧ HOk P w H' s'.heap ∧ RelV v u ∧ Q v H'
def CR (CX : CXT) (outer : List Env) (P : Program) (w : World) (H : Hp) (s : Shared) (Q : VK) (E : XK) (r : Result) (s' : Shared) : Prop :=
  match r with
  | .ok (.ret u) => CE outer P w H s Q u s'
  | .ok _ => False
  | .error e => CX outer H s E e s'
structure FnOk (P : Program) (w : World) (K : PySem.W.Frag) (mg : Str → Option Value) (base : Heap) (CX : CXT) (k : Nat) (f : Addr) (fd : FuncData) (ps : List Str) (sp : Sp) : Prop where
  len : ∀ vs H Q E, sp vs H Q E → vs.length = ps.length
  run : ∀ (A : Around) (outer : List Env) (s : Shared) (H : Hp) (args : Args) (us : List Value) (vs : List V) (Q : VK) (E : XK), Room k A → Env0 P w K mg base A outer s H → BindsTo s fd args (ps.zip us) → Vals vs us → sp vs H Q E →
    codeAny (model P w) A (.call (.ref f) args) (CR CX outer P w H s Q E) s


section
variable {X : Cx} {pins : List (Addr × Obj)} {σ : St} {H : Hp} {s s' : Shared}
/-- from a body: what a callee wants -/
theorem Inv.env0 (I : Inv X pins σ H s) : Env0 X.prog X.w X.K X.mg X.base X.A X.stack s H :=
  ⟨I.ok.frames, I.ok.mod, I.bs, Nat.le_trans I.ok.bsz I.sz, I.stack, I.stkFree, I.hok, I.bare⟩
/-- behind a call -/
theorem Inv.after {Q : VK} {u : Value} (I : Inv X pins σ H s) (h : CE X.stack X.prog X.w H s Q u s') : EP X pins σ Q u s' := by
  obtain ⟨v, H', os, bare, un, hok, r, q⟩ := h
  obtain ⟨hh, g, d, t, os'⟩ := s'
  obtain rfl : os' = s.os := os
  exact ⟨v, H', I.call (h' := hh) (g' := g) (d' := d) (t' := t) (ch := []) un hok bare (fun b z => absurd z (by simp)), r, q⟩
end

/-! ### calls -/
/-- f(..): the written arguments, then the defaults dvs; E: what is wanted of an exception -/
def tCall (sp : Sp) (dvs : List V) (E : XK) (t : TA) : TE := fun σ H Q => t σ H fun vs H1 => sp (vs ++ dvs) H1 Q E

/-- how the parameters are bound: us the positional arguments, kw the keywords' values by name, ds the defaults that fill up -/
def Binds (K : PySem.W.Frag) (fd : FuncData) (ps : List Str) (ds : List Value) : Prop :=
  ∀ (s : Shared) (us : List Value), K.In s.heap → (us ++ ds).length = ps.length → BindsTo s fd ⟨us, []⟩ (ps.zip (us ++ ds))
/-- every parameter is given -/
theorem Binds.all {K : PySem.W.Frag} {fd : FuncData} {ps : List Str} (h : ∀ us : List Value, us.length = ps.length → bindArgs fd ⟨us, []⟩ = pure (ps.zip us)) : Binds K fd ps [] := fun s us _ hl => by
  rw [List.append_nil] at hl ⊢
  exact .of_eq (h us hl)

/-- an exception of a callee reaches what this body wants of exceptions -/
def Passes (CX : CXT) (X : Cx) (E : XK) : Prop := ∀ (pins : List (Addr × Obj)) (σ : St) (H : Hp) (s : Shared) (e : Value) (s' : Shared), Inv X pins σ H s → CX X.stack H s E e s' → X.xe e s'

section
variable {X : Cx} {CX : CXT} {k : Nat} {f C : Addr} {fd : FuncData} {ps : List Str} {sp : Sp} {dvs : List V} {ds : List Value} {E : XK} {x m : Str} {p pos apos : Pos} {e o : Expr} {es : List Expr} {ta : TE} {t : TA}

/-- the callee runs -/
theorem run_fn {pins : List (Addr × Obj)} {σ : St} {H : Hp} {s : Shared} {Q : VK} {us : List Value} {vs : List V} (F : FnOk X.prog X.w X.K X.mg X.base CX k f fd ps sp) (hr : Room k X.A) (hb : Binds X.K fd ps ds) (hd : Vals dvs ds) (hx : Passes CX X E)
    (I : Inv X pins σ H s) (r : Vals vs us) (h : sp (vs ++ dvs) H Q E) : wpAny (model X.prog X.w) X.A (call (.ref f) us) (EP X pins σ Q) X.xe s := by
  have r2 : Vals (vs ++ dvs) (us ++ ds) := r.append hd
  have hl : (us ++ ds).length = ps.length := by rw [← r2.length]; exact F.len _ _ _ _ h
  refine wpAny_call (codeAny_mono (F.run X.A X.stack s H ⟨us, []⟩ (us ++ ds) (vs ++ dvs) Q E hr I.env0 (hb s us I.kIn hl) r2 h) fun r s' hq => ?_)
  cases r with
  | error e => exact hx pins σ H s e s' I hq
  | ok fl =>
    cases fl with
    | ret u => exact I.after hq
    | next => exact False.elim hq
    | brk => exact False.elim hq
    | cont => exact False.elim hq

theorem pe_call (F : FnOk X.prog X.w X.K X.mg X.base CX k f fd ps sp) (hr : Room k X.A) (hg : Gl X x) (hm : X.mg x = some (.ref f)) (hk : PySem.W.keepIn X.K (.ref f) = true) (hb : Binds X.K fd ps ds) (hd : Vals dvs ds) (hx : Passes CX X E)
    (ha : PA X (e :: es) t) (hdb : (x == ("__debug__" : Str)) = false := by decide) (he : starEach (e :: es) X.env = (false, eval e X.env) :: starEach es X.env := by rfl) (hpl : (backTo pos (starEach es X.env)).any (·.1) = false := by rfl) :
    PE X (.Call (.Name x p) (e :: es) [] pos) (tCall sp dvs E t) := by
  intro pins s σ H Q I h
  refine wpAny_Call_Name_kw (ld_glob I hg hm ?_ hdb)
  refine PySem.W.callWith_K (h₀ := X.base) I.ok.mod.kin hk (thn (ha pos pins s σ H _ I h) fun us s1 ⟨vs, H1, I1, r, q⟩ => ⟨I1.kIn, ?_⟩) he hpl
  exact run_fn F hr hb hd hx I1 r q



end

/-! ### keywords -/
section
variable {X : Cx} {CX : CXT} {k : Nat} {f C : Addr} {fd : FuncData} {ps ks : List Str} {sp : Sp} {E : XK} {x m : Str} {p pos apos kpos : Pos} {e o : Expr} {es : List Expr} {kws : List Keyword} {te ta : TE} {t tk : TA} {nm : Option Str}

variable {g : List Value → List Value → List Value} {gV : List V → List V → List V}
end

/-! ### a def's body keeps its promise -/
/-- names: the parameters first -/
structure FnScope (N P : List Str) (sc : Scope) : Prop where
  kind : sc.kind = .function
  co : sc.isCoroutine = false
  gen : sc.isGenerator = false
  nd : N.Nodup
  pre : N.take P.length = P
  par : ∀ x ∈ P, sc.names.lookup x = some .local ∨ sc.names.lookup x = some .cell
  nofree : ∀ y ∈ sc.names, y.2 ≠ .free

theorem bindL_out {kindOf : Str → Option NameKind} {x : Str} : ∀ {binds : List (Str × Value)} {m : Str → Option Value}, (∀ v, (x, v) ∉ binds) → bindL kindOf binds m x = m x
  | [], _, _ => rfl
  | (n, v) :: r, m, h => by
    unfold bindL
    rw [bindL_out fun w hw => h w (List.mem_cons_of_mem _ hw)]
    split
    · have : x ≠ n := by rintro rfl; exact h v List.mem_cons_self
      simp [this]
    · rfl
theorem bindC_out {kindOf : Str → Option NameKind} {x : Str} : ∀ {binds : List (Str × Value)} {m : Str → Option Value}, (∀ v, (x, v) ∉ binds) → bindC kindOf binds m x = m x
  | [], _, _ => rfl
  | (n, v) :: r, m, h => by
    unfold bindC
    rw [bindC_out fun w hw => h w (List.mem_cons_of_mem _ hw)]
    split
    · rfl
    · have : x ≠ n := by rintro rfl; exact h v List.mem_cons_self
      simp [this]
theorem bindL_get {kindOf : Str → Option NameKind} {x : Str} {v : Value} : ∀ {P : List Str} {vs : List Value} {i : Nat} {m : Str → Option Value}, P.Nodup → P[i]? = some x → vs[i]? = some v → kindOf x = some .local →
    bindL kindOf (P.zip vs) m x = some v
  | [], _, _, _, _, h, _, _ => by simp at h
  | _ :: _, [], _, _, _, _, h, _ => by simp at h
  | p :: P, w :: vs, 0, m, nd, h1, h2, hk => by
    simp at h1 h2; subst h1; subst h2
    show bindL kindOf ((p, w) :: P.zip vs) m p = _
    unfold bindL
    rw [bindL_out fun v hv => (List.nodup_cons.mp nd).1 (List.of_mem_zip hv).1, if_pos hk]
    simp
  | p :: P, w :: vs, i + 1, m, nd, h1, h2, hk => by
    show bindL kindOf ((p, w) :: P.zip vs) m x = _
    unfold bindL
    exact bindL_get (i := i) (List.nodup_cons.mp nd).2 (by simpa using h1) (by simpa using h2) hk
theorem bindC_get {kindOf : Str → Option NameKind} {x : Str} {v : Value} : ∀ {P : List Str} {vs : List Value} {i : Nat} {m : Str → Option Value}, P.Nodup → P[i]? = some x → vs[i]? = some v → kindOf x ≠ some .local →
    bindC kindOf (P.zip vs) m x = some v
  | [], _, _, _, _, h, _, _ => by simp at h
  | _ :: _, [], _, _, _, _, h, _ => by simp at h
  | p :: P, w :: vs, 0, m, nd, h1, h2, hk => by
    simp at h1 h2; subst h1; subst h2
    show bindC kindOf ((p, w) :: P.zip vs) m p = _
    unfold bindC
    rw [bindC_out fun v hv => (List.nodup_cons.mp nd).1 (List.of_mem_zip hv).1, if_neg hk]
    simp
  | p :: P, w :: vs, i + 1, m, nd, h1, h2, hk => by
    show bindC kindOf ((p, w) :: P.zip vs) m x = _
    unfold bindC
    exact bindC_get (i := i) (List.nodup_cons.mp nd).2 (by simpa using h1) (by simpa using h2) hk

/-- the names' values at the entry -/
def start (N : List Str) (vs : List V) : St := vs.map some ++ List.replicate (N.length - vs.length) none

/-- the context of a def's body, at its entry; an exception leaves the frame, then lies as CX says -/
def cxOf (CX : CXT) (P : Program) (w : World) (K : PySem.W.Frag) (mg : Str → Option Value) (base : Heap) (N : List Str) (qual : Str) (scope : Scope) (f : Addr) (cd : Value) (A : Around) (outer : List Env) (s : Shared) (H : Hp) (E : XK) : Cx where
  prog := P
  w := w
  K := K
  mg := mg
  base := base
  A := A.deeper (envOfC qual scope s.heap.objs.size f cd)
  N := N
  s₀ := s
  H₀ := H
  env := envOfC qual scope s.heap.objs.size f cd
  outer := outer
  stack := envOfC qual scope s.heap.objs.size f cd :: outer
  ex := []
  calm := true
  fn := fun _ => true
  pn := []
  xe := fun e s' => wpAny (model P w) (A.deeper (envOfC qual scope s.heap.objs.size f cd)) (leaving (envOfC qual scope s.heap.objs.size f cd) e) (fun _ s'' => CX outer H s E e s'') (fun e' s'' => CX outer H s E e' s'') s'

theorem cell_has {sc : Scope} {n : Nat} {x : Str} (h : sc.names.lookup x = some .cell) : ∃ c, (cellsFrom n sc.names []).lookup x = some c := by
  have q := PySem.W.cellsFrom_some sc.names n [] (.inl h)
  exact Option.isSome_iff_exists.mp q

theorem inv_start {CX : CXT} {P : Program} {w : World} {K : PySem.W.Frag} {mg : Str → Option Value} {base : Heap} {N ps : List Str} {qual : Str} {scope : Scope} {f : Addr} {cd : Value} {A : Around} {outer : List Env} {s s1 : Shared} {H : Hp} {E : XK} {us : List Value} {vs : List V}
    (S : FnScope N ps scope) (hd : A.handled = none) (e0 : Env0 P w K mg base A outer s H) (hl : vs.length = ps.length) (r : Vals vs us)
    (x : InCallC s s.heap.objs.size (bindL (envOfC qual scope s.heap.objs.size f cd).kindOf (ps.zip us) fun _ => none) (cellsFrom (s.heap.objs.size + 1) scope.names []) (bindC (envOfC qual scope s.heap.objs.size f cd).kindOf (ps.zip us) fun _ => none) s1) :
    Inv (cxOf CX P w K mg base N qual scope f cd A outer s H E) [] (start N vs) H s1 := by
  have hpl : ps.length ≤ N.length := by have := congrArg List.length S.pre; rw [List.length_take] at this; omega
  obtain ⟨h1, tk, rfl, hk⟩ := x.done
  have noA : ∀ b : Addr, b ∉ (cxOf CX P w K mg base N qual scope f cd A outer s H E).ex := fun b z => absurd (show b ∈ ([] : List Addr) from z) (by simp)
  refine ⟨⟨e0.mod, S.kind, rfl, rfl, Nat.le_refl _, fun y z c h1 h2 => ?_, fun y hy => ?_, fun y c _ h => ?_, fun _ => hd, Around.frames_deeper e0.frames, .inr ⟨rfl, rfl⟩, fun b z => absurd z (noA b), e0.bs, e0.bsz, fun b _ _ => noA b, fun b z => absurd z (noA b), e0.funs, e0.frf⟩,
    rfl, e0.bare, Un.kept hk, ⟨_, x.toInCall.ns, fun i y v h1 h2 h3 => ?_⟩, fun y c h => ⟨_, x.cell y c h⟩, e0.hok.fresh (Nat.le_refl _), fun y c h => ?_, fun p hp => absurd (show p ∈ ([] : List (Addr × Obj)) from hp) (by simp), e0.hok.kept hk, ?_⟩
  · exact name_of_addr x.apart (PySem.mem_of_lookup h1) (PySem.mem_of_lookup h2)
  · have hy : scope.names.lookup y = some .cell ∨ scope.names.lookup y = some .free := hy
    rcases hy with hy | hy
    · exact cell_has hy
    · exact absurd rfl (S.nofree _ (PySem.mem_of_lookup hy))
  · exact Nat.le_of_lt (x.above y c (PySem.mem_of_lookup h))
  · have hi : i < vs.length := by
      unfold start at h2
      by_cases hi : i < vs.length
      · exact hi
      · rw [List.getElem?_append_right (by simpa using hi)] at h2
        rw [List.getElem?_replicate] at h2
        split at h2 <;> cases h2
    have ha : vs[i]? = some v := by
      unfold start at h2
      rw [List.getElem?_append_left (by simpa using hi), List.getElem?_map] at h2
      cases e : vs[i]? with
      | none => rw [e] at h2; cases h2
      | some a => rw [e] at h2; cases h2; rfl
    obtain ⟨u, hu, rv⟩ := r.get ha
    have hp : ps[i]? = some y := by
      rw [← S.pre, List.getElem?_take_of_lt (by omega)]; exact h1
    have ndP : ps.Nodup := by rw [← S.pre]; exact S.nd.sublist (List.take_sublist _ _)
    refine ⟨u, rv, ?_⟩
    rcases S.par y (List.mem_of_getElem? hp) with k | k
    · exact .inl ⟨k, bindL_get ndP hp hu k⟩
    · obtain ⟨c, e⟩ := cell_has (n := s.heap.objs.size + 1) k
      refine .inr ⟨.inl k, c, e, ?_⟩
      have q := x.cell y c e
      rw [bindC_get ndP hp hu (by show scope.names.lookup y ≠ _; rw [k]; decide)] at q
      exact q
  · exact e0.hok.fresh (Nat.le_of_lt (x.above y c (PySem.mem_of_lookup h)))
  · unfold start
    show _ = N.length
    rw [List.length_append, List.length_map, List.length_replicate]
    omega

/-- THE RULE: a def (or a method) of the text, by its body. The body's reading t is chosen for each entry; it is run at the parameters' values -/
theorem fn_of {CX : CXT} {P : Program} {w : World} {K : PySem.W.Frag} {mg : Str → Option Value} {base : Heap} {k : Nat} {f : Addr} {name qual : Str} {params : Arguments} {body : List Stmt} {scope : Scope} {dV kV doc pm cdv ct oc : Value} {an od : Option Addr}
    {osl : Array (Option Value)} {N ps : List Str} {sp : Sp} (lk : K.lookup f = some ⟨oc, od, .func (PySem.W.fnOf name qual params body scope dV kV doc pm an cdv ct), osl⟩) (hcd : PySem.W.codeIn K cdv qual = true) (S : FnScope N ps scope)
    (len : ∀ vs H Q E, sp vs H Q E → vs.length = ps.length)
    (hbody : ∀ (A : Around) (outer : List Env) (s : Shared) (H : Hp) (vs : List V) (Q : VK) (E : XK), Room k (A.deeper (envOfC qual scope s.heap.objs.size f cdv)) → sp vs H Q E →
      ∃ t, PSs (cxOf CX P w K mg base N qual scope f cdv A outer s H E) body t ∧ t { nx := fun _ H' => Q .non H', rt := Q } (start N vs) H) :
    FnOk P w K mg base CX (k + 1) f (PySem.W.fnOf name qual params body scope dV kV doc pm an cdv ct) ps sp := by
  refine ⟨len, fun A outer s H args us vs Q E hr e0 hb r hsp => ?_⟩
  have hl := len _ _ _ _ hsp
  have KX : K.In s.heap := e0.mod.kin.keeps fun b o e => (e0.bs b o e).1
  have lim : s.heap.NoLimit := e0.mod.nolimit.keeps fun b o e => (e0.bs b o e).1
  have hkind : ∀ y ∈ ps.zip us, scope.names.lookup y.1 = some .local ∨ (scope.names.lookup y.1 = some .cell ∧ ((cellsFrom (s.heap.objs.size + 1) scope.names []).lookup y.1).isSome = true) := fun ⟨n, v⟩ hy => by
    rcases S.par n (List.of_mem_zip hy).1 with q | q
    · exact .inl q
    · exact .inr ⟨q, PySem.W.cellsFrom_some _ _ _ (.inl q)⟩
  refine codeAny_call_function hr.depth (KX _ _ lk) rfl S.co S.gen rfl (PySem.W.codeRec_of KX hcd) (hb _ _ _ _ ?_)
  refine wpAny_newFunctionEnv_cells S.kind hkind fun env he s1 x => ?_
  subst he
  refine ⟨lim.keeps x.toInCall.keep, codeAny_func ?_⟩
  obtain ⟨t, ht, hq⟩ := hbody A outer s H vs Q E (hr.deeper _) hsp
  have I : Inv (cxOf CX P w K mg base N qual scope f cdv A outer s H E) [] (start N vs) H s1 := inv_start S hr.hd e0 hl r x
  refine wpAny_mono (ht [] s1 (start N vs) H _ I hq) (fun fl s' hs => ?_) fun e s' hs => hs
  have fin : ∀ {σ' : St} {H' : Hp} {v : V} {u : Value}, Inv (cxOf CX P w K mg base N qual scope f cdv A outer s H E) [] σ' H' s' → RelV v u → Q v H' → CE outer P w H s Q u s' :=
    fun {σ' H' v u} J rv q => ⟨v, H', J.os, J.bare, J.base, J.hok, rv, q⟩
  cases fl with
  | ret u =>
    obtain ⟨v, σ', H', J, rv, q⟩ := hs
    exact fin J rv q
  | next =>
    obtain ⟨σ', H', J, q⟩ := hs
    exact fin (v := V.non) (u := Value.none) J rfl q
  | brk =>
    obtain ⟨_, _, _, q⟩ := hs
    exact False.elim q
  | cont =>
    obtain ⟨_, _, _, q⟩ := hs
    exact False.elim q
end L2

namespace L2
open PySem PySem.Spec PyProof.Rows
section
variable {X : Cx} {x : Str} {p pos : Pos} {e : Expr} {es : List Expr} {t : TA} {id T : String} {r : List V → Hp → VK → Prop}

def tCB (r : List V → Hp → VK → Prop) (t : TA) : TE := fun σ H Q => t σ H fun vs H1 => r vs H1 Q
/-- f(e, ..), f a built-in function -/
theorem pe_callB (hc : CallR X (.builtin id) r) (hg : Gl X x) (hm : X.mg x = none) (hv : bootBuiltins x = some (.builtin id)) (ha : PA X (e :: es) t) (hn : x ≠ "__name__" := by decide) (hdb : (x == ("__debug__" : Str)) = false := by decide)
    (he : starEach (e :: es) X.env = (false, eval e X.env) :: starEach es X.env := by rfl) (hpl : (backTo pos (starEach es X.env)).any (·.1) = false := by rfl) : PE X (.Call (.Name x p) (e :: es) [] pos) (tCB r t) := by
  intro pins s σ H Q I h
  refine wpAny_Call_Name_kw (ld_blt I hg hm hv ?_ hn hdb)
  exact PyProof.Rows.callWith_builtin1 (thn (ha pos pins s σ H _ I h) fun us s1 ⟨vs, H1, I1, r1, q1⟩ => hc pins s1 σ H1 vs us Q I1 r1 q1) he hpl
/-- T(e, ..), T a built-in type -/
theorem pe_callTy (hc : CallR X (.type T) r) (hg : Gl X x) (hm : X.mg x = none) (hv : bootBuiltins x = some (.type T)) (ha : PA X (e :: es) t) (hn : x ≠ "__name__" := by decide) (hdb : (x == ("__debug__" : Str)) = false := by decide)
    (he : starEach (e :: es) X.env = (false, eval e X.env) :: starEach es X.env := by rfl) (hpl : (backTo pos (starEach es X.env)).any (·.1) = false := by rfl) : PE X (.Call (.Name x p) (e :: es) [] pos) (tCB r t) := by
  intro pins s σ H Q I h
  refine wpAny_Call_Name_kw (ld_blt I hg hm hv ?_ hn hdb)
  exact PyProof.Rows.callWith_type1 (thn (ha pos pins s σ H _ I h) fun us s1 ⟨vs, H1, I1, r1, q1⟩ => hc pins s1 σ H1 vs us Q I1 r1 q1) he hpl
end
end L2

namespace HT
open PySem PyProof.Rows



section
open PySem.SeqAt
open PySem.AutoSeq1 (wpAny_loadPart')
open PySem.MeetsSeq PySem.MeetsSeq2 PySem.MeetsSeq3

end

section
variable {prog : Program} {w : World} {A : Around} {E : Value → Shared → Prop} {s : Shared}



/-! ### t[a:b], not the whole -/
/-- a slice's bound as a place among n (d where it is left out) -/
def sIx (n d : Nat) : Option Int → Nat
  | none => d
  | some v => if v < 0 then (v + (n : Int)).toNat else min v.toNat n
theorem sIx_none (n d : Nat) : sIx n d none = d := rfl
theorem sIx_nat (n d k : Nat) : sIx n d (some (k : Int)) = min k n := by
  show (if (k : Int) < 0 then ((k : Int) + (n : Int)).toNat else min (k : Int).toNat n) = min k n
  rw [if_neg (by omega), Int.toNat_natCast]
theorem sIx_le (n d : Nat) (hd : d ≤ n) (o : Option Int) : sIx n d o ≤ n := by
  cases o with
  | none => exact hd
  | some v =>
    show (if v < 0 then (v + (n : Int)).toNat else min v.toNat n) ≤ n
    by_cases hv : v < 0
    · rw [if_pos hv]; omega
    · rw [if_neg hv]; exact Nat.min_le_right _ _
theorem clip_eq (v : Int) (n d : Nat) : (if v < 0 then max (v + (n : Int)) 0 else min v (n : Int)) = ((sIx n d (some v) : Nat) : Int) := by
  show (if v < 0 then max (v + (n : Int)) 0 else min v (n : Int)) = (((if v < 0 then (v + (n : Int)).toNat else min v.toNat n) : Nat) : Int)
  by_cases hv : v < 0
  · simp only [if_pos hv]; omega
  · simp only [if_neg hv]; omega
theorem adjust_gen (lo hi : Option Int) (n : Nat) : Builtin.Slice.sliceAdjust lo hi 1 (n : Int) = (((sIx n 0 lo : Nat) : Int), ((sIx n n hi : Nat) : Int)) := by
  have h1 : ¬ ((1 : Int) < 0) := by omega
  unfold Builtin.Slice.sliceAdjust
  simp only [h1, if_false]
  refine Prod.ext ?_ ?_
  · cases lo with
    | none => rfl
    | some v => exact clip_eq v n 0
  · cases hi with
    | none => rfl
    | some v => exact clip_eq v n n
theorem places_gen (i j : Nat) : Builtin.Slice.slicePlaces (i : Int) (j : Int) 1 = j - i := by
  unfold Builtin.Slice.slicePlaces
  have h1 : (1 : Int) > 0 := by omega
  simp only [h1, if_true, Int.ediv_one]
  split <;> omega
theorem slicePart_ {v : Value} {o : Option Int} {Q : Option Int → Shared → Prop} (p : IsPart v o) (h : Q o s) : wpAny (model prog w) A (Builtin.Slice.slicePartIndex v) Q E s := by
  cases p with
  | none => exact slicePart_none h
  | int i t => exact slicePart_int h
theorem sliceApplied_gen {sl : Addr} {vl vu : Value} {lo hi : Option Int} {n : Nat} {Q : Int × Int × Nat → Shared → Prop} (hs : s.heap.IsSliceOf sl vl vu .none) (pl : IsPart vl lo) (pu : IsPart vu hi)
    (h : Q (((sIx n 0 lo : Nat) : Int), 1, sIx n n hi - sIx n 0 lo) s) : wpAny (model prog w) A (Builtin.Slice.sliceApplied (.ref sl) (pure (n : Int))) Q E s := by
  obtain ⟨os, hos, hcs, hds⟩ := id hs
  unfold Builtin.Slice.sliceApplied Builtin.Slice.sliceFields
  refine wpAny_bind (wpAny_bind (wpAny_field hos hds (x := vl) rfl (wpAny_bind (wpAny_field hos hds (x := vu) rfl (wpAny_bind (wpAny_field hos hds (x := .none) rfl (wpAny_pure ?_)))))))
  refine wpAny_bind (slicePart_none ?_)
  show wpAny _ _ (if ((1 : Int) == 0) = true then _ else _) _ _ s
  rw [if_neg (by decide)]
  refine wpAny_bind (slicePart_ pl (wpAny_bind (slicePart_ pu (wpAny_bind (wpAny_pure ?_)))))
  show wpAny _ _ (match Builtin.Slice.sliceAdjust lo hi 1 (n : Int) with | (lo, hi) => pure (lo, (1 : Int), Builtin.Slice.slicePlaces lo hi 1)) _ _ s
  rw [adjust_gen lo hi n]
  show wpAny _ _ (pure (((sIx n 0 lo : Nat) : Int), (1 : Int), Builtin.Slice.slicePlaces ((sIx n 0 lo : Nat) : Int) ((sIx n n hi : Nat) : Int) 1)) _ _ s
  rw [places_gen]
  exact wpAny_pure h
theorem pick_gen (xs : Array Value) (i k : Nat) : ((List.range k).filterMap fun (m : Nat) => xs[((i : Int) + (m : Int) * 1).toNat]?).toArray = ((xs.toList.drop i).take k).toArray := by
  have e : (fun (m : Nat) => xs[((i : Int) + (m : Int) * 1).toNat]?) = fun m => xs[i + m]? := by
    funext m
    have : ((i : Int) + (m : Int) * 1).toNat = i + m := by omega
    rw [this]
  rw [e]
  have := pick_run xs i k
  rw [List.filterMap_map] at this
  have e2 : ((fun x => xs[x]?) ∘ fun x => i + x) = fun m => xs[i + m]? := rfl
  rw [e2] at this
  rw [this]

theorem getItem_tuple_cut {t sl : Addr} {items : Array Value} {vl vu : Value} {lo hi : Option Int} {Q : Value → Shared → Prop} (ht : IsTup s.heap t items) (hs : s.heap.IsSliceOf sl vl vu .none) (pl : IsPart vl lo) (pu : IsPart vu hi)
    (hw : ¬ (sIx items.size 0 lo = 0 ∧ sIx items.size items.size hi = items.size))
    (h : Q (.ref s.heap.objs.size) { s with heap := s.heap.push { cls := .type "tuple", data := .seq ((items.toList.drop (sIx items.size 0 lo)).take (sIx items.size items.size hi - sIx items.size 0 lo)).toArray } })
    (hsz : items.size ≤ sizeLine) : wpAny (model prog w) A (getItem (.ref t) (.ref sl)) Q E s := by
  have htake : sizeOk (.seq ((items.toList.drop (sIx items.size 0 lo)).take (sIx items.size items.size hi - sIx items.size 0 lo)).toArray) := by
    show ((items.toList.drop (sIx items.size 0 lo)).take (sIx items.size items.size hi - sIx items.size 0 lo)).toArray.size ≤ sizeLine
    rw [List.size_toArray, List.length_take, List.length_drop, Array.length_toList]
    omega
  have hj : sIx items.size items.size hi ≤ items.size := sIx_le _ _ (Nat.le_refl _) hi
  obtain ⟨os, hos, hcs, hds⟩ := id hs
  have hTs : s.TypeIs (.ref sl) "slice" := ⟨os, hos, hcs⟩
  unfold getItem
  try with_reducible refine wpAny_holding ?_
  first | refine wpAny_bind (wpAny_pure ?_) | skip
  refine wpAny_bind (wpAny_sequenceKey ht.typeIs (by decide) ?_)
  refine wpAny_bind (wpAny_callSpecial?_slot (name := Str.ofString "__getitem__") ht.typeIs PyProof.Rows.slot_tuple_getitem
    (wpAny_call_entry PyProof.Rows.slot_tuple_getitem ht.typeIs entry_tuple_getitem ?_ (args_tuple_getitem _ _)))
  show wpAny _ _ (Builtin.Tuple.tupleItemsOf (.ref t) >>= _) _ _ s
  refine wpAny_bind (tupleItemsOf_ ht ?_)
  refine wpAny_bind (wpAny_typeOf hTs ?_)
  rw [if_pos (by decide)]
  refine wpAny_bind (sliceApplied_gen hs pl pu ?_)
  have hno : ¬ ((((sIx items.size 0 lo : Nat) : Int) == 0 && (1 : Int) == 1 && (sIx items.size items.size hi - sIx items.size 0 lo) == items.size) = true) := by
    intro q
    rw [Bool.and_eq_true, Bool.and_eq_true] at q
    have q1 : ((sIx items.size 0 lo : Nat) : Int) = 0 := eq_of_beq q.1.1
    have q2 : sIx items.size items.size hi - sIx items.size 0 lo = items.size := eq_of_beq q.2
    exact hw ⟨by omega, by omega⟩
  show wpAny _ _ (if (((sIx items.size 0 lo : Nat) : Int) == 0 && (1 : Int) == 1 && (sIx items.size items.size hi - sIx items.size 0 lo) == items.size) = true then _ else _) _ _ s
  rw [if_neg hno, pick_gen]
  first
    | exact wpAny_bind (m := Builtin.Tuple.tupleExact _) (wpAny_newObj_type (wpAny_pure ⟨_, rfl, wpAny_pure h⟩) htake)
    | exact wpAny_bind (m := Builtin.Tuple.tupleExact _) (wpAny_newObj_type (wpAny_bind (wpAny_pure (wpAny_pure ⟨_, rfl, wpAny_pure h⟩))) htake)
    | exact wpAny_bind (wpAny_bind (m := Builtin.Tuple.tupleExact _) (wpAny_newObj_type (wpAny_pure (wpAny_pure ⟨_, rfl, wpAny_pure h⟩)) htake))
    | exact wpAny_bind (wpAny_bind (m := Builtin.Tuple.tupleExact _) (wpAny_newObj_type (wpAny_pure ⟨_, rfl, wpAny_pure h⟩) htake))
end
end HT

namespace L2
open PySem PySem.Spec PyProof.Rows

/-! ### the parts of a slice -/
abbrev TO := St → Hp → (Option Int → Hp → Prop) → Prop
/-- a slice's part (left out, or an int) -/
def PO (X : Cx) (e : Option Expr) (t : TO) : Prop :=
  ∀ (pins : List (Addr × Obj)) (s : Shared) (σ : St) (H : Hp) (Q : Option Int → Hp → Prop), Inv X pins σ H s → t σ H Q →
    wpAny (model X.prog X.w) X.A (evalPart e X.env) (fun u s' => ∃ o H', Inv X pins σ H' s' ∧ IsPart u o ∧ Q o H') X.xe s
def tNoPart : TO := fun _ H Q => Q none H
def tPart (t : TE) : TO := fun σ H Q => t σ H fun x H1 => ∃ i, x = .int i ∧ Q (some i) H1

theorem intsAre_of {ns : List Int} : ∀ {us : List Value}, Vals (ns.map V.int) us → IntsAre us ns := by
  induction ns with
  | nil => intro us r; rw [List.map_nil] at r; cases r; exact .nil
  | cons n ns ih =>
    intro us r
    rw [List.map_cons] at r
    cases r with
    | cons r1 r2 =>
      obtain ⟨t, e⟩ := r1
      subst e
      exact .cons n t (ih r2)

section
variable {X : Cx} {e : Expr} {te : TE} {lo hi : Option Expr} {tl th : TO} {pos p2 : Pos}

theorem po_none : PO X none tNoPart := by
  intro pins s σ H Q I h
  rw [evalPart_none]
  exact wpAny_pure ⟨none, H, I, .none, h⟩
theorem po_some (h : PE X e te) : PO X (some e) (tPart te) := by
  intro pins s σ H Q I hw
  rw [evalPart_some]
  refine thn (h pins s σ H _ I hw) fun u s1 ⟨x, H1, I1, r1, q1⟩ => ?_
  obtain ⟨i, rfl, q⟩ := q1
  obtain ⟨t, rfl⟩ := r1
  exact ⟨some i, H1, I1, .int i t, q⟩

/-- what a slice of a value is, by values: the slice object stands at sl -/
def SlR (X : Cx) (r : V → Option Int → Option Int → Hp → VK → Prop) : Prop :=
  ∀ (pins : List (Addr × Obj)) (s : Shared) (σ : St) (H : Hp) (x : V) (v vl vu : Value) (lo hi : Option Int) (sl : Addr) (Q : VK), Inv X pins σ H s → RelV x v → s.heap.IsSliceOf sl vl vu .none → IsPart vl lo → IsPart vu hi → r x lo hi H Q →
    ∃ T id, typeLookup (.type T) "__getitem__" = pure (some (.builtin id)) ∧ s.TypeIs v T ∧ wpAny (model X.prog X.w) X.A (getItem v (.ref sl)) (EP X pins σ Q) X.xe s
def tSl (r : V → Option Int → Option Int → Hp → VK → Prop) (te : TE) (tl th : TO) : TE := fun σ H Q => te σ H fun x H1 => tl σ H1 fun l H2 => th σ H2 fun u H3 => r x l u H3 Q
/-- a[lo:hi], any a -/
theorem pe_slice {r : V → Option Int → Option Int → Hp → VK → Prop} (hr : SlR X r) (he : PE X e te) (hl : PO X lo tl) (hu : PO X hi th) : PE X (.Subscript e (.Slice lo hi none p2) pos) (tSl r te tl th) := by
  intro pins s σ H Q I h
  refine Subscript_ (thn (he pins s σ H _ I h) fun v s1 ⟨x, H1, I1, r1, q1⟩ => ?_)
  refine wpAny_Slice (thn (hl pins s1 σ H1 _ I1 q1) fun vl s2 ⟨l, H2, I2, pl, q2⟩ => thn (hu pins s2 σ H2 _ I2 q2) fun vu s3 ⟨u, H3, I3, pu, q3⟩ => ?_)
  rw [evalPart_none]
  refine wpAny_pure ?_
  have I4 : Inv X pins σ H3 { s3 with heap := s3.heap.push { cls := .type "slice", data := .fields #[vl, vu, .none] } } := I3.kept (t' := s3.toks) fun b ob q => Heap.get?_push_of_some _ q
  obtain ⟨T, id, hT, ht, hg⟩ := hr pins { s3 with heap := s3.heap.push { cls := .type "slice", data := .fields #[vl, vu, .none] } } σ H3 x v vl vu l u s3.heap.objs.size Q I4 r1 (Heap.IsSliceOf.new ..) pl pu q3
  show wpAny (model X.prog X.w) X.A (subscriptTail e (.Slice lo hi none p2) v (.ref s3.heap.objs.size)) (EP X pins σ Q) X.xe { s3 with heap := s3.heap.push { cls := .type "slice", data := .fields #[vl, vu, .none] } }
  exact tail_any (ops := [.ref s3.heap.objs.size, v]) ht hT hg (by with_unfolding_all rfl)

/-- the items of xs[lo:hi] -/
def cutV (xs : List V) (lo hi : Option Int) : List V := (xs.drop (HT.sIx xs.length 0 lo)).take (HT.sIx xs.length xs.length hi - HT.sIx xs.length 0 lo)
theorem cutV_length (xs : List V) (lo hi : Option Int) : (cutV xs lo hi).length ≤ xs.length := by
  unfold cutV
  rw [List.length_take, List.length_drop]
  omega
/-- t[lo:hi], not the whole of it (the whole would be t itself) -/
def rSlT (K : PySem.W.Frag) : V → Option Int → Option Int → Hp → VK → Prop := fun x lo hi H Q => ∃ a xs, x = .ref a ∧ SqT K H a xs ∧
  ¬ (HT.sIx xs.length 0 lo = 0 ∧ HT.sIx xs.length xs.length hi = xs.length) ∧ ∀ p, H p = none → Q (.ref p) (upd H p (.tup (cutV xs lo hi)))
theorem sl_tup : SlR X (rSlT X.K) := by
  intro pins s σ H x v vl vu lo hi sl Q I rx hs pl pu h
  obtain ⟨a, xs, rfl, hx, hw, q⟩ := h
  cases rx
  obtain ⟨its, r, ht, hz⟩ := I.tuple hx
  have hlen : its.toArray.size = xs.length := by rw [List.size_toArray]; exact r.length.symm
  refine ⟨"tuple", _, PyProof.Rows.slot_tuple_getitem.lookup, ht.typeIs, ?_⟩
  refine HT.getItem_tuple_cut ht hs pl pu (by rw [hlen]; exact hw) ?_ (by rw [hlen]; exact hz)
  rw [hlen]
  refine ⟨.ref s.heap.objs.size, _, I.laid (t' := s.toks) (o := .tup (cutV xs lo hi)) (fun b ob q => Heap.get?_push_of_some _ q) (Nat.le_refl _) ?_, rfl, q _ (I.hok.fresh (Nat.le_refl _))⟩
  exact ⟨Nat.le_trans (cutV_length xs lo hi) hz, _, (r.drop (HT.sIx xs.length 0 lo)).take (HT.sIx xs.length xs.length hi - HT.sIx xs.length 0 lo), IsTup.new _ _⟩

/-! ### t < u, t + u -/
end
end L2

namespace L2
open PySem PySem.Spec PyProof.Rows

/-! ### places -/
/-- the place that an index of any sign means -/
def ixN (n : Nat) (i : Int) : Option Nat := if 0 ≤ i then (if i < n then some i.toNat else none) else if -(n : Int) ≤ i then some (i + n).toNat else none
def atI {α : Type} (xs : List α) (i : Int) : Option α := (ixN xs.length i).bind fun j => xs[j]?
theorem ixN_seq {n : Nat} {i : Int} {j : Nat} (h : ixN n i = some j) : seqIndex? i n = some j ∧ j < n ∧ -(n : Int) ≤ i ∧ i < n := by
  unfold ixN at h
  by_cases h0 : 0 ≤ i
  · rw [if_pos h0] at h
    by_cases h1 : i < n
    · rw [if_pos h1] at h
      have e : i.toNat = j := Option.some.inj h
      exact ⟨by rw [seqIndex_of h0 h1, e], by omega, by omega, h1⟩
    · rw [if_neg h1] at h; cases h
  · rw [if_neg h0] at h
    by_cases h1 : -(n : Int) ≤ i
    · rw [if_pos h1] at h
      have e : (i + n).toNat = j := Option.some.inj h
      exact ⟨by rw [seqIndex_neg (by omega) h1, e], by omega, h1, by omega⟩
    · rw [if_neg h1] at h; cases h
theorem atI_get {α : Type} {xs : List α} {i : Int} {v : α} (h : atI xs i = some v) : ∃ j, seqIndex? i xs.length = some j ∧ xs[j]? = some v ∧ j < xs.length ∧ -(xs.length : Int) ≤ i ∧ i < xs.length := by
  unfold atI at h
  cases e : ixN xs.length i with
  | none => rw [e] at h; cases h
  | some j =>
    rw [e] at h
    obtain ⟨h1, h2, h3, h4⟩ := ixN_seq e
    exact ⟨j, h1, h, h2, h3, h4⟩
theorem atI_nat {α : Type} {xs : List α} {j : Nat} {v : α} (h : xs[j]? = some v) : atI xs (j : Int) = some v := by
  have hj : j < xs.length := (List.getElem?_eq_some_iff.mp h).1
  have e : ixN xs.length (j : Int) = some j := by
    unfold ixN
    rw [if_pos (by omega), if_pos (by omega)]; simp
  unfold atI; rw [e]; exact h
theorem atI_last {α : Type} (xs : List α) (v : α) : atI (xs ++ [v]) (-1) = some v := by
  have hl : (xs ++ [v]).length = xs.length + 1 := by simp
  have e : ixN (xs ++ [v]).length (-1) = some xs.length := by
    unfold ixN
    rw [hl, if_neg (by decide), if_pos (by omega)]
    congr 1
    omega
  unfold atI
  rw [e]
  show (xs ++ [v])[xs.length]? = some v
  simp

/-! ### what may be subscripted -/
/-- what stands as an index of a plain subscript -/
def PlainIx (b : Expr) : Prop := ∀ o i, subscripted b false o i = operate [o, i] (getItem o i)
/-- a subscript by values -/
def IxR (X : Cx) (r : R2) : Prop :=
  ∀ (value slice : Expr) (pins : List (Addr × Obj)) (s : Shared) (σ : St) (H : Hp) (x y : V) (v u : Value) (Q : VK), Inv X pins σ H s → RelV x v → RelV y u → r x y H Q →
    subscripted slice false v u = operate [v, u] (getItem v u) → wpAny (model X.prog X.w) X.A (subscriptTail value slice v u) (EP X pins σ Q) X.xe s
/-- a call of a builtin's method by values: the receiver, the arguments -/
def MtR (X : Cx) (id : String) (r : V → List V → Hp → VK → Prop) : Prop :=
  ∀ (pins : List (Addr × Obj)) (s : Shared) (σ : St) (H : Hp) (x : V) (xs : List V) (v : Value) (us : List Value) (Q : VK), Inv X pins σ H s → RelV x v → Vals xs us → r x xs H Q →
    wpAny (model X.prog X.w) X.A (call (.builtin id) (v :: us)) (EP X pins σ Q) X.xe s
section
variable {X : Cx} {a b : Expr} {ta tb : TE} {pos : Pos}
/-- a[b] -/
theorem pe_ix {r : R2} (hr : IxR X r) (ha : PE X a ta) (hb : PE X b tb) (hs : PlainIx b) : PE X (.Subscript a b pos) (tOp r ta tb) := by
  intro pins s σ H Q I h
  exact Subscript_ (binT ha hb I h fun v u s2 x y H2 I2 rx ry q => hr a b pins s2 σ H2 x y v u Q I2 rx ry q (hs _ _))

def rIxL (K : PySem.W.Frag) : R2 := fun x y H Q => ∃ p xs i v, x = .ref p ∧ y = .int i ∧ SqL K H p xs ∧ atI xs i = some v ∧ Q v H
def rIxT (K : PySem.W.Frag) : R2 := fun x y H Q => ∃ p xs i v, x = .ref p ∧ y = .int i ∧ SqT K H p xs ∧ atI xs i = some v ∧ Q v H
def rIxS : R2 := fun x y H Q => ∃ z i c, x = .str z ∧ y = .int i ∧ z.length ≤ sizeLine ∧ atI z.cps.toList i = some c ∧ Q (.str ⟨#[c]⟩) H
theorem ix_list : IxR X (rIxL X.K) := by
  intro value slice pins s σ H x y v u Q I rx ry h hs
  obtain ⟨p, xs, i, z, rfl, rfl, hq, he, q⟩ := h
  cases rx
  obtain ⟨t, rfl⟩ := ry
  obtain ⟨its, r, pl, hz⟩ := I.list hq
  obtain ⟨j, h1, h2, h3, h4, h5⟩ := atI_get he
  obtain ⟨w, ew, rw'⟩ := r.get h2
  have hl := r.length
  have hn := line63
  have fin : EP X pins σ Q w s := ⟨z, H, I, rw', q⟩
  by_cases h0 : 0 ≤ i
  · have hj : i.toNat = j := by
      rw [seqIndex_of h0 h5] at h1
      exact Option.some.inj h1
    exact item_listR pl.isList h0 (by omega) (by rw [hj]; simpa using ew) fin hs
  · have hj : (i + (its.toArray.size : Int)).toNat = j := by
      rw [seqIndex_neg (by omega) h4] at h1
      rw [List.size_toArray, ← hl]
      exact Option.some.inj h1
    exact subscriptTail_builtinR (x := w) pl.isList.typeIs slot_list_getitem.lookup
      (wpAny_getItem_list_neg (Q := fun r s' => r = w ∧ EP X pins σ Q r s') pl.isList (by omega) (by rw [List.size_toArray] <;> omega) (by omega) (by rw [hj]; simpa using ew) ⟨rfl, fin⟩) hs
theorem ix_tup : IxR X (rIxT X.K) := by
  intro value slice pins s σ H x y v u Q I rx ry h hs
  obtain ⟨p, xs, i, z, rfl, rfl, hq, he, q⟩ := h
  cases rx
  obtain ⟨t, rfl⟩ := ry
  obtain ⟨its, r, pl, hz⟩ := I.tuple hq
  obtain ⟨j, h1, h2, h3, h4, h5⟩ := atI_get he
  obtain ⟨w, ew, rw'⟩ := r.get h2
  have hl := r.length
  have hn := line63
  have fin : EP X pins σ Q w s := ⟨z, H, I, rw', q⟩
  exact subscriptTail_builtinR (x := w) pl.typeIs slot_tuple_getitem.lookup
    (getItem_tuple (j := j) (Q := fun r s' => r = w ∧ EP X pins σ Q r s') pl (by omega) (by omega) (by rw [List.size_toArray, ← hl]; exact h1) (by simpa using ew) ⟨rfl, fin⟩) hs
theorem ix_str : IxR X rIxS := by
  intro value slice pins s σ H x y v u Q I rx ry h hs
  obtain ⟨z, i, c, rfl, rfl, hz, he, q⟩ := h
  obtain ⟨t, rfl⟩ := rx
  obtain ⟨t', rfl⟩ := ry
  obtain ⟨j, h1, h2, h3, h4, h5⟩ := atI_get he
  have hl : z.cps.toList.length = z.length := by simp [Str.length]
  rw [hl] at h1 h4 h5
  have hn := line63
  exact tail_any (typeIs_str s z t) slot_str_getitem.lookup (getItem_str (c := c) (by
    have e1 : decide (i < -(2 ^ 63 : Int)) = false := decide_eq_false (by omega)
    have e2 : decide (i ≥ 2 ^ 63) = false := decide_eq_false (by omega)
    rw [e1, e2, Bool.or_false]) (by rw [h1]; simpa using h2) ⟨.str ⟨#[c]⟩, H, I.tok _, ⟨_, rfl⟩, q⟩) hs

/-! ### xs[i] = v, any sign -/
/-- the list's object behind a store -/
theorem mapSeq_set (its : List Value) (n j : Nat) (u : Value) : Obj.mapSeq (·.setIfInBounds j u) { cls := .type "list", data := .seq its.toArray n } = { cls := .type "list", data := .seq (its.set j u).toArray n } := by
  simp [Obj.mapSeq]
theorem Inv.lst {pins : List (Addr × Obj)} {σ : St} {H : Hp} {s : Shared} {p : Addr} {xs : List V} (I : Inv X pins σ H s) (h : H p = some (.lst xs)) :
    ∃ (its : List Value) (n : Nat), Vals xs its ∧ s.heap.get? p = some { cls := .type "list", data := .seq its.toArray n } ∧ xs.length ≤ sizeLine := by
  obtain ⟨z, its, n, r, e⟩ := I.hok p _ h
  exact ⟨its, n, r, e, z⟩
/-- the list at p is written by an update of its object -/
theorem Inv.lstUpd {pins : List (Addr × Obj)} {σ : St} {H : Hp} {s : Shared} {p : Addr} {xs ys : List V} {its its' : List Value} {n n' : Nat} {f : Obj → Obj} (I : Inv X pins σ H s) (h : H p = some (.lst xs))
    (ho : s.heap.get? p = some { cls := .type "list", data := .seq its.toArray n }) (hf : f { cls := .type "list", data := .seq its.toArray n } = { cls := .type "list", data := .seq its'.toArray n' }) (r : Vals ys its') (hz : ys.length ≤ sizeLine) (t : Nat) :
    Inv X pins σ (upd H p (.lst ys)) { s with heap := s.heap.update p f, toks := t } := by
  have e : (s.heap.update p f).get? p = some { cls := .type "list", data := .seq its'.toArray n' } := by
    rw [Heap.get?_update_self f ho (by rw [hf] <;> rfl), hf]
  refine I.write (x := p) (e := p) (by rw [h]; trivial) (.inl rfl) (fun b u hb q => (Heap.get?_update_other _ _ (Ne.symm hb)).trans q) ⟨_, e⟩ ?_
  exact ⟨hz, its', n', r, e⟩
def rSetL : V → V → V → Hp → (Hp → Prop) → Prop := fun o i v H Q => ∃ p xs k j, o = .ref p ∧ i = .int k ∧ H p = some (.lst xs) ∧ ixN xs.length k = some j ∧ Q (upd H p (.lst (xs.set j v)))
theorem set_list : PSet X rSetL := by
  intro pins s σ H o i v ov iv u Q I ro ri rv h
  obtain ⟨p, xs, k, j, rfl, rfl, hp, hj, q⟩ := h
  cases ro
  obtain ⟨t, rfl⟩ := ri
  obtain ⟨its, n, r, ho, hz⟩ := I.lst hp
  obtain ⟨h1, h2, h3, h4⟩ := ixN_seq hj
  have hl := r.length
  have hn := line63
  have I' : Inv X pins σ (upd H p (.lst (xs.set j v))) { s with heap := s.heap.update p (Obj.mapSeq (·.setIfInBounds j u)) } :=
    I.lstUpd hp ho (mapSeq_set its n j u) (r.set rv j) (by rw [List.length_set]; exact hz) s.toks
  by_cases h0 : 0 ≤ k
  · have hk : k.toNat = j := by
      rw [seqIndex_of h0 h4] at h1
      exact Option.some.inj h1
    exact PySem.W.ki_setAt ho h0 (by omega) (by rw [List.size_toArray, ← hl]; exact h4) (by rw [hk]; exact ⟨_, I', q⟩)
  · have hk : (k + (its.toArray.size : Int)).toNat = j := by
      rw [seqIndex_neg (by omega) h3] at h1
      rw [List.size_toArray, ← hl]
      exact Option.some.inj h1
    exact PySem.W.ki_setBack ho (by omega) (by rw [List.size_toArray, ← hl]; exact h3) (by omega) (by rw [hk]; exact ⟨_, I', q⟩)

/-! ### slices -/
theorem slice_bounds (lo hi : Option Int) (n : Nat) : (sliceBounds lo hi none n).1 = ((HT.sIx n 0 lo : Nat) : Int) ∧ (sliceBounds lo hi none n).2.1 = ((HT.sIx n n hi : Nat) : Int) ∧ (sliceBounds lo hi none n).2.2 = 1 := by
  refine ⟨?_, ?_, rfl⟩
  · cases lo with
    | none => simp [sliceBounds, HT.sIx]
    | some i =>
      simp only [sliceBounds, HT.sIx, Option.getD_none, show (1 : Int) > 0 by decide, if_true]
      by_cases h : i < 0
      · simp only [h, if_true] <;> omega
      · simp only [h, if_false] <;> omega
  · cases hi with
    | none => simp [sliceBounds, HT.sIx]
    | some i =>
      simp only [sliceBounds, HT.sIx, Option.getD_none, show (1 : Int) > 0 by decide, if_true]
      by_cases h : i < 0
      · simp only [h, if_true] <;> omega
      · simp only [h, if_false] <;> omega
theorem slicePick_cut (its : List Value) (lo hi : Option Int) : slicePick its.toArray lo hi none = ((its.drop (HT.sIx its.length 0 lo)).take (HT.sIx its.length its.length hi - HT.sIx its.length 0 lo)).toArray := by
  obtain ⟨h1, h2, h3⟩ := slice_bounds lo hi its.toArray.size
  unfold slicePick
  rw [h1, h2, h3]
  simp only [sliceRange_one, pick_run, List.size_toArray] <;> rfl
/-- xs[lo:hi] of a list: a new list -/
def rSlL (K : PySem.W.Frag) : V → Option Int → Option Int → Hp → VK → Prop := fun x lo hi H Q => ∃ a xs, x = .ref a ∧ SqL K H a xs ∧ ∀ p, H p = none → Q (.ref p) (upd H p (.lst (cutV xs lo hi)))
theorem sl_list : SlR X (rSlL X.K) := by
  intro pins s σ H x v vl vu lo hi sl Q I rx hs pl pu h
  obtain ⟨a, xs, rfl, hx, q⟩ := h
  cases rx
  obtain ⟨its, r, ht, hz⟩ := I.list hx
  have hlen := r.length
  refine ⟨"list", _, slot_list_getitem.lookup, ht.isList.typeIs, ?_⟩
  refine wpAny_getItem_list_slice ht.isList hs pl pu .none (by simp) ?_ (by rw [List.size_toArray] <;> omega)
  rw [slicePick_cut, ← hlen]
  refine ⟨.ref s.heap.objs.size, _, I.laid (t' := s.toks) (o := .lst (cutV xs lo hi)) (fun b ob q => Heap.get?_push_of_some _ q) (Nat.le_refl _) ?_, rfl, q _ (I.hok.fresh (Nat.le_refl _))⟩
  exact ⟨Nat.le_trans (cutV_length xs lo hi) hz, _, 0, (r.drop (HT.sIx xs.length 0 lo)).take (HT.sIx xs.length xs.length hi - HT.sIx xs.length 0 lo), Heap.get?_push_size _ rfl⟩

/-! ### in, not in: flat items -/
def flatV : V → Bool
  | .non => true
  | .bl _ => true
  | .int _ => true
  | .str _ => true
  | _ => false
/-- == of flat values -/
def eqV : V → V → Bool
  | .non, .non => true
  | .bl a, .bl b => a == b
  | .bl a, .int b => (if a then 1 else 0) == b
  | .int a, .bl b => a == (if b then 1 else 0)
  | .int a, .int b => a == b
  | .str a, .str b => a == b
  | _, _ => false
theorem eqAt_V {A : Around} {s : Shared} {y x : V} {u v : Value} (ry : RelV y u) (rx : RelV x v) (fy : flatV y = true) (fx : flatV x = true) : SeqAt.EqAt A s u v (eqV y x) := by
  cases y with
  | non =>
    cases ry
    cases x with
    | non => cases rx; exact SeqAt.EqAt.same _
    | bl b => cases rx; exact SeqAt.EqAt.none_bool b
    | int b => obtain ⟨t, rfl⟩ := rx; exact SeqAt.EqAt.none_int b t
    | str b => obtain ⟨t, rfl⟩ := rx; exact SeqAt.EqAt.none_str b t
    | _ => exact absurd (show false = true from fx) Bool.false_ne_true
  | bl a =>
    cases ry
    cases x with
    | non => cases rx; exact SeqAt.EqAt.bool_none a
    | bl b => cases rx; exact SeqAt.EqAt.bool_bool a b
    | int b => obtain ⟨t, rfl⟩ := rx; exact SeqAt.EqAt.bool_int a b t
    | str b => obtain ⟨t, rfl⟩ := rx; exact SeqAt.EqAt.bool_str a b t
    | _ => exact absurd (show false = true from fx) Bool.false_ne_true
  | int a =>
    obtain ⟨t', rfl⟩ := ry
    cases x with
    | non => cases rx; exact SeqAt.EqAt.int_none a t'
    | bl b => cases rx; exact SeqAt.EqAt.int_bool a t' b
    | int b => obtain ⟨t, rfl⟩ := rx; exact SeqAt.EqAt.int_int a t' b t
    | str b => obtain ⟨t, rfl⟩ := rx; exact SeqAt.EqAt.int_str a t' b t
    | _ => exact absurd (show false = true from fx) Bool.false_ne_true
  | str a =>
    obtain ⟨t', rfl⟩ := ry
    cases x with
    | non => cases rx; exact SeqAt.EqAt.str_none a t'
    | bl b => cases rx; exact SeqAt.EqAt.str_bool a t' b
    | int b => obtain ⟨t, rfl⟩ := rx; exact SeqAt.EqAt.str_int a t' b t
    | str b => obtain ⟨t, rfl⟩ := rx; exact SeqAt.EqAt.str_str a t' b t
    | _ => exact absurd (show false = true from fx) Bool.false_ne_true
  | _ => exact absurd (show false = true from fy) Bool.false_ne_true
/-- the items' answers, read off the values (a value's own answer does not lean on its token) -/
def eqU (x : V) (u : Value) : Bool := match u with
  | .none => eqV .non x
  | .bool b => eqV (.bl b) x
  | .int i _ => eqV (.int i) x
  | .str z _ => eqV (.str z) x
  | _ => false
theorem eqU_of {x y : V} {u : Value} (r : RelV y u) (f : flatV y = true) : eqU x u = eqV y x := by
  cases y with
  | non => cases r; rfl
  | bl b => cases r; rfl
  | int i => obtain ⟨t, rfl⟩ := r; rfl
  | str z => obtain ⟨t, rfl⟩ := r; rfl
  | _ => exact absurd (show false = true from f) Bool.false_ne_true
theorem any_eqU {x : V} : ∀ {xs : List V} {us : List Value}, Vals xs us → xs.all flatV = true → us.any (eqU x) = xs.any fun y => eqV y x
  | _, _, .nil, _ => rfl
  | y :: xs, u :: us, .cons r t, f => by
    rw [List.all_cons, Bool.and_eq_true] at f
    rw [List.any_cons, List.any_cons, eqU_of r f.1, any_eqU t f.2]
theorem mem_eqAt {A : Around} {s : Shared} {x : V} {v : Value} (rx : RelV x v) (fx : flatV x = true) : ∀ {xs : List V} {us : List Value}, Vals xs us → xs.all flatV = true → ∀ u ∈ us, SeqAt.EqAt A s u v (eqU x u)
  | _, _, .nil, _ => fun u hu => by cases hu
  | y :: xs, u :: us, .cons r t, f => fun u' hu => by
    rw [List.all_cons, Bool.and_eq_true] at f
    rcases List.mem_cons.mp hu with rfl | hu
    · rw [eqU_of r f.1]; exact eqAt_V r rx f.1 fx
    · exact mem_eqAt rx fx t f.2 u' hu
def inV (x : V) (xs : List V) : Bool := xs.any fun y => eqV y x
/-- x in a list or tuple of flat items -/
def rIn (K : PySem.W.Frag) (neg : Bool) : R2 := fun x y H Q => ∃ p xs, y = .ref p ∧ (SqL K H p xs ∨ SqT K H p xs) ∧ flatV x = true ∧ xs.all flatV = true ∧ Q (.bl (if neg then !inV x xs else inV x xs)) H
theorem op_in_seq : OpR X (compareOp .In) (rIn X.K false) := by
  intro pins s σ H x y v u Q I rx ry h
  obtain ⟨p, xs, rfl, hq, fx, fs, q⟩ := h
  cases ry
  rcases hq with hq | hq
  · obtain ⟨its, r, pl, hz⟩ := I.list hq
    refine SeqAt.in_listAt (eqU x) pl.isList (fun w hw => mem_eqAt rx fx r fs w (by simpa using hw)) ⟨.bl _, H, I, rfl, ?_⟩
    rw [show its.toArray.any (eqU x) = its.any (eqU x) by simp, any_eqU r fs]
    exact q
  · obtain ⟨its, r, pl, hz⟩ := I.tuple hq
    refine SeqAt.in_tupleAt (eqU x) pl (fun w hw => mem_eqAt rx fx r fs w (by simpa using hw)) ⟨.bl _, H, I, rfl, ?_⟩
    rw [show its.toArray.any (eqU x) = its.any (eqU x) by simp, any_eqU r fs]
    exact q
theorem op_notIn_seq : OpR X (compareOp .NotIn) (rIn X.K true) := by
  intro pins s σ H x y v u Q I rx ry h
  obtain ⟨p, xs, rfl, hq, fx, fs, q⟩ := h
  cases ry
  rcases hq with hq | hq
  · obtain ⟨its, r, pl, hz⟩ := I.list hq
    refine SeqAt.notIn_listAt (eqU x) pl.isList (fun w hw => mem_eqAt rx fx r fs w (by simpa using hw)) ⟨.bl _, H, I, rfl, ?_⟩
    rw [show its.toArray.any (eqU x) = its.any (eqU x) by simp, any_eqU r fs]
    exact q
  · obtain ⟨its, r, pl, hz⟩ := I.tuple hq
    refine SeqAt.notIn_tupleAt (eqU x) pl (fun w hw => mem_eqAt rx fx r fs w (by simpa using hw)) ⟨.bl _, H, I, rfl, ?_⟩
    rw [show its.toArray.any (eqU x) = its.any (eqU x) by simp, any_eqU r fs]
    exact q

/-! ### len, list(x), tuple(x) of any list or tuple that is read -/
theorem call_len_seq : CallR X (.builtin "len") (fun xs H Q => ∃ p ys, xs = [.ref p] ∧ (SqL X.K H p ys ∨ SqT X.K H p ys) ∧ Q (.int ys.length) H) := by
  intro pins s σ H xs us Q I r h
  obtain ⟨p, ys, rfl, hq, q⟩ := h
  obtain ⟨u, rfl, rx⟩ := vals1 r
  cases rx
  have hn := line63
  rcases hq with hq | hq
  · obtain ⟨its, r', pl, hz⟩ := I.list hq
    have hlen := r'.length
    exact Calls.call_len_list pl.isList (by simp only [List.size_toArray] <;> omega) ⟨.int ys.length, H, I.tok _, ⟨s.toks + 1, by rw [List.size_toArray, hlen]⟩, q⟩
  · obtain ⟨its, r', pl, hz⟩ := I.tuple hq
    have hlen := r'.length
    exact len_tuple pl (by simp only [List.size_toArray] <;> omega) ⟨.int ys.length, H, I.tok _, ⟨s.toks + 1, by rw [List.size_toArray, hlen]⟩, q⟩
theorem call_len_str : CallR X (.builtin "len") (fun xs H Q => ∃ z, xs = [.str z] ∧ z.length ≤ sizeLine ∧ Q (.int z.length) H) := by
  intro pins s σ H xs us Q I r h
  obtain ⟨z, rfl, hz, q⟩ := h
  obtain ⟨u, rfl, t, rfl⟩ := vals1 r
  have hn := line63
  exact len_str (by omega) ⟨.int z.length, H, I.tok _, ⟨_, rfl⟩, q⟩
theorem call_list_of : CallR X (.type "list") (fun xs H Q => ∃ p ys, xs = [.ref p] ∧ (SqL X.K H p ys ∨ SqT X.K H p ys) ∧ ∀ l, H l = none → Q (.ref l) (upd H l (.lst ys))) := by
  intro pins s σ H xs us Q I r h
  obtain ⟨p, ys, rfl, hq, q⟩ := h
  obtain ⟨u, rfl, rx⟩ := vals1 r
  cases rx
  have fin : ∀ (its : List Value), Vals ys its → ys.length ≤ sizeLine → ∀ (h' : Heap) (c' : Nat), (∀ b o', s.heap.get? b = some o' → h'.get? b = some o') →
      h'.get? s.heap.objs.size = some { cls := .type "list", dict := none, data := .seq its.toArray c', slots := #[] } → EP X pins σ Q (.ref s.heap.objs.size) { s with heap := h' } := fun its r' hz h' c' kp e =>
    ⟨.ref s.heap.objs.size, _, I.laid (t' := s.toks) kp (Nat.le_refl _) (show ObjOk X.prog X.w _ h' _ (.lst ys) from ⟨hz, its, c', r', e⟩), rfl, q _ (I.hok.fresh (Nat.le_refl _))⟩
  rcases hq with hq | hq
  · obtain ⟨its, r', pl, hz⟩ := I.list hq
    have hlen := r'.length
    obtain ⟨o, ho, hc, n, hd⟩ := pl.isList
    exact call_list_seq p (.inl rfl) ho hc hd (fun h' c' kp e => fin its r' hz h' c' kp e) (by simp only [List.size_toArray] <;> omega)
  · obtain ⟨its, r', pl, hz⟩ := I.tuple hq
    have hlen := r'.length
    obtain ⟨o, ho, hc, n, hd⟩ := pl
    exact call_list_seq p (.inr rfl) ho hc hd (fun h' c' kp e => fin its r' hz h' c' kp e) (by simp only [List.size_toArray] <;> omega)
theorem call_tuple_of : CallR X (.type "tuple") (fun xs H Q => ∃ p ys, xs = [.ref p] ∧ ((SqL X.K H p ys ∧ ∀ l, H l = none → Q (.ref l) (upd H l (.tup ys))) ∨ (SqT X.K H p ys ∧ Q (.ref p) H))) := by
  intro pins s σ H xs us Q I r h
  obtain ⟨p, ys, rfl, h⟩ := h
  obtain ⟨u, rfl, rx⟩ := vals1 r
  cases rx
  rcases h with ⟨hq, q⟩ | ⟨hq, q⟩
  · obtain ⟨its, r', pl, hz⟩ := I.list hq
    have hlen := r'.length
    refine call_tuple_list pl.isList (fun h' kp => ?_) (by simp only [List.size_toArray] <;> omega)
    have I1 : Inv X pins σ H { s with heap := h' } := I.kept (t' := s.toks) kp
    have I2 : Inv X pins σ (upd H h'.objs.size (.tup ys)) { s with heap := h'.push { cls := .type "tuple", data := .seq its.toArray } } :=
      I1.laid (t' := s.toks) (fun b o e => Heap.get?_push_of_some _ e) (Nat.le_refl _) (show ObjOk X.prog X.w _ _ _ (.tup ys) from ⟨hz, its, r', IsTup.new _ _⟩)
    exact ⟨.ref h'.objs.size, _, I2, rfl, q _ (I1.hok.fresh (Nat.le_refl _))⟩
  · obtain ⟨its, r', pl, hz⟩ := I.tuple hq
    exact call_tuple_same pl ⟨.ref p, H, I, rfl, q⟩

/-! ### the call of a builtin's method: o.m(..) -/
/-- the value is of that builtin type -/
def tyV (K : PySem.W.Frag) (T : String) (x : V) (H : Hp) : Prop := match x with
  | .str _ => T = "str"
  | .int _ => T = "int"
  | .ref p => (T = "list" ∧ ∃ xs, SqL K H p xs) ∨ (T = "tuple" ∧ ∃ o, K.lookup p = some o ∧ o.cls = .type "tuple" ∧ o.dict = none) ∨
      (T = "dict" ∧ ((∃ kvs, H p = some (.dK kvs)) ∨ ∃ kvs, H p = some (.dT kvs))) ∨ (T = "set" ∧ ∃ S n, H p = some (.set S n))
  | _ => False
theorem tyV_is {pins : List (Addr × Obj)} {σ : St} {H : Hp} {s : Shared} {T : String} {x : V} {v : Value} (I : Inv X pins σ H s) (r : RelV x v) (ty : tyV X.K T x H) :
    s.TypeIs v T ∧ ∀ a, v = .ref a → ∃ ob, s.heap.get? a = some ob ∧ ob.dict = none := by
  cases x with
  | str z =>
    obtain ⟨t, rfl⟩ := r
    cases (show T = "str" from ty)
    exact ⟨typeIs_str s z t, fun _ e => nomatch e⟩
  | int i =>
    obtain ⟨t, rfl⟩ := r
    cases (show T = "int" from ty)
    exact ⟨typeIs_int s i t, fun _ e => nomatch e⟩
  | ref p =>
    cases r
    rcases ty with ⟨rfl, xs, hq⟩ | ⟨rfl, o, hk, hc, hd⟩ | ⟨rfl, hk⟩ | ⟨rfl, S, n, hk⟩
    · obtain ⟨its, _, pl, _⟩ := I.list hq
      refine ⟨pl.isList.typeIs, fun a e => ?_⟩
      cases e
      obtain ⟨o, n, e, c, hd, _⟩ := pl
      exact ⟨o, e, hd⟩
    · refine ⟨⟨o, I.kIn p o hk, hc⟩, fun a e => ?_⟩
      cases e
      exact ⟨o, I.kIn _ o hk, hd⟩
    · have z : ∃ o, s.heap.get? p = some o ∧ o.ExactDict := by
        rcases hk with ⟨kvs, hk⟩ | ⟨kvs, hk⟩
        · obtain ⟨_, _, _, _, o, _, _, e, ex, _⟩ := I.hok p _ hk
          exact ⟨o, e, ex⟩
        · obtain ⟨_, _, _, _, o, _, _, e, ex, _⟩ := I.hok p _ hk
          exact ⟨o, e, ex⟩
      obtain ⟨o, e, ex⟩ := z
      refine ⟨⟨o, e, ex.1⟩, fun a e2 => ?_⟩
      cases e2
      exact ⟨o, e, ex.2.1⟩
    · obtain ⟨o, _, _, _, e, ex, _⟩ := I.hok p _ hk
      refine ⟨⟨o, e, ex.1⟩, fun a e2 => ?_⟩
      cases e2
      exact ⟨o, e, ex.2.1⟩
  | _ => exact False.elim ty
def tBM0 (K : PySem.W.Frag) (T : String) (r : V → List V → Hp → VK → Prop) (to : TE) : TE := fun σ H Q => to σ H fun x H1 => tyV K T x H1 ∧ r x [] H1 Q
def tBM (K : PySem.W.Frag) (T : String) (r : V → List V → Hp → VK → Prop) (to : TE) (t : TA) : TE := fun σ H Q => to σ H fun x H1 => tyV K T x H1 ∧ t σ H1 fun xs H2 => r x xs H2 Q
variable {o e : Expr} {es : List Expr} {to : TE} {t : TA} {name : Str} {apos cpos : Pos} {T id : String} {r : V → List V → Hp → VK → Prop}
theorem pe_bm0 (pa : PlainAttrs T) (slot : Slot T name id) (hty : typeOf (.builtin id) = pure (.type "method_descriptor")) (hm : MtR X id r) (ho : PE X o to)
    (hbase : attributeBase o name X.env (eval o X.env) = eval o X.env := by rfl) (hline : (apos.endLine == cpos.line) = true := by rfl) : PE X (.Call (.Attribute o name apos) [] [] cpos) (tBM0 X.K T r to) := by
  intro pins s σ H Q I h
  refine wpAny_Call_method0_late hbase hline (thn (ho pins s σ H _ I h) fun v s1 ⟨x, H1, I1, r1, ty, q1⟩ => ?_)
  obtain ⟨h1, h2⟩ := tyV_is I1 r1 ty
  exact ⟨T, id, pa, slot, hty, h1, h2, Calls.callWith_builtin rfl (PySem.evalArgs_none (hm pins s1 σ H1 x [] v [] Q I1 r1 .nil q1))⟩
theorem pe_bm (pa : PlainAttrs T) (slot : Slot T name id) (hty : typeOf (.builtin id) = pure (.type "method_descriptor")) (hm : MtR X id r) (ho : PE X o to) (ha : PA X (e :: es) t)
    (hbase : attributeBase o name X.env (eval o X.env) = eval o X.env := by rfl)
    (hfew : ((backTo cpos (starEach (e :: es) X.env)).all (fun x => !x.1) && (backToKw cpos (keywordEach [] X.env)).all (fun x => x.1.isSome)
      && decide ((e :: es).length + ([] : List Keyword).length + (if ([] : List Keyword).isEmpty then 0 else 1) < 30)) = true := by rfl)
    (hline : (apos.endLine == cpos.line) = true := by rfl) (hs : starEach (e :: es) X.env = (false, eval e X.env) :: starEach es X.env := by rfl) (hplain : (backTo cpos (starEach es X.env)).any (·.1) = false := by rfl) :
    PE X (.Call (.Attribute o name apos) (e :: es) [] cpos) (tBM X.K T r to t) := by
  intro pins s σ H Q I h
  refine wpAny_Call_method_late hbase hfew hline rfl (thn (ho pins s σ H _ I h) fun v s1 ⟨x, H1, I1, r1, ty, q1⟩ => ?_)
  obtain ⟨h1, h2⟩ := tyV_is I1 r1 ty
  refine ⟨T, id, pa, slot, hty, h1, h2, ?_⟩
  have hA := ha cpos pins s1 σ H1 _ I1 q1
  rw [hs] at hA ⊢
  refine Calls.callWith_builtin (by show (false || (backTo cpos (starEach es X.env)).any (·.1)) = false; rw [hplain] <;> rfl) (Calls.evalArgs_plain ?_)
  exact thn hA fun us s2 ⟨vs, H2, I2, r2, q2⟩ => hm pins s2 σ H2 x vs v us Q I2 r1 r2 q2
/- xs.append(e), list.index on a module's tuple .. are MtR facts of 06m -/
end
end L2

namespace L2
open PySem PySem.Spec PyProof.Rows

def MtM (X : Cx) (id : String) (r : V → List V → Hp → VK → Prop) : Prop :=
  ∀ (pins : List (Addr × Obj)) (s : Shared) (σ : St) (H : Hp) (x : V) (xs : List V) (v : Value) (us : List Value) (Q : VK), Inv X pins σ H s → RelV x v → Vals xs us → r x xs H Q →
    wpAny (model X.prog X.w) X.A (call (.builtin id) (v :: us)) (EP X pins σ Q) X.xe s

/-! ### lists of values -/
theorem Vals.one : ∀ {x : V} {us : List Value}, Vals [x] us → ∃ u, us = [u] ∧ RelV x u
  | _, _, .cons r .nil => ⟨_, rfl, r⟩
theorem Vals.zero : ∀ {us : List Value}, Vals [] us → us = []
  | _, .nil => rfl
theorem Vals.dropLast {xs : List V} {us : List Value} (h : Vals xs us) : Vals xs.dropLast us.dropLast := by
  induction h with
  | nil => exact .nil
  | cons r t ih =>
    cases t with
    | nil => exact .nil
    | cons q t' => exact .cons r ih
theorem Vals.reverse {xs : List V} {us : List Value} (h : Vals xs us) : Vals xs.reverse us.reverse := by
  induction h with
  | nil => exact .nil
  | cons r t ih => rw [List.reverse_cons, List.reverse_cons]; exact Vals.append ih (.cons r .nil)
theorem erase_last {α : Type} (l : List α) : l.eraseIdx (l.length - 1) = l.dropLast := by
  induction l with
  | nil => rfl
  | cons a r ih =>
    cases r with
    | nil => rfl
    | cons b r =>
      have e : (a :: b :: r).length - 1 = ((b :: r).length - 1) + 1 := by
        have h1 : (a :: b :: r).length = r.length + 2 := rfl
        have h2 : (b :: r).length = r.length + 1 := rfl
        omega
      rw [e, List.eraseIdx_cons_succ, ih]
      all_goals rfl

section
variable {X : Cx} {pins : List (Addr × Obj)} {σ : St} {H : Hp} {s : Shared} {l b : Addr} {xs ys zs : List V}

/-! ### the two steps: a tracked list is rewritten, a new list is laid -/
theorem Inv.lset {its its' : List Value} {n : Nat} {f : Array Value → Array Value} {t' : Nat} (I : Inv X pins σ H s) (hH : H l = some (.lst xs))
    (e : s.heap.get? l = some { cls := .type "list", data := .seq its.toArray n }) (hf : f its.toArray = its'.toArray) (hv : Vals ys its') (hz : ys.length ≤ sizeLine) :
    Inv X pins σ (upd H l (.lst ys)) { s with heap := s.heap.update l (Obj.mapSeq f), toks := t' } := by
  have q := PySem.IsL.update e f
  rw [hf] at q
  refine I.write (x := l) (e := l) (by rw [hH]; exact trivial) (.inl rfl) (fun b' u hb hu => (Heap.get?_update_other s.heap (Obj.mapSeq f) (Ne.symm hb)).trans hu) ⟨_, q⟩ ?_
  exact ⟨hz, its', _, hv, q⟩
theorem Inv.lnew {its : List Value} {t' : Nat} (I : Inv X pins σ H s) (hv : Vals ys its) (hz : ys.length ≤ sizeLine) :
    Inv X pins σ (upd H s.heap.objs.size (.lst ys)) { s with heap := s.heap.push { cls := .type "list", data := .seq its.toArray }, toks := t' } :=
  I.laid (fun _ _ q => Heap.get?_push_of_some _ q) (Nat.le_refl _) ⟨hz, its, 0, hv, Heap.get?_push_size _ rfl⟩
theorem Inv.fresh (I : Inv X pins σ H s) : H s.heap.objs.size = none := I.hok.fresh (Nat.le_refl _)
theorem Inv.lstM (I : Inv X pins σ H s) (hH : H l = some (.lst xs)) : xs.length ≤ sizeLine ∧ ∃ (its : List Value) (n : Nat), Vals xs its ∧ xs.length = its.length ∧ s.heap.get? l = some { cls := .type "list", data := .seq its.toArray n } := by
  obtain ⟨z, its, n, r, e⟩ := I.hok l _ hH
  exact ⟨z, its, n, r, r.length, e⟩

theorem notLongL {n : Nat} (h : n ≤ sizeLine) : Builtin.List.listTooLong n = false := by
  unfold Builtin.List.listTooLong
  exact decide_eq_false (by omega)
end

section
variable {X : Cx}

/-! ### methods -/
def rAppend : V → List V → Hp → VK → Prop := fun x vs H Q => ∃ l xs y, x = .ref l ∧ vs = [y] ∧ H l = some (.lst xs) ∧ xs.length < sizeLine ∧ Q .non (upd H l (.lst (xs ++ [y])))
theorem mt_append : MtM X "list.append" rAppend := by
  intro pins s σ H x vs v us Q I rx rv h
  obtain ⟨l, xs, y, rfl, rfl, hH, hz, q⟩ := h
  cases rx
  obtain ⟨u, rfl, ru⟩ := rv.one
  obtain ⟨z, its, n, r, hl, e⟩ := I.lstM hH
  refine call_meets F.slot_list_append ⟨_, e, rfl⟩ F.entry_list_append (F.args_list_append_2 _ _) (PySem.list_append l its.toArray n u (by rw [List.size_toArray]; omega)) ⟨e, ?_⟩
  refine ⟨.non, _, I.lset (its' := its ++ [u]) hH e (by simp) (r.append (.cons ru .nil)) ?_, rfl, q⟩
  rw [List.length_append, List.length_singleton]
  omega

def rExtend : V → List V → Hp → VK → Prop := fun x vs H Q => ∃ l b xs zs, x = .ref l ∧ vs = [.ref b] ∧ H l = some (.lst xs) ∧ H b = some (.lst zs) ∧ xs.length + zs.length ≤ sizeLine ∧ Q .non (upd H l (.lst (xs ++ zs)))
theorem mt_extend : MtM X "list.extend" rExtend := by
  intro pins s σ H x vs v us Q I rx rv h
  obtain ⟨l, b, xs, zs, rfl, rfl, hH, hB, hz, q⟩ := h
  cases rx
  obtain ⟨u, rfl, ru⟩ := rv.one
  cases ru
  obtain ⟨z, its, n, r, hl, e⟩ := I.lstM hH
  obtain ⟨z2, its2, n2, r2, hl2, e2⟩ := I.lstM hB
  have hsz : its.toArray.size + its2.toArray.size ≤ sizeLine := by rw [List.size_toArray, List.size_toArray]; omega
  have hlong : ¬ (!its.toArray.isEmpty && Builtin.List.listTooLong (its.toArray.size + its2.toArray.size)) = true := by
    rw [notLongL hsz, Bool.and_false]
    exact Bool.false_ne_true
  refine call_meets F.slot_list_extend ⟨_, e, rfl⟩ F.entry_list_extend (F.args_list_extend_2 _ _)
    (AutoSeq1.list_extend_list_list_0 l its.toArray n b its2.toArray n2 hlong (by rw [List.size_toArray]; omega) (by omega)) ⟨e, e2, ?_⟩
  refine ⟨.non, _, I.lset (its' := its ++ its2) hH e (by simp) (r.append r2) ?_, rfl, q⟩
  rw [List.length_append]
  omega

def rPop : V → List V → Hp → VK → Prop := fun x vs H Q => ∃ l xs y, x = .ref l ∧ vs = [] ∧ H l = some (.lst xs) ∧ xs[xs.length - 1]? = some y ∧ Q y (upd H l (.lst xs.dropLast))
theorem mt_pop : MtM X "list.pop" rPop := by
  intro pins s σ H x vs v us Q I rx rv h
  obtain ⟨l, xs, y, rfl, rfl, hH, hy, q⟩ := h
  cases rx
  have hus := rv.zero
  subst hus
  obtain ⟨z, its, n, r, hl, e⟩ := I.lstM hH
  obtain ⟨u, hu, ru⟩ := r.get hy
  have hy' : its.toArray[its.toArray.size - 1]? = some u := by
    show its.toArray[its.length - 1]? = some u
    rw [← Array.getElem?_toList, ← hl]
    exact hu
  refine call_meets F.slot_list_pop ⟨_, e, rfl⟩ F.entry_list_pop (F.args_list_pop_1 _) (MeetsSeq.list_pop_last l its.toArray n u hy' (by rw [List.size_toArray]; omega)) ⟨e, ?_⟩
  refine ⟨y, _, I.lset (its' := its.dropLast) hH e ?_ r.dropLast ?_, ru, q⟩
  · show its.toArray.eraseIdxIfInBounds (its.toArray.size - 1) = its.dropLast.toArray
    rw [List.size_toArray, List.eraseIdxIfInBounds_toArray, erase_last]
  · rw [List.length_dropLast]
    omega




/-! ### list + list, list += list, list * int -/
def rCat : R2 := fun x y H Q => ∃ l b xs zs, x = .ref l ∧ y = .ref b ∧ H l = some (.lst xs) ∧ H b = some (.lst zs) ∧ xs.length + zs.length ≤ sizeLine ∧ ∀ p, H p = none → Q (.ref p) (upd H p (.lst (xs ++ zs)))
theorem op_cat : OpR X (binaryOp .Add) rCat := by
  intro pins s σ H x y v u Q I rx ry h
  obtain ⟨l, b, xs, zs, rfl, rfl, hH, hB, hz, q⟩ := h
  cases rx
  cases ry
  obtain ⟨z, its, n, r, hl, e⟩ := I.lstM hH
  obtain ⟨z2, its2, n2, r2, hl2, e2⟩ := I.lstM hB
  refine PySem.P.add_list e e2 ?_ (by rw [List.size_toArray, List.size_toArray]; omega)
  have ea : its.toArray ++ its2.toArray = (its ++ its2).toArray := by simp
  rw [ea]
  exact ⟨.ref _, _, I.lnew (t' := s.toks) (r.append r2) (by rw [List.length_append]; omega), rfl, q _ I.fresh⟩

/-! ### del xs[i] -/
end

/-! ### xs[a:b] = ys -/
section
variable {prog : Program} {w : World} {A : Around} {E : Value → Shared → Prop} {s : Shared}
end

section
variable {X : Cx}
end
end L2

namespace L2
open PySem PySem.Spec PyProof.Rows

/-! ### lists of pairs as tables -/
section
variable {κ : Type} [DecidableEq κ]



end


/-! ### a tracked dict, its keys ints and texts or tuples of these -/


section
variable {P : Program} {w : World} {H : Hp} {h : Heap} {a : Addr}
end



section
variable {X : Cx} {pins : List (Addr × Obj)} {σ : St} {H : Hp} {s : Shared} {a : Addr} {y v : V} {u r : Value} {o : Option V} {A : Around} {E : Value → Shared → Prop}


end

section
variable {X : Cx} {pins : List (Addr × Obj)} {σ : St} {H : Hp} {s : Shared} {a : Addr} {kvs : List (Key × V)} {k : Key} {u : Value} {A : Around} {E : Value → Shared → Prop}
end


/-! ### readings and rules -/



section
variable {X : Cx} {o i e value : Expr} {pos pos' tpos : Pos} {td ty tv : TE}
end


/-! ### displays -/
section
variable {X : Cx} {pos : Pos}
end




/-! ### methods -/


section
variable {X : Cx} {pins : List (Addr × Obj)} {σ : St} {H : Hp} {s : Shared} {a : Addr} {y d : V} {u r : Value} {o : Option V} {A : Around} {E : Value → Shared → Prop}
end

section
variable {X : Cx} {o e f : Expr} {apos cpos : Pos} {td ty tx : TE}
end

/-! ### dict(d): a copy -/
section
variable {X : Cx} {pins : List (Addr × Obj)} {σ : St} {H : Hp} {s : Shared} {a : Addr} {kvs : List (Key × V)} {A : Around} {E : Value → Shared → Prop}
end


section
variable {X : Cx} {pins : List (Addr × Obj)} {σ : St} {H : Hp} {s : Shared} {a : Addr} {y : V} {u : Value} {A : Around} {E : Value → Shared → Prop}
end
end L2

namespace Att
open PySem PySem.W PySem.Calls PyProof.Rows

/-! ### the script -/
theorem ints_of_wellAll {P : Params} {h : Heap} : ∀ (ns : List Int) (vs : List Value), WellAll P h vs (ns.map WData.int) → IntsAre vs ns := by
  intro ns
  induction ns with
  | nil =>
    intro vs w
    rw [List.map_nil] at w
    cases w
    exact .nil
  | cons n ns ih =>
    intro vs w
    rw [List.map_cons] at w
    cases w with
    | cons a b =>
      cases a
      exact .cons _ _ (ih _ b)

theorem script_of {l : OpenLaw} {n : Nat} (hn : l.most = some n) {P : Params} {h : Heap} {args : List WData} {vals : List Value}
    (hpre : l.row.toRowW.claim.pre args = true) (hwl : WellAll P h vals args) :
    ∃ a vs ns, vals = [Value.ref a] ∧ args = [WData.list (ns.map WData.int)] ∧ h.get? a = some { cls := .type "list", data := .seq vs.toArray } ∧ IntsAre vs ns ∧ ns.length ≤ n := by
  have hsh : WShape.hasAll [] args [.list .int] = true := (pre_splitW hpre).1
  have hc : l.pre.holds [] { args := args } = true := (pre_splitW hpre).2
  obtain ⟨d, r, rfl, h1, h2⟩ := hasAllW_cons hsh
  obtain rfl := hasAllW_nil h2
  obtain ⟨xs, rfl, h3⟩ := hasW_list h1
  obtain ⟨ns, rfl⟩ := items_int h3
  have hlen : ns.length ≤ n := by
    unfold OpenLaw.pre at hc
    have h4 : (WTm.not (.lt (.lit (.int (n : Int))) (.len (.arg 0)))).holds [] { args := [.list (ns.map .int)] } = true := by
      have h4 := (holds_andW hc).1
      rw [hn] at h4
      exact h4
    have h5 := condW_of h4 (w_not (w_lt w_lit (w_len_list (w_arg rfl))))
    rw [List.length_map] at h5
    refine Nat.le_of_not_lt fun q => ?_
    have q' : (n : Int) < ((ns.length : Nat) : Int) := by omega
    first
      | (rw [decide_eq_true q'] at h5; exact absurd h5 (by decide))
      | (simp at h5; omega)
  cases hwl with
  | cons w1 w2 =>
    cases w2
    cases w1 with
    | list ho hall => exact ⟨_, _, ns, rfl, rfl, ho, ints_of_wellAll ns _ hall, hlen⟩

theorem post_true (l : OpenLaw) (args : List WData) : l.row.toRowW.claim.post args (.bool true) args = true :=
  postW_of (r := l.row.toRowW) (X := (true == true))
    (show WShape.has [] (.bool true) .bool = true by first | rfl | decide | simp [WShape.has, WShape.arms, WShape.armsAll])
    (show (WTm.eq .res (.lit (.bool true))).value [] { args := args, res := some (.bool true), after := args } = some (.bool (true == true)) from w_eq_bool (w_res rfl) w_lit) rfl

/-! ### the attachment: holds_open's last premise (the goal 'hc' behind k_head) from a wpAny of the law's body -/

/-- the same from a codeAny of the CALL (for a layer whose function contracts speak of calls) -/
theorem attach_call {l : OpenLaw} {n : Nat} {q : Program} {loose : List Str} {XP : (Str → Option Value) → Heap → Prop} {YP : World → Heap → Prop} {d : DefRec}
    (hn : l.most = some n) (hdf : d.params.defaults = [])
    (call : ∀ (w : World) (s₀ s₁ : Shared) (mg mb : Str → Option Value) (fa : Addr) (o : Obj) (pm cd doc : Value) (a : Addr) (vs : List Value) (ns : List Int),
      Ground q loose [] XP w s₀ mg mb s₁.heap → YP w s₁.heap →
      s₁.heap.get? fa = some o → o.data = .func (docDef d.name d.params d.body d.scope pm cd doc) → s₁.heap.CodeRec cd d.name → mg d.name = some (.ref fa) →
      s₁.heap.get? a = some { cls := .type "list", data := .seq vs.toArray } → IntsAre vs ns → ns.length ≤ n → s₁.gens = #[] →
      codeAny (model l.prog w) callerA (.call (.ref fa) ⟨[.ref a], []⟩) (fun r s' => r = .ok (.ret (.bool true)) ∧ OldK s₁.heap s'.heap ∧ s'.os = s₁.os ∧ AllBare s'.gens) s₁) :
    WalkO q loose XP YP l.row.toRowW d [] (fun f vs => PySem.call f vs) := by
  intro w s₀ s₁ mg mb G Y fa o pm cd doc dV kV ho hd hcd hD hmg hg args vals as hpre hlay hrd hwl hlo
  obtain rfl : dV = .none := Dflts.none hD hdf
  obtain rfl : kV = .none := Dflts.noKw hD
  obtain ⟨a, vs, ns, rfl, rfl, hobj, hints, hlen⟩ := script_of hn hpre hwl
  refine enter_call (codeAny_mono (call w s₀ s₁ mg mb fa o pm cd doc a vs ns G Y ho (fd_plain hd) hcd hmg hobj hints hlen hg) fun r s' hq => ?_)
  obtain ⟨rfl, h2, h3, h4⟩ := hq
  exact ⟨.inl ⟨.bool true, .bool true, [], rfl, fun _ => rfl, .bool true, post_true l _, fun _ => ⟨List.Pairwise.nil, fun _ hm => (nomatch hm)⟩⟩, h2, h3, h4⟩


/-! ### rules over ANY heap (no ledger) from facts about the written part K: the library's own take a ledger (News) for what they write -/
section
variable {prog : Program} {w : World} {A : Around} {E : Value → Shared → Prop} {s : Shared} {K : Frag}





/-! the whole heap as the ledger: makes every rule that writes through a ledger a rule over any heap -/

end
end Att

namespace L2
open PySem PySem.Spec PyProof.Rows

theorem vals_ints : ∀ {vs : List Value} {ns : List Int}, IntsAre vs ns → Vals (ns.map V.int) vs
  | _, _, .nil => .nil
  | _, _, .cons n t h => .cons ⟨t, rfl⟩ (vals_ints h)

/-- nothing is tracked but the script, known to the object (or it is an object of the module) -/
def Only (H : Hp) : Prop := ∀ b, H b = none ∨ ∃ o xs, H b = some (.frz o (.lst xs))

/-- THE HEAD: the law's promise, at the heap behind the top. F, the promise of the law's def, may use that base is part of the heap (so K.In base, base.Ns mainGlobals mg stand in Mod) -/
theorem law_call {P : Program} {w : World} {K : PySem.W.Frag} {mg mb : Str → Option Value} {CX : CXT} {k : Nat} {fa a : Addr} {fd : FuncData} {x : Str} {sp : Sp} {s₁ : Shared} {vs : List Value} {ns : List Int}
    (KX : K.In s₁.heap) (hns : s₁.heap.Ns mainGlobals mg) (hb : s₁.heap.Ns builtinsNs mb) (hbb : ∀ x : Str, x ≠ "__name__" → mb x = bootBuiltins x) (hlim : s₁.heap.NoLimit) (hg : s₁.gens = #[])
    (ha : s₁.heap.get? a = some { cls := .type "list", data := .seq vs.toArray }) (hi : IntsAre vs ns) (hl : ns.length ≤ sizeLine) (hr : Room k callerA)
    (F : ∀ base : Heap, K.In base → base.Ns mainGlobals mg → FnOk P w K mg base CX k fa fd [x] sp) (hbind : ∀ (s : Shared) (u : Value), BindsTo s fd ⟨[u], []⟩ [(x, u)])
    (hsp : ∀ H : Hp, Only H → SqL K H a (ns.map V.int) → sp [.ref a] H (fun v _ => v = .bl true) fun _ _ _ => False)
    (hCX : ∀ H e s', CX [] H s₁ (fun _ _ _ => False) e s' → False) :
    codeAny (model P w) callerA (.call (.ref fa) ⟨[.ref a], []⟩) (fun r s' => r = .ok (.ret (.bool true)) ∧ OldK s₁.heap s'.heap ∧ s'.os = s₁.os ∧ AllBare s'.gens) s₁ := by
  have rv := vals_ints hi
  have lenV := hi.length
  -- from an abstract heap in which nothing but the script may be tracked
  have core : ∀ H : Hp, Only H → SqL K H a (ns.map V.int) → HOk P w H s₁.heap → (∀ b, H b ≠ none → b = a) → (H a ≠ none → K.lookup a = none) →
      codeAny (model P w) callerA (.call (.ref fa) ⟨[.ref a], []⟩) (fun r s' => r = .ok (.ret (.bool true)) ∧ OldK s₁.heap s'.heap ∧ s'.os = s₁.os ∧ AllBare s'.gens) s₁ := by
    intro H hO hS hok hA hK
    have base_of : ∀ {b : Addr} {o : Obj}, s₁.heap.get? b = some o → H b = none → (hidT s₁.heap H).get? b = some o := fun e n => hidT_get e n
    have noA : ∀ {b : Addr} {o : Obj} {es : Array DictEntry} {ep : Nat}, s₁.heap.get? b = some o → o.data = .dict es ep → H b = none := fun {b o es ep} e d => by
      cases q : H b with
      | none => rfl
      | some u =>
        have e' : b = a := hA b (by rw [q]; simp)
        subst e'
        rw [ha] at e; cases e
        have d' : Data.seq vs.toArray _ = Data.dict es ep := d
        cases d'
    have nsK : ∀ {b : Addr} {m : Str → Option Value}, s₁.heap.Ns b m → (hidT s₁.heap H).Ns b m := fun {b m} ⟨o, es, ep, e, d, r⟩ => ⟨o, es, ep, base_of e (noA e d), d, r⟩
    have hKb : K.In (hidT s₁.heap H) := fun b o e => base_of (KX b o e) (by
      cases q : H b with
      | none => rfl
      | some u =>
        have e' : b = a := hA b (by rw [q]; simp)
        subst e'
        rw [hK (by rw [q]; simp)] at e; cases e)
    have hM : Mod K mg (hidT s₁.heap H) := ⟨hKb, nsK hns, ⟨mb, nsK hb, hbb⟩, let ⟨mc, h1, h2⟩ := hlim; ⟨mc, nsK h1, h2⟩⟩
    have e0 : Env0 P w K mg (hidT s₁.heap H) callerA [] s₁ H := ⟨rfl, hM, fun b o e => of_hidT e, Nat.le_of_eq (hidT_size _ _), trivial, fun b hb => absurd (show b ∈ ([] : List Addr) from hb) (by simp), hok, .of_eq hg⟩
    refine codeAny_mono ((F _ hKb (nsK hns)).run callerA [] s₁ H ⟨[.ref a], []⟩ [.ref a] [.ref a] _ _ hr e0 (hbind s₁ (.ref a)) (.cons rfl .nil) (hsp H hO hS)) fun r s' h => ?_
    cases r with
    | error e => exact (hCX H e s' h).elim
    | ok fl =>
      cases fl with
      | next => exact False.elim h
      | brk => exact False.elim h
      | cont => exact False.elim h
      | ret u =>
        obtain ⟨v, H', os, bare, un, hok', r', q⟩ := h
        have q' : v = .bl true := q
        subst q'
        obtain rfl : u = Value.bool true := r'
        refine ⟨rfl, OldK.of_keep fun b o e => ?_, os, bare⟩
        cases q : H b with
        | none => exact un.keep b o e q (by intro z; exact absurd (show b ∈ ([] : List Addr) from z) (by simp)) (by simp)
        | some u =>
          rcases hO b with z | ⟨ob, xs, z⟩
          · rw [q] at z; cases z
          · have z2 := un.frzs b ob _ z
            obtain ⟨e1, _⟩ := hok b _ z
            obtain ⟨e2, _⟩ := hok' b _ z2
            rw [e] at e1; cases e1
            exact e2
  cases hk : K.lookup a with
  | some o =>
    -- the script is one of the module's own objects
    have e := KX a o hk
    rw [ha] at e
    cases e
    refine core (fun _ => none) (fun _ => .inl rfl) (.inr ⟨_, vs.toArray, _, hk, rfl, rfl, rfl, by rw [List.size_toArray, lenV]; exact hl, by simpa using rv⟩) (fun b u z => by have z' : (none : Option HO) = some u := z; cases z') (fun b z => absurd rfl z) fun z => absurd rfl z
  | none =>
    refine core (fun b => if b = a then some (.frz { cls := .type "list", data := .seq vs.toArray } (.lst (ns.map V.int))) else none) (fun b => ?_) (.inl (.inr ⟨{ cls := .type "list", data := .seq vs.toArray }, if_pos rfl⟩)) (fun b u z => ?_) (fun b z => ?_) fun _ => hk
    · by_cases hb : b = a
      · exact .inr ⟨_, _, if_pos hb⟩
      · exact .inl (if_neg hb)
    · by_cases hb : b = a
      · have z' := (if_pos hb).symm.trans z
        cases z'
        subst hb
        exact ⟨ha, by rw [List.length_map]; exact hl, vs, _, rv, ha⟩
      · have z' := (if_neg hb).symm.trans z
        cases z'
    · by_cases hb : b = a
      · exact hb
      · exact absurd (if_neg hb) z
end L2

namespace L2
open PySem PySem.Spec PyProof.Rows


/-- the goal that k_head leaves (case hc), from the law's promise. F gives the function object fd (K's own) once, then the promise over every base -/
theorem walk_of {l : PySem.W.OpenLaw} {n k : Nat} {q : Program} {loose : List Str} {XP : (Str → Option Value) → Heap → Prop} {YP : World → Heap → Prop} {d : DefRec} {K : Params → PySem.W.Frag} {CX : World → CXT} {sp : World → Sp} {x : Str}
    (hn : l.most = some n) (hn2 : n ≤ sizeLine) (hdf : d.params.defaults = []) (hr : Room k callerA)
    (hY : ∀ (w : World) (h : Heap), YP w h → (K w.params).In h)
    (F : ∀ (w : World) (mg : Str → Option Value) (fa : Addr) (h : Heap), (K w.params).In h → h.Ns mainGlobals mg → mg d.name = some (.ref fa) →
      ∃ fd : FuncData, (∀ (s : Shared) (u : Value), BindsTo s fd ⟨[u], []⟩ [(x, u)]) ∧
        ∀ base : Heap, (K w.params).In base → base.Ns mainGlobals mg → FnOk l.prog w (K w.params) mg base (CX w) k fa fd [x] (sp w))
    (hsp : ∀ (w : World) (H : Hp) (a : Addr) (ns : List Int), ns.length ≤ n → Only H → SqL (K w.params) H a (ns.map V.int) → sp w [.ref a] H (fun v _ => v = .bl true) fun _ _ _ => False)
    (hCX : ∀ (w : World) (H : Hp) (s : Shared) (e : Value) (s' : Shared), CX w [] H s (fun _ _ _ => False) e s' → False) :
    PySem.W.WalkO q loose XP YP l.row.toRowW d [] (fun f vs => PySem.call f vs) := by
  refine Att.attach_call hn hdf fun w s₀ s₁ mg mb fa o pm cd doc a vs ns G Y ho hd hcd hmg hobj hints hlen hg => ?_
  have KX := hY w _ Y
  obtain ⟨fd, hb, hF⟩ := F w mg fa _ KX G.T.g hmg
  exact law_call KX G.T.g G.T.b G.T.builtins G.T.nolimit hg hobj hints (Nat.le_trans hlen hn2) hr hF hb (fun H hO hS => hsp w H a ns hlen hO hS) fun H e s' => hCX w H s₁ e s'
end L2

/- THE LAST THEOREM (shape; LID, My.* are yours):
   My.Adr: a structure of the addresses that your layer names (classes, functions); My.Txt K t: a structure (Prop) of the equations over K;
   My.txt_mk : {K} {implicit addresses ..} (e1 : nsIn K mainGlobals "law" = some (some (.ref f))) (e2 : K.lookup f = some ⟨oc, od, .func (fnOf "law" "law" params body scope dV kV doc pm an cdv ct), sl⟩) (e3 : codeIn K cdv "law" = true) .. : ∃ t, My.Txt K t

set_option maxRecDepth 100000 in
set_option maxHeartbeats 0 in
theorem PySem.Challenge.cw_LID_holds : PySem.Challenge.rw_LID.Holds := by
  w_on; o_law; k_head; (case hw => w_witness2)
  k_fill
  refine L2.walk_of (l := PySem.Challenge.rw_LID) (n := 63) (k := 40) (x := "script") (CX := fun w => ..) (sp := fun _ => My.sp_law) rfl (by decide) rfl ⟨rfl, by decide, by decide⟩ (fun w h Y => PySem.W.kIn_of Y) ?F ?S ?C
  case F =>
    intro w mg fa h KX G hmg
    have T : ∃ t, My.Txt (L2.KOf KX) t := by
      dsimp only [L2.KOf]                          -- K must stand as «<heap const> w.params» for k_is
      refine' My.txt_mk ?e1 ?e2 ?e3 ..
      (case e1 => PySem.W.k_is)                    -- in the order: a name -> its address -> its object -> its parts
      (case e2 => PySem.W.k_is)
      ..
    obtain ⟨t, T⟩ := T
    have e0 := hmg.symm.trans (PySem.W.mg_of KX G T.law)
    cases e0                                       -- fa is the law's own address
    exact ⟨_, fun s u => .of_eq rfl, fun base kb nb => My.law_fn T kb nb⟩     -- if «.of_eq rfl» comes too early: refine' ⟨_, ?b, fun base kb nb => My.law_fn T kb nb⟩; exact fun s u => .of_eq rfl
  case S => exact fun w H a ns hl hO hS => ..
  case C => exact ..
(the tactic k_is has no namespace: write k_is) -/

/-! SHORT WORDS over the layer: a def of the text, its body, what a loop and a test want. -/
namespace L2
open PySem PySem.Spec PyProof.Rows

/-! ### the text by places -/
def defArgs (s : Stmt) : Arguments := match s with
  | .FunctionDef _ a _ _ _ _ _ _ _ _ => a
  | _ => { posonlyargs := [], args := [], vararg := none, kwonlyargs := [], kw_defaults := [], kwarg := none, defaults := [] }
def defBody (s : Stmt) : List Stmt := match s with
  | .FunctionDef _ _ b _ _ _ _ _ _ _ => b
  | _ => []
def defScope (s : Stmt) : Scope := match s with
  | .FunctionDef _ _ _ _ _ _ sc _ _ _ => sc
  | _ => { kind := .function, names := [], isGenerator := false, isCoroutine := false }

/-! ### no exception leaves a def -/
abbrev CX0 : CXT := fun _ _ _ _ _ _ => False
abbrev E0 : XK := fun _ _ _ => False
theorem pass0 {X : Cx} : Passes CX0 X E0 := fun _ _ _ _ _ _ _ h => h.elim

/-! ### a def (or method) of the text as it stands behind the top -/
structure Fun (K : PySem.W.Frag) (x qual : Str) (st : Stmt) (f : Addr) (fd : FuncData) : Prop where
  ex : ∃ (oc : Value) (od : Option Addr) (kV doc pm : Value) (an : Option Addr) (cdv ct : Value) (osl : Array (Option Value)),
    fd = PySem.W.fnOf x qual (defArgs st) (defBody st) (defScope st) .none kV doc pm an cdv ct ∧ K.lookup f = some ⟨oc, od, .func fd, osl⟩ ∧ PySem.W.codeIn K cdv qual = true
  kp : PySem.W.keepIn K (.ref f) = true
section
variable {P : Program} {w : World} {K : PySem.W.Frag} {mg : Str → Option Value} {base : Heap}
/-- THE RULE for a def: its body as a term of rules, and the reading of that term -/
theorem Fun.ok {x qual : Str} {st : Stmt} {f : Addr} {fd : FuncData} {N ps : List Str} {k : Nat} {sp : Sp} (F : Fun K x qual st f fd) (S : FnScope N ps (defScope st)) (len : ∀ vs H Q E, sp vs H Q E → vs.length = ps.length)
    (hbody : ∀ (cdv : Value) (A : Around) (outer : List Env) (s : Shared) (H : Hp) (vs : List V) (Q : VK) (E : XK), Room k (A.deeper (envOfC qual (defScope st) s.heap.objs.size f cdv)) → sp vs H Q E →
      ∃ t, PSs (cxOf CX0 P w K mg base N qual (defScope st) f cdv A outer s H E).nox (defBody st) t ∧ t { nx := fun _ H' => Q .non H', rt := Q } (start N vs) H) : FnOk P w K mg base CX0 (k + 1) f fd ps sp := by
  obtain ⟨oc, od, kV, doc, pm, an, cdv, ct, osl, rfl, lk, hcd⟩ := F.ex
  refine fn_of lk hcd S len fun A outer s H vs Q E hr hsp => ?_
  obtain ⟨t, h, q⟩ := hbody cdv A outer s H vs Q E hr hsp
  exact ⟨t, h.nox, q⟩
/-- how its arguments bind (no defaults): h is «fun _ _ _ _ _ _ us hl => match us, hl with | [_, _], _ => rfl», one _ a parameter -/
theorem Fun.binds {x qual : Str} {st : Stmt} {f : Addr} {fd : FuncData} {ps : List Str} (F : Fun K x qual st f fd)
    (h : ∀ (kV doc pm : Value) (an : Option Addr) (cdv ct : Value) (us : List Value), us.length = ps.length → bindArgs (PySem.W.fnOf x qual (defArgs st) (defBody st) (defScope st) .none kV doc pm an cdv ct) ⟨us, []⟩ = pure (ps.zip us)) : Binds K fd ps [] := by
  obtain ⟨oc, od, kV, doc, pm, an, cdv, ct, osl, rfl, lk, hcd⟩ := F.ex
  exact .all (h kV doc pm an cdv ct)
theorem fun_mk {x qual : Str} {st : Stmt} {f : Addr} {oc : Value} {od an : Option Addr} {osl : Array (Option Value)} {kV doc pm cdv ct : Value} (l : K.lookup f = some ⟨oc, od, .func (PySem.W.fnOf x qual (defArgs st) (defBody st) (defScope st) .none kV doc pm an cdv ct), osl⟩)
    (c : PySem.W.codeIn K cdv qual = true) (k : PySem.W.keepIn K (.ref f) = true) : Fun K x qual st f (PySem.W.fnOf x qual (defArgs st) (defBody st) (defScope st) .none kV doc pm an cdv ct) := ⟨⟨oc, od, kV, doc, pm, an, cdv, ct, osl, rfl, l, c⟩, k⟩
end

/-! ### expressions in short: the name that stands in the i-th slot -/
section
variable {X : Cx}
end

/-! ### tests -/

/-! ### heaps -/
/-- all that was tracked is as it was -/
def Same (H H' : Hp) : Prop := ∀ b o, H b = some o → H' b = some o
theorem Same.refl (H : Hp) : Same H H := fun _ _ h => h
theorem Same.trans {H H1 H2 : Hp} (a : Same H H1) (b : Same H1 H2) : Same H H2 := fun c o h => b c o (a c o h)
theorem Same.free {H H' : Hp} (e : Same H H') {l : Addr} (h : H' l = Option.none) : H l = Option.none := by
  cases q : H l with
  | none => rfl
  | some o =>
    rw [e l o q] at h
    cases h
theorem Same.seq {K : PySem.W.Frag} {H H' : Hp} {a : Addr} {xs : List V} (e : Same H H') (h : SqL K H a xs) : SqL K H' a xs := by
  rcases h with (h | ⟨o, h⟩) | h
  · exact .inl (.inl (e _ _ h))
  · exact .inl (.inr ⟨o, e _ _ h⟩)
  · exact .inr h

/-! ### a dict's pairs: keys that differ -/
section
variable {κ : Type} [DecidableEq κ]
theorem nd_snoc : ∀ {l : List κ} {k : κ}, l.Nodup → ¬ k ∈ l → (l ++ [k]).Nodup
  | [], k, _, _ => by simp
  | a :: r, k, h, hk => by
    obtain ⟨h1, h2⟩ := List.nodup_cons.mp h
    show (a :: (r ++ [k])).Nodup
    refine List.nodup_cons.mpr ⟨fun m => ?_, nd_snoc h2 fun m => hk (List.mem_cons.mpr (Or.inr m))⟩
    rcases List.mem_append.mp m with q | q
    · exact h1 q
    · exact hk (List.mem_cons.mpr (Or.inl (List.mem_singleton.mp q).symm))
end
end L2

namespace L2
open PySem PySem.Spec PyProof.Rows

/-! ### a list comprehension: its cells -/
def clOf (env : Env) : List (Str × NameKind) → List (Str × Addr) → List (Str × Addr)
  | [], cs => cs
  | (n, k) :: r, cs => clOf env r (if k = .free then (match env.cells.lookup n with | some c => (n, c) :: cs | none => cs) else cs)
theorem closure_go {env : Env} : ∀ (names : List (Str × NameKind)) (cs : List (Str × Addr)), (∀ x ∈ names, x.2 = .free → ∃ c, env.cells.lookup x.1 = some c) →
    (forIn names cs fun (x : Str × NameKind) (r : List (Str × Addr)) => (do
      if x.2 == .free then do
        let c ← cellOf env x.1
        pure (ForInStep.yield ((x.1, c) :: r))
      else pure (ForInStep.yield r) : Sem _)) = pure (clOf env names cs)
  | [], cs, _ => rfl
  | (n, k) :: r, cs, h => by
    rw [List.forIn_cons]
    by_cases hk : k = .free
    · subst hk
      obtain ⟨c, hc⟩ := h (n, .free) List.mem_cons_self rfl
      have hc' : env.cells.lookup n = some c := hc
      have e1 : cellOf env n = pure c := by unfold cellOf; rw [hc']
      simp only [beq_self_eq_true, if_true, e1, pure_bind]
      rw [closure_go r ((n, c) :: cs) fun x hx => h x (List.mem_cons_of_mem _ hx)]
      simp [clOf, hc']
    · have hb : (k == NameKind.free) = false := by simpa using hk
      simp only [hb, Bool.false_eq_true, if_false, pure_bind]
      rw [closure_go r cs fun x hx => h x (List.mem_cons_of_mem _ hx)]
      simp [clOf, hk]
theorem closure_ok {scope : Scope} {env : Env} (h : ∀ x ∈ scope.names, x.2 = .free → ∃ c, env.cells.lookup x.1 = some c) : closureFor scope env = pure (clOf env scope.names []) := by
  have e := closure_go scope.names [] h
  unfold closureFor
  exact (congrArg (fun z => z >>= fun (r : List (Str × Addr)) => (pure r : Sem _)) e).trans (pure_bind _ _)
theorem cl_sound {env : Env} : ∀ (names : List (Str × NameKind)) (cs : List (Str × Addr)), (∀ y d, (y, d) ∈ cs → env.cells.lookup y = some d) → ∀ y d, (y, d) ∈ clOf env names cs → env.cells.lookup y = some d
  | [], _, h => h
  | (n, k) :: r, cs, h => by
    unfold clOf
    refine cl_sound r _ fun y d hm => ?_
    split at hm
    · split at hm
      · rename_i c hc
        rcases List.mem_cons.mp hm with e | e
        · cases e; exact hc
        · exact h y d e
      · exact h y d hm
    · exact h y d hm
theorem cl_from {env : Env} : ∀ (names : List (Str × NameKind)) (cs : List (Str × Addr)) (y : Str) (d : Addr), (y, d) ∈ clOf env names cs → (y, .free) ∈ names ∨ (y, d) ∈ cs
  | [], _, _, _, h => .inr h
  | (n, k) :: r, cs, y, d, h => by
    unfold clOf at h
    rcases cl_from r _ y d h with e | hm
    · exact .inl (List.mem_cons_of_mem _ e)
    · split at hm
      · rename_i hk
        split at hm
        · rcases List.mem_cons.mp hm with e | e
          · cases e; subst hk; exact .inl List.mem_cons_self
          · exact .inr e
        · exact .inr hm
      · exact .inr hm
theorem cl_has {env : Env} : ∀ (names : List (Str × NameKind)) (cs : List (Str × Addr)) (y : Str), ((∃ d, (y, d) ∈ cs) ∨ (y, .free) ∈ names) → (∀ x ∈ names, x.2 = .free → ∃ c, env.cells.lookup x.1 = some c) → ∃ d, (y, d) ∈ clOf env names cs
  | [], _, _, h, _ => by
    rcases h with h | h
    · exact h
    · cases h
  | (n, k) :: r, cs, y, h, hf => by
    unfold clOf
    refine cl_has r _ y ?_ fun x hx => hf x (List.mem_cons_of_mem _ hx)
    rcases h with ⟨d, hd⟩ | h
    · refine .inl ⟨d, ?_⟩
      split
      · split
        · exact List.mem_cons_of_mem _ hd
        · exact hd
      · exact hd
    · rcases List.mem_cons.mp h with e | e
      · have e1 : y = n := congrArg Prod.fst e
        have e2 : NameKind.free = k := congrArg Prod.snd e
        subst e1 e2
        obtain ⟨c, hc⟩ := hf (y, .free) List.mem_cons_self rfl
        have hc' : env.cells.lookup y = some c := hc
        refine .inl ⟨c, ?_⟩
        rw [if_pos rfl, hc']
        exact List.mem_cons_self
      · exact .inr e
theorem mem_lookup {α : Type} : ∀ {l : List (Str × α)} {y : Str} {d : α}, (y, d) ∈ l → ∃ d', l.lookup y = some d' ∧ (y, d') ∈ l
  | (n, c) :: r, y, d, h => by
    by_cases e : y = n
    · subst e
      exact ⟨c, by simp [List.lookup_cons], List.mem_cons_self⟩
    · rcases List.mem_cons.mp h with q | q
      · cases q; exact absurd rfl e
      · obtain ⟨d', h1, h2⟩ := mem_lookup q
        have hb : (y == n) = false := by simpa using e
        exact ⟨d', by rw [List.lookup_cons, hb]; exact h1, List.mem_cons_of_mem _ h2⟩
theorem cl_lookup {env : Env} {names : List (Str × NameKind)} {y : Str} {c : Addr} (h : (clOf env names []).lookup y = some c) : env.cells.lookup y = some c ∧ (y, .free) ∈ names := by
  have hm := PySem.mem_of_lookup h
  refine ⟨cl_sound names [] (fun _ _ z => nomatch z) y c hm, ?_⟩
  rcases cl_from names [] y c hm with e | e
  · exact e
  · cases e
theorem cl_some {env : Env} {names : List (Str × NameKind)} {y : Str} (h : (y, .free) ∈ names) (hf : ∀ x ∈ names, x.2 = .free → ∃ c, env.cells.lookup x.1 = some c) : ∃ c, (clOf env names []).lookup y = some c ∧ env.cells.lookup y = some c := by
  obtain ⟨d, hd⟩ := cl_has names [] y (.inr h) hf
  obtain ⟨c, hc, _⟩ := mem_lookup hd
  exact ⟨c, hc, (cl_lookup hc).1⟩
/-- a name that is a cell or free in the block is free in the comprehension's scope -/
theorem relabel_free {scope : Scope} {env : Env} (hcell : ∀ y ∈ scope.names, y.2 ≠ .cell) {x : Str} (h : (relabel scope env).names.lookup x = some .cell ∨ (relabel scope env).names.lookup x = some .free) : (x, .free) ∈ scope.names := by
  have go : ∀ {k : NameKind}, k = .cell ∨ k = .free → (relabel scope env).names.lookup x = some k → (x, .free) ∈ scope.names := fun {k} hk h => by
    have hm := PySem.mem_of_lookup h
    unfold relabel at hm
    obtain ⟨⟨n, j⟩, hp, e⟩ := List.mem_map.mp hm
    dsimp only at e
    split at e
    · rename_i hc
      cases e
      have : j = .free := by
        have := (Bool.and_eq_true_iff.mp (Bool.and_eq_true_iff.mp hc).1).1
        simpa using this
      subst this; exact hp
    · cases e
      rcases hk with q | q
      · exact absurd q (hcell _ hp)
      · subst q; exact hp
  rcases h with h | h
  · exact go (.inl rfl) h
  · exact go (.inr rfl) h
theorem relabel_some {env : Env} : ∀ {names : List (Str × NameKind)} {x : Str}, names.lookup x = some .free →
    (names.map fun (n, k) => if (k == NameKind.free && env.scope.kind == .function && env.kindOf n == some .cell) then (n, NameKind.cell) else (n, k)).lookup x = some .cell ∨
    (names.map fun (n, k) => if (k == NameKind.free && env.scope.kind == .function && env.kindOf n == some .cell) then (n, NameKind.cell) else (n, k)).lookup x = some .free
  | [], _, h => by simp at h
  | (n, k) :: r, x, h => by
    have ih := @relabel_some env r x
    rw [List.map_cons]
    dsimp only
    cases hx : x == n with
    | true =>
      simp only [List.lookup_cons, hx] at h
      cases h
      split
      · left; simp [List.lookup_cons, hx]
      · right; simp [List.lookup_cons, hx]
    | false =>
      simp only [List.lookup_cons, hx] at h
      split
      · simp only [List.lookup_cons, hx]; exact ih h
      · simp only [List.lookup_cons, hx]; exact ih h

/-! ### the block's context -/
def cxC (X : Cx) (scope : Scope) (C : Addr) (N : List Str) (s₂ : Shared) (H₂ : Hp) (fp : List Addr) : Cx where
  prog := X.prog
  w := X.w
  K := X.K
  mg := X.mg
  base := X.base
  A := X.A
  N := N
  s₀ := s₂
  H₀ := H₂
  env := compEnvC scope (clOf X.env scope.names []) C X.env
  outer := X.stack
  stack := X.stack
  ex := fp
  fn := fun _ => false
  calm := X.calm
  pn := []
  xe := fun _ _ => False
/-- the block's slots: the i-th is the frame's js[i]-th, or its own -/
def stC (js : List (Option Nat)) (σ : St) : St := js.map fun o => match o with | some j => (σ[j]?).getD none | none => none
structure CompScope (X : Cx) (scope : Scope) (N : List Str) (js : List (Option Nat)) : Prop where
  kind : scope.kind = .function
  nocell : ∀ y ∈ scope.names, y.2 ≠ .cell
  loc : ∀ y ∈ scope.names, y.2 = .local → scope.names.lookup y.1 = some .local
  len : js.length = N.length
  cap : ∀ (i j : Nat), js[i]? = some (some j) → ∃ x, N[i]? = some x ∧ X.N[j]? = some x ∧ scope.names.lookup x = some .free
  out : ∀ y ∈ scope.names, y.2 = .free → X.env.kindOf y.1 = some .cell ∨ X.env.kindOf y.1 = some .free
/-- the target's own slots alone are written -/
def GOwn (js : List (Option Nat)) (g : TG) : Prop := ∀ x σ H Q, g x σ H Q → g x σ H fun σ2 H2 => Q σ2 H2 ∧ σ2.length = σ.length ∧ ∀ (i j : Nat), js[i]? = some (some j) → σ2[i]? = σ[i]?
theorem gown_name {js : List (Option Nat)} {k : Nat} (h : js[k]? = some none) : GOwn js (gName k) := fun x σ H Q q => by
  refine ⟨q, by simp, fun i j e => ?_⟩
  have : k ≠ i := fun z => by subst z; rw [h] at e; cases e
  rw [List.getElem?_set_ne this]

section
variable {X : Cx} {pins : List (Addr × Obj)} {σ : St} {H H' : Hp} {s : Shared}
theorem Un.more {fs ex : List Addr} {H H' : Hp} {h h' : Heap} {D : Addr} {o : HO} (u : Un fs ex H H' h h') (hD : h.get? D = none) (hH : H D = none) : Un fs ex H (upd H' D o) h h' where
  keep := u.keep
  slot := u.slot
  free := fun b ob q n hx => by
    have : b ≠ D := fun z => by rw [z, hD] at q; cases q
    rw [upd_ne this]; exact u.free b ob q n hx
  there := u.there
  tups := fun b xs q => by rw [upd_ne (ne_of_none q hH)]; exact u.tups b xs q
  frzs := fun b ob xs q => by rw [upd_ne (ne_of_none q hH)]; exact u.frzs b ob xs q
  tbls := fun b ps q => by rw [upd_ne (ne_of_none q hH)]; exact u.tbls b ps q
theorem HOk.more {P : Program} {w : World} {h : Heap} {D : Addr} {o : HO} (k : HOk P w H h) (hH : H D = none) (new : ObjOk P w (upd H D o) h D o) : HOk P w (upd H D o) h := fun b u e => by
  by_cases hb : b = D
  · subst hb; rw [upd_same] at e; cases e; exact new
  · rw [upd_ne hb] at e
    exact (k b u e).stay (fun _ _ _ q => q) (fun c q => by rw [upd_ne (ne_of_none q hH)]; exact q) fun c xs q => by rw [upd_ne (ne_of_none q hH)]; exact q

theorem CompScope.ok {scope : Scope} {N : List Str} {js : List (Option Nat)} {C : Addr} {fp : List Addr} (S : CompScope X scope N js) (I : Inv X pins σ H s) (hC : s.heap.objs.size ≤ C) (hf : ∀ b ∈ fp, FpOk X pins H b) (hl : ∀ b ∈ fp, b < s.heap.objs.size) :
    (cxC X scope C N s H fp).Ok where
  mod := I.ok.mod
  kind := S.kind
  glob := I.ok.glob
  blt := I.ok.blt
  above := hC
  inj := fun x y c h1 h2 => I.ok.inj x y c (cl_lookup h1).1 (cl_lookup h2).1
  has := fun x hx => by
    have hm : (x, .free) ∈ scope.names := relabel_free S.nocell hx
    obtain ⟨c, h1, _⟩ := cl_some (env := X.env) hm fun y hy hk => I.ok.has y.1 (S.out y hy hk)
    exact ⟨c, h1⟩
  cab := fun x c z => nomatch z
  hd := I.ok.hd
  frames := I.ok.frames
  stk := .inl rfl
  exf := fun b hb => ⟨Nat.ne_of_lt (Nat.lt_of_lt_of_le (hl b hb) hC), fun x c e => (hf b hb).2.2.2.2.1 x c (cl_lookup e).1⟩
  bs := I.bs
  bsz := Nat.le_trans I.ok.bsz I.sz
  noex := fun b o e hb => by
    rcases (hf b hb).2.2.2.1 with z | z
    · exact I.ok.noex b o e z
    · exact absurd (Nat.lt_of_lt_of_le (Heap.lt_size e) (Nat.le_trans I.ok.bsz z)) (Nat.lt_irrefl _)
  exfs := fun b hb hm => by
    rcases List.mem_cons.mp (I.stkSub b hm) with z | z
    · exact (hf b hb).2.1 z
    · exact (hf b hb).2.2.1 z
  funs := I.stack
  frf := I.stkFree
theorem CompScope.start {scope : Scope} {N : List Str} {js : List (Option Nat)} {C D : Addr} {fp : List Addr} {ob : Obj} {h₁ : Heap} {m : Str → Option Value} {tk : Nat} (S : CompScope X scope N js) (I : Inv X pins σ H s) (hC : s.heap.objs.size ≤ C) (hD : s.heap.objs.size ≤ D) (hDC : D ≠ C)
    (hf : ∀ b ∈ fp, FpOk X pins H b) (hl : ∀ b ∈ fp, b < s.heap.objs.size) (k : ∀ b o, s.heap.get? b = some o → h₁.get? b = some o) (hns : h₁.Ns C m) (eD : h₁.get? D = some ob) (nc : ∀ v, ob.data ≠ .cell v) :
    Inv (cxC X scope C N s H fp) [(D, ob)] (stC js σ) H { s with heap := h₁, toks := tk } where
  ok := S.ok I hC hf hl
  os := rfl
  bare := I.bare
  base := Un.kept k
  loc := by
    refine ⟨m, hns, fun i x v h1 h2 h3 => ?_⟩
    have h1 : N[i]? = some x := h1
    unfold stC at h2
    rw [List.getElem?_map] at h2
    cases e : js[i]? with
    | none => rw [e] at h2; cases h2
    | some o =>
      rw [e] at h2
      cases o with
      | none => cases h2
      | some j =>
        have h2' : (σ[j]?).getD none = some v := Option.some.inj h2
        have hσ : σ[j]? = some (some v) := by
          cases q : σ[j]? with
          | none => rw [q] at h2'; cases h2'
          | some z => rw [q] at h2'; exact congrArg some h2'
        obtain ⟨y, e1, e2, e3⟩ := S.cap i j e
        rw [h1] at e1; cases e1
        have hfree : (x, .free) ∈ scope.names := PySem.mem_of_lookup e3
        have ho := S.out (x, .free) hfree rfl
        obtain ⟨mX, _, hlX⟩ := I.loc
        have hvX : Vis X.env.scope x := by
          rcases ho with z | z
          · exact .inr (.inl z)
          · exact .inr (.inr z)
        obtain ⟨u, r, l⟩ := hlX j x v e2 hσ hvX
        refine ⟨u, r, .inr ?_⟩
        rcases l with ⟨hk, _⟩ | ⟨hk, c, hc, hcell⟩
        · rcases ho with z | z
          · have z' : X.env.kindOf x = some .cell := z
            rw [hk] at z'; cases z'
          · have z' : X.env.kindOf x = some .free := z
            rw [hk] at z'; cases z'
        · obtain ⟨c', h1', h2''⟩ := cl_some (env := X.env) hfree fun y hy hk => I.ok.has y.1 (S.out y hy hk)
          rw [hc] at h2''; cases h2''
          refine ⟨relabel_some e3, c, h1', ?_⟩
          obtain ⟨oc, q1, q2⟩ := hcell
          exact ⟨oc, k c oc q1, q2⟩
  cell := fun x c e => by
    obtain ⟨v, oc, q1, q2⟩ := I.cell x c (cl_lookup e).1
    exact ⟨v, oc, k c oc q1, q2⟩
  free := I.hok.fresh hC
  freeC := fun x c e => I.freeC x c (cl_lookup e).1
  pin := fun p hp => by
    have e : p = (D, ob) := by
      rcases List.mem_append.mp hp with z | z
      · exact absurd (show p ∈ ([] : List (Addr × Obj)) from z) (by simp)
      · simpa using z
    subst e
    refine ⟨eD, I.hok.fresh hD, hDC, fun hm => ?_, nc⟩
    rcases List.mem_cons.mp (I.stkSub D hm) with z | z
    · have z : D = X.env.locals := z
      have := I.lt
      rw [← z] at this
      exact absurd (Nat.lt_of_lt_of_le this hD) (Nat.lt_irrefl _)
    · exact I.nofs hD z
  hok := I.hok.kept k
  len := by
    unfold stC
    rw [List.length_map]
    exact S.len
end

/-! ### tests of a comprehension -/
def PTs (X : Cx) (cs : List Expr) (t : TT) : Prop :=
  ∀ (pins : List (Addr × Obj)) (s : Shared) (σ : St) (H : Hp) (Q : Bool → Hp → Prop) (E : Value → Shared → Prop), Inv X pins σ H s → t σ H Q →
    wpAny (model X.prog X.w) X.A (forIn cs true fun c r => if r = true then do let ok ← isTrue c X.env (eval c X.env); pure (ForInStep.yield ok) else pure (ForInStep.yield r)) (TP X pins σ Q) E s
def tTrue : TT := fun _ H Q => Q true H
theorem pts_nil {X : Cx} : PTs X [] tTrue := fun pins s σ H Q E I h => wpAny_tests_nil ⟨H, I, h⟩
theorem pts_one {X : Cx} {c : Expr} {t : TT} (h : PT X c t) (hx : X.xe = fun _ _ => False := by rfl) : PTs X [c] t := fun pins s σ H Q E I q =>
  wpAny_tests_one (wpAny_mono (h pins s σ H Q I q) (fun _ _ z => z) fun e s' z => by rw [hx] at z; exact z.elim)

/-! ### the comprehension -/
def wComp (js : List (Option Nat)) (g : TG) (tt : TT) (te : TE) (σ : St) (J : It) (H1 : Hp) (Q : List V → Hp → Prop) : Prop :=
  ∃ W : Nat → Nat → List V → Hp → Prop, (∃ m, W 0 m [] H1) ∧ ∀ i m ys H, W i m ys H →
    (J.stop i H ∧ Q ys H) ∨
    (J.go i H ∧ ys.length < sizeLine ∧ ∃ N : List V → Hp → Prop, (∀ ys' H', N ys' H' → ∃ m', m' < m ∧ W (i + 1) m' ys' H') ∧
      ∀ x H', J.yld i H x H' → g x (stC js σ) H' fun σ2 H2 => tt σ2 H2 fun b H3 => if b = true then te σ2 H3 fun y H4 => N (ys ++ [y]) H4 else N ys H3)
def tComp (wi : TI) (js : List (Option Nat)) (g : TG) (tt : TT) (te : TE) : TE := fun σ H Q => wi σ H fun J H1 =>
  wComp js g tt te σ J H1 fun ys H2 => ∀ p, H2 p = none → Q (.ref p) (upd H2 p (.lst ys))
/-- name = [..], the store exchanged with the block's end -/
def sComp (i : Nat) (wi : TI) (js : List (Option Nat)) (g : TG) (tt : TT) (te : TE) : TS := fun D σ H => wi σ H fun J H1 =>
  wComp js g tt te σ J H1 fun ys H2 => ∀ p, H2 p = none → D.nx (σ.set i (some (.ref p))) (upd H2 p (.lst ys))

section
variable {X : Cx} {tg iter elt : Expr} {ifs : List Expr} {scope : Scope} {N : List Str} {js : List (Option Nat)} {wi : TI} {g : TG} {tt : TT} {te : TE} {pos : Pos}
/-- the block, from the iterator's coming to its end; RR: what is wanted there -/
theorem comp_block {pins : List (Addr × Obj)} {σ : St} {H2 : Hp} {s2 : Shared} {it : Addr} {fp : List Addr} {tn : Nat → Heap → Prop} {J : It} {Qf : List V → Hp → Prop} {RR : Value → Addr → Result → Shared → Prop} {E : Value → Shared → Prop} (hc : X.calm = true) (S : CompScope X scope N js) (go : GOwn js g)
    (hb : ∀ (C : Addr) (s₂ : Shared) (H₂ : Hp) (fp : List Addr), PG (cxC X scope C N s₂ H₂ fp) tg g ∧ PTs (cxC X scope C N s₂ H₂ fp) ifs tt ∧ PE (cxC X scope C N s₂ H₂ fp) elt te)
    (I2 : Inv X pins σ H2 s2) (T : Turn X.prog X.w X.K tg J fp it tn) (st2 : tn 0 s2.heap) (f2 : ∀ b ∈ fp, FpOk X pins H2 b) (hw : wComp js g tt te σ J H2 Qf)
    (hRR : ∀ (C D : Addr) (ys : List V) (H3 : Hp) (s3 : Shared) (m : Str → Option Value), s2.heap.objs.size ≤ C → s2.heap.objs.size ≤ D → D ≠ C → Inv X pins σ (upd H3 D (.lst ys)) s3 → H3 C = none → H3 D = none → s3.heap.Ns C m → Qf ys H3 → RR (.ref D) C (.ok .next) s3) :
    wpAny (model X.prog X.w) X.A (newList []) (fun acc s₃ => wpAny (model X.prog X.w) X.A (newFunctionEnv scope X.env.globals (clOf X.env scope.names []) [] X.env.qual none .none (some X.env)) (fun cenv s₄ =>
      codeAny (model X.prog X.w) X.A (.compStart (.ListComp elt [⟨tg, iter, ifs, 0⟩] scope pos) 0 (.ref it) acc { cenv with scope := relabel scope X.env }) (RR acc cenv.locals) s₄) E s₃) E s2 := by
  obtain ⟨W, ⟨m0, w0⟩, turn⟩ := hw
  refine wpAny_newObj_type (wpAny_newFunctionEnv S.nocell (by intro y hy; simp at hy) (fun h₁ hns₁ hsb₁ => ?_) S.kind)
  dsimp only at hns₁ hsb₁ ⊢
  generalize hH2 : s2.heap.push { cls := .type "list", dict := none, data := .seq ([] : List Value).toArray } = HP at hns₁ hsb₁ ⊢
  have hC : HP.objs.size = s2.heap.objs.size + 1 := by rw [← hH2, Heap.size_push]
  have hDC : s2.heap.objs.size ≠ HP.objs.size := by rw [hC]; exact Nat.ne_of_lt (Nat.lt_succ_self _)
  have hCle : s2.heap.objs.size ≤ HP.objs.size := by rw [hC]; exact Nat.le_succ _
  have old : ∀ b o, s2.heap.get? b = some o → h₁.get? b = some o := fun b o e => hsb₁.extBut b o (by rw [hC]; exact Nat.ne_of_lt (Nat.lt_succ_of_lt (Heap.lt_size e))) (Heap.get?_push_of_some _ (hH2 ▸ Heap.get?_push_of_some _ e))
  have hacc : h₁.get? s2.heap.objs.size = some { cls := .type "list", data := .seq ([] : List Value).toArray 0 } := hsb₁.extBut _ _ hDC (Heap.get?_push_of_some _ (hH2 ▸ Heap.get?_push_size _ rfl))
  have hfl : ∀ b ∈ fp, b < s2.heap.objs.size := fun b hb => by
    obtain ⟨o, e, _⟩ := T.obj _ _ st2 b hb
    exact Heap.lt_size e
  generalize hDn : s2.heap.objs.size = D at hDC hCle hacc ⊢
  generalize hCn : HP.objs.size = C at hDC hCle hns₁ ⊢
  have hCs : s2.heap.objs.size ≤ C := by rw [hDn]; exact hCle
  have hDs : s2.heap.objs.size ≤ D := Nat.le_of_eq hDn
  obtain ⟨pg, pt, pe⟩ := hb C s2 H2 fp
  have I0 := S.start (D := D) (fp := fp) (tk := s2.toks + ([] : List (Str × Value)).length) I2 hCs hDs hDC f2 hfl old hns₁ hacc (fun v z => nomatch z)
  -- what stays true of the iterator's objects in the block
  have fpY : ∀ {H' : Hp} {pl : List (Addr × Obj)}, (∀ b ∈ fp, H' b = none) → (∀ p ∈ pl, p.1 ∉ fp) → ∀ b ∈ fp, FpOk (cxC X scope C N s2 H2 fp) pl H' b := fun hn hp b hb =>
    ⟨hn b hb, Nat.ne_of_lt (Nat.lt_of_lt_of_le (hfl b hb) hCs), (S.ok I2 hCs f2 hfl).exfs b hb, .inl hb, fun x c e => (f2 b hb).2.2.2.2.1 x c (cl_lookup e).1, fun p hm z => by
      rcases List.mem_append.mp hm with q | q
      · exact absurd (show p ∈ ([] : List (Addr × Obj)) from q) (by simp)
      · exact hp p q (z ▸ hb)⟩
  have dfp : D ∉ fp := fun z => absurd (Nat.lt_of_lt_of_le (hfl D z) hDs) (Nat.lt_irrefl _)
  have one : ∀ {ob : Obj}, ∀ p ∈ [(D, ob)], p.1 ∉ fp := fun p hp => by
    have e := List.mem_singleton.mp hp
    subst e; exact dfp
  have loop : ∀ s₃ : Shared, s₃ = { s2 with heap := h₁, toks := s2.toks + ([] : List (Str × Value)).length } →
      codeAny (model X.prog X.w) X.A (.compLoop (.ListComp elt [⟨tg, iter, ifs, 0⟩] scope pos) 0 (.ref it) (.ref D) (compEnvC scope (clOf X.env scope.names []) C X.env)) (RR (.ref D) C) s₃ := by
    rintro s₃ rfl
    refine codeAny_loop rfl (fun n s' => ∃ (i : Nat) (ys : List V) (H' : Hp) (its : List Value) (k : Nat), Inv (cxC X scope C N s2 H2 fp) [(D, { cls := .type "list", data := .seq its.toArray k })] (stC js σ) H' s' ∧ Vals ys its ∧ ys.length ≤ sizeLine ∧ tn i s'.heap ∧ (∀ b ∈ fp, H' b = none) ∧ W i n ys H') ?_ m0 ?_
    · rintro n s3 ⟨i, ys, H3, its, k, I3, rv, hz, st3, fr3, w3⟩
      show wpAny _ X.A ((compTurn (.ListComp elt [⟨tg, iter, ifs, 0⟩] scope pos) 0 (.ref it) (.ref D) (compEnvC scope (clOf X.env scope.names []) C X.env)).onRaise (fun x => do noteFrame x _; theTreesLotGoes x)) _ _ s3
      refine wpAny_noted (wpAny_noRaise ?_)
      rw [compTurn_list]
      rcases turn i n ys H3 w3 with ⟨stop, qn⟩ | ⟨goes, hlt, Nx, hN, step⟩
      · refine wpAny_bind (wpAny_standAt (wpAny_bind (thn (T.done (cxC X scope C N s2 H2 fp) rfl rfl rfl hc i _ s3 (stC js σ) H3 (fun _ _ => False) I3 (fpY fr3 one) st3 stop) fun r s4 ⟨hr, I4⟩ => ?_)))
        subst hr
        refine wpAny_pure ?_
        have pD := I4.pin (D, { cls := .type "list", data := .seq its.toArray k }) (by simp [cxC])
        obtain ⟨mC, hnC, _⟩ := id I4.loc
        have IX : Inv X pins σ (upd H3 D (.lst ys)) s4 := by
          refine I2.call' (ch := fp) I4.os (Un.more I4.base (Heap.get?_none_of_le hDs) (I2.hok.fresh hDs)) (HOk.more I4.hok pD.2.1 ⟨hz, its, k, rv, pD.1⟩) I4.bare fun b hb => ?_
          obtain ⟨_, f1, _, f3, f4, f5⟩ := f2 b hb
          exact ⟨f3, f1, f4, f5⟩
        exact hRR C D ys H3 s4 mC hCs hDs hDC IX I4.free pD.2.1 hnC qn
      · refine wpAny_bind (wpAny_standAt (wpAny_bind (thn (T.item (cxC X scope C N s2 H2 fp) rfl rfl rfl hc i _ s3 (stC js σ) H3 (fun _ _ => False) I3 (fpY fr3 one) st3 goes) fun r s4 ⟨u, hr, h4⟩ => ?_)))
        subst hr
        refine wpAny_bind (thn h4 fun _ s5 ⟨x, H5, I5, r5, y5, st5, fr5⟩ => ?_)
        have I5' := I5.pinned (fpY fr5 one) (T.obj _ _ st5)
        refine wpAny_bind (thn (pg _ s5 (stC js σ) H5 x u _ I5' r5 (go _ _ _ _ (step x H5 y5))) fun _ s6 ⟨σ6, H6, I6, ⟨q6, l6, e6⟩⟩ => ?_)
        have weak : ∀ {pl : List (Addr × Obj)} {H7 : Hp} {s7 : Shared}, Inv (cxC X scope C N s2 H2 fp) pl σ6 H7 s7 → Inv (cxC X scope C N s2 H2 fp) pl (stC js σ) H7 s7 := fun {pl H7 s7} I7 => by
          refine I7.weak l6.symm fun j v hj => ?_
          cases e : js[j]? with
          | none => unfold stC at hj; rw [List.getElem?_map, e] at hj; cases hj
          | some o =>
            cases o with
            | none => unfold stC at hj; rw [List.getElem?_map, e] at hj; cases hj
            | some j' => rw [e6 j j' e]; exact hj
        have keepN : ∀ {H7 : Hp} {s7 : Shared} {pl : List (Addr × Obj)}, Inv (cxC X scope C N s2 H2 fp) (pl ++ pinsAt fp s5.heap) (stC js σ) H7 s7 → tn (i + 1) s7.heap ∧ ∀ b ∈ fp, H7 b = none := fun {H7 s7 pl} I7 => by
          refine ⟨T.keep _ _ _ st5 fun b hb o e => (I7.pin (b, o) (List.mem_append_right _ (List.mem_append_right _ (mem_pinsAt hb e)))).1, fun b hb => ?_⟩
          obtain ⟨o, e, d⟩ := T.obj _ _ st5 b hb
          exact (I7.pin (b, o) (List.mem_append_right _ (List.mem_append_right _ (mem_pinsAt hb e)))).2.1
        refine wpAny_bind (thn (pt _ s6 σ6 H6 _ _ I6 q6) fun ok s7 ⟨H7, I7, q7⟩ => ?_)
        cases ok with
        | false =>
          rw [if_neg Bool.false_ne_true] at q7
          refine wpAny_pure ⟨rfl, ?_⟩
          obtain ⟨m', hm, w7⟩ := hN ys H7 q7
          have I7' := weak I7
          obtain ⟨k1, k2⟩ := keepN I7'
          exact ⟨m', hm, i + 1, ys, H7, its, k, I7'.unpinned, rv, hz, k1, k2, w7⟩
        | true =>
          rw [if_pos rfl] at q7
          show wpAny _ _ ((eval elt _ >>= fun x => call (.builtin "list.append") [.ref D, x] >>= fun _ => pure ()) >>= fun _ => again _) _ _ _
          refine wpAny_bind (wpAny_bind (thn (pe _ s7 σ6 H7 _ I7 q7) fun y s8 ⟨yv, H8, I8, r8, q8⟩ => ?_))
          obtain ⟨m', hm, w8⟩ := hN (ys ++ [yv]) H8 q8
          have I8' := weak I8
          obtain ⟨k1, k2⟩ := keepN I8'
          have pD := I8'.pin (D, { cls := .type "list", data := .seq its.toArray k }) (by simp [cxC])
          have hln := rv.length
          refine wpAny_bind (call_meets F.slot_list_append ⟨_, pD.1, rfl⟩ F.entry_list_append (F.args_list_append_2 _ _) (PySem.list_append D its.toArray k y (by rw [List.size_toArray]; omega)) ⟨pD.1, ?_⟩)
          refine wpAny_pure (wpAny_pure ⟨rfl, m', hm, i + 1, ys ++ [yv], H8, its ++ [y], ?_⟩)
          have q := PySem.IsL.update pD.1 (fun z => z.push y)
          have eA : its.toArray.push y = (its ++ [y]).toArray := by simp
          rw [eA] at q
          have I9 : Inv (cxC X scope C N s2 H2 fp) [] (stC js σ) H8 s8 := I8'.pins_of fun p hp => absurd hp (by simp)
          have hob : ∀ b o, b ≠ D → s8.heap.get? b = some o → (s8.heap.update D (Obj.mapSeq fun z => z.push y)).get? b = some o := fun b o hb hu => (Heap.get?_update_other s8.heap _ (Ne.symm hb)).trans hu
          have I10 : Inv (cxC X scope C N s2 H2 fp) [] (stC js σ) H8 { s8 with heap := s8.heap.update D (Obj.mapSeq fun z => z.push y), toks := s8.toks } := I9.turned hob pD.2.1 pD.2.2.1 (.inr hDs)
            (fun x c e z => by
              obtain ⟨v, oc, q1, q2⟩ := I2.cell x c (cl_lookup e).1
              rw [z] at q1
              exact absurd (Nat.lt_of_lt_of_le (Heap.lt_size q1) hDs) (Nat.lt_irrefl _))
            (fun p hp => by
              rcases List.mem_append.mp hp with q | q
              · exact absurd (show p ∈ ([] : List (Addr × Obj)) from q) (by simp)
              · exact absurd q (by simp))
          refine ⟨(if ((its ++ [y]).toArray).size == its.toArray.size then k else k + 1), I10.pins_of fun p hp => ?_, rv.append (.cons r8 .nil), ?_, ?_, k2, w8⟩
          · have e := List.mem_singleton.mp hp
            subst e
            exact ⟨q, pD.2.1, pD.2.2.1, pD.2.2.2.1, fun v z => nomatch z⟩
          · rw [List.length_append, List.length_singleton]; omega
          · exact T.keep _ _ _ k1 fun b hb o e => hob b o (fun z => dfp (z ▸ hb)) e
    · exact ⟨0, [], H2, [], 0, I0, .nil, Nat.zero_le _, T.keep _ _ _ st2 fun b _ o e => old b o e, fun b hb => (f2 b hb).1, w0⟩
  exact codeAny_compStart_list (loop _ rfl) (T.self _ 0 _ _ _ (T.keep _ _ _ st2 fun b _ o e => old b o e) (loop _ rfl))

theorem pe_comp (hc : X.calm = true) (S : CompScope X scope N js) (go : GOwn js g) (hi : PI X tg iter wi)
    (hb : ∀ (C : Addr) (s₂ : Shared) (H₂ : Hp) (fp : List Addr), PG (cxC X scope C N s₂ H₂ fp) tg g ∧ PTs (cxC X scope C N s₂ H₂ fp) ifs tt ∧ PE (cxC X scope C N s₂ H₂ fp) elt te)
    (hs : ∀ x, foldedSetIterable iter X.env x = pure x := by intro _; rfl) : PE X (.ListComp elt [⟨tg, iter, ifs, 0⟩] scope pos) (tComp wi js g tt te) := by
  intro pins s σ H Q I h
  rw [eval_ListComp]
  refine wpAny_comprehension_free (use := none) rfl hs (closure_ok fun y hy hk => I.ok.has y.1 (S.out y hy hk)) S.kind S.loc (thn (hi pins s σ H _ I h) fun v s1 h1 => thn h1 fun itv s2 h2 => ?_)
  obtain ⟨it, fp, tn, J, H2, e, I2, T, st2, f2, hw⟩ := h2
  subst e
  refine comp_block (RR := fun acc C => compPost (model X.prog X.w) X.A X.xe none (EP X pins σ Q) acc C) hc S go hb I2 T st2 f2 hw ?_
  intro C D ys H3 s3 m hC hD hDC I3 fC fD hn q
  refine ⟨m, hn, fun h' hs' => ?_⟩
  refine ⟨.ref D, upd H3 D (.lst ys), I3.turned (it := C) (t' := s3.toks) (fun b o hb e => (hs'.2 b hb).trans e) (by rw [upd_ne (Ne.symm hDC)]; exact fC) ?_ (.inr (Nat.le_trans I2.sz hC)) ?_ ?_, rfl, q D fD⟩
  · exact Nat.ne_of_gt (Nat.lt_of_lt_of_le I2.lt hC)
  · intro x c e z
    obtain ⟨v, oc, q1, q2⟩ := I2.cell x c e
    rw [z] at q1
    exact absurd (Nat.lt_of_lt_of_le (Heap.lt_size q1) hC) (Nat.lt_irrefl _)
  · intro p hp z
    have := Heap.lt_size (I2.pin p hp).1
    rw [z] at this
    exact absurd (Nat.lt_of_lt_of_le this hC) (Nat.lt_irrefl _)
/-- name = [..] where the stores are exchanged -/
theorem ps_comp {i : Nat} {y : Str} {py spos : Pos} (hN : X.N.Nodup) (hy : X.N[i]? = some y) (hx : Loc X.env.scope y) (hc : X.calm = true) (S : CompScope X scope N js) (go : GOwn js g) (hi : PI X tg iter wi)
    (hb : ∀ (C : Addr) (s₂ : Shared) (H₂ : Hp) (fp : List Addr), PG (cxC X scope C N s₂ H₂ fp) tg g ∧ PTs (cxC X scope C N s₂ H₂ fp) ifs tt ∧ PE (cxC X scope C N s₂ H₂ fp) elt te)
    (hsw : swapsWith (.ListComp elt [⟨tg, iter, ifs, 0⟩] scope pos) (some (.Name y py)) spos.line X.env = pure true)
    (hs : ∀ x, foldedSetIterable iter X.env x = pure x := by intro _; rfl) (hf : X.fn y = true ∨ X.env.scope.names.lookup y = some .local := by first | exact .inl rfl | exact .inr rfl | assumption) :
    PS X (.Assign [.Name y py] (.ListComp elt [⟨tg, iter, ifs, 0⟩] scope pos) spos) (sComp i wi js g tt te) := by
  intro pins s σ H D I h
  rw [exec_Assign_Name_used _ _ _ _ hsw]
  refine wpAny_bind (wpAny_standAt (wpAny_bind ?_))
  show wpAny _ X.A (do let _ ← comprehension (.ListComp elt [⟨tg, iter, ifs, 0⟩] scope pos) scope X.env _ (newList []) false (eval iter X.env) (some (assign (.Name y py) X.env))) _ _ s
  refine wpAny_bind (thn (wpAny_comprehension_free (use := some (assign (.Name y py) X.env)) (Q := fun _ s' => SP X pins D .next s') rfl hs (closure_ok fun y hy hk => I.ok.has y.1 (S.out y hy hk)) S.kind S.loc
    (thn (hi pins s σ H _ I h) fun v s1 h1 => thn h1 fun itv s2 h2 => ?_)) fun _ s' hq => wpAny_pure (wpAny_pure hq))
  obtain ⟨it, fp, tn, J, H2, e, I2, T, st2, f2, hw⟩ := h2
  subst e
  refine comp_block (RR := fun acc C => compPost (model X.prog X.w) X.A X.xe (some (assign (.Name y py) X.env)) (fun _ s' => SP X pins D .next s') acc C) hc S go hb I2 T st2 f2 hw ?_
  intro C Da ys H3 s3 m hC hD hDC I3 fC fD hn q
  have cne : ∀ x c, X.env.cells.lookup x = some c → c ≠ C := fun x c e z => by
    obtain ⟨v, oc, q1, q2⟩ := I2.cell x c e
    rw [z] at q1
    exact absurd (Nat.lt_of_lt_of_le (Heap.lt_size q1) hC) (Nat.lt_irrefl _)
  have lne : C ≠ X.env.locals := Nat.ne_of_gt (Nat.lt_of_lt_of_le I2.lt hC)
  show wpAny _ X.A (assign (.Name y py) X.env (.ref Da)) _ _ _
  refine wpAny_assign_Name (store_ok2 (v := .ref Da) I3 hN hy hx rfl (fun s4 I4 hs4 => ?_) hf)
  obtain ⟨a, hsb, ha⟩ := hs4
  have aC : C ≠ a := by
    rcases ha with z | z
    · rw [z]; exact lne
    · exact Ne.symm (cne y a z)
  refine ⟨m, hn.sameBut hsb aC, fun h' hs' => ?_⟩
  refine ⟨_, _, I4.turned (it := C) (t' := s4.toks) (fun b o hb e => (hs'.2 b hb).trans e) (by rw [upd_ne (Ne.symm hDC)]; exact fC) lne (.inr (Nat.le_trans I2.sz hC)) cne ?_, q Da fD⟩
  intro p hp z
  have := Heap.lt_size (I2.pin p hp).1
  rw [z] at this
  exact absurd (Nat.lt_of_lt_of_le this hC) (Nat.lt_irrefl _)
end
end L2

namespace L2
open PySem PySem.Spec PyProof.Rows

/-! ### a text walked sign by sign -/
def Its (x : Str) : It := ⟨fun i _ => i < x.cps.size, fun i H v H' => H' = H ∧ ∃ c, x.cps[i]? = some c ∧ v = .str ⟨#[c]⟩, fun i _ => x.cps.size ≤ i⟩
theorem turn_ascii {P : Program} {w : World} {K : PySem.W.Frag} {tg : Expr} (it : Addr) (x : Str) (t : Tok) : Turn P w K tg (Its x) [it] it (fun i h => h.IsStrIter it "str_ascii_iterator" x t i) where
  mem := by simp
  obj := fun i h st b hb => by
    have e : b = it := by simpa using hb
    subst e
    obtain ⟨o, e, c, d⟩ := st
    exact ⟨o, e, fun v z => by rw [d] at z; cases z⟩
  keep := fun i h h' st k => let ⟨o, ho, r⟩ := st; ⟨o, k it (by simp) o ho, r⟩
  item := by
    intro X hP hw hK hc i pins s σ H E I hf st hg
    subst hP hw hK
    obtain ⟨f0, f1, f2, f3, f4, f5⟩ := hf it (by simp)
    have hi : i < x.cps.size := hg
    refine wpAny_pyNext_ascii_item st (c := x.cps[i]) (by simp [hi]) fun h' st' sb => ?_
    have I1 : Inv X pins σ H { s with heap := h', toks := s.toks + 1 } := I.turned (fun b o hb e => (sb.2 b hb).trans e) f0 f1 f3 f4 f5
    obtain ⟨o, e, c, d⟩ := id st'
    exact ⟨_, rfl, go_of (s := { s with heap := h', toks := s.toks + 1 }) e c d (by decide) ⟨.str ⟨#[x.cps[i]]⟩, H, I1, ⟨_, rfl⟩, ⟨rfl, _, by simp [hi], rfl⟩, st', fun b hb => (hf b hb).1⟩⟩
  done := by
    intro X hP hw hK hc i pins s σ H E I hf st hg
    subst hP hw hK
    obtain ⟨f0, f1, f2, f3, f4, f5⟩ := hf it (by simp)
    have hi : x.cps.size ≤ i := hg
    exact wpAny_pyNext_ascii_end (I.ok.hd hc) st (by simp [hi]) fun h' eb => ⟨rfl, I.turned (t' := s.toks) (fun b o hb e => eb b o hb e) f0 f1 f3 f4 f5⟩
  self := fun _ _ _ _ _ st h => wpAny_pyIter_striter_ascii st h
theorem turn_wide {P : Program} {w : World} {K : PySem.W.Frag} {tg : Expr} (it : Addr) (x : Str) (t : Tok) : Turn P w K tg (Its x) [it] it (fun i h => h.IsStrIter it "str_iterator" x t i) where
  mem := by simp
  obj := fun i h st b hb => by
    have e : b = it := by simpa using hb
    subst e
    obtain ⟨o, e, c, d⟩ := st
    exact ⟨o, e, fun v z => by rw [d] at z; cases z⟩
  keep := fun i h h' st k => let ⟨o, ho, r⟩ := st; ⟨o, k it (by simp) o ho, r⟩
  item := by
    intro X hP hw hK hc i pins s σ H E I hf st hg
    subst hP hw hK
    obtain ⟨f0, f1, f2, f3, f4, f5⟩ := hf it (by simp)
    have hi : i < x.cps.size := hg
    refine wpAny_pyNext_wide_item st (c := x.cps[i]) (by simp [hi]) fun h' st' sb => ?_
    have I1 : Inv X pins σ H { s with heap := h', toks := s.toks + 1 } := I.turned (fun b o hb e => (sb.2 b hb).trans e) f0 f1 f3 f4 f5
    obtain ⟨o, e, c, d⟩ := id st'
    exact ⟨_, rfl, go_of (s := { s with heap := h', toks := s.toks + 1 }) e c d (by decide) ⟨.str ⟨#[x.cps[i]]⟩, H, I1, ⟨_, rfl⟩, ⟨rfl, _, by simp [hi], rfl⟩, st', fun b hb => (hf b hb).1⟩⟩
  done := by
    intro X hP hw hK hc i pins s σ H E I hf st hg
    subst hP hw hK
    obtain ⟨f0, f1, f2, f3, f4, f5⟩ := hf it (by simp)
    have hi : x.cps.size ≤ i := hg
    exact wpAny_pyNext_wide_end (I.ok.hd hc) st (by simp [hi]) fun h' eb => ⟨rfl, I.turned (t' := s.toks) (fun b o hb e => eb b o hb e) f0 f1 f3 f4 f5⟩
  self := fun _ _ _ _ _ st h => wpAny_pyIter_striter_wide st h
section
variable {X : Cx} {tg : Expr}
def iStr (tl : TE) : TI := fun σ H R => tl σ H fun x H1 => ∃ z, x = .str z ∧ R (Its z) H1
theorem pi_str {l : Expr} {tl : TE} (hl : PE X l tl) : PI X tg l (iStr tl) := by
  intro pins s σ H R I h
  refine thn (hl pins s σ H _ I h) fun v s1 ⟨x, H1, I1, r1, q1⟩ => ?_
  obtain ⟨z, rfl, q⟩ := q1
  obtain ⟨t, rfl⟩ := r1
  have fp : ∀ b ∈ [s1.heap.objs.size], FpOk X pins H1 b := fun b hb => by
    have e : b = s1.heap.objs.size := by simpa using hb
    subst e
    exact I1.fpOk (Nat.le_refl _) (I1.hok.fresh (Nat.le_refl _))
  cases ha : z.cps.all (· < 128)
  · refine wpAny_pyIter_wide ha ?_
    exact ⟨s1.heap.objs.size, [s1.heap.objs.size], _, _, H1, rfl, I1.kept (t' := s1.toks) fun b o e => Heap.get?_push_of_some _ e, turn_wide _ z t, ⟨_, Heap.get?_push_size _ rfl, rfl, rfl⟩, fp, q⟩
  · refine wpAny_pyIter_ascii ha ?_
    exact ⟨s1.heap.objs.size, [s1.heap.objs.size], _, _, H1, rfl, I1.kept (t' := s1.toks) fun b o e => Heap.get?_push_of_some _ e, turn_ascii _ z t, ⟨_, Heap.get?_push_size _ rfl, rfl, rfl⟩, fp, q⟩
end

/-! ### texts by their codes -/
abbrev tx (l : List Nat) : Str := ⟨l.toArray⟩
theorem tx_cps (x : Str) : tx x.cps.toList = x := by cases x; simp
theorem tx_len (l : List Nat) : (tx l).length = l.length := by simp [Str.length]
theorem tx_app (a b : List Nat) : tx a ++ tx b = tx (a ++ b) := by
  show Str.append (tx a) (tx b) = _
  unfold Str.append
  simp
theorem tx_inj {a b : List Nat} : tx a = tx b ↔ a = b := by
  constructor
  · intro h
    have := congrArg (fun s : Str => s.cps.toList) h
    simpa using this
  · intro h; rw [h]
theorem app_cps (x y : Str) : (x ++ y).cps.toList = x.cps.toList ++ y.cps.toList := by
  show (Str.append x y).cps.toList = _
  unfold Str.append
  simp
theorem app_len (x y : Str) : (x ++ y).length = x.length + y.length := by
  show (Str.append x y).length = _
  unfold Str.append Str.length
  simp
def cut {α : Type} (xs : List α) (lo hi : Option Int) : List α := (xs.drop (HT.sIx xs.length 0 lo)).take (HT.sIx xs.length xs.length hi - HT.sIx xs.length 0 lo)

/-! ### a slice of a text -/
section
variable {X : Cx}

/-! ### join -/
theorem strsAre_of {ns : List Str} : ∀ {us : List Value}, Vals (ns.map V.str) us → StrsAre us ns := by
  induction ns with
  | nil => intro us r; rw [List.map_nil] at r; cases r; exact .nil
  | cons n ns ih =>
    intro us r
    rw [List.map_cons] at r
    cases r with
    | cons r1 r2 =>
      obtain ⟨t, e⟩ := r1
      subst e
      exact .cons n t (ih r2)
def rJoin (K : PySem.W.Frag) : V → List V → Hp → VK → Prop := fun x vs H Q => ∃ sep p ys, x = .str sep ∧ vs = [.ref p] ∧ SqL K H p (ys.map V.str) ∧ (ys.map (·.length)).sum + ys.length * sep.length ≤ 16777216 ∧ Q (.str (Txt.join sep ys)) H
theorem mt_join : MtR X "str.join" (rJoin X.K) := by
  intro pins s σ H x vs v us Q I rx rv h
  obtain ⟨sep, p, ys, rfl, rfl, hq, hz, q⟩ := h
  obtain ⟨t, rfl⟩ := rx
  obtain ⟨u, rfl, ru⟩ := rv.one
  cases ru
  obtain ⟨its, r, pl, _⟩ := I.list hq
  exact join_list pl.isList (by simpa using strsAre_of r) hz fun t' k => ⟨.str _, H, I.tok _, ⟨_, rfl⟩, q⟩

/-! ### isinstance -/
def rIsi (K : PySem.W.Frag) : List V → Hp → VK → Prop := fun vs H Q => ∃ x T t b, vs = [x, .ty T] ∧ TyOf K H x t ∧ PySem.W.kitOne K t (.type T) = some b ∧ Q (.bl b) H
theorem call_isi : CallR X (.builtin "isinstance") (rIsi X.K) := by
  intro pins s σ H xs us Q I r h
  obtain ⟨x, T, t, b, rfl, ty, e, q⟩ := h
  obtain ⟨u, c, rfl, ru, rc⟩ : ∃ u c, us = [u, c] ∧ RelV x u ∧ RelV (.ty T) c := by
    cases r with
    | cons p q =>
      cases q with
      | cons p' q' =>
        cases q'
        exact ⟨_, _, rfl, p, p'⟩
  cases (show c = Value.type T from rc)
  exact isinst_ok I ru ty e fun tk => ⟨.bl b, H, I.tok _, rfl, q⟩

/-! ### all, any, sum of a list -/
theorem boolsAre_of {ns : List Bool} : ∀ {us : List Value}, Vals (ns.map V.bl) us → PyProof.Rows.LSm.BoolsAre us ns := by
  induction ns with
  | nil => intro us r; rw [List.map_nil] at r; cases r; exact .nil
  | cons n ns ih =>
    intro us r
    rw [List.map_cons] at r
    cases r with
    | cons r1 r2 =>
      have e := r1
      cases (show _ = Value.bool n from e)
      exact .cons n (ih r2)

def rAll (K : PySem.W.Frag) : List V → Hp → VK → Prop := fun vs H Q => ∃ (p : Addr) (bs : List Bool), vs = [.ref p] ∧ SqL K H p (bs.map V.bl) ∧ Q (.bl (bs.all id)) H
def rSum (K : PySem.W.Frag) : List V → Hp → VK → Prop := fun vs H Q => ∃ (p : Addr) (ns : List Int), vs = [.ref p] ∧ SqL K H p (ns.map V.int) ∧ Q (.int (List.sum ns)) H
theorem call_all (hc : X.calm = true) : CallR X (.builtin "all") (rAll X.K) := by
  intro pins s σ H xs us Q I r h
  obtain ⟨p, bs, rfl, hq, q⟩ := h
  obtain ⟨u, rfl, ru⟩ := vals1 r
  cases ru
  obtain ⟨its, rv, pl, hz⟩ := I.list hq
  have hl := pl.isList
  have hb := boolsAre_of rv
  have hlt : p < s.heap.objs.size := by obtain ⟨_, e, _⟩ := hl; exact Heap.lt_size e
  refine call_all_walk (wpAny_pyIter_list hl ?_)
  refine ⟨s.heap.objs.size, [s.heap.objs.size, p], [s.heap.objs.size], its.toArray.size, _, _, fun i => (bs[i]?).getD true, rfl, Walks.list (A := X.A.in1) (I.ok.hd hc) _ p (Nat.ne_of_lt hlt) its.toArray,
    ⟨⟨_, Heap.get?_push_size _ rfl, rfl, rfl⟩, hl.push _⟩, fun i v s' Q' E' hP hQ => ?_, fun h' tk hk => ?_⟩
  · obtain ⟨b, e, rfl⟩ := hb.get i v (by simpa using hP)
    simp only [e, Option.getD_some] at hQ
    exact wpAny_truthy_bool hQ
  · have e : ((List.range its.toArray.size).all fun i => (bs[i]?).getD true) = bs.all id := by
      rw [List.size_toArray, hb.length]; exact PyProof.Rows.LSm.range_all bs
    rw [e]
    exact ⟨.bl _, H, I.kept (PyProof.Rows.LSm.kept_iter hk), rfl, q⟩
theorem call_sum (hc : X.calm = true) : CallR X (.builtin "sum") (rSum X.K) := by
  intro pins s σ H xs us Q I r h
  obtain ⟨p, ns, rfl, hq, q⟩ := h
  obtain ⟨u, rfl, ru⟩ := vals1 r
  cases ru
  obtain ⟨its, rv, pl, hz⟩ := I.list hq
  have hi := intsAre_of rv
  obtain ⟨xs, hx⟩ := hi.allInts.items
  have hl' : s.heap.IsList p (intItems xs) := hx ▸ pl.isList
  refine sum_intListG (I.ok.hd hc) hl' fun h' tk t' hk => ?_
  have e1 : ns = xs.toList.map (·.1) := by
    rw [← nums_intItems, ← hx]
    exact (show numsOf its.toArray.toList = ns from hi.numsOf).symm
  have e2 : preSum (numAt xs) xs.size = ns.sum := by
    rw [preSum_eq, List.take_of_length_le (by simp), e1]
  rw [e2]
  exact ⟨.int _, H, I.kept hk, ⟨_, rfl⟩, q⟩
end

/-! ### list(reversed(..)) -/
section
variable {prog : Program} {w : World} {A : Around} {E : Value → Shared → Prop} {s : Shared}
theorem nolen_lri : typeLookup (.type "list_reverseiterator") "__len__" = pure none := by rw [typeLookup_type, builtinLookup_eq_fast]; kernel_rfl
theorem hint_lri : typeLookup (.type "list_reverseiterator") "__length_hint__" = pure (some (.builtin "list_reverseiterator.__length_hint__")) := by rw [typeLookup_type, builtinLookup_eq_fast]; kernel_rfl
theorem lri_hint {r : Addr} {Q : Bool → Shared → Prop} (hT : s.TypeIs (.ref r) "list_reverseiterator") (h : Q false s) : wpAny (model prog w) A (Builtin.List.listLengthHint (.ref r)) Q E s := by
  unfold Builtin.List.listLengthHint
  refine wpAny_bind (wpAny_specialOf hT nolen_lri ?_)
  show wpAny _ A (specialOf (Value.ref r) (Str.ofString "__length_hint__") >>= _) _ _ _
  refine wpAny_bind (wpAny_specialOf hT hint_lri ?_)
  generalize hid : ("list_reverseiterator.__length_hint__" : String) = id0
  wp_delta
  rw [show splitId id0 = some ("list_reverseiterator", "__length_hint__") from by subst hid; decide +kernel]
  subst hid
  refine wpAny_bind (wpAny_isInstance (T := "list_reverseiterator") (b := true) hT (by rw [isSubtype_type]; kernel_rfl) ?_)
  exact wpAny_pure h
theorem call_list_rev {l : Addr} {items : Array Value} {Q : Value → Shared → Prop} (hh : A.handled = none) (hl : s.heap.IsList l items) (hn : items.size ≤ sizeLine)
    (hQ : ∀ h' tk acc' c', (∀ b o, s.heap.get? b = some o → h'.get? b = some o) → h'.get? (s.heap.objs.size + 1) = some { cls := .type "list", dict := none, data := .seq acc' c', slots := #[] } →
      acc'.toList = items.toList.reverse → Q (.ref (s.heap.objs.size + 1)) { s with heap := h', toks := tk }) :
    wpAny (model prog w) A (call (.type "list") [.ref s.heap.objs.size]) Q E { s with heap := s.heap.push (revObj l ((items.size : Int) - 1)) } := by
  have hlt : l < s.heap.objs.size := by obtain ⟨_, e, _⟩ := hl; exact Heap.lt_size e
  have hsz : (s.heap.push (revObj l ((items.size : Int) - 1))).objs.size = s.heap.objs.size + 1 := Heap.size_push ..
  have W := (Walks.listRev (prog := prog) (w := w) (A := A.in1.in1) hh s.heap.objs.size l (Nat.ne_of_lt hlt) items).toS
  refine callType_codes (Q₁ := fun obj s₁ => obj = .ref (s.heap.objs.size + 1) ∧ s₁ = { s with heap := (s.heap.push (revObj l ((items.size : Int) - 1))).push { cls := .type "list", data := .seq #[] } }) PySem.F.called_list (PySem.F.typeCall_list_1 _) PySem.F.entry_list_init
    (code_list_new _ ⟨by rw [hsz], rfl⟩) fun obj s₁ h₁ => ?_
  obtain ⟨rfl, rfl⟩ := h₁
  have hS : ((s.heap.push (revObj l ((items.size : Int) - 1))).push { cls := .type "list", data := .seq #[] }).get? (s.heap.objs.size + 1) = some { cls := .type "list", data := .seq #[] } := by
    rw [← hsz]; exact Heap.get?_push_size _ rfl
  refine ⟨⟨_, hS, rfl⟩, PySem.F.args_list_init_2 _ _, ?_⟩
  show wpAny _ _ (do let old ← Builtin.List.listItems (.ref (s.heap.objs.size + 1)); Builtin.List.listUpdate (.ref (s.heap.objs.size + 1)) (fun _ => #[]); letGo old.toList.reverse; Builtin.List.listExtendWith (.ref (s.heap.objs.size + 1)) (.ref s.heap.objs.size) .none) _ _ _
  refine wpAny_bind ?_
  unfold Builtin.List.listItems
  refine wpAny_bind (wpAny_seqItems hS rfl (wpAny_pure ?_))
  show wpAny _ _ (updateSeq (s.heap.objs.size + 1) (fun _ => #[]) >>= fun _ => letGo (#[] : Array Value).toList.reverse >>= fun _ => Builtin.List.listExtendWith (.ref (s.heap.objs.size + 1)) (.ref s.heap.objs.size) .none) _ _ _
  refine wpAny_bind (wpAny_updateSeq hS rfl ?_)
  have hS₂ := Heap.get?_update_self (Obj.mapSeq (fun _ => (#[] : Array Value))) hS rfl
  generalize hH : (((s.heap.push (revObj l ((items.size : Int) - 1))).push { cls := .type "list", data := .seq #[] }).update (s.heap.objs.size + 1) (Obj.mapSeq (fun _ => (#[] : Array Value)))) = H2 at hS₂ ⊢
  have oth : ∀ b o, b ≠ s.heap.objs.size + 1 → (s.heap.push (revObj l ((items.size : Int) - 1))).get? b = some o → H2.get? b = some o :=
    fun b o hb e => by rw [← hH]; exact (Heap.get?_update_other _ _ (Ne.symm hb)).trans (Heap.get?_push_of_some _ e)
  refine wpAny_bind (wpAny_letGo ?_)
  have hit : H2.IsRevIter s.heap.objs.size l ((items.size : Int) - 1) := ⟨_, oth _ _ (Nat.ne_of_lt (Nat.lt_succ_self _)) (Heap.get?_push_size _ rfl), rfl, rfl⟩
  have hl2 : H2.IsList l items := hl.at fun o e => oth l o (Nat.ne_of_lt (Nat.lt_succ_of_lt hlt)) (Heap.get?_push_of_some _ e)
  have hT : ∀ s' : Shared, s'.heap = H2 → s'.TypeIs (.ref s.heap.objs.size) "list_reverseiterator" := fun s' e => by
    obtain ⟨o, ho, hc, _⟩ := hit
    exact ⟨o, by rw [e]; exact ho, hc⟩
  unfold Builtin.List.listExtendWith
  refine wpAny_bind (wpAny_typeOf (T := "list_reverseiterator") (hT _ rfl) ?_)
  have h1 : Builtin.List.listSameRef (.ref (s.heap.objs.size + 1)) (.ref s.heap.objs.size) = false := by simp [Builtin.List.listSameRef]
  have h2 : (Value.type "list_reverseiterator" == Value.type "list") = false := by decide
  have h3 : (Value.type "list_reverseiterator" == Value.type "tuple") = false := by decide
  simp only [h1, h2, h3, Bool.or_false, Bool.false_eq_true, if_false]
  refine wpAny_bind (wpAny_pyIter_revIter hit ?_)
  refine wpAny_bind (wpAny_holding (lri_hint (hT _ rfl) ?_))
  rw [if_neg (by decide)]
  have hSf : s.heap.objs.size + 1 ∉ [s.heap.objs.size, l] := by
    intro hm
    rcases List.mem_cons.mp hm with e | hm
    · exact Nat.succ_ne_self _ e
    · have e := List.mem_singleton.mp hm
      exact absurd hlt (by rw [← e]; exact Nat.not_lt.mpr (Nat.le_succ _))
  refine wpAny_pure ⟨plainId_quiet PySem.F.plain_extend_loop _, codeAny_extend_loopS W hn _ hSf _ items.size 0 _ #[] _ rfl (Nat.zero_le _) ⟨Nat.zero_le _, by simpa using hit, hl2⟩ hS₂ (ItemsOf.nil _) fun s' acc' c' hm hS' hacc => ?_⟩
  rw [Moved.eq_with hm]
  refine ⟨rfl, hQ s'.heap s'.toks acc' c' (fun b o e => hm.heap b o (fun hmem => ?_) (oth b o ?_ (Heap.get?_push_of_some _ e))) hS' ?_⟩
  · have := Heap.lt_size e
    rcases List.mem_cons.mp hmem with q | q
    · rw [q] at this; exact absurd this (Nat.not_lt.mpr (Nat.le_succ _))
    · rw [List.mem_singleton.mp q] at this; exact absurd this (Nat.lt_irrefl _)
  · have := Heap.lt_size e
    exact Nat.ne_of_lt (Nat.lt_succ_of_lt this)
  · refine List.ext_getElem? fun j => ?_
    by_cases hj : j < items.size
    · have hj' : j < acc'.size := by rw [hacc.1]; exact hj
      have e1 := hacc.2 j _ (Array.getElem?_eq_getElem hj')
      rw [Array.getElem?_toList, Array.getElem?_eq_getElem hj', List.getElem?_reverse (by simpa using hj), Array.getElem?_toList, Array.length_toList]
      exact e1.symm
    · rw [List.getElem?_eq_none (by rw [Array.length_toList, hacc.1]; omega), List.getElem?_eq_none (by rw [List.length_reverse, Array.length_toList]; omega)]
end
section
variable {X : Cx} {e : Expr} {te : TE} {p p2 pos pos2 : Pos}
theorem Vals.rev : ∀ {xs : List V} {us : List Value}, Vals xs us → Vals xs.reverse us.reverse := fun {xs us} r => Vals.reverse r
def tRev (K : PySem.W.Frag) (te : TE) : TE := fun σ H Q => te σ H fun x H1 => ∃ (a : Addr) (xs : List V), x = .ref a ∧ SqL K H1 a xs ∧ ∀ l, H1 l = none → Q (.ref l) (upd H1 l (.lst xs.reverse))
theorem pe_listrev (hc : X.calm = true) (hg : Gl X "list") (hm : X.mg "list" = none) (hg2 : Gl X "reversed") (hm2 : X.mg "reversed" = none) (he : PE X e te)
    (hs : starEach [e] X.env = [(false, eval e X.env)] := by rfl)
    (hs2 : starEach [.Call (.Name "reversed" p2) [e] [] pos2] X.env = [(false, eval (.Call (.Name "reversed" p2) [e] [] pos2) X.env)] := by rfl) :
    PE X (.Call (.Name "list" p) [.Call (.Name "reversed" p2) [e] [] pos2] [] pos) (tRev X.K te) := by
  intro pins s σ H Q I h
  refine wpAny_Call_Name_kw (ld_blt I hg hm boot_list ?_)
  refine PyProof.Rows.callWith_type1 ?_ hs2 rfl
  rw [hs2]
  show wpAny _ _ (spliced ((false, eval (.Call (.Name "reversed" p2) [e] [] pos2) X.env) :: backTo pos [])) _ _ s
  refine Calls.spliced_cons ?_
  refine wpAny_Call_Name_kw (ld_blt I hg2 hm2 boot_reversed ?_)
  refine PyProof.Rows.callWith_type1 ?_ hs rfl
  rw [hs]
  show wpAny _ _ (spliced ((false, eval e X.env) :: backTo pos2 [])) _ _ s
  refine Calls.spliced_cons (thn (he pins s σ H _ I h) fun u s1 ⟨x, H1, I1, r1, a, xs, ex, hq, q⟩ => ?_)
  subst ex
  cases r1
  refine Calls.spliced_nil ?_
  obtain ⟨its, rv, pl, hz⟩ := I1.list hq
  refine call_reversed_list pl.isList ?_
  refine Calls.spliced_nil ?_
  refine call_list_rev (I1.ok.hd hc) pl.isList (by rw [List.size_toArray, ← rv.length]; exact hz) fun h' tk acc' c' hk hS hrev => ?_
  have e1 : acc' = its.reverse.toArray := by
    rw [← Array.toArray_toList (xs := acc'), hrev]
  subst e1
  refine ⟨.ref (s1.heap.objs.size + 1), _, I1.laid (t' := tk) (o := .lst xs.reverse) hk (Nat.le_succ _) ⟨by rw [List.length_reverse]; exact hz, its.reverse, c', rv.rev, hS⟩, rfl, q _ (I1.hok.fresh (Nat.le_succ _))⟩
end

/-! ### a list beside the empty one -/
section
variable {X : Cx}
def rEqNil (K : PySem.W.Frag) (neg : Bool) : R2 := fun x y H Q => ∃ (a b : Addr) (xs : List V), x = .ref a ∧ y = .ref b ∧ SqL K H a xs ∧ SqL K H b [] ∧ Q (.bl (if neg then !xs.isEmpty else xs.isEmpty)) H
theorem nil_items {us : List Value} (r : Vals [] us) : us = [] := by cases r; rfl
theorem op_eqNil (hu : X.A.units < cLine) : OpR X (compareOp .Eq) (rEqNil X.K false) := by
  intro pins s σ H x y v u Q I rx ry h
  obtain ⟨a, b, xs, rfl, rfl, h1, h2, q⟩ := h
  cases rx
  cases ry
  obtain ⟨its, r1, p1, _⟩ := I.list h1
  obtain ⟨its2, r2, p2, _⟩ := I.list h2
  have e2 := nil_items r2
  subst e2
  have hl := r1.length
  cases xs with
  | nil =>
    have e1 := nil_items r1
    subst e1
    exact SeqAt.eq_listAt (e := fun _ => true) p1.isList p2.isList rfl hu (fun j h => absurd h (by simp)) ⟨.bl true, H, I, rfl, q⟩
  | cons z zs =>
    exact SeqAt.eq_list_lengthsAt p1.isList p2.isList (by simp only [List.size_toArray, ← hl]; simp) hu ⟨.bl false, H, I, rfl, q⟩
end
end L2

namespace L2
open PySem PySem.Spec PyProof.Rows
/-! ### readings that compute: by the value's kind -/
def mB (x : V) (k : Bool → Prop) : Prop := match x with | .bl b => k b | _ => False
def mI (x : V) (k : Int → Prop) : Prop := match x with | .int b => k b | _ => False
def mS (x : V) (k : Str → Prop) : Prop := match x with | .str b => k b | _ => False
def mR (x : V) (k : Addr → Prop) : Prop := match x with | .ref b => k b | _ => False
theorem mB_eq (x : V) (k : Bool → Prop) : mB x k = ∃ b, x = .bl b ∧ k b := by
  cases x <;> simp [mB]
theorem mI_eq (x : V) (k : Int → Prop) : mI x k = ∃ b, x = .int b ∧ k b := by
  cases x <;> simp [mI]
theorem mS_eq (x : V) (k : Str → Prop) : mS x k = ∃ b, x = .str b ∧ k b := by
  cases x <;> simp [mS]
theorem mR_eq (x : V) (k : Addr → Prop) : mR x k = ∃ b, x = .ref b ∧ k b := by
  cases x <;> simp [mR]
theorem szl {n : Nat} (h : Nat.ble n 1000 = true) : n ≤ sizeLine := Nat.le_trans (Nat.le_of_ble_eq_true h) (by decide)
theorem szl' {n : Nat} (h : n ≤ 1000) : n ≤ sizeLine := Nat.le_trans h (by decide)
section
variable {X : Cx} {a b c e : Expr} {ta tb tc te : TE} {pos : Pos}
/-- a name -/
def vr (i : Nat) : TE := fun σ H Q => match σ[i]? with | some (some v) => Q v H | _ => False
theorem vr_eq (i : Nat) : vr i = tVar i := by
  funext σ H Q
  unfold vr tVar
  apply propext
  cases σ[i]? with
  | none => simp
  | some o => cases o <;> simp
theorem xv (i : Nat) {x : Str} {pos : Pos} (hN : X.N[i]? = some x := by rfl) (hv : Vis X.env.scope x := by first | exact Or.inl rfl | exact Or.inr (Or.inl rfl) | exact Or.inr (Or.inr rfl)) (hd : (x == ("__debug__" : Str)) = false := by decide)
    (hcd : (x == ("__classdict__" : Str)) = false := by decide) : PE X (.Name x pos) (vr i) := by
  rw [vr_eq]; exact pe_var hN hv hd hcd
theorem OpR.imp {f : Value → Value → Sem Value} {r r' : R2} (h : OpR X f r) (hi : ∀ x y H Q, r' x y H Q → r x y H Q) : OpR X f r' := fun pins s σ H x y v u Q I rx ry q => h pins s σ H x y v u Q I rx ry (hi x y H Q q)
theorem UnR.imp {f : Value → Sem Value} {r r' : V → Hp → VK → Prop} (h : UnR X f r) (hi : ∀ x H Q, r' x H Q → r x H Q) : UnR X f r' := fun pins s σ H x v Q I rx q => h pins s σ H x v Q I rx (hi x H Q q)
theorem CallR.imp {f : Value} {r r' : List V → Hp → VK → Prop} (h : CallR X f r) (hi : ∀ xs H Q, r' xs H Q → r xs H Q) : CallR X f r' := fun pins s σ H xs us Q I rs q => h pins s σ H xs us Q I rs (hi xs H Q q)
theorem IxR.imp {r r' : R2} (h : IxR X r) (hi : ∀ x y H Q, r' x y H Q → r x y H Q) : IxR X r' := fun value slice pins s σ H x y v u Q I rx ry q => h value slice pins s σ H x y v u Q I rx ry (hi x y H Q q)
theorem SlR.imp {r r' : V → Option Int → Option Int → Hp → VK → Prop} (h : SlR X r) (hi : ∀ x l u H Q, r' x l u H Q → r x l u H Q) : SlR X r' := fun pins s σ H x v vl vu lo hi' sl Q I rx hs pl pu q => h pins s σ H x v vl vu lo hi' sl Q I rx hs pl pu (hi x lo hi' H Q q)
/-- two ints -/
def m2 (C : Int → Int → Prop) (g : Int → Int → V) : R2 := fun x y H Q => mI x fun i => mI y fun j => C i j ∧ Q (g i j) H
def m20 (g : Int → Int → V) : R2 := fun x y H Q => mI x fun i => mI y fun j => Q (g i j) H
theorem m20_imp {g : Int → Int → V} (x y : V) (H : Hp) (Q : VK) (h : m20 g x y H Q) : rI0 g x y H Q := by
  unfold m20 at h
  rw [mI_eq] at h
  obtain ⟨i, rfl, h⟩ := h
  rw [mI_eq] at h
  obtain ⟨j, rfl, h⟩ := h
  exact ⟨i, j, rfl, rfl, h⟩
theorem m2_imp {C : Int → Int → Prop} {g : Int → Int → V} (x y : V) (H : Hp) (Q : VK) (h : m2 C g x y H Q) : rI C g x y H Q := by
  unfold m2 at h
  rw [mI_eq] at h
  obtain ⟨i, rfl, h⟩ := h
  rw [mI_eq] at h
  obtain ⟨j, rfl, hc, h⟩ := h
  exact ⟨i, j, rfl, rfl, hc, h⟩
theorem o_add : OpR X (binaryOp .Add) (m20 fun i j => .int (i + j)) := op_add.imp m20_imp
theorem o_sub : OpR X (binaryOp .Sub) (m20 fun i j => .int (i - j)) := op_sub.imp m20_imp
theorem o_mul : OpR X (binaryOp .Mult) (m2 CMul fun i j => .int (i * j)) := op_mul.imp m2_imp
theorem o_fdiv : OpR X (binaryOp .FloorDiv) (m2 CDiv fun i j => .int (i / j)) := op_fdiv.imp m2_imp
theorem o_mod : OpR X (binaryOp .Mod) (m2 (fun _ j => 0 < j) fun i j => .int (i % j)) := op_mod.imp m2_imp
theorem o_pow : OpR X (binaryOp .Pow) (m2 CPow fun i j => .int (i ^ j.toNat)) := op_pow.imp m2_imp
theorem o_lt : OpR X (compareOp .Lt) (m20 fun i j => .bl (decide (i < j))) := op_lt.imp m20_imp
theorem o_le : OpR X (compareOp .LtE) (m20 fun i j => .bl (decide (i ≤ j))) := op_le.imp m20_imp
theorem o_gt : OpR X (compareOp .Gt) (m20 fun i j => .bl (decide (j < i))) := op_gt.imp m20_imp
/-- + of texts -/
def mAddS : R2 := fun x y H Q => mS x fun i => mS y fun j => i.length + j.length ≤ sizeLine ∧ Q (.str (i ++ j)) H
theorem o_addS : OpR X (binaryOp .Add) mAddS := op_add_str.imp fun x y H Q h => by
  unfold mAddS at h
  rw [mS_eq] at h
  obtain ⟨i, rfl, h⟩ := h
  rw [mS_eq] at h
  obtain ⟨j, rfl, hc, h⟩ := h
  exact ⟨i, j, rfl, rfl, hc, h⟩
/-- == of ints, of texts, of bools, by kinds -/
def mEq : R2 := fun x y H Q => match x, y with
  | .int i, .int j => Q (.bl (decide (i = j))) H
  | .str i, .str j => Q (.bl (decide (i = j))) H
  | .bl i, .bl j => Q (.bl (decide (i = j))) H
  | .non, .non => Q (.bl true) H
  | .int _, .non => Q (.bl false) H | .non, .int _ => Q (.bl false) H
  | .str _, .non => Q (.bl false) H | .non, .str _ => Q (.bl false) H
  | .bl _, .non => Q (.bl false) H | .non, .bl _ => Q (.bl false) H
  | .int _, .str _ => Q (.bl false) H | .str _, .int _ => Q (.bl false) H
  | .bl _, .str _ => Q (.bl false) H | .str _, .bl _ => Q (.bl false) H
  | _, _ => False
def mNe : R2 := fun x y H Q => match x, y with
  | .int i, .int j => Q (.bl (!decide (i = j))) H
  | .str i, .str j => Q (.bl (!decide (i = j))) H
  | .bl i, .bl j => Q (.bl (!decide (i = j))) H
  | .non, .non => Q (.bl false) H
  | .int _, .non => Q (.bl true) H | .non, .int _ => Q (.bl true) H
  | .str _, .non => Q (.bl true) H | .non, .str _ => Q (.bl true) H
  | .bl _, .non => Q (.bl true) H | .non, .bl _ => Q (.bl true) H
  | .int _, .str _ => Q (.bl true) H | .str _, .int _ => Q (.bl true) H
  | .bl _, .str _ => Q (.bl true) H | .str _, .bl _ => Q (.bl true) H
  | _, _ => False
theorem o_eq : OpR X (compareOp .Eq) mEq := op_eq.imp fun x y H Q h => by
  unfold mEq at h
  unfold rEq
  split at h <;> first | exact h.elim | (refine ⟨rfl, ?_⟩; first | simpa using h | exact h)
theorem o_ne : OpR X (compareOp .NotEq) mNe := op_ne.imp fun x y H Q h => by
  unfold mNe at h
  unfold rNe
  split at h <;> first | exact h.elim | (refine ⟨rfl, ?_⟩; first | simpa using h | exact h)
/-- a sign in a text -/
def mInS (neg : Bool) : R2 := fun x y H Q => mS x fun i => mS y fun j => ∃ c, i = tx [c] ∧ Q (.bl (if neg then !decide (c ∈ j.cps.toList) else decide (c ∈ j.cps.toList))) H
theorem o_inS : OpR X (compareOp .In) (mInS false) := op_in_str.imp fun x y H Q h => by
  unfold mInS at h
  rw [mS_eq] at h
  obtain ⟨i, rfl, h⟩ := h
  rw [mS_eq] at h
  obtain ⟨j, rfl, c, rfl, h⟩ := h
  refine ⟨_, j, rfl, rfl, ?_⟩
  have e := StrLaws.found_one j c
  have e' : (!(Builtin.Str.occurrences j (tx [c]) 0 j.length 1).isEmpty) = decide (c ∈ j.cps.toList) := e
  rw [e']; exact h
/-- comparisons as tests -/
def mT (t : TE) : TT := fun σ H Q => t σ H fun x H' => mB x fun k => Q k H'
theorem mT_eq (t : TE) : mT t = tTest t := by
  funext σ H Q
  unfold mT tTest
  congr 1
  funext x H'
  exact mB_eq x _
theorem mT_eqB (t : TE) : mT t = tB t := by
  funext σ H Q
  unfold mT tB
  congr 1
  funext x H'
  exact mB_eq x _
theorem t_cmp {op : CmpOp} {r : R2} (ho : OpR X (compareOp op) r) (ha : PE X a ta) (hb : PE X b tb) (hm : behindInMarks op b = false := by first | exact nomark _ | rfl) : PT X (.Compare a [op] [b] pos) (mT (tOp r ta tb)) := by
  rw [mT_eq]; exact pt_cmpR ho ha hb hm
theorem x_cmp {op : CmpOp} {r : R2} (ho : OpR X (compareOp op) r) (ha : PE X a ta) (hb : PE X b tb) (hm : behindInMarks op b = false := by first | exact nomark _ | rfl) : PE X (.Compare a [op] [b] pos) (tOp r ta tb) := pe_cmpR ho ha hb hm
def mChain (r r' : R2) (ta tb tc : TE) : TE := fun σ H Q => ta σ H fun x H1 => tb σ H1 fun y H2 => r x y H2 fun z H3 => mB z fun k => (if k = true then tc σ H3 fun w' H4 => r' y w' H4 Q else Q (.bl false) H3)
theorem mChain_eq (r r' : R2) (ta tb tc : TE) : mChain r r' ta tb tc = tChain r r' ta tb tc := by
  funext σ H Q
  unfold mChain tChain
  congr 1
  funext x H1
  congr 1
  funext y H2
  congr 1
  funext z H3
  exact mB_eq z _
theorem x_chain {op op' : CmpOp} {r r' : R2} (ho : OpR X (compareOp op) r) (ho' : OpR X (compareOp op') r') (ha : PE X a ta) (hb : PE X b tb) (hc : PE X c tc)
    (hm : lastMarks [op, op'] [b, c] = false := by with_unfolding_all rfl) : PE X (.Compare a [op, op'] [b, c] pos) (mChain r r' ta tb tc) := by
  rw [mChain_eq]; exact pe_chain ho ho' ha hb hc hm
theorem t_chain {op op' : CmpOp} {r r' : R2} (ho : OpR X (compareOp op) r) (ho' : OpR X (compareOp op') r') (ha : PE X a ta) (hb : PE X b tb) (hc : PE X c tc)
    (hm : lastMarks [op, op'] [b, c] = false := by with_unfolding_all rfl) : PT X (.Compare a [op, op'] [b, c] pos) (mT (mChain r r' ta tb tc)) := by
  rw [mT_eq, mChain_eq]; exact pt_chain ho ho' ha hb hc hm
theorem t_val {t : TE} (h : PE X e t) (he : ∀ whole, isTrue e X.env whole = (do let v ← whole; standAt e.pos; holding [v] (truthy v)) := by intro _; rfl) : PT X e (mT t) := by
  rw [mT_eqB]; exact pt_val h he
/-- and, or, not as values -/
def mAndV (ta tb : TE) : TE := fun σ H Q => ta σ H fun x H1 => mB x fun c => if c = true then tb σ H1 Q else Q (.bl false) H1
def mOrV (ta tb : TE) : TE := fun σ H Q => ta σ H fun x H1 => mB x fun c => if c = true then Q (.bl true) H1 else tb σ H1 Q
theorem x_and {rest : List Expr} (ha : PE X a ta) (hb : PE X (.BoolOp .And (b :: rest) pos) tb) : PE X (.BoolOp .And (a :: b :: rest) pos) (mAndV ta tb) := by
  have : mAndV ta tb = tAndV ta tb := by
    funext σ H Q; unfold mAndV tAndV; congr 1; funext x H1; exact mB_eq x _
  rw [this]; exact pe_and ha hb
theorem x_or {rest : List Expr} (ha : PE X a ta) (hb : PE X (.BoolOp .Or (b :: rest) pos) tb) : PE X (.BoolOp .Or (a :: b :: rest) pos) (mOrV ta tb) := by
  have : mOrV ta tb = tOrV ta tb := by
    funext σ H Q; unfold mOrV tOrV; congr 1; funext x H1; exact mB_eq x _
  rw [this]; exact pe_or ha hb
/-- -x -/
theorem x_neg (ha : PE X a ta) : PE X (.UnaryOp .USub a pos) (tUn (fun x H Q => mI x fun i => Q (.int (-i)) H) ta) := pe_un (un_neg.imp fun x H Q h => by
  rw [mI_eq] at h
  obtain ⟨i, rfl, h⟩ := h
  exact ⟨i, rfl, h⟩) ha
/-- items -/
def mIxL (K : PySem.W.Frag) : R2 := fun x y H Q => mR x fun p => mI y fun i => ∃ xs, SqL K H p xs ∧ ∃ v, atI xs i = some v ∧ Q v H
def mIxT (K : PySem.W.Frag) : R2 := fun x y H Q => mR x fun p => mI y fun i => ∃ xs, SqT K H p xs ∧ ∃ v, atI xs i = some v ∧ Q v H
def mIxS : R2 := fun x y H Q => mS x fun z => mI y fun i => z.length ≤ sizeLine ∧ ∃ c, atI z.cps.toList i = some c ∧ Q (.str (tx [c])) H
theorem i_list : IxR X (mIxL X.K) := ix_list.imp fun x y H Q h => by
  unfold mIxL at h
  rw [mR_eq] at h
  obtain ⟨p, rfl, h⟩ := h
  rw [mI_eq] at h
  obtain ⟨i, rfl, xs, hq, v, hv, h⟩ := h
  exact ⟨p, xs, i, v, rfl, rfl, hq, hv, h⟩
theorem i_tup : IxR X (mIxT X.K) := ix_tup.imp fun x y H Q h => by
  unfold mIxT at h
  rw [mR_eq] at h
  obtain ⟨p, rfl, h⟩ := h
  rw [mI_eq] at h
  obtain ⟨i, rfl, xs, hq, v, hv, h⟩ := h
  exact ⟨p, xs, i, v, rfl, rfl, hq, hv, h⟩
theorem i_str : IxR X mIxS := ix_str.imp fun x y H Q h => by
  unfold mIxS at h
  rw [mS_eq] at h
  obtain ⟨z, rfl, h⟩ := h
  rw [mI_eq] at h
  obtain ⟨i, rfl, hz, c, hc, h⟩ := h
  exact ⟨z, i, c, rfl, rfl, hz, hc, h⟩
theorem x_ix {r : R2} (hr : IxR X r) (ha : PE X a ta) (hb : PE X b tb) (hs : PlainIx b := by exact fun _ _ => rfl) : PE X (.Subscript a b pos) (tOp r ta tb) := pe_ix hr ha hb hs
/-- slices -/
def mPart (t : TE) : TO := fun σ H Q => t σ H fun x H1 => mI x fun i => Q (some i) H1
theorem p_some (h : PE X e te) : PO X (some e) (mPart te) := by
  have : mPart te = tPart te := by
    funext σ H Q; unfold mPart tPart; congr 1; funext x H1; exact mI_eq x _
  rw [this]; exact po_some h
def mSlL (K : PySem.W.Frag) : V → Option Int → Option Int → Hp → VK → Prop := fun x lo hi H Q => mR x fun a => ∃ xs, SqL K H a xs ∧ ∀ p, H p = none → Q (.ref p) (upd H p (.lst (cut xs lo hi)))
theorem s_list : SlR X (mSlL X.K) := sl_list.imp fun x l u H Q h => by
  unfold mSlL at h
  rw [mR_eq] at h
  obtain ⟨a, rfl, xs, hq, h⟩ := h
  exact ⟨a, xs, rfl, hq, h⟩
/-- len -/
theorem c_lenS : CallR X (.builtin "len") (fun vs H Q => match vs with | [.str z] => z.length ≤ sizeLine ∧ Q (.int z.length) H | _ => False) := call_len_str.imp fun vs H Q h => by
  split at h
  · rename_i z
    exact ⟨z, rfl, h.1, h.2⟩
  · exact h.elim
theorem c_lenL : CallR X (.builtin "len") (fun vs H Q => match vs with | [.ref p] => ∃ ys, (SqL X.K H p ys ∨ SqT X.K H p ys) ∧ Q (.int ys.length) H | _ => False) := call_len_seq.imp fun vs H Q h => by
  split at h
  · rename_i p
    obtain ⟨ys, hq, h⟩ := h
    exact ⟨p, ys, rfl, hq, h⟩
  · exact h.elim
end
/-! ### isinstance against a built-in class -/
inductive Kd where | non | bl | int | str | lst | tup | dct
def kdT : Kd → String | .non => "NoneType" | .bl => "bool" | .int => "int" | .str => "str" | .lst => "list" | .tup => "tuple" | .dct => "dict"
/-- what kind a value is of -/
def Kof (H : Hp) : V → Kd → Prop
  | .non, .non => True | .bl _, .bl => True | .int _, .int => True | .str _, .str => True
  | .ref a, .lst => (∃ xs, H a = some (.lst xs)) ∨ ∃ o xs, H a = some (.frz o (.lst xs))
  | .ref a, .tup => ∃ xs, H a = some (.tup xs)
  | .ref a, .dct => ∃ kvs, H a = some (.dK kvs)
  | _, _ => False
def isK : Kd → Kd → Bool | .non, .non => true | .bl, .bl => true | .int, .int => true | .int, .bl => true | .str, .str => true | .lst, .lst => true | .tup, .tup => true | .dct, .dct => true | _, _ => false
theorem kit_K (K : PySem.W.Frag) (want k : Kd) : PySem.W.kitOne K (.type (kdT k)) (.type (kdT want)) = some (isK want k) := by
  cases want <;> cases k <;> first | rfl | kernel_rfl
theorem ty_K {K : PySem.W.Frag} {H : Hp} {x : V} {k : Kd} (h : Kof H x k) : TyOf K H x (.type (kdT k)) := by
  cases x <;> cases k <;> first
    | exact h.elim
    | exact .non
    | exact .bl _
    | exact .int _
    | exact .str _
    | (obtain ⟨xs, e⟩ := h; exact .tup e)
    | (obtain ⟨xs, e⟩ := h; exact .dK e)
    | (rcases h with ⟨xs, e⟩ | ⟨o, xs, e⟩
       · exact .lst e
       · exact .frz e)
def mIsi (want : Kd) : List V → Hp → VK → Prop := fun vs H Q => match vs with
  | [x, y] => y = .ty (kdT want) ∧ ∃ k, Kof H x k ∧ Q (.bl (isK want k)) H
  | _ => False
section
variable {X : Cx}
theorem c_isi (want : Kd) : CallR X (.builtin "isinstance") (mIsi want) := call_isi.imp fun vs H Q h => by
  unfold mIsi at h
  split at h
  · rename_i x y
    obtain ⟨rfl, k, hk, h⟩ := h
    exact ⟨x, _, _, _, rfl, ty_K hk, kit_K X.K want k, h⟩
  · exact h.elim
/-! ### isinstance(e, T) as one step -/
variable {e : Expr} {te : TE} {p p2 pos : Pos} {T : Str}
def tIsi (want : Kd) (te : TE) : TE := fun σ H Q => te σ H fun x H1 => ∃ k, Kof H1 x k ∧ Q (.bl (isK want k)) H1
theorem x_isi (want : Kd) (he : PE X e te) (hg : Gl X "isinstance") (hm : X.mg "isinstance" = none) (hgT : Gl X T) (hmT : X.mg T = none) (hT : bootBuiltins T = some (.type (kdT want)))
    (hs : starEach [e, .Name T p2] X.env = (false, eval e X.env) :: starEach [.Name T p2] X.env := by rfl) (hs2 : starEach [.Name T p2] X.env = (false, eval (.Name T p2) X.env) :: starEach [] X.env := by rfl)
    (hn : T ≠ "__name__" := by decide) (hd : (T == ("__debug__" : Str)) = false := by decide) (hpl : (backTo pos (starEach [.Name T p2] X.env)).any (·.1) = false := by rfl) :
    PE X (.Call (.Name "isinstance" p) [e, .Name T p2] [] pos) (tIsi want te) := by
  have h := pe_callB (X := X) (x := "isinstance") (p := p) (pos := pos) (c_isi want) hg hm PyProof.Rows.boot_isinstance (pa_cons he (pa_cons (pe_bltn (v := .ty (kdT want)) (pos := p2) hgT hmT hT rfl hn hd) pa_nil hs2) hs) (by decide) (by decide) hs hpl
  intro pins s σ H Q I q
  exact h pins s σ H Q I (by
    show te σ H _
    have : (fun (x : V) (H1 : Hp) => mIsi want [x, .ty (kdT want)] H1 Q) = (fun x H1 => ∃ k, Kof H1 x k ∧ Q (.bl (isK want k)) H1) := by
      funext x H1
      apply propext
      constructor
      · rintro ⟨_, z⟩; exact z
      · intro z; exact ⟨rfl, z⟩
    exact this ▸ q)
end

/-! ### the callee as one fact -/
structure Callee (P : Program) (w : World) (K : PySem.W.Frag) (mg : Str → Option Value) (base : Heap) (n : Nat) (x : Str) (ps : List Str) (sp : Sp) : Prop where
  ex : ∃ (f : Addr) (fd : FuncData), FnOk P w K mg base CX0 n f fd ps sp ∧ mg x = some (.ref f) ∧ PySem.W.keepIn K (.ref f) = true ∧ Binds K fd ps []
section
variable {X : Cx} {n : Nat} {x : Str} {ps : List Str} {sp : Sp} {p pos : Pos} {e : Expr} {es : List Expr} {t : TA}
/-- f(..) of the text's own, no exception -/
def tFn (sp : Sp) (t : TA) : TE := fun σ H Q => t σ H fun vs H1 => sp vs H1 Q E0
theorem x_fn (c : Callee X.prog X.w X.K X.mg X.base n x ps sp) (hr : Room n X.A) (hg : Gl X x) (ha : PA X (e :: es) t) (hdb : (x == ("__debug__" : Str)) = false := by decide)
    (he : starEach (e :: es) X.env = (false, eval e X.env) :: starEach es X.env := by rfl) (hpl : (backTo pos (starEach es X.env)).any (·.1) = false := by rfl) : PE X (.Call (.Name x p) (e :: es) [] pos) (tFn sp t) := by
  obtain ⟨f, fd, F, hm, hk, hb⟩ := c.ex
  have h := pe_call (X := X) (p := p) (pos := pos) (E := E0) F hr hg hm hk hb (dvs := []) .nil pass0 ha hdb he hpl
  intro pins s σ H Q I q
  exact h pins s σ H Q I (by
    show t σ H _
    have : (fun (vs : List V) (H1 : Hp) => sp (vs ++ []) H1 Q E0) = (fun vs H1 => sp vs H1 Q E0) := by
      funext vs H1; rw [List.append_nil]
    rw [this]; exact q)
end
/-- a def of the text -/
structure DefAt (K : PySem.W.Frag) (mg : Str → Option Value) (x : Str) (st : Stmt) (ps : List Str) : Prop where
  ex : ∃ (f : Addr) (fd : FuncData), Fun K x x st f fd ∧ mg x = some (.ref f) ∧ Binds K fd ps []
theorem DefAt.ok {P : Program} {w : World} {K : PySem.W.Frag} {mg : Str → Option Value} {base : Heap} {x : Str} {st : Stmt} {N ps : List Str} {k : Nat} {sp : Sp} (D : DefAt K mg x st ps) (S : FnScope N ps (defScope st)) (len : ∀ vs H Q E, sp vs H Q E → vs.length = ps.length)
    (hbody : ∀ (f : Addr) (cdv : Value) (A : Around) (outer : List Env) (s : Shared) (H : Hp) (vs : List V) (Q : VK) (E : XK), Room k (A.deeper (envOfC x (defScope st) s.heap.objs.size f cdv)) → sp vs H Q E →
      ∃ t, PSs (cxOf CX0 P w K mg base N x (defScope st) f cdv A outer s H E).nox (defBody st) t ∧ t { nx := fun _ H' => Q .non H', rt := Q } (start N vs) H) : Callee P w K mg base (k + 1) x ps sp := by
  obtain ⟨f, fd, F, hm, hb⟩ := D.ex
  exact ⟨f, fd, F.ok S len (hbody f), hm, F.kp, hb⟩
/-- a comprehension's scope, by computing -/
def compOk (sc0 : Scope) (N0 : List Str) (scope : Scope) (N : List Str) (js : List (Option Nat)) : Bool :=
  (scope.kind == .function) && scope.names.all (fun y => y.2 != .cell) && scope.names.all (fun y => y.2 != .local || scope.names.lookup y.1 == some .local) && (js.length == N.length) &&
  (List.range js.length).all (fun i => match js[i]? with | some (some j) => (match N[i]? with | some x => N0[j]? == some x && scope.names.lookup x == some .free | none => false) | _ => true) &&
  scope.names.all (fun y => y.2 != .free || sc0.names.lookup y.1 == some .cell || sc0.names.lookup y.1 == some .free)
theorem CompScope.by {X : Cx} {scope : Scope} {N : List Str} {js : List (Option Nat)} (sc0 : Scope) (N0 : List Str) (h0 : X.env.scope = sc0) (hN : X.N = N0) (ok : compOk sc0 N0 scope N js = true) : CompScope X scope N js := by
  unfold compOk at ok
  simp only [Bool.and_eq_true] at ok
  obtain ⟨⟨⟨⟨⟨h1, h2⟩, h3⟩, h4⟩, h5⟩, h6⟩ := ok
  refine ⟨by simpa using h1, fun y hy => ?_, fun y hy hk => ?_, by simpa using h4, fun i j e => ?_, fun y hy hk => ?_⟩
  · have := List.all_eq_true.mp h2 y hy
    simpa using this
  · have := List.all_eq_true.mp h3 y hy
    rw [hk] at this
    simpa using this
  · have hi : i < js.length := (List.getElem?_eq_some_iff.mp e).1
    have := List.all_eq_true.mp h5 i (List.mem_range.mpr hi)
    rw [e] at this
    cases q : N[i]? with
    | none => simp [q] at this
    | some x =>
      simp only [q, Bool.and_eq_true, beq_iff_eq] at this
      exact ⟨x, rfl, by rw [hN]; exact this.1, this.2⟩
  · have := List.all_eq_true.mp h6 y hy
    rw [hk] at this
    have z : (sc0.names.lookup y.1 == some .cell) = true ∨ (sc0.names.lookup y.1 == some .free) = true := by simpa using this
    have ek : X.env.kindOf y.1 = sc0.names.lookup y.1 := by rw [← h0]; rfl
    rw [ek]
    rcases z with z | z
    · exact .inl (by simpa using z)
    · exact .inr (by simpa using z)
end L2
namespace L2
open PySem PySem.Spec PyProof.Rows
/-! ### argument lists without computing them -/
def notStar : Expr → Bool | .Starred _ _ => false | _ => true
theorem star_cons {e : Expr} {es : List Expr} {env : Env} (h : notStar e = true) : starEach (e :: es) env = (false, eval e env) :: starEach es env := by
  cases e <;> first | rfl | cases h
theorem star_any {es : List Expr} {env : Env} {pos : Pos} (h : es.all notStar = true) : (backTo pos (starEach es env)).any (·.1) = false := by
  induction es with
  | nil => rfl
  | cons e es ih =>
    rw [List.all_cons, Bool.and_eq_true] at h
    rw [star_cons h.1]
    have := ih h.2
    show (false || (backTo pos (starEach es env)).any (·.1)) = false
    rw [this]; rfl
section
variable {X : Cx} {e o : Expr} {es : List Expr} {te to : TE} {t : TA} {x : Str} {p pos apos cpos : Pos} {id T : String} {r : List V → Hp → VK → Prop}
theorem a_cons (ha : PE X e te) (hr : PA X es t) (h : notStar e = true := by rfl) : PA X (e :: es) (tCons te t) := pa_cons ha hr (star_cons h)
theorem x_callB (hc : CallR X (.builtin id) r) (hg : Gl X x) (hm : X.mg x = none) (hv : bootBuiltins x = some (.builtin id)) (ha : PA X (e :: es) t) (hn : x ≠ "__name__" := by decide) (hdb : (x == ("__debug__" : Str)) = false := by decide)
    (h1 : notStar e = true := by rfl) (h2 : es.all notStar = true := by rfl) : PE X (.Call (.Name x p) (e :: es) [] pos) (tCB r t) := pe_callB hc hg hm hv ha hn hdb (star_cons h1) (star_any h2)
theorem x_callTy (hc : CallR X (.type T) r) (hg : Gl X x) (hm : X.mg x = none) (hv : bootBuiltins x = some (.type T)) (ha : PA X (e :: es) t) (hn : x ≠ "__name__" := by decide) (hdb : (x == ("__debug__" : Str)) = false := by decide)
    (h1 : notStar e = true := by rfl) (h2 : es.all notStar = true := by rfl) : PE X (.Call (.Name x p) (e :: es) [] pos) (tCB r t) := pe_callTy hc hg hm hv ha hn hdb (star_cons h1) (star_any h2)
theorem x_fnc {n : Nat} {ps : List Str} {sp : Sp} (c : Callee X.prog X.w X.K X.mg X.base n x ps sp) (hr : Room n X.A) (hg : Gl X x) (ha : PA X (e :: es) t) (hdb : (x == ("__debug__" : Str)) = false := by decide)
    (h1 : notStar e = true := by rfl) (h2 : es.all notStar = true := by rfl) : PE X (.Call (.Name x p) (e :: es) [] pos) (tFn sp t) := x_fn c hr hg ha hdb (star_cons h1) (star_any h2)
theorem star_few {es : List Expr} {env : Env} {cpos : Pos} (h : es.all notStar = true) : (backTo cpos (starEach es env)).all (fun x => !x.1) = true := by
  induction es with
  | nil => rfl
  | cons e es ih =>
    rw [List.all_cons, Bool.and_eq_true] at h
    rw [star_cons h.1]
    show (!false && (backTo cpos (starEach es env)).all (fun x => !x.1)) = true
    rw [ih h.2]; rfl
theorem x_bm {name : Str} {r : V → List V → Hp → VK → Prop} (pa : PlainAttrs T) (slot : Slot T name id) (hty : typeOf (.builtin id) = pure (.type "method_descriptor")) (hm : MtR X id r) (ho : PE X o to) (ha : PA X (e :: es) t)
    (hbase : attributeBase o name X.env (eval o X.env) = eval o X.env := by rfl) (hline : (apos.endLine == cpos.line) = true := by rfl) (h1 : notStar e = true := by rfl) (h2 : es.all notStar = true := by rfl) (hn : es.length + 1 < 30 := by decide) :
    PE X (.Call (.Attribute o name apos) (e :: es) [] cpos) (tBM X.K T r to t) := by
  refine pe_bm pa slot hty hm ho ha hbase ?_ hline (star_cons h1) (star_any h2)
  rw [star_few (by rw [List.all_cons, h1, h2]; rfl)]
  show (true && true && decide (es.length + 1 + 0 + 0 < 30)) = true
  simp
  omega
theorem x_isin {p2 : Pos} {T : Str} (want : Kd) (he : PE X e te) (hg : Gl X "isinstance") (hm : X.mg "isinstance" = none) (hgT : Gl X T) (hmT : X.mg T = none) (hT : bootBuiltins T = some (.type (kdT want)))
    (hn : T ≠ "__name__" := by decide) (hd : (T == ("__debug__" : Str)) = false := by decide) (h1 : notStar e = true := by rfl) : PE X (.Call (.Name "isinstance" p) [e, .Name T p2] [] pos) (tIsi want te) :=
  x_isi want he hg hm hgT hmT hT (star_cons h1) (star_cons rfl) hn hd (star_any rfl)
end
end L2

namespace L2
open PySem PySem.Spec PyProof.Rows
/-! ### built-in names -/
theorem bb_len : bootBuiltins "len" = some (.builtin "len") := by decide +kernel
theorem bb_all : bootBuiltins "all" = some (.builtin "all") := by decide +kernel
theorem bb_sum : bootBuiltins "sum" = some (.builtin "sum") := by decide +kernel
theorem bb_max : bootBuiltins "max" = some (.builtin "max") := by decide +kernel
theorem bb_str : bootBuiltins "str" = some (.type "str") := by decide +kernel
theorem bb_int : bootBuiltins "int" = some (.type "int") := by decide +kernel
theorem bb_bool : bootBuiltins "bool" = some (.type "bool") := by decide +kernel
theorem bb_tuple : bootBuiltins "tuple" = some (.type "tuple") := by decide +kernel

/-! ### the deck -/
structure Dk (H : Hp) (d b : Addr) : Prop where
  ex : ∃ (ns : List Int) (s k : Int), H d = some (.lst [.ref b, .int s, .int k]) ∧ H b = some (.lst (ns.map V.int)) ∧ ns.length ≤ 63
/-- all else is kept -/
def Kp (d b : Addr) (H H' : Hp) : Prop := ∀ c o, H c = some o → c ≠ d → c ≠ b → H' c = some o
theorem Kp.trans {d b : Addr} {H H1 H2 : Hp} (x : Kp d b H H1) (y : Kp d b H1 H2) : Kp d b H H2 := fun c o e h1 h2 => y c o (x c o e h1 h2) h1 h2
theorem Kp.new {d b p : Addr} {H : Hp} {o : HO} (h : H p = none) : Kp d b H (upd H p o) := fun c u e _ _ => by rw [upd_ne (ne_of_none e h)]; exact e
theorem Dk.new {d b p : Addr} {H : Hp} {o : HO} (x : Dk H d b) (h : H p = none) : Dk (upd H p o) d b := by
  obtain ⟨ns, s, k, h1, h2, h3⟩ := x.ex
  exact ⟨ns, s, k, by rw [upd_ne (ne_of_none h1 h)]; exact h1, by rw [upd_ne (ne_of_none h2 h)]; exact h2, h3⟩
def spMixed : Sp := fun vs H Q _ => ∃ n k, vs = [.int n, .int k] ∧ ∀ r, Q (.int r) H
def spDraw : Sp := fun vs H Q _ => ∃ d b m, vs = [.ref d, .int m] ∧ Dk H d b ∧ 0 < m ∧ m < 1073741824 ∧ ∀ r H', 0 ≤ r → r < m → Dk H' d b → Kp d b H H' → Q (.int r) H'
def spDeck (K : PySem.W.Frag) : Sp := fun vs H Q _ => ∃ (a : Addr) (ns : List Int), vs = [.ref a] ∧ SqL K H a (ns.map V.int) ∧ ∀ d b H', H d = none → H b = none → Dk H' d b → Same H H' → Q (.ref d) H'
end L2
namespace L2
theorem if_f {c : Bool} {A B : Prop} (h : c = false) (k : B) : if c = true then A else B := by rw [if_neg (by rw [h]; exact Bool.false_ne_true)]; exact k
theorem if_b {c : Bool} {A B : Prop} (ht : c = true → A) (hf : c = false → B) : if c = true then A else B := by
  cases h : c with
  | true => rw [if_pos rfl]; exact ht h
  | false => rw [if_neg Bool.false_ne_true]; exact hf h
end L2
namespace L2
open PySem PySem.Spec PyProof.Rows
/-! ### what is walked, as a list -/
structure Seqs (J : It) (xs : List V) (A : Hp → Prop) : Prop where
  go : ∀ i H, i < xs.length → A H → J.go i H
  yld : ∀ i H x H', i < xs.length → A H → J.yld i H x H' → H' = H ∧ xs[i]? = some x
  stop : ∀ H, A H → J.stop xs.length H
def signs (x : Str) : List V := x.cps.toList.map fun c => V.str (tx [c])
theorem seq_str (x : Str) : Seqs (Its x) (signs x) (fun _ => True) := by
  have hl : (signs x).length = x.cps.size := by simp [signs]
  refine ⟨fun i H hi _ => by rw [hl] at hi; exact hi, fun i H v H' _ _ ⟨e, c, hc, ev⟩ => ⟨e, ?_⟩, fun H _ => by rw [hl]; exact Nat.le_refl _⟩
  subst ev
  unfold signs
  rw [List.getElem?_map, Array.getElem?_toList, hc]; rfl
def rangeV (lo : Int) (n : Nat) : List V := (List.range n).map fun (i : Nat) => V.int (lo + (i : Int))
theorem seq_range (lo : Int) (n : Nat) : Seqs (Itr lo n) (rangeV lo n) (fun _ => True) := by
  have hl : (rangeV lo n).length = n := by simp [rangeV]
  refine ⟨fun i H hi _ => by rw [hl] at hi; exact hi, fun i H v H' hi _ ⟨e, ev⟩ => ⟨e, ?_⟩, fun H _ => by rw [hl]; exact Nat.le_refl _⟩
  subst ev
  rw [hl] at hi
  unfold rangeV
  rw [List.getElem?_map, List.getElem?_range hi]; rfl
theorem seq_list (K : PySem.W.Frag) (a : Addr) (xs : List V) : Seqs (Itl K a) xs (fun H => SqL K H a xs) :=
  ⟨fun i H hi h => ⟨xs, xs[i], h, by simp [hi]⟩, fun i H x H' _ h ⟨e, y⟩ => ⟨e, y xs h⟩, fun H h => ⟨xs, h, Nat.le_refl _⟩⟩
theorem seq_tup (K : PySem.W.Frag) (a : Addr) (xs : List V) : Seqs (Itt K a) xs (fun H => SqT K H a xs) :=
  ⟨fun i H hi h => ⟨xs, xs[i], h, by simp [hi]⟩, fun i H x H' _ h ⟨e, y⟩ => ⟨e, y xs h⟩, fun H h => ⟨xs, h, Nat.le_refl _⟩⟩
theorem comp_seq {J : It} {xs : List V} {A : Hp → Prop} {js : List (Option Nat)} {g : TG} {tt : TT} {te : TE} {σ : St} {H : Hp} {Q : List V → Hp → Prop} (S : Seqs J xs A) (hz : xs.length ≤ 100000) (Pv : Nat → List V → Hp → Prop) (hA : ∀ i ys H, Pv i ys H → A H ∧ ys.length ≤ i) (h0 : Pv 0 [] H)
    (hs : ∀ i x ys H, xs[i]? = some x → Pv i ys H → g x (stC js σ) H fun σ2 H2 => tt σ2 H2 fun b H3 => if b = true then te σ2 H3 fun y H4 => Pv (i + 1) (ys ++ [y]) H4 else Pv (i + 1) ys H3)
    (hd : ∀ ys H, Pv xs.length ys H → Q ys H) : wComp js g tt te σ J H Q := by
  refine ⟨fun i m ys H => m = xs.length - i ∧ i ≤ xs.length ∧ Pv i ys H, ⟨xs.length, by simp, Nat.zero_le _, h0⟩, ?_⟩
  rintro i m ys H ⟨rfl, hi, p⟩
  obtain ⟨pa, hy⟩ := hA i ys H p
  by_cases hlt : i < xs.length
  · refine .inr ⟨S.go i H hlt pa, Nat.lt_of_le_of_lt (m := 100000) (by omega) (by decide), Pv (i + 1), fun ys' H' p' => ⟨xs.length - (i + 1), by omega, rfl, hlt, p'⟩, fun x H' y => ?_⟩
    obtain ⟨rfl, hx⟩ := S.yld i H x H' hlt pa y
    exact hs i x ys H' hx p
  · have e : i = xs.length := by omega
    subst e
    exact .inl ⟨S.stop H pa, hd ys H p⟩
/-- a comprehension whose test and element leave the heap -/
theorem comp_pure {J : It} {xs : List V} {A : Hp → Prop} {js : List (Option Nat)} {g : TG} {tt : TT} {te : TE} {σ : St} {H : Hp} {Q : List V → Hp → Prop} (S : Seqs J xs A) (hz : xs.length ≤ 100000) (p : V → Bool) (f : V → V) (hA : A H)
    (hs : ∀ (x : V) (ys : List V) (N : List V → Hp → Prop), x ∈ xs → (p x = true → N (ys ++ [f x]) H) → (p x = false → N ys H) → g x (stC js σ) H fun σ2 H2 => tt σ2 H2 fun b H3 => if b = true then te σ2 H3 fun y H4 => N (ys ++ [y]) H4 else N ys H3)
    (hd : Q ((xs.filter p).map f) H) : wComp js g tt te σ J H Q := by
  refine comp_seq S hz (fun i ys H' => ys = ((xs.take i).filter p).map f ∧ H' = H) (fun i ys H' ⟨e, e2⟩ => ⟨by rw [e2]; exact hA, ?_⟩) ⟨by simp, rfl⟩ (fun i x ys H' hx ⟨e, e2⟩ => ?_) (fun ys H' ⟨e, e2⟩ => ?_)
  · rw [e, List.length_map]
    exact Nat.le_trans (List.length_filter_le _ _) (by rw [List.length_take]; exact Nat.min_le_left _ _)
  · subst e2
    have key : (xs.take (i + 1)).filter p = (xs.take i).filter p ++ (if p x = true then [x] else []) := take_succ_filter p xs i x hx
    refine hs x ys (fun ys' H3 => ys' = ((xs.take (i + 1)).filter p).map f ∧ H3 = H') (List.mem_of_getElem? hx) (fun h => ⟨?_, rfl⟩) (fun h => ⟨?_, rfl⟩)
    · rw [key, if_pos h, List.map_append, e]; rfl
    · rw [key, if_neg (by rw [h]; exact Bool.false_ne_true), List.append_nil, e]
  · subst e2
    rw [e, List.take_of_length_le (Nat.le_refl _)]
    exact hd
/-- a loop over what is walked as a list -/
theorem for_seq {J : It} {xs : List V} {A : Hp → Prop} {g : TG} {tb : TS} {D : Ends} {σ : St} {H : Hp} (S : Seqs J xs A) (Pv : Nat → St → Hp → Prop) (hA : ∀ i σ H, Pv i σ H → A H) (h0 : Pv 0 σ H)
    (hs : ∀ (i : Nat) (x : V) σ H, xs[i]? = some x → Pv i σ H → g x σ H fun σ2 H2 => tb { D with nx := Pv (i + 1), ct := Pv (i + 1), bk := D.nx } σ2 H2) (hd : ∀ σ H, Pv xs.length σ H → D.nx σ H) :
    ∃ W : Nat → Nat → St → Hp → Prop, (∃ m, W 0 m σ H) ∧ ∀ i m σ H, W i m σ H →
      (J.stop i H ∧ D.nx σ H) ∨ (J.go i H ∧ ∃ N : St → Hp → Prop, (∀ σ' H', N σ' H' → ∃ m', m' < m ∧ W (i + 1) m' σ' H') ∧ ∀ x H', J.yld i H x H' → g x σ H' fun σ2 H2 => tb { D with nx := N, ct := N, bk := D.nx } σ2 H2) := by
  refine ⟨fun i m σ H => m = xs.length - i ∧ i ≤ xs.length ∧ Pv i σ H, ⟨xs.length, by simp, Nat.zero_le _, h0⟩, ?_⟩
  rintro i m σ H ⟨rfl, hi, p⟩
  have pa := hA i σ H p
  by_cases hlt : i < xs.length
  · refine .inr ⟨S.go i H hlt pa, Pv (i + 1), fun σ' H' p' => ⟨xs.length - (i + 1), by omega, rfl, hlt, p'⟩, fun x H' y => ?_⟩
    obtain ⟨rfl, hx⟩ := S.yld i H x H' hlt pa y
    exact hs i x σ H' hx p
  · have e : i = xs.length := by omega
    subst e
    exact .inl ⟨S.stop H pa, hd σ H p⟩
end L2
namespace L2
open PySem
theorem same_upd {H : Hp} {p : Addr} {o : HO} (h : H p = none) : Same H (upd H p o) := fun b u q => by rw [upd_ne (ne_of_none q h)]; exact q
theorem cut_to {α : Type} (xs : List α) (k : Nat) : cut xs none (some (k : Int)) = xs.take k := by
  unfold cut
  rw [HT.sIx_none, HT.sIx_nat, List.drop_zero, Nat.sub_zero, ← List.take_take, List.take_of_length_le (Nat.le_refl _)]
theorem cut_map {α β : Type} (f : α → β) (xs : List α) (lo hi : Option Int) : cut (xs.map f) lo hi = (cut xs lo hi).map f := by
  unfold cut
  rw [List.length_map, ← List.map_drop, ← List.map_take]
end L2
namespace L2
open PySem PySem.Spec PyProof.Rows
theorem at_upd {H : Hp} {p q : Addr} {o u : HO} (h : H p = some o) (hq : H q = none) : upd H q u p = some o := by rw [upd_ne (ne_of_none h hq)]; exact h
theorem atI_some {α : Type} {xs : List α} {i : Int} (h0 : 0 ≤ i) (h1 : i < xs.length) : ∃ v, atI xs i = some v ∧ v ∈ xs := by
  obtain ⟨j, rfl⟩ := Int.eq_ofNat_of_zero_le h0
  have hj : j < xs.length := by omega
  exact ⟨xs[j], atI_nat (by simp [hj]), List.getElem_mem hj⟩
theorem glue_go (g : Array Nat) : ∀ (ps : List Str) (acc : Array Nat), (ps.foldl (fun acc p => acc ++ g ++ p.cps) acc).toList = acc.toList ++ (ps.map fun p => g.toList ++ p.cps.toList).flatten
  | [], acc => by simp
  | p :: ps, acc => by
    rw [List.foldl_cons, glue_go g ps]
    simp
/-- ''.join(..) -/
theorem join_cps (ps : List Str) : (Txt.join (tx []) ps).cps.toList = (ps.map fun p => p.cps.toList).flatten := by
  unfold Txt.join Builtin.Str.glued
  rw [glue_go]
  cases ps with
  | nil => simp [Str.empty]
  | cons p ps => simp
theorem join_tx (ps : List Str) : Txt.join (tx []) ps = tx (ps.map fun p => p.cps.toList).flatten := by rw [← join_cps, tx_cps]
theorem join_signs (ts : List Nat) : Txt.join (tx []) (ts.map fun c => tx [c]) = tx ts := by
  rw [join_tx, List.map_map]
  congr 1
  congr 1
  induction ts with
  | nil => rfl
  | cons c r ih => rw [List.map_cons, List.flatten_cons, ih]; rfl
theorem emp_eq : ("" : Str) = tx [] := by decide +kernel
end L2
namespace L2
open PySem PySem.Spec PyProof.Rows
end L2
namespace L2
open PySem
theorem Dk.ne {H : Hp} {d b p : Addr} (x : Dk H d b) (h : H p = none) : p ≠ d ∧ p ≠ b := by
  obtain ⟨ns, s, k, h1, h2, h3⟩ := x.ex
  exact ⟨(ne_of_none h1 h).symm, (ne_of_none h2 h).symm⟩
theorem tx_of (x : Str) : x = tx x.cps.toList := (tx_cps x).symm
end L2
namespace L2
open PySem
theorem sum_ones : ∀ ts : List Nat, ((ts.map fun c => tx [c]).map (·.length)).sum = ts.length
  | [] => rfl
  | c :: ts => by
    rw [List.map_cons, List.map_cons, List.sum_cons, sum_ones ts, List.length_cons]
    show 1 + ts.length = _
    omega
end L2
namespace L2
open PySem
theorem cutS {t : TS} {D : Ends} {σ : St} {H : Hp} (R : St → Hp → Prop) (h : ∀ nx : St → Hp → Prop, (∀ σ' H', R σ' H' → nx σ' H') → t { D with nx := nx } σ H) (h2 : ∀ σ' H', R σ' H' → D.nx σ' H') : t D σ H := h D.nx h2
theorem Kof.same {H H' : Hp} {x : V} {k : Kd} (s : Same H H') (h : Kof H x k) : Kof H' x k := by
  cases x <;> cases k <;> first
    | exact h
    | (obtain ⟨xs, e⟩ := h; exact ⟨xs, s _ _ e⟩)
    | (rcases h with ⟨xs, e⟩ | ⟨o, xs, e⟩
       · exact .inl ⟨xs, s _ _ e⟩
       · exact .inr ⟨o, xs, s _ _ e⟩)
theorem Dk.same {H H' : Hp} {d b : Addr} (s : Same H H') (h : Dk H d b) : Dk H' d b := by
  obtain ⟨ns, s0, k, h1, h2, h3⟩ := h.ex
  exact ⟨ns, s0, k, s _ _ h1, s _ _ h2, h3⟩
end L2

namespace L2
open PySem PySem.Spec PyProof.Rows
/-! ### the judgements, shut -/
structure XE (X : Cx) (e : Expr) (t : TE) : Prop where
  h : PE X e t
structure XT (X : Cx) (e : Expr) (t : TT) : Prop where
  h : PT X e t
structure XW (X : Cx) (e : Expr) (t : TT) : Prop where
  h : PW X e t
structure XA (X : Cx) (es : List Expr) (t : TA) : Prop where
  h : PA X es t
structure XS (X : Cx) (st : Stmt) (t : TS) : Prop where
  h : PS X st t
structure XB (X : Cx) (st : List Stmt) (t : TS) : Prop where
  h : PSs X st t
structure XI (X : Cx) (tg iter : Expr) (t : TI) : Prop where
  h : PI X tg iter t
structure XG (X : Cx) (e : Expr) (t : TG) : Prop where
  h : PG X e t
structure XO (X : Cx) (e : Option Expr) (t : TO) : Prop where
  h : PO X e t
structure XTs (X : Cx) (cs : List Expr) (t : TT) : Prop where
  h : PTs X cs t
structure XSet (X : Cx) (t : TSet) : Prop where
  h : PSet X t
structure XOp (X : Cx) (f : Value → Value → Sem Value) (r : R2) : Prop where
  h : OpR X f r
structure XIx (X : Cx) (r : R2) : Prop where
  h : IxR X r
structure XSl (X : Cx) (r : V → Option Int → Option Int → Hp → VK → Prop) : Prop where
  h : SlR X r
structure XC (X : Cx) (f : Value) (r : List V → Hp → VK → Prop) : Prop where
  h : CallR X f r
structure XM (X : Cx) (id : String) (r : V → List V → Hp → VK → Prop) : Prop where
  h : MtR X id r
namespace R
section
variable {X : Cx} {a b c e o i : Expr} {es rest : List Expr} {ta tb tc te to ti : TE} {tA tB' : TT} {t u : TA} {pos p p2 apos cpos pos' : Pos} {x : Str} {n : Nat} {r r' : R2}
-- names and constants
theorem v (i : Nat) {x : Str} {pos : Pos} (hN : X.N[i]? = some x := by rfl) (hv : Vis X.env.scope x := by first | exact Or.inl rfl | exact Or.inr (Or.inl rfl) | exact Or.inr (Or.inr rfl)) (hd : (x == ("__debug__" : Str)) = false := by decide)
    (hcd : (x == ("__classdict__" : Str)) = false := by decide) : XE X (.Name x pos) (vr i) := ⟨xv i hN hv hd hcd⟩
theorem int {i j pos} : XE X (.Constant (.int i) j pos) (tC (.int i)) := ⟨pe_int⟩
theorem bl {b j pos} : XE X (.Constant (.bool b) j pos) (tC (.bl b)) := ⟨pe_bl⟩
theorem non {j pos} : XE X (.Constant .none j pos) (tC .non) := ⟨pe_non⟩
theorem str {x j pos} : XE X (.Constant (.str x) j pos) (tC (.str x)) := ⟨pe_str⟩
/-- a module's text, number -/
theorem gS {z : Str} (hg : Gl X x) (hm : ∃ t, X.mg x = some (.str z t)) (hd : (x == ("__debug__" : Str)) = false := by decide) : XE X (.Name x pos) (tC (.str z)) := by
  obtain ⟨t, hm⟩ := hm; exact ⟨pe_glob hg hm ⟨t, rfl⟩ hd⟩
theorem gI {z : Int} (hg : Gl X x) (hm : ∃ t, X.mg x = some (.int z t)) (hd : (x == ("__debug__" : Str)) = false := by decide) : XE X (.Name x pos) (tC (.int z)) := by
  obtain ⟨t, hm⟩ := hm; exact ⟨pe_glob hg hm ⟨t, rfl⟩ hd⟩
theorem gR {a : Addr} (hg : Gl X x) (hm : X.mg x = some (.ref a)) (hd : (x == ("__debug__" : Str)) = false := by decide) : XE X (.Name x pos) (tC (.ref a)) := ⟨pe_glob hg hm rfl hd⟩
-- operations
theorem op {op : Operator} (ho : XOp X (binaryOp op) r) (ha : XE X a ta) (hb : XE X b tb) : XE X (.BinOp a op b pos) (tOp r ta tb) := ⟨pe_op ho.h ha.h hb.h⟩
theorem add : XOp X (binaryOp .Add) (m20 fun i j => .int (i + j)) := ⟨o_add⟩
theorem sub : XOp X (binaryOp .Sub) (m20 fun i j => .int (i - j)) := ⟨o_sub⟩
theorem mul : XOp X (binaryOp .Mult) (m2 CMul fun i j => .int (i * j)) := ⟨o_mul⟩
theorem fdiv : XOp X (binaryOp .FloorDiv) (m2 CDiv fun i j => .int (i / j)) := ⟨o_fdiv⟩
theorem mod : XOp X (binaryOp .Mod) (m2 (fun _ j => 0 < j) fun i j => .int (i % j)) := ⟨o_mod⟩
theorem pow : XOp X (binaryOp .Pow) (m2 CPow fun i j => .int (i ^ j.toNat)) := ⟨o_pow⟩
theorem addS : XOp X (binaryOp .Add) mAddS := ⟨o_addS⟩
theorem lt : XOp X (compareOp .Lt) (m20 fun i j => .bl (decide (i < j))) := ⟨o_lt⟩
theorem le : XOp X (compareOp .LtE) (m20 fun i j => .bl (decide (i ≤ j))) := ⟨o_le⟩
theorem gt : XOp X (compareOp .Gt) (m20 fun i j => .bl (decide (j < i))) := ⟨o_gt⟩
theorem eq : XOp X (compareOp .Eq) mEq := ⟨o_eq⟩
theorem ne : XOp X (compareOp .NotEq) mNe := ⟨o_ne⟩
theorem inS : XOp X (compareOp .In) (mInS false) := ⟨o_inS⟩
theorem inQ : XOp X (compareOp .In) (rIn X.K false) := ⟨op_in_seq⟩
theorem notInQ : XOp X (compareOp .NotIn) (rIn X.K true) := ⟨op_notIn_seq⟩
theorem eqNil (hu : X.A.units < cLine) : XOp X (compareOp .Eq) (rEqNil X.K false) := ⟨op_eqNil hu⟩
theorem cmp {op : CmpOp} (ho : XOp X (compareOp op) r) (ha : XE X a ta) (hb : XE X b tb) (hm : behindInMarks op b = false := by first | exact nomark _ | rfl) : XE X (.Compare a [op] [b] pos) (tOp r ta tb) := ⟨x_cmp ho.h ha.h hb.h hm⟩
theorem tcmp {op : CmpOp} (ho : XOp X (compareOp op) r) (ha : XE X a ta) (hb : XE X b tb) (hm : behindInMarks op b = false := by first | exact nomark _ | rfl) : XT X (.Compare a [op] [b] pos) (mT (tOp r ta tb)) := ⟨t_cmp ho.h ha.h hb.h hm⟩
theorem chain {op op' : CmpOp} (ho : XOp X (compareOp op) r) (ho' : XOp X (compareOp op') r') (ha : XE X a ta) (hb : XE X b tb) (hc : XE X c tc) (hm : lastMarks [op, op'] [b, c] = false := by with_unfolding_all rfl) : XE X (.Compare a [op, op'] [b, c] pos) (mChain r r' ta tb tc) := ⟨x_chain ho.h ho'.h ha.h hb.h hc.h hm⟩
theorem tchain {op op' : CmpOp} (ho : XOp X (compareOp op) r) (ho' : XOp X (compareOp op') r') (ha : XE X a ta) (hb : XE X b tb) (hc : XE X c tc) (hm : lastMarks [op, op'] [b, c] = false := by with_unfolding_all rfl) : XT X (.Compare a [op, op'] [b, c] pos) (mT (mChain r r' ta tb tc)) := ⟨t_chain ho.h ho'.h ha.h hb.h hc.h hm⟩
theorem neg (ha : XE X a ta) : XE X (.UnaryOp .USub a pos) (tUn (fun x H Q => mI x fun i => Q (.int (-i)) H) ta) := ⟨x_neg ha.h⟩
-- truth
theorem val {t : TE} (h : XE X e t) (he : ∀ whole, isTrue e X.env whole = (do let v ← whole; standAt e.pos; holding [v] (truthy v)) := by intro _; rfl) : XT X e (mT t) := ⟨t_val h.h he⟩
theorem tnot (ha : XT X a tA) : XT X (.UnaryOp .Not a pos) (tNot tA) := ⟨pt_not ha.h⟩
theorem wand1 (ha : XT X a tA) : XW X (.BoolOp .And [a] pos) tA := ⟨pw_and1 ha.h⟩
theorem wor1 (ha : XT X a tA) : XW X (.BoolOp .Or [a] pos) tA := ⟨pw_or1 ha.h⟩
theorem wand (ha : XT X a tA) (hb : XW X (.BoolOp .And (b :: rest) pos) tB') : XW X (.BoolOp .And (a :: b :: rest) pos) (tAnd tA tB') := ⟨pw_and ha.h hb.h⟩
theorem wor (ha : XT X a tA) (hb : XW X (.BoolOp .Or (b :: rest) pos) tB') : XW X (.BoolOp .Or (a :: b :: rest) pos) (tOr tA tB') := ⟨pw_or ha.h hb.h⟩
theorem tw (h : XW X e tA) : XT X e tA := ⟨h.h.pt⟩
theorem one {op} (h : XE X a ta) : XE X (.BoolOp op [a] pos) ta := ⟨pe_one h.h⟩
theorem and (ha : XE X a ta) (hb : XE X (.BoolOp .And (b :: rest) pos) tb) : XE X (.BoolOp .And (a :: b :: rest) pos) (mAndV ta tb) := ⟨x_and ha.h hb.h⟩
theorem or (ha : XE X a ta) (hb : XE X (.BoolOp .Or (b :: rest) pos) tb) : XE X (.BoolOp .Or (a :: b :: rest) pos) (mOrV ta tb) := ⟨x_or ha.h hb.h⟩
theorem ifx (hc : XT X c tA) (ha : XE X a ta) (hb : XE X b tb) : XE X (.IfExp c a b pos) (tIf tA ta tb) := ⟨pe_ifExp hc.h ha.h hb.h⟩
-- items, slices, displays
theorem ix (hr : XIx X r) (ha : XE X a ta) (hb : XE X b tb) (hs : PlainIx b := by exact fun _ _ => rfl) : XE X (.Subscript a b pos) (tOp r ta tb) := ⟨x_ix hr.h ha.h hb.h hs⟩
theorem iL : XIx X (mIxL X.K) := ⟨i_list⟩
theorem iT : XIx X (mIxT X.K) := ⟨i_tup⟩
theorem iS : XIx X mIxS := ⟨i_str⟩
theorem pn : XO X none tNoPart := ⟨po_none⟩
theorem ps (h : XE X e te) : XO X (some e) (mPart te) := ⟨p_some h.h⟩
theorem sl {r : V → Option Int → Option Int → Hp → VK → Prop} {lo hi : Option Expr} {tl th : TO} (hr : XSl X r) (he : XE X e te) (hl : XO X lo tl) (hu : XO X hi th) : XE X (.Subscript e (.Slice lo hi none p2) pos) (tSl r te tl th) := ⟨pe_slice hr.h he.h hl.h hu.h⟩
theorem sL : XSl X (mSlL X.K) := ⟨s_list⟩
theorem nil : XA X [] tNil := ⟨pa_nil⟩
theorem cons (ha : XE X e te) (hr : XA X es t) (h : notStar e = true := by rfl) : XA X (e :: es) (tCons te t) := ⟨a_cons ha.h hr.h h⟩
theorem tup {x1} (h : XA X es t) : XE X (.Tuple es x1 pos) (tTup t) := ⟨pe_tup h.h⟩
theorem lst (h : XA X es t) : XE X (.List es pos) (tLst t) := ⟨pe_lst h.h⟩
-- calls
theorem callB {id : String} {r : List V → Hp → VK → Prop} (hc : XC X (.builtin id) r) (hg : Gl X x) (hm : X.mg x = none) (hv : bootBuiltins x = some (.builtin id)) (ha : XA X (e :: es) t) (hn : x ≠ "__name__" := by decide) (hdb : (x == ("__debug__" : Str)) = false := by decide)
    (h1 : notStar e = true := by rfl) (h2 : es.all notStar = true := by rfl) : XE X (.Call (.Name x p) (e :: es) [] pos) (tCB r t) := ⟨x_callB hc.h hg hm hv ha.h hn hdb h1 h2⟩
theorem callTy {T : String} {r : List V → Hp → VK → Prop} (hc : XC X (.type T) r) (hg : Gl X x) (hm : X.mg x = none) (hv : bootBuiltins x = some (.type T)) (ha : XA X (e :: es) t) (hn : x ≠ "__name__" := by decide) (hdb : (x == ("__debug__" : Str)) = false := by decide)
    (h1 : notStar e = true := by rfl) (h2 : es.all notStar = true := by rfl) : XE X (.Call (.Name x p) (e :: es) [] pos) (tCB r t) := ⟨x_callTy hc.h hg hm hv ha.h hn hdb h1 h2⟩
theorem lenS : XC X (.builtin "len") (fun vs H Q => match vs with | [.str z] => z.length ≤ sizeLine ∧ Q (.int z.length) H | _ => False) := ⟨c_lenS⟩
theorem lenL : XC X (.builtin "len") (fun vs H Q => match vs with | [.ref p] => ∃ ys, (SqL X.K H p ys ∨ SqT X.K H p ys) ∧ Q (.int ys.length) H | _ => False) := ⟨c_lenL⟩
theorem all (hc : X.calm = true) : XC X (.builtin "all") (rAll X.K) := ⟨call_all hc⟩
theorem sum (hc : X.calm = true) : XC X (.builtin "sum") (rSum X.K) := ⟨call_sum hc⟩
theorem fn {n : Nat} {ps : List Str} {sp : Sp} (c : Callee X.prog X.w X.K X.mg X.base n x ps sp) (hr : Room n X.A) (hg : Gl X x) (ha : XA X (e :: es) t) (hdb : (x == ("__debug__" : Str)) = false := by decide)
    (h1 : notStar e = true := by rfl) (h2 : es.all notStar = true := by rfl) : XE X (.Call (.Name x p) (e :: es) [] pos) (tFn sp t) := ⟨x_fnc c hr hg ha.h hdb h1 h2⟩
theorem bm {T id : String} {name : Str} {r : V → List V → Hp → VK → Prop} (pa : PlainAttrs T) (slot : Slot T name id) (hty : typeOf (.builtin id) = pure (.type "method_descriptor")) (hm : XM X id r) (ho : XE X o to) (ha : XA X (e :: es) t)
    (hbase : attributeBase o name X.env (eval o X.env) = eval o X.env := by rfl) (hline : (apos.endLine == cpos.line) = true := by rfl) (h1 : notStar e = true := by rfl) (h2 : es.all notStar = true := by rfl) (hn : es.length + 1 < 30 := by decide) :
    XE X (.Call (.Attribute o name apos) (e :: es) [] cpos) (tBM X.K T r to t) := ⟨x_bm pa slot hty hm.h ho.h ha.h hbase hline h1 h2 hn⟩
theorem bm0 {T id : String} {name : Str} {r : V → List V → Hp → VK → Prop} (pa : PlainAttrs T) (slot : Slot T name id) (hty : typeOf (.builtin id) = pure (.type "method_descriptor")) (hm : XM X id r) (ho : XE X o to)
    (hbase : attributeBase o name X.env (eval o X.env) = eval o X.env := by rfl) (hline : (apos.endLine == cpos.line) = true := by rfl) : XE X (.Call (.Attribute o name apos) [] [] cpos) (tBM0 X.K T r to) := ⟨pe_bm0 pa slot hty hm.h ho.h hbase hline⟩
theorem append : XM X "list.append" rAppend := ⟨mt_append⟩
theorem pop : XM X "list.pop" rPop := ⟨mt_pop⟩
theorem join : XM X "str.join" (rJoin X.K) := ⟨mt_join⟩
theorem isi {T : Str} (want : Kd) (he : XE X e te) (hg : Gl X "isinstance") (hm : X.mg "isinstance" = none) (hgT : Gl X T) (hmT : X.mg T = none) (hT : bootBuiltins T = some (.type (kdT want)))
    (hn : T ≠ "__name__" := by decide) (hd : (T == ("__debug__" : Str)) = false := by decide) (h1 : notStar e = true := by rfl) : XE X (.Call (.Name "isinstance" p) [e, .Name T p2] [] pos) (tIsi want te) := ⟨x_isin want he.h hg hm hgT hmT hT hn hd h1⟩
theorem listrev {pos2 : Pos} (hc : X.calm = true) (hg : Gl X "list") (hm : X.mg "list" = none) (hg2 : Gl X "reversed") (hm2 : X.mg "reversed" = none) (he : XE X e te) (h1 : notStar e = true := by rfl) :
    XE X (.Call (.Name "list" p) [.Call (.Name "reversed" p2) [e] [] pos2] [] pos) (tRev X.K te) := ⟨pe_listrev hc hg hm hg2 hm2 he.h (star_cons h1) (star_cons rfl)⟩
-- what is walked
variable {tg : Expr}
theorem wL (hl : XE X e te) : XI X tg e (iList X.K te) := ⟨pi_list hl.h⟩
theorem wT (hl : XE X e te) : XI X tg e (iTup X.K te) := ⟨pi_tup hl.h⟩
theorem wS (hl : XE X e te) : XI X tg e (iStr te) := ⟨pi_str hl.h⟩
theorem range1 (hg : Gl X "range") (hm : X.mg "range" = none) (ha : XA X [a] t) (h1 : notStar a = true := by rfl) : XI X tg (.Call (.Name "range" p) [a] [] pos) (iRng1 t) := ⟨pi_range1 hg hm ha.h (star_cons h1)⟩
-- targets
theorem gn {i : Nat} (hN : X.N.Nodup) (hi : X.N[i]? = some x := by rfl) (hx : Loc X.env.scope x := by first | exact Or.inl rfl | exact Or.inr rfl) (hf : X.fn x = true ∨ X.env.scope.names.lookup x = some .local := by first | exact .inl rfl | exact .inr rfl | assumption) : XG X (.Name x pos) (gName i) := ⟨pg_name hN hi hx hf⟩
theorem setL : XSet X rSetL := ⟨set_list⟩
theorem gsub {ts : TSet} (ho : XE X o to) (hi : XE X i ti) (hs : XSet X ts) (ha : ∀ v, assign (.Subscript o i pos) X.env v = (do
      let ov ← holding [v] (eval o X.env)
      let iv ← holding [v, ov] (eval i X.env)
      standAt pos
      holding [v, ov, iv] (setItem ov iv v)
      release [v, ov, iv] []) := by intro _; rfl) : XG X (.Subscript o i pos) (gSub to ti ts) := ⟨pg_sub ho.h hi.h hs.h ha⟩
end
section
variable {X : Cx} {c e tg iter elt : Expr} {ifs : List Expr} {te : TE} {tc tt : TT} {g : TG} {wi : TI} {st : Stmt} {ss sa sb : List Stmt} {t u : TS} {pos pos' spos py : Pos} {x y : Str} {scope : Scope} {N : List Str} {js : List (Option Nat)}
theorem ts0 : XTs X [] tTrue := ⟨pts_nil⟩
theorem ts1 (h : XT X c tt) (hx : X.xe = fun _ _ => False := by rfl) : XTs X [c] tt := ⟨pts_one h.h hx⟩
theorem comp (hc : X.calm = true) (S : CompScope X scope N js) (go : GOwn js g) (hi : XI X tg iter wi)
    (hb : ∀ (C : Addr) (s₂ : Shared) (H₂ : Hp) (fp : List Addr), XG (cxC X scope C N s₂ H₂ fp) tg g ∧ XTs (cxC X scope C N s₂ H₂ fp) ifs tt ∧ XE (cxC X scope C N s₂ H₂ fp) elt te)
    (hs : ∀ x, foldedSetIterable iter X.env x = pure x := by intro _; rfl) : XE X (.ListComp elt [⟨tg, iter, ifs, 0⟩] scope pos) (tComp wi js g tt te) :=
  ⟨pe_comp hc S go hi.h (fun C s₂ H₂ fp => let ⟨a, b, c⟩ := hb C s₂ H₂ fp; ⟨a.h, b.h, c.h⟩) hs⟩
theorem scomp {i : Nat} (hN : X.N.Nodup) (hy : X.N[i]? = some y) (hx : Loc X.env.scope y) (hc : X.calm = true) (S : CompScope X scope N js) (go : GOwn js g) (hi : XI X tg iter wi)
    (hb : ∀ (C : Addr) (s₂ : Shared) (H₂ : Hp) (fp : List Addr), XG (cxC X scope C N s₂ H₂ fp) tg g ∧ XTs (cxC X scope C N s₂ H₂ fp) ifs tt ∧ XE (cxC X scope C N s₂ H₂ fp) elt te)
    (hsw : swapsWith (.ListComp elt [⟨tg, iter, ifs, 0⟩] scope pos) (some (.Name y py)) spos.line X.env = pure true)
    (hs : ∀ x, foldedSetIterable iter X.env x = pure x := by intro _; rfl) (hf : X.fn y = true ∨ X.env.scope.names.lookup y = some .local := by first | exact .inl rfl | exact .inr rfl | assumption) :
    XS X (.Assign [.Name y py] (.ListComp elt [⟨tg, iter, ifs, 0⟩] scope pos) spos) (sComp i wi js g tt te) :=
  ⟨ps_comp hN hy hx hc S go hi.h (fun C s₂ H₂ fp => let ⟨a, b, c⟩ := hb C s₂ H₂ fp; ⟨a.h, b.h, c.h⟩) hsw hs hf⟩
theorem snil : XB X [] tNext := ⟨pss_nil⟩
theorem sone (h1 : XS X st t) : XB X [st] t := ⟨pss_one h1.h⟩
theorem scons (h1 : XS X st t) (h2 : XB X ss u) : XB X (st :: ss) (tSeq t u) := ⟨pss_cons h1.h h2.h⟩
theorem ret (he : XE X e te) : XS X (.Return (some e) pos) (tRet te) := ⟨ps_ret he.h⟩
theorem expr (he : XE X e te) (hs : swapsWith e none pos.line X.env = pure false := by rfl) : XS X (.Expr e pos) (tDrop te) := ⟨ps_expr he.h hs⟩
theorem ife (hc : XT X c tc) (ha : XB X sa t) (hb : XB X sb u) : XS X (.If c sa sb pos) (tIfS tc t u) := ⟨ps_if hc.h ha.h hb.h⟩
theorem set {i : Nat} (hN : X.N.Nodup) (he : XE X e te) (hi : X.N[i]? = some x := by rfl) (hx : Loc X.env.scope x := by first | exact Or.inl rfl | exact Or.inr rfl) (hs : swapsWith e (some (.Name x pos')) pos.line X.env = pure false := by rfl)
    (hf : X.fn x = true ∨ X.env.scope.names.lookup x = some .local := by first | exact .inl rfl | exact .inr rfl | assumption) : XS X (.Assign [.Name x pos'] e pos) (tAsg te (gName i)) := ⟨ps_set hN hi hx he.h hs hf⟩
theorem asg (he : XE X e te) (hg : XG X tg g) (hs : swapsWithSole [tg] e pos.line X.env = pure false := by rfl) (hw : swappedStores [tg] e X.env = pure none := by rfl) (h1 : (assignEach [tg] X.env).map (·.2) = [assign tg X.env] := by rfl) :
    XS X (.Assign [tg] e pos) (tAsg te g) := ⟨ps_asg he.h hg.h hs hw h1⟩
theorem for_ (hp : PassesOwn (model X.prog X.w) X.A X.env X.xe) (hc : X.calm = true) (hi : XI X tg iter wi) (hg : XG X tg g) (hb : XB X ss t) (hs : ∀ x, foldedSetIterable iter X.env x = pure x := by intro _; rfl) : XS X (.For tg iter ss [] pos) (tFor wi g t) := ⟨ps_for hp hc hi.h hg.h hb.h hs⟩
theorem while_ (hp : PassesOwn (model X.prog X.w) X.A X.env X.xe) (hc : XT X c tc) (hb : XB X ss t) : XS X (.While c ss [] pos) (tWhile tc t) := ⟨ps_while hp hc.h hb.h⟩
end
end R
theorem DefAt.go {P : Program} {w : World} {K : PySem.W.Frag} {mg : Str → Option Value} {base : Heap} {x : Str} {st : Stmt} {N ps : List Str} {k : Nat} {sp : Sp} (D : DefAt K mg x st ps) (S : FnScope N ps (defScope st)) (len : ∀ vs H Q E, sp vs H Q E → vs.length = ps.length)
    (hbody : ∀ (f : Addr) (cdv : Value) (A : Around) (outer : List Env) (s : Shared) (H : Hp) (vs : List V) (Q : VK) (E : XK), Room k (A.deeper (envOfC x (defScope st) s.heap.objs.size f cdv)) → sp vs H Q E →
      ∃ t, XB (cxOf CX0 P w K mg base N x (defScope st) f cdv A outer s H E).nox (defBody st) t ∧ t { nx := fun _ H' => Q .non H', rt := Q } (start N vs) H) : Callee P w K mg base (k + 1) x ps sp :=
  D.ok S len fun f cdv A outer s H vs Q E hr h => let ⟨t, h1, h2⟩ := hbody f cdv A outer s H vs Q E hr h; ⟨t, h1.h, h2⟩
theorem Fun.go {P : Program} {w : World} {K : PySem.W.Frag} {mg : Str → Option Value} {base : Heap} {x qual : Str} {st : Stmt} {f : Addr} {fd : FuncData} {N ps : List Str} {k : Nat} {sp : Sp} (F : Fun K x qual st f fd) (S : FnScope N ps (defScope st)) (len : ∀ vs H Q E, sp vs H Q E → vs.length = ps.length)
    (hbody : ∀ (cdv : Value) (A : Around) (outer : List Env) (s : Shared) (H : Hp) (vs : List V) (Q : VK) (E : XK), Room k (A.deeper (envOfC qual (defScope st) s.heap.objs.size f cdv)) → sp vs H Q E →
      ∃ t, XB (cxOf CX0 P w K mg base N qual (defScope st) f cdv A outer s H E).nox (defBody st) t ∧ t { nx := fun _ H' => Q .non H', rt := Q } (start N vs) H) : FnOk P w K mg base CX0 (k + 1) f fd ps sp :=
  F.ok S len fun cdv A outer s H vs Q E hr h => let ⟨t, h1, h2⟩ := hbody cdv A outer s H vs Q E hr h; ⟨t, h1.h, h2⟩
/-- a def as the top has written it -/
theorem def_at {K : PySem.W.Frag} {h : Heap} {mg : Str → Option Value} {x : Str} {st : Stmt} {ps : List Str} {f : Addr} {od an : Option Addr} {sl : Array (Option Value)} {oc kV dc pm cd ct : Value} (X : K.In h) (G : h.Ns mainGlobals mg)
    (a : PySem.W.nsIn K mainGlobals x = some (some (.ref f))) (l : K.lookup f = some ⟨oc, od, .func (PySem.W.fnOf x x (defArgs st) (defBody st) (defScope st) .none kV dc pm an cd ct), sl⟩) (c : PySem.W.codeIn K cd x = true) (k : PySem.W.keepIn K (.ref f) = true)
    (hb : ∀ (kV doc pm : Value) (an : Option Addr) (cdv ct : Value) (us : List Value), us.length = ps.length → bindArgs (PySem.W.fnOf x x (defArgs st) (defBody st) (defScope st) .none kV doc pm an cdv ct) ⟨us, []⟩ = pure (ps.zip us)) : DefAt K mg x st ps :=
  ⟨f, _, fun_mk l c k, PySem.W.mg_of X G a, (fun_mk (st := st) l c k).binds hb⟩
namespace R
section
variable {X : Cx} {K : PySem.W.Frag} {a b c e o i tg : Expr} {es rest : List Expr} {te to : TE} {t : TA} {pos p p2 apos cpos : Pos} {x : Str} {n : Nat}
theorem kiL (hK : X.K = K := by rfl) : XIx X (mIxL K) := hK ▸ iL
theorem kiT (hK : X.K = K := by rfl) : XIx X (mIxT K) := hK ▸ iT
theorem ksL (hK : X.K = K := by rfl) : XSl X (mSlL K) := hK ▸ sL
theorem kinQ (hK : X.K = K := by rfl) : XOp X (compareOp .In) (rIn K false) := hK ▸ inQ
theorem knotInQ (hK : X.K = K := by rfl) : XOp X (compareOp .NotIn) (rIn K true) := hK ▸ notInQ
theorem keqNil (hu : X.A.units < cLine) (hK : X.K = K := by rfl) : XOp X (compareOp .Eq) (rEqNil K false) := hK ▸ eqNil hu
theorem klenL (hK : X.K = K := by rfl) : XC X (.builtin "len") (fun vs H Q => match vs with | [.ref p] => ∃ ys, (SqL K H p ys ∨ SqT K H p ys) ∧ Q (.int ys.length) H | _ => False) := hK ▸ lenL
theorem kall (hc : X.calm = true) (hK : X.K = K := by rfl) : XC X (.builtin "all") (rAll K) := hK ▸ all hc
theorem ksum (hc : X.calm = true) (hK : X.K = K := by rfl) : XC X (.builtin "sum") (rSum K) := hK ▸ sum hc
theorem kjoin (hK : X.K = K := by rfl) : XM X "str.join" (rJoin K) := hK ▸ join
theorem kbm {T id : String} {name : Str} {r : V → List V → Hp → VK → Prop} (pa : PlainAttrs T) (slot : Slot T name id) (hty : typeOf (.builtin id) = pure (.type "method_descriptor")) (hm : XM X id r) (ho : XE X o to) (ha : XA X (e :: es) t) (hK : X.K = K := by rfl)
    (hbase : attributeBase o name X.env (eval o X.env) = eval o X.env := by rfl) (hline : (apos.endLine == cpos.line) = true := by rfl) (h1 : notStar e = true := by rfl) (h2 : es.all notStar = true := by rfl) (hn : es.length + 1 < 30 := by decide) :
    XE X (.Call (.Attribute o name apos) (e :: es) [] cpos) (tBM K T r to t) := hK ▸ bm pa slot hty hm ho ha hbase hline h1 h2 hn
theorem kbm0 {T id : String} {name : Str} {r : V → List V → Hp → VK → Prop} (pa : PlainAttrs T) (slot : Slot T name id) (hty : typeOf (.builtin id) = pure (.type "method_descriptor")) (hm : XM X id r) (ho : XE X o to) (hK : X.K = K := by rfl)
    (hbase : attributeBase o name X.env (eval o X.env) = eval o X.env := by rfl) (hline : (apos.endLine == cpos.line) = true := by rfl) : XE X (.Call (.Attribute o name apos) [] [] cpos) (tBM0 K T r to) := hK ▸ bm0 pa slot hty hm ho hbase hline
theorem klistrev {pos2 : Pos} (hc : X.calm = true) (hg : Gl X "list") (hm : X.mg "list" = none) (hg2 : Gl X "reversed") (hm2 : X.mg "reversed" = none) (he : XE X e te) (hK : X.K = K := by rfl) (h1 : notStar e = true := by rfl) :
    XE X (.Call (.Name "list" p) [.Call (.Name "reversed" p2) [e] [] pos2] [] pos) (tRev K te) := hK ▸ listrev hc hg hm hg2 hm2 he h1
theorem kwL (hl : XE X e te) (hK : X.K = K := by rfl) : XI X tg e (iList K te) := hK ▸ wL hl
theorem kwT (hl : XE X e te) (hK : X.K = K := by rfl) : XI X tg e (iTup K te) := hK ▸ wT hl
end
end R
end L2

namespace L2
open PySem PySem.Spec PyProof.Rows
/-! ### numbers and texts -/
section
variable {X : Cx}
/-- str(..) -/
def rToStr : List V → Hp → VK → Prop := fun vs H Q => match vs with
  | [.int i] => (0 ≤ i ∧ i < 10 ^ 40) ∧ Q (.str (Str.ofString (toString i))) H
  | [.str z] => Q (.str z) H
  | _ => False
theorem c_str : CallR X (.type "str") rToStr := by
  intro pins s σ H xs us Q I r h
  unfold rToStr at h
  split at h
  · rename_i i
    refine call_str_int pins s σ H [.int i] us Q I r ⟨i, rfl, ?_, h.2⟩
    have h1 : i.natAbs < 2 ^ 1920 := by
      have e : (10 : Nat) ^ 40 ≤ 2 ^ 1920 := by decide +kernel
      have e2 : i.natAbs < 10 ^ 40 := by
        have := h.1
        omega
      omega
    rcases Nat.eq_zero_or_pos i.natAbs with z | z
    · rw [z]; decide
    · exact (Nat.log2_lt (by omega)).mpr h1
  · rename_i z
    obtain ⟨u, rfl, t, rfl⟩ := vals1 r
    exact PySem.P.str_of_str ⟨.str z, H, I, ⟨t, rfl⟩, h⟩
  · exact h.elim
/-- int(text) of figures -/
def rIntS : List V → Hp → VK → Prop := fun vs H Q => match vs with
  | [.str z] => NumText.AllDigits z.cps.toList ∧ z.cps.toList ≠ [] ∧ z.length ≤ 640 ∧ Q (.int (NumText.digitsVal z.cps.toList : Nat)) H
  | _ => False
theorem c_intS : CallR X (.type "int") rIntS := by
  intro pins s σ H xs us Q I r h
  unfold rIntS at h
  split at h
  · rename_i z
    obtain ⟨h1, h2, h3, h⟩ := h
    obtain ⟨u, rfl, t, rfl⟩ := vals1 r
    exact PySem.W.KIN.call_text (PySem.intText_digits h1 h2 (Nat.le_trans h3 (by decide))) h3 ⟨.int _, H, I.tok _, ⟨_, rfl⟩, h⟩
  · exact h.elim
end
namespace R
variable {X : Cx}
theorem toStr : XC X (.type "str") rToStr := ⟨c_str⟩
theorem intS : XC X (.type "int") rIntS := ⟨c_intS⟩
end R
/-! ### words: what is told of names, keys and numbers -/
def LET : List Nat := [97, 98, 99, 100, 101, 102, 103, 104, 105, 106, 107, 108, 109, 110, 111, 112, 113, 114, 115, 116, 117, 118, 119, 120, 121, 122]
def FIG : List Nat := [48, 49, 50, 51, 52, 53, 54, 55, 56, 57]
theorem let_eq : (("abcdefghijklmnopqrstuvwxyz" : Str)).cps.toList = LET := by decide +kernel
theorem fig_eq : (("0123456789" : Str)).cps.toList = FIG := by decide +kernel
def madeOf (x : V) (cs : List Nat) (n : Int) : Bool := match x with | .str z => decide (1 ≤ (z.length : Int)) && decide ((z.length : Int) ≤ n) && z.cps.toList.all (fun c => decide (c ∈ cs)) | _ => false
theorem madeOf_str (z : Str) (cs : List Nat) (n : Int) : madeOf (.str z) cs n = (decide (1 ≤ (z.length : Int)) && decide ((z.length : Int) ≤ n) && z.cps.toList.all (fun c => decide (c ∈ cs))) := rfl
def spMade : Sp := fun vs H Q _ => ∃ x sg n k, vs = [x, .str sg, .int n] ∧ Kof H x k ∧ (∀ z, x = .str z → z.length ≤ 1000) ∧ ∀ H', Same H H' → Q (.bl (madeOf x sg.cps.toList n)) H'
def spTell (cs : List Nat) (n : Int) : Sp := fun vs H Q _ => ∃ x k, vs = [x] ∧ Kof H x k ∧ (∀ z, x = .str z → z.length ≤ 1000) ∧ ∀ H', Same H H' → Q (.bl (madeOf x cs n)) H'
theorem fig_iff (c : Nat) : c ∈ FIG ↔ 48 ≤ c ∧ c ≤ 57 := by
  unfold FIG
  simp only [List.mem_cons, List.not_mem_nil, or_false]
  omega
theorem figs_all {z : Str} (h : z.cps.toList.all (fun c => decide (c ∈ FIG)) = true) : NumText.AllDigits z.cps.toList := fun c hc => (fig_iff c).mp (of_decide_eq_true (List.all_eq_true.mp h c hc))
/-- the number that a text writes -/
def numOf (z : Str) : Option Nat :=
  if madeOf (.str z) FIG 13 = true then (if z.cps.toList.head? = some 48 ∧ z ≠ tx [48] then none else some (NumText.digitsVal z.cps.toList)) else none
def optV : Option Nat → V | none => .non | some n => .int (n : Int)
def spNum : Sp := fun vs H Q _ => ∃ z : Str, vs = [.str z] ∧ z.length ≤ 1000 ∧ ∀ H', Same H H' → Q (optV (numOf z)) H'
theorem dig_len : ∀ (k m : Nat), m < 10 ^ (k + 1) → (Nat.toDigits 10 m).length ≤ k + 1
  | 0, m, h => by rw [Nat.toDigits_of_lt_base (by simpa using h)]; exact Nat.le_refl _
  | k + 1, m, h => by
    by_cases hm : m < 10
    · rw [Nat.toDigits_of_lt_base hm]; simp
    · have h10 : m % 10 < 10 := Nat.mod_lt m (by decide)
      have t : Nat.toDigits 10 (m / 10) ++ Nat.toDigits 10 (m % 10) = Nat.toDigits 10 (10 * (m / 10) + m % 10) := Nat.toDigits_append_toDigits (by decide) (by omega) h10
      rw [Nat.div_add_mod] at t
      rw [← t, List.length_append, Nat.toDigits_of_lt_base h10]
      have := dig_len k (m / 10) (by rw [Nat.pow_succ] at h; omega)
      simp
      omega
theorem dig_head (m : Nat) : (Nat.toDigits 10 m).head? = some '0' → m = 0 := by
  induction m using Nat.strongRecOn with
  | _ m ih =>
    intro h
    by_cases hm : m < 10
    · rw [Nat.toDigits_of_lt_base hm] at h
      have : ∀ d : Nat, d < 10 → some (Nat.digitChar d) = some '0' → d = 0 := by decide
      exact this m hm h
    · have h10 : m % 10 < 10 := Nat.mod_lt m (by decide)
      have t : Nat.toDigits 10 (m / 10) ++ Nat.toDigits 10 (m % 10) = Nat.toDigits 10 (10 * (m / 10) + m % 10) := Nat.toDigits_append_toDigits (by decide) (by omega) h10
      rw [Nat.div_add_mod] at t
      rw [← t] at h
      have hl := PySem.toDigits_len_ge 10 (m / 10)
      cases e : Nat.toDigits 10 (m / 10) with
      | nil => rw [e] at hl; exact absurd hl (by decide)
      | cons c r =>
        rw [e] at h
        have := ih (m / 10) (by omega) (by rw [e]; exact h)
        omega
/-- the text of a number -/
def numS (m : Nat) : Str := Str.ofString (toString ((m : Nat) : Int))
theorem numS_cps (m : Nat) : (numS m).cps.toList = (Nat.toDigits 10 m).map Char.toNat := PySem.W.KIN.signs_num m
theorem numS_digits (m : Nat) : NumText.AllDigits (numS m).cps.toList := by
  intro c hc
  rw [numS_cps] at hc
  obtain ⟨ch, hch, e⟩ := List.mem_map.mp hc
  have r := PyProof.Rows.digit_range (Nat.isDigit_of_mem_toDigits (by decide) (by decide) hch)
  rw [← e]
  exact r
theorem numS_val (m : Nat) : NumText.digitsVal (numS m).cps.toList = m := by rw [numS_cps, PySem.W.KIN.val_back]
theorem numS_len (m : Nat) : (numS m).length = (Nat.toDigits 10 m).length := by
  have : (numS m).cps.toList.length = (numS m).length := by simp [Str.length]
  rw [← this, numS_cps, List.length_map]
theorem numS_pos (m : Nat) : 1 ≤ (numS m).length := by rw [numS_len]; exact PySem.toDigits_len_ge 10 m
theorem numS_le {m k : Nat} (h : m < 10 ^ (k + 1)) : (numS m).length ≤ k + 1 := by rw [numS_len]; exact dig_len k m h
theorem num_back {m : Nat} (h : m < 10 ^ 13) : numOf (numS m) = some m := by
  have h1 := numS_pos m
  have h2 := numS_le (k := 12) h
  have hm : madeOf (.str (numS m)) FIG 13 = true := by
    rw [madeOf_str, Bool.and_eq_true, Bool.and_eq_true]
    refine ⟨⟨decide_eq_true (by omega), decide_eq_true (by omega)⟩, List.all_eq_true.mpr fun c hc => decide_eq_true ((fig_iff c).mpr (numS_digits m c hc))⟩
  unfold numOf
  rw [if_pos hm, if_neg, numS_val]
  rintro ⟨hh, hne⟩
  rw [numS_cps] at hh
  have h0 : (Nat.toDigits 10 m).head? = some '0' := by
    cases e : Nat.toDigits 10 m with
    | nil => rw [e] at hh; cases hh
    | cons c r =>
      rw [e] at hh
      have : c.toNat = 48 := by simpa using hh
      have e2 : c = '0' := by
        have := congrArg Char.ofNat this
        rw [Char.ofNat_toNat] at this
        exact this
      rw [e2]; rfl
  have := dig_head m h0
  subst this
  exact hne (by decide +kernel)
end L2

namespace L2
open PySem PySem.Spec PyProof.Rows
/-! ### drawn names, amounts -/
def isNm (z : Str) : Prop := 1 ≤ z.length ∧ z.length ≤ 8 ∧ ∀ c ∈ z.cps.toList, c ∈ LET
def spName : Sp := fun vs H Q _ => ∃ d b, vs = [.ref d] ∧ Dk H d b ∧ ∀ z H', isNm z → Dk H' d b → Kp d b H H' → Q (.str z) H'
def spNames : Sp := fun vs H Q _ => ∃ (d b : Addr) (m : Nat), vs = [.ref d, .int m] ∧ Dk H d b ∧ m ≤ 60 ∧ ∀ (l : Addr) (zs : List Str) (H' : Hp), zs.length = m → (∀ z ∈ zs, isNm z) → zs.Nodup → H l = none → H' l = some (.lst (zs.map V.str)) → Dk H' d b → Kp d b H H' → Q (.ref l) H'
def spAmount : Sp := fun vs H Q _ => ∃ (d b : Addr) (least : Int), vs = [.ref d, .int least] ∧ 0 ≤ least ∧ least ≤ 1 ∧ Dk H d b ∧ ∀ n H', least ≤ n → n ≤ 1000000000000 → Dk H' d b → Kp d b H H' → Q (.int n) H'
theorem inV_str (z : Str) (ns : List Str) : inV (.str z) (ns.map V.str) = decide (z ∈ ns) := by
  unfold inV
  rw [List.any_map, Bool.eq_iff_iff, List.any_eq_true, decide_eq_true_iff]
  constructor
  · rintro ⟨y, hy, e⟩
    have : y = z := by simpa [eqV] using e
    rw [← this]; exact hy
  · intro h
    exact ⟨z, h, by simp [eqV]⟩
theorem flat_strs (ns : List Str) : (ns.map V.str).all flatV = true := by
  rw [List.all_map]; exact List.all_eq_true.mpr fun _ _ => rfl
theorem len_subset {α : Type} [DecidableEq α] : ∀ (l m : List α), l.Nodup → (∀ x ∈ l, x ∈ m) → l.length ≤ m.length
  | [], _, _, _ => Nat.zero_le _
  | a :: l, m, hn, hs => by
    obtain ⟨h1, h2⟩ := List.nodup_cons.mp hn
    have ha : a ∈ m := hs a List.mem_cons_self
    have := len_subset l (m.erase a) h2 fun x hx => (List.mem_erase_of_ne (fun (e : x = a) => h1 (e ▸ hx))).mpr (hs x (List.mem_cons_of_mem _ hx))
    rw [List.length_erase_of_mem ha] at this
    have hp : 0 < m.length := List.length_pos_of_mem ha
    rw [List.length_cons]; omega
theorem some_out {α : Type} [DecidableEq α] (l m : List α) (hn : l.Nodup) (h : m.length < l.length) : l.filter (fun x => !decide (x ∈ m)) ≠ [] := fun e => by
  have : ∀ x ∈ l, x ∈ m := fun x hx => by
    have := List.filter_eq_nil_iff.mp e x hx
    simpa using this
  have := len_subset l m hn this
  omega
/-- the hundred other names -/
def other (k : Nat) : Str := tx [LET.getD (k / 26) 0, LET.getD (k % 26) 0, 113]
def others : List Str := (List.range 100).map other
theorem others_nodup : others.Nodup := by decide +kernel
theorem others_nm : ∀ z ∈ others, isNm z := by
  intro z hz
  obtain ⟨k, hk, rfl⟩ := List.mem_map.mp hz
  have hk' := List.mem_range.mp hk
  have key : ∀ k, k < 100 → (LET.getD (k / 26) 0 ∈ LET ∧ LET.getD (k % 26) 0 ∈ LET) := by decide +kernel
  refine ⟨by show 1 ≤ 3; decide, by show 3 ≤ 8; decide, fun c hc => ?_⟩
  have hc' : c = LET.getD (k / 26) 0 ∨ c = LET.getD (k % 26) 0 ∨ c = 113 := by simpa [other] using hc
  rcases hc' with e | e | e
  · rw [e]; exact (key k hk').1
  · rw [e]; exact (key k hk').2
  · rw [e]; decide
theorem eight {r : Int} (h0 : 0 ≤ r) (h1 : r < 8) : r = 0 ∨ r = 1 ∨ r = 2 ∨ r = 3 ∨ r = 4 ∨ r = 5 ∨ r = 6 ∨ r = 7 := by omega
theorem six {r : Int} (h0 : 0 ≤ r) (h1 : r < 6) : r = 0 ∨ r = 1 ∨ r = 2 ∨ r = 3 ∨ r = 4 ∨ r = 5 := by omega
namespace R
variable {X : Cx}
theorem max (hc : X.calm = true) : XC X (.builtin "max") (fun vs H Q => match vs with | [.int i, .int j] => Q (.int (if j > i then j else i)) H | _ => False) := ⟨(call_max2 hc).imp fun vs H Q h => by
  split at h
  · rename_i i j
    exact ⟨i, j, rfl, h⟩
  · exact h.elim⟩
end R
end L2

namespace L2
open PySem PySem.Spec PyProof.Rows
/-! ### tuples: the whole slice, the empty left, turned about -/
section
variable {prog : Program} {w : World} {A : Around} {E : Value → Shared → Prop} {s : Shared}
theorem tupExact_ {t : Addr} {items : Array Value} {Q : Bool → Shared → Prop} (ht : IsTup s.heap t items) (h : Q true s) : wpAny (model prog w) A (Builtin.Tuple.tupleIsExact (.ref t)) Q E s := by
  unfold Builtin.Tuple.tupleIsExact
  refine wpAny_bind (wpAny_typeOf ht.typeIs ?_)
  exact wpAny_pure h
theorem getItem_tuple_whole {t sl : Addr} {items : Array Value} {vl vu : Value} {lo hi : Option Int} {Q : Value → Shared → Prop} (ht : IsTup s.heap t items) (hs : s.heap.IsSliceOf sl vl vu .none) (pl : IsPart vl lo) (pu : IsPart vu hi)
    (hw : HT.sIx items.size 0 lo = 0 ∧ HT.sIx items.size items.size hi = items.size) (h : Q (.ref t) s) : wpAny (model prog w) A (getItem (.ref t) (.ref sl)) Q E s := by
  obtain ⟨os, hos, hcs, hds⟩ := id hs
  have hTs : s.TypeIs (.ref sl) "slice" := ⟨os, hos, hcs⟩
  unfold getItem
  try with_reducible refine wpAny_holding ?_
  first | refine wpAny_bind (wpAny_pure ?_) | skip
  refine wpAny_bind (wpAny_sequenceKey ht.typeIs (by decide) ?_)
  refine wpAny_bind (wpAny_callSpecial?_slot (name := Str.ofString "__getitem__") ht.typeIs PyProof.Rows.slot_tuple_getitem
    (wpAny_call_entry PyProof.Rows.slot_tuple_getitem ht.typeIs entry_tuple_getitem ?_ (args_tuple_getitem _ _)))
  show wpAny _ _ (Builtin.Tuple.tupleItemsOf (.ref t) >>= _) _ _ s
  refine wpAny_bind (tupleItemsOf_ ht ?_)
  refine wpAny_bind (wpAny_typeOf hTs ?_)
  rw [if_pos (by decide)]
  refine wpAny_bind (HT.sliceApplied_gen hs pl pu ?_)
  have hyes : (((HT.sIx items.size 0 lo : Nat) : Int) == 0 && (1 : Int) == 1 && (HT.sIx items.size items.size hi - HT.sIx items.size 0 lo) == items.size) = true := by
    rw [hw.1, hw.2]; simp
  show wpAny _ _ (if (((HT.sIx items.size 0 lo : Nat) : Int) == 0 && (1 : Int) == 1 && (HT.sIx items.size items.size hi - HT.sIx items.size 0 lo) == items.size) = true then _ else _) _ _ s
  rw [if_pos hyes]
  refine wpAny_bind (tupExact_ ht ?_)
  rw [if_pos rfl]
  exact wpAny_bind (wpAny_rule (wpAny_pure ⟨_, rfl, wpAny_pure h⟩))
end
section
variable {X : Cx} {e o e1 e2 : Expr} {te : TE} {pos p2 p3 : Pos}
/-- t[lo:hi], whatever part -/
def mSlT : V → Option Int → Option Int → Hp → VK → Prop := fun x lo hi H Q => mR x fun a => ∃ xs, H a = some (.tup xs) ∧ ∀ p H', Same H H' → H' p = some (.tup (cut xs lo hi)) → Q (.ref p) H'
theorem s_tup : SlR X mSlT := by
  intro pins s σ H x v vl vu lo hi sl Q I rx hs pl pu h
  unfold mSlT at h
  rw [mR_eq] at h
  obtain ⟨a, rfl, xs, hx, q⟩ := h
  by_cases hw : HT.sIx xs.length 0 lo = 0 ∧ HT.sIx xs.length xs.length hi = xs.length
  · cases rx
    obtain ⟨its, r, ht, hz⟩ := I.tuple (SqT.of hx)
    have hlen : its.toArray.size = xs.length := by rw [List.size_toArray]; exact r.length.symm
    refine ⟨"tuple", _, PyProof.Rows.slot_tuple_getitem.lookup, ht.typeIs, ?_⟩
    refine getItem_tuple_whole ht hs pl pu (by rw [hlen]; exact hw) ⟨.ref a, H, I, rfl, q a H (Same.refl H) ?_⟩
    rw [hx]
    unfold cut
    rw [hw.1, hw.2, List.drop_zero, Nat.sub_zero, List.take_of_length_le (Nat.le_refl _)]
  · exact sl_tup pins s σ H (.ref a) v vl vu lo hi sl Q I rx hs pl pu ⟨a, xs, rfl, SqT.of hx, hw, fun p hp => q p _ (same_upd hp) upd_same⟩
end
/-! ### a dict of the top: texts, and numbers under them -/
def Tab (P : Params) : List DictEntry → List (Str × Int) → Prop
  | [], [] => True
  | e :: r, (x, i) :: q => (∃ t, e.key = .str x t) ∧ e.hash = PyData.keyHash P x ∧ (∃ t, e.val = .int i t) ∧ Tab P r q
  | _, _ => False
theorem Tab.keys {P : Params} : ∀ {es : List DictEntry} {ws : List (Str × Int)}, Tab P es ws → PySem.W.KeysLit P es
  | [], [], _ => trivial
  | e :: r, (x, i) :: q, h => ⟨let ⟨t, ht⟩ := h.1; ⟨x, t, ht, h.2.1⟩, Tab.keys h.2.2.2⟩
  | [], _ :: _, h => h.elim
  | _ :: _, [], h => h.elim
theorem Tab.find {P : Params} (z : Str) : ∀ {es : List DictEntry} {ws : List (Str × Int)}, Tab P es ws → (match ws.lookup z with | some i => ∃ t, (es.find? fun e => Value.isStrOf z e.key).map (·.val) = some (.int i t) | none => (es.find? fun e => Value.isStrOf z e.key).map (·.val) = none)
  | [], [], _ => rfl
  | [], _ :: _, h => h.elim
  | _ :: _, [], h => h.elim
  | e :: r, (x, i) :: q, h => by
    obtain ⟨⟨t, ht⟩, h2, ⟨t', hv⟩, h4⟩ := h
    have ih := Tab.find z h4
    rw [List.lookup_cons, List.find?_cons]
    have e1 : Value.isStrOf z e.key = (z == x) := by
      rw [ht]
      show (x == z) = (z == x)
      exact Bool.beq_comm
    rw [e1]
    cases hz : z == x with
    | true => exact ⟨t', by rw [← hv]; rfl⟩
    | false => exact ih
structure KTab (K : PySem.W.Frag) (P : Params) (a : Addr) (ws : List (Str × Int)) : Prop where
  ex : ∃ es n, K.lookup a = some ⟨.type "dict", none, .dict (List.toArray es) n, #[]⟩ ∧ Tab P es ws ∧ (a == sysModules) = false
theorem KTab.map {K : PySem.W.Frag} {prog : Program} {w : World} {a : Addr} {ws : List (Str × Int)} {h : Heap} (T : KTab K w.params a ws) (X : K.In h) :
    ∃ f : Str → Option Value, h.MapOf (strKind prog w) a f ∧ (a == sysModules) = false ∧ ∀ z, (match ws.lookup z with | some i => ∃ t, f z = some (.int i t) | none => f z = none) := by
  obtain ⟨es, n, hl, ht, lo⟩ := T.ex
  refine ⟨_, PySem.W.mapOf_K (prog := prog) X hl ht.keys, lo, fun z => ?_⟩
  have := ht.find z
  unfold findBy
  rw [List.find?_toArray]
  exact this
section
variable {X : Cx}
def mInK (K : PySem.W.Frag) (P : Params) (neg : Bool) : R2 := fun x y H Q => mS x fun z => mR y fun a => ∃ ws, KTab K P a ws ∧ Q (.bl (if neg then !(ws.lookup z).isSome else (ws.lookup z).isSome)) H
theorem look_some {f : Option Value} {o : Option Int} (h : match o with | some i => ∃ t, f = some (.int i t) | none => f = none) : f.isSome = o.isSome := by
  cases o with
  | none => rw [h]; rfl
  | some i => obtain ⟨t, h⟩ := h; rw [h]; rfl
theorem o_notInK : OpR X (compareOp .NotIn) (mInK X.K X.w.params true) := by
  intro pins s σ H x y v u Q I rx ry h
  unfold mInK at h
  rw [mS_eq] at h
  obtain ⟨z, rfl, h⟩ := h
  rw [mR_eq] at h
  obtain ⟨a, rfl, ws, T, h⟩ := h
  obtain ⟨t, rfl⟩ := rx
  cases ry
  obtain ⟨f, hm, lo, hf⟩ := T.map (prog := X.prog) I.kIn
  exact wpAny_notIn_of (strKind_is X.prog X.w z t) lo hm ⟨.bl (!(ws.lookup z).isSome), H, I.tok _, by rw [look_some (hf z)]; rfl, h⟩
def mIxK (K : PySem.W.Frag) (P : Params) : R2 := fun x y H Q => mR x fun a => mS y fun z => ∃ ws i, KTab K P a ws ∧ ws.lookup z = some i ∧ Q (.int i) H
theorem i_K : IxR X (mIxK X.K X.w.params) := by
  intro value slice pins s σ H x y v u Q I rx ry h hs
  unfold mIxK at h
  rw [mR_eq] at h
  obtain ⟨a, rfl, h⟩ := h
  rw [mS_eq] at h
  obtain ⟨z, rfl, ws, i, T, hi, h⟩ := h
  obtain ⟨t, rfl⟩ := ry
  cases rx
  obtain ⟨f, hm, lo, hf⟩ := T.map (prog := X.prog) I.kIn
  have hz := hf z
  rw [hi] at hz
  obtain ⟨t', hz⟩ := hz
  exact tail_any hm.typeIs slot_dict_getitem.lookup (wpAny_getItem_of (strKind_is X.prog X.w z t) hm hz ⟨.int i, H, I.tok _, ⟨t', rfl⟩, h⟩) hs
end
/-! ### shut -/
namespace R
section
variable {X : Cx} {K : PySem.W.Frag} {P : Params} {e e1 k v o f : Expr} {te t1 tk tv td ty tx' : TE} {pos p2 apos cpos : Pos} {ks : List (Option Expr)} {vs : List Expr} {trs : List (TE × TE)}
theorem sT : XSl X mSlT := ⟨s_tup⟩
theorem knotInK (hK : X.K = K := by rfl) (hP : X.w.params = P := by rfl) : XOp X (compareOp .NotIn) (mInK K P true) := hK ▸ hP ▸ ⟨o_notInK⟩
theorem kiK (hK : X.K = K := by rfl) (hP : X.w.params = P := by rfl) : XIx X (mIxK K P) := hK ▸ hP ▸ ⟨i_K⟩
theorem ktoList (hK : X.K = K := by rfl) : XC X (.type "list") (fun vs H Q => match vs with | [.ref p] => ∃ ys, (SqL K H p ys ∨ SqT K H p ys) ∧ ∀ l, H l = none → Q (.ref l) (upd H l (.lst ys)) | _ => False) := hK ▸ ⟨call_list_of.imp fun vs H Q h => by
  split at h
  · rename_i p
    obtain ⟨ys, hq, h⟩ := h
    exact ⟨p, ys, rfl, hq, h⟩
  · exact h.elim⟩
theorem ktoTup (hK : X.K = K := by rfl) : XC X (.type "tuple") (fun vs H Q => match vs with | [.ref p] => ∃ ys, SqL K H p ys ∧ ∀ l, H l = none → Q (.ref l) (upd H l (.tup ys)) | _ => False) := hK ▸ ⟨call_tuple_of.imp fun vs H Q h => by
  split at h
  · rename_i p
    obtain ⟨ys, hq, h⟩ := h
    exact ⟨p, ys, rfl, .inl ⟨hq, h⟩⟩
  · exact h.elim⟩
end
end R
end L2

namespace L2
open PySem PySem.Spec PyProof.Rows
/-! ### deeds -/
def WS : List (Str × Int) := [("add", 1), ("take", 1), ("move", 2), ("send", 2), ("fetch", 2), ("pass", 3)]
def UW : List V := [.str "move", .str "pass"]
def nmV (x : V) : Bool := madeOf x LET 8
def numV (lo hi : Int) (x : V) : Bool := match x with | .int n => decide (lo ≤ n) && decide (n ≤ hi) | _ => false
def fitsB (x : V) (ns : List V) : Bool := match x with
  | .str z => (match WS.lookup z with
    | some i => decide ((ns.length : Int) = i) && ns.all nmV && (!inV (.str z) UW || !decide (atI ns 0 = atI ns 1))
    | none => false)
  | _ => false
def midV (xs : List V) : List V := cut xs (some 1) (some (-1))
def deedB (xs : List V) : Bool := decide (3 ≤ xs.length) && fitsB ((atI xs 0).getD .non) (midV xs) && numV 1 1000000000000 ((atI xs (-1)).getD .non)
def Pt (H : Hp) (x : V) : Prop := ∃ k, Kof H x k ∧ ∀ z, x = .str z → z.length ≤ 1000
theorem Pt.same {H H' : Hp} {x : V} (s : Same H H') (h : Pt H x) : Pt H' x := let ⟨k, h1, h2⟩ := h; ⟨k, h1.same s, h2⟩
def deedV (H : Hp) (x : V) : Bool := match x with | .ref a => (match H a with | some (.tup xs) => deedB xs | _ => false) | _ => false
/-- a thing of any kind -/
def Th (H : Hp) (x : V) : Prop := Pt H x ∧ ∀ a xs, x = .ref a → H a = some (.tup xs) → ∀ y ∈ xs, Pt H y
def spWhole : Sp := fun vs H Q _ => ∃ x lo hi, vs = [x, .int lo, .int hi] ∧ Pt H x ∧ ∀ H', Same H H' → Q (.bl (numV lo hi x)) H'
def spFits : Sp := fun vs H Q _ => ∃ x a ns, vs = [x, .ref a] ∧ Pt H x ∧ H a = some (.tup ns) ∧ ns.length ≤ 1000 ∧ (∀ y ∈ ns, Pt H y) ∧ ∀ H', Same H H' → Q (.bl (fitsB x ns)) H'
def spIsDeed : Sp := fun vs H Q _ => ∃ x, vs = [x] ∧ Th H x ∧ (∀ a xs, x = .ref a → H a = some (.tup xs) → xs.length ≤ 1000) ∧ ∀ H', Same H H' → Q (.bl (deedV H x)) H'
theorem WS_uw {z : Str} {i : Int} (h : WS.lookup z = some i) (u : inV (.str z) UW = true) : 2 ≤ i := by
  have e : z = "move" ∨ z = "pass" := by
    unfold inV UW at u
    simp only [List.any_cons, List.any_nil, Bool.or_false, Bool.or_eq_true, eqV, beq_iff_eq, decide_eq_true_iff] at u
    rcases u with u | u
    · exact .inl u.symm
    · exact .inr u.symm
  rcases e with rfl | rfl
  · have : WS.lookup ("move" : Str) = some 2 := by decide +kernel
    rw [this] at h; injection h with h; omega
  · have : WS.lookup ("pass" : Str) = some 3 := by decide +kernel
    rw [this] at h; injection h with h; omega
theorem cut_mid {xs : List V} (h : 3 ≤ xs.length) : midV xs = (xs.drop 1).take (xs.length - 2) := by
  unfold midV cut HT.sIx
  simp only [Int.reduceNeg, Int.reduceLT, if_true, if_false]
  have e1 : min (Int.toNat 1) xs.length = 1 := by
    show min 1 xs.length = 1
    omega
  have e2 : ((-1 : Int) + (xs.length : Int)).toNat = xs.length - 1 := by omega
  rw [e2]
  show ((xs.drop (min (Int.toNat 1) xs.length)).take (xs.length - 1 - min (Int.toNat 1) xs.length)) = _
  rw [e1]
  congr 1
theorem mid_len {xs : List V} (h : 3 ≤ xs.length) : (midV xs).length = xs.length - 2 := by
  rw [cut_mid h, List.length_take, List.length_drop]; omega
theorem mid_mem {xs : List V} {y : V} (h : 3 ≤ xs.length) (m : y ∈ midV xs) : y ∈ xs := by
  rw [cut_mid h] at m
  exact List.mem_of_mem_drop (List.mem_of_mem_take m)
end L2
namespace L2
open PySem PySem.Spec PyProof.Rows
def mCat : R2 := fun x y H Q => mR x fun l => mR y fun b => ∃ xs zs, H l = some (.lst xs) ∧ H b = some (.lst zs) ∧ xs.length + zs.length ≤ sizeLine ∧ ∀ p, H p = none → Q (.ref p) (upd H p (.lst (xs ++ zs)))
theorem R.cat {X : Cx} : XOp X (binaryOp .Add) mCat := ⟨op_cat.imp fun x y H Q h => by
  unfold mCat at h
  rw [mR_eq] at h
  obtain ⟨a, rfl, h⟩ := h
  rw [mR_eq] at h
  obtain ⟨b, rfl, xs, zs, h⟩ := h
  exact ⟨a, b, xs, zs, rfl, rfl, h⟩⟩
end L2
namespace L2
open PySem PySem.Spec PyProof.Rows
/-! ### drawn deeds, things -/
inductive DeedIs : List V → Prop
  | one (z a : Str) (n : Int) : (z = "add" ∨ z = "take") → isNm a → 1 ≤ n → n ≤ 1000000000000 → DeedIs [.str z, .str a, .int n]
  | two (z a b : Str) (n : Int) : (z = "move" ∨ z = "send" ∨ z = "fetch") → isNm a → isNm b → a ≠ b → 1 ≤ n → n ≤ 1000000000000 → DeedIs [.str z, .str a, .str b, .int n]
  | three (a b c : Str) (n : Int) : isNm a → isNm b → isNm c → a ≠ b → 1 ≤ n → n ≤ 1000000000000 → DeedIs [.str "pass", .str a, .str b, .str c, .int n]
theorem nmV_of {z : Str} (h : isNm z) : nmV (.str z) = true := by
  unfold nmV
  rw [madeOf_str, decide_eq_true (by have := h.1; omega), decide_eq_true (by have := h.2.1; omega), List.all_eq_true.mpr fun c hc => decide_eq_true (h.2.2 c hc)]
  rfl
theorem DeedIs.ok {xs : List V} (h : DeedIs xs) : deedB xs = true := by
  cases h with
  | one z a n hz ha h1 h2 =>
    show (fitsB (.str z) [.str a] && numV 1 1000000000000 (.int n)) = true
    have e : fitsB (.str z) [.str a] = true := by
      rcases hz with rfl | rfl
      · show (true && (nmV (.str a) && true) && _) = true
        rw [nmV_of ha]; rfl
      · show (true && (nmV (.str a) && true) && _) = true
        rw [nmV_of ha]; rfl
    rw [e]
    show (decide (1 ≤ n) && decide (n ≤ 1000000000000)) = true
    rw [decide_eq_true h1, decide_eq_true h2]; rfl
  | two z a b n hz ha hb hn h1 h2 =>
    show (fitsB (.str z) [.str a, .str b] && numV 1 1000000000000 (.int n)) = true
    have ne : decide (some (V.str a) = some (V.str b)) = false := decide_eq_false fun e => hn (by injection e with e; injection e)
    have e : fitsB (.str z) [.str a, .str b] = true := by
      rcases hz with rfl | rfl | rfl
      all_goals
        show (true && (nmV (.str a) && (nmV (.str b) && true)) && (_ || !decide (some (V.str a) = some (V.str b)))) = true
        rw [nmV_of ha, nmV_of hb, ne, Bool.not_false, Bool.or_true]; rfl
    rw [e]
    show (decide (1 ≤ n) && decide (n ≤ 1000000000000)) = true
    rw [decide_eq_true h1, decide_eq_true h2]; rfl
  | three a b c n ha hb hc hn h1 h2 =>
    show (fitsB (.str "pass") [.str a, .str b, .str c] && numV 1 1000000000000 (.int n)) = true
    have ne : decide (some (V.str a) = some (V.str b)) = false := decide_eq_false fun e => hn (by injection e with e; injection e)
    have e : fitsB (.str "pass") [.str a, .str b, .str c] = true := by
      show (true && (nmV (.str a) && (nmV (.str b) && (nmV (.str c) && true))) && (_ || !decide (some (V.str a) = some (V.str b)))) = true
      rw [nmV_of ha, nmV_of hb, nmV_of hc, ne, Bool.not_false, Bool.or_true]; rfl
    rw [e]
    show (decide (1 ≤ n) && decide (n ≤ 1000000000000)) = true
    rw [decide_eq_true h1, decide_eq_true h2]; rfl
def FlatX (y : V) : Prop := (∃ z, y = .str z ∧ z.length ≤ 1000) ∨ ∃ n, y = .int n
theorem isNm.len {z : Str} (h : isNm z) : z.length ≤ 1000 := Nat.le_trans h.2.1 (by decide)
theorem word_len : ("add" : Str).length ≤ 1000 ∧ ("take" : Str).length ≤ 1000 ∧ ("move" : Str).length ≤ 1000 ∧ ("send" : Str).length ≤ 1000 ∧ ("fetch" : Str).length ≤ 1000 ∧ ("pass" : Str).length ≤ 1000 := by decide +kernel
theorem DeedIs.flat {xs : List V} (h : DeedIs xs) : (3 ≤ xs.length ∧ xs.length ≤ 5) ∧ ∀ y ∈ xs, FlatX y := by
  obtain ⟨w1, w2, w3, w4, w5, w6⟩ := word_len
  cases h with
  | one z a n hz ha h1 h2 =>
    refine ⟨by simp, List.forall_mem_cons.mpr ⟨.inl ⟨z, rfl, ?_⟩, List.forall_mem_cons.mpr ⟨.inl ⟨a, rfl, ha.len⟩, List.forall_mem_cons.mpr ⟨.inr ⟨n, rfl⟩, fun _ h => nomatch h⟩⟩⟩⟩
    rcases hz with rfl | rfl <;> assumption
  | two z a b n hz ha hb hn h1 h2 =>
    refine ⟨by simp, List.forall_mem_cons.mpr ⟨.inl ⟨z, rfl, ?_⟩, List.forall_mem_cons.mpr ⟨.inl ⟨a, rfl, ha.len⟩, List.forall_mem_cons.mpr ⟨.inl ⟨b, rfl, hb.len⟩, List.forall_mem_cons.mpr ⟨.inr ⟨n, rfl⟩, fun _ h => nomatch h⟩⟩⟩⟩⟩
    rcases hz with rfl | rfl | rfl <;> assumption
  | three a b c n ha hb hc hn h1 h2 =>
    exact ⟨by simp, List.forall_mem_cons.mpr ⟨.inl ⟨_, rfl, w6⟩, List.forall_mem_cons.mpr ⟨.inl ⟨a, rfl, ha.len⟩, List.forall_mem_cons.mpr ⟨.inl ⟨b, rfl, hb.len⟩, List.forall_mem_cons.mpr ⟨.inl ⟨c, rfl, hc.len⟩, List.forall_mem_cons.mpr ⟨.inr ⟨n, rfl⟩, fun _ h => nomatch h⟩⟩⟩⟩⟩⟩
def spDeed : Sp := fun vs H Q _ => ∃ (d b l : Addr) (z0 z1 z2 : Str) (n : Int), vs = [.ref d, .ref l, .int n] ∧ Dk H d b ∧ (l ≠ d ∧ l ≠ b) ∧ H l = some (.lst [.str z0, .str z1, .str z2]) ∧ isNm z0 ∧ isNm z1 ∧ isNm z2 ∧ z1 ≠ z2 ∧ 1 ≤ n ∧ n ≤ 1000000000000 ∧
  ∀ p xs H', DeedIs xs → H p = none → H' p = some (.tup xs) → Dk H' d b → Kp d b H H' → Q (.ref p) H'
theorem Same.kp {H H' : Hp} {d b : Addr} (s : Same H H') : Kp d b H H' := fun c o e _ _ => s c o e
theorem Dk.tup_ne {H : Hp} {d b p : Addr} {xs : List V} (D : Dk H d b) (h : H p = some (.tup xs)) : p ≠ d ∧ p ≠ b := by
  obtain ⟨ns, s, k, h1, h2, h3⟩ := D.ex
  exact ⟨fun e => (by rw [e, h1] at h; cases h), fun e => (by rw [e, h2] at h; cases h)⟩
section
variable {d b : Addr} {H : Hp}
end
end L2

namespace L2
open PySem PySem.Spec PyProof.Rows
/-! ### what is told as a tree: the same tree on both sides is equal -/
inductive TV where
  | sc (v : V)
  | tp (xs : List TV)
  | ls (xs : List TV)
def isSc : V → Bool | .non => true | .bl _ => true | .int _ => true | .str _ => true | _ => false
def Rep (H : Hp) : Nat → TV → V → Prop
  | 0, .sc v, x => x = v ∧ isSc v = true
  | _ + 1, .sc v, x => x = v ∧ isSc v = true
  | n + 1, .tp ts, x => ∃ a xs, x = .ref a ∧ H a = some (.tup xs) ∧ Paired (Rep H n) ts xs
  | n + 1, .ls ts, x => ∃ a xs, x = .ref a ∧ H a = some (.lst xs) ∧ Paired (Rep H n) ts xs
  | 0, _, _ => False
theorem Paired.get' {α β : Type} {R : α → β → Prop} : ∀ {xs : List α} {ys : List β} {j : Nat}, Paired R xs ys → ∀ (h : j < ys.length), ∃ h' : j < xs.length, R xs[j] ys[j]
  | _, _, 0, .cons h t, _ => ⟨Nat.succ_pos _, h⟩
  | _, _, j + 1, .cons h t, hj => let ⟨h', r⟩ := Paired.get' (j := j) t (by simpa using hj); ⟨by simpa using h', by simpa using r⟩
section
variable {X : Cx} {pins : List (Addr × Obj)} {s : Shared} {σ : St} {H : Hp}
theorem in1u (B : Around) : B.in1.units = B.units + 1 := rfl
theorem all_true (n : Nat) : (List.range n).all (fun _ => true) = true := List.all_eq_true.mpr fun _ _ => rfl
theorem rep_eq (I : Inv X pins σ H s) : ∀ (n : Nat) {t : TV} {x y : V} {v u : Value} {A : Around}, Rep H n t x → Rep H n t y → RelV x v → RelV y u → A.units + n < cLine → SeqAt.EqAt A s v u true := by
  have sc : ∀ {v : V} {x y : V} {v1 u1 : Value} {A : Around}, (x = v ∧ isSc v = true) → (y = v ∧ isSc v = true) → RelV x v1 → RelV y u1 → SeqAt.EqAt A s v1 u1 true := by
    rintro v x y v1 u1 A ⟨rfl, hx⟩ ⟨rfl, _⟩ r1 r2
    cases y with
    | non => cases r1; cases r2; exact SeqAt.EqAt.same _
    | bl i => cases r1; cases r2; exact SeqAt.EqAt.same _
    | int i =>
      obtain ⟨t1, rfl⟩ := r1
      obtain ⟨t2, rfl⟩ := r2
      have := SeqAt.EqAt.int_int (A := A) (s := s) i t1 i t2
      rwa [beq_self_eq_true] at this
    | str i =>
      obtain ⟨t1, rfl⟩ := r1
      obtain ⟨t2, rfl⟩ := r2
      have := SeqAt.EqAt.str_str (A := A) (s := s) i t1 i t2
      rwa [beq_self_eq_true] at this
    | _ => cases hx
  intro n
  induction n with
  | zero =>
    intro t x y v u A h1 h2 r1 r2 hu
    cases t with
    | sc z => exact sc h1 h2 r1 r2
    | _ => exact h1.elim
  | succ n ih =>
    intro t x y v u A h1 h2 r1 r2 hu
    cases t with
    | sc z => exact sc h1 h2 r1 r2
    | tp ts =>
      obtain ⟨a, xs, rfl, g1, p1⟩ := h1
      obtain ⟨b, ys, rfl, g2, p2⟩ := h2
      cases r1
      cases r2
      by_cases hab : a = b
      · subst hab; exact SeqAt.EqAt.same _
      · obtain ⟨its, ri, ti, _⟩ := I.tuple (SqT.of g1)
        obtain ⟨its2, ri2, ti2, _⟩ := I.tuple (SqT.of g2)
        have el1 : its.length = ts.length := by rw [← ri.length, p1.length]
        have el2 : its2.length = ts.length := by rw [← ri2.length, p2.length]
        have key := SeqAt.RcAt.tuples (A := A) (s := s) (e := fun _ => true) ti ti2 (by omega) (fun j h1 h2 => by
          rw [List.size_toArray] at h1 h2
          obtain ⟨h1', q1⟩ := Paired.get' (j := j) ri h1
          obtain ⟨h2', q2⟩ := Paired.get' (j := j) ri2 h2
          obtain ⟨h3, q3⟩ := Paired.get' (j := j) p1 h1'
          obtain ⟨h4, q4⟩ := Paired.get' (j := j) p2 h2'
          simpa using ih q3 q4 q1 q2 (by rw [in1u]; omega))
        have e : ((List.range (min its.toArray.size its2.toArray.size)).all (fun _ => true) && its.toArray.size == its2.toArray.size) = true := by
          rw [all_true, List.size_toArray, List.size_toArray, el1, el2, beq_self_eq_true]; rfl
        rw [e] at key
        exact SeqAt.EqAt.of_refs hab key
    | ls ts =>
      obtain ⟨a, xs, rfl, g1, p1⟩ := h1
      obtain ⟨b, ys, rfl, g2, p2⟩ := h2
      cases r1
      cases r2
      by_cases hab : a = b
      · subst hab; exact SeqAt.EqAt.same _
      · obtain ⟨its, ri, ti, _⟩ := I.list (SqL.of g1)
        obtain ⟨its2, ri2, ti2, _⟩ := I.list (SqL.of g2)
        have el1 : its.length = ts.length := by rw [← ri.length, p1.length]
        have el2 : its2.length = ts.length := by rw [← ri2.length, p2.length]
        have key := SeqAt.RcAt.lists (A := A) (s := s) (e := fun _ => true) ti.isList ti2.isList (by rw [List.size_toArray, List.size_toArray, el1, el2]) (by omega) (fun j h1 h2 => by
          rw [List.size_toArray] at h1 h2
          obtain ⟨h1', q1⟩ := Paired.get' (j := j) ri h1
          obtain ⟨h2', q2⟩ := Paired.get' (j := j) ri2 h2
          obtain ⟨h3, q3⟩ := Paired.get' (j := j) p1 h1'
          obtain ⟨h4, q4⟩ := Paired.get' (j := j) p2 h2'
          simpa using ih q3 q4 q1 q2 (by rw [in1u]; omega))
        rw [all_true] at key
        exact SeqAt.EqAt.of_refs hab key
end
section
variable {X : Cx}
def mEqT (neg : Bool) : R2 := fun x y H Q => ∃ n t, n ≤ 50 ∧ Rep H n t x ∧ Rep H n t y ∧ Q (.bl (!neg)) H
theorem rc_tree (neg : Bool) {pins : List (Addr × Obj)} {s : Shared} {σ : St} {H : Hp} {x y : V} {v u : Value} {Q : VK} {op : CmpOp} (hop : op = if neg then .NotEq else .Eq) (hu : X.A.units + 64 < cLine) (I : Inv X pins σ H s) (rx : RelV x v) (ry : RelV y u) (h : mEqT neg x y H Q) :
    wpAny (model X.prog X.w) X.A (compareOp op v u) (EP X pins σ Q) X.xe s := by
  obtain ⟨n, t, hn, h1, h2, q⟩ := h
  have sc : ∀ z, t = .sc z → wpAny (model X.prog X.w) X.A (compareOp op v u) (EP X pins σ Q) X.xe s := by
    rintro z rfl
    have e1 : x = z ∧ isSc z = true := by cases n <;> exact h1
    have e2 : y = z ∧ isSc z = true := by cases n <;> exact h2
    obtain ⟨rfl, hx⟩ := e1
    obtain ⟨rfl, _⟩ := e2
    have hs : L2.scal y y = true := by cases y <;> first | rfl | cases hx
    cases neg with
    | true =>
      subst hop
      exact op_ne pins s σ H y y v u Q I rx ry ⟨hs, by simpa using q⟩
    | false =>
      subst hop
      exact op_eq pins s σ H y y v u Q I rx ry ⟨hs, by simpa using q⟩
  cases n with
  | zero =>
    cases t with
    | sc z => exact sc z rfl
    | _ => exact h1.elim
  | succ n =>
    cases t with
    | sc z => exact sc z rfl
    | tp ts =>
      obtain ⟨a, xs, rfl, g1, p1⟩ := h1
      obtain ⟨b, ys, rfl, g2, p2⟩ := h2
      cases rx
      cases ry
      obtain ⟨its, ri, ti, _⟩ := I.tuple (SqT.of g1)
      obtain ⟨its2, ri2, ti2, _⟩ := I.tuple (SqT.of g2)
      have el1 : its.length = ts.length := by rw [← ri.length, p1.length]
      have el2 : its2.length = ts.length := by rw [← ri2.length, p2.length]
      have each : ∀ j (h1 : j < its.toArray.size) (h2 : j < its2.toArray.size), SeqAt.EqAt X.A.in1 s its.toArray[j] its2.toArray[j] true := fun j h1 h2 => by
        rw [List.size_toArray] at h1 h2
        obtain ⟨h1', q1⟩ := Paired.get' (j := j) ri h1
        obtain ⟨h2', q2⟩ := Paired.get' (j := j) ri2 h2
        obtain ⟨h3, q3⟩ := Paired.get' (j := j) p1 h1'
        obtain ⟨h4, q4⟩ := Paired.get' (j := j) p2 h2'
        simpa using rep_eq I n q3 q4 q1 q2 (by rw [in1u]; omega)
      have e : ((List.range (min its.toArray.size its2.toArray.size)).all (fun _ => true) && its.toArray.size == its2.toArray.size) = true := by
        rw [all_true, List.size_toArray, List.size_toArray, el1, el2, beq_self_eq_true]; rfl
      cases neg with
      | true =>
        subst hop
        have key := SeqAt.RcNeAt.tuples (A := X.A) (s := s) (e := fun _ => true) ti ti2 (by omega) each
        rw [e] at key
        exact key _ _ _ _ ⟨.bl false, H, I, rfl, q⟩
      | false =>
        subst hop
        have key := SeqAt.RcAt.tuples (A := X.A) (s := s) (e := fun _ => true) ti ti2 (by omega) each
        rw [e] at key
        exact key _ _ _ _ ⟨.bl true, H, I, rfl, q⟩
    | ls ts =>
      obtain ⟨a, xs, rfl, g1, p1⟩ := h1
      obtain ⟨b, ys, rfl, g2, p2⟩ := h2
      cases rx
      cases ry
      obtain ⟨its, ri, ti, _⟩ := I.list (SqL.of g1)
      obtain ⟨its2, ri2, ti2, _⟩ := I.list (SqL.of g2)
      have el1 : its.length = ts.length := by rw [← ri.length, p1.length]
      have el2 : its2.length = ts.length := by rw [← ri2.length, p2.length]
      have each : ∀ j (h1 : j < its.toArray.size) (h2 : j < its2.toArray.size), SeqAt.EqAt X.A.in1 s its.toArray[j] its2.toArray[j] true := fun j h1 h2 => by
        rw [List.size_toArray] at h1 h2
        obtain ⟨h1', q1⟩ := Paired.get' (j := j) ri h1
        obtain ⟨h2', q2⟩ := Paired.get' (j := j) ri2 h2
        obtain ⟨h3, q3⟩ := Paired.get' (j := j) p1 h1'
        obtain ⟨h4, q4⟩ := Paired.get' (j := j) p2 h2'
        simpa using rep_eq I n q3 q4 q1 q2 (by rw [in1u]; omega)
      cases neg with
      | true =>
        subst hop
        have key := SeqAt.RcNeAt.lists (A := X.A) (s := s) (e := fun _ => true) ti.isList ti2.isList (by rw [List.size_toArray, List.size_toArray, el1, el2]) (by omega) each
        rw [all_true] at key
        exact key _ _ _ _ ⟨.bl false, H, I, rfl, q⟩
      | false =>
        subst hop
        have key := SeqAt.RcAt.lists (A := X.A) (s := s) (e := fun _ => true) ti.isList ti2.isList (by rw [List.size_toArray, List.size_toArray, el1, el2]) (by omega) each
        rw [all_true] at key
        exact key _ _ _ _ ⟨.bl true, H, I, rfl, q⟩
theorem R.neD (hu : X.A.units + 64 < cLine) : XOp X (compareOp .NotEq) (mEqT true) := ⟨fun pins s σ H x y v u Q I rx ry h => rc_tree true rfl hu I rx ry h⟩
/-- a statement that is never come to -/
theorem R.never {st : Stmt} : XS X st (fun _ _ _ => False) := ⟨fun pins s σ H D I h => h.elim⟩
end
end L2

namespace L2
open PySem PySem.Spec PyProof.Rows PySem.Builtin PySem.Builtin.Str
/-! ### text.split(sign) -/
theorem strVals : ∀ l : List (Str × Tok), Vals ((l.map (·.1)).map V.str) (strValues l)
  | [] => .nil
  | p :: l => .cons ⟨p.2, rfl⟩ (strVals l)
section
variable {X : Cx}
def mSplit : V → List V → Hp → VK → Prop := fun x vs H Q => mS x fun z => match vs with
  | [.str y] => (y.length == 0) = false ∧ z.length ≤ 1000 ∧ ∀ l, H l = none → Q (.ref l) (upd H l (.lst ((Txt.split z y).map V.str)))
  | _ => False
theorem mt_split : MtR X "str.split" mSplit := by
  intro pins s σ H x vs v us Q I rx rv h
  unfold mSplit at h
  rw [mS_eq] at h
  obtain ⟨z, rfl, h⟩ := h
  split at h
  · rename_i y
    obtain ⟨hy, hz, q⟩ := h
    obtain ⟨t, rfl⟩ := rx
    obtain ⟨uu, rfl, u, rfl⟩ := rv.one
    have fin : ∀ (l : List (Str × Tok)) (k : Nat), l.map (·.1) = Txt.split z y → EP X pins σ Q (.ref s.heap.objs.size) { s with heap := s.heap.push { cls := .type "list", data := .seq (strValues l).toArray }, toks := k } := fun l k e => by
      refine ⟨.ref s.heap.objs.size, _, I.laid (t' := k) (o := .lst ((Txt.split z y).map V.str)) (fun b ob q => Heap.get?_push_of_some _ q) (Nat.le_refl _) ?_, rfl, q _ (I.hok.fresh (Nat.le_refl _))⟩
      refine ⟨?_, strValues l, 0, by rw [← e]; exact strVals l, Heap.get?_push_size _ rfl⟩
      rw [List.length_map]
      have := split_le z y
      exact Nat.le_trans this (Nat.le_trans (show z.length + 2 ≤ 1002 by omega) (by decide))
    have hsz : z.length ≤ sizeLine := szl' hz
    have hsz2 : (partsBetween z (occurrences z y 0 z.length (z.length + 1)) y.length).length ≤ sizeLine := by
      rw [length_partsBetween]
      have := StrLaws.occ_length_le z y 0 z.length (z.length + 1)
      exact Nat.le_trans (show _ ≤ 1002 by omega) (by decide)
    cases h1 : (decide (z.length < y.length) || decide (strKind z < strKind y))
    · cases hf : (occurrences z y 0 z.length (z.length + 1)).isEmpty
      · refine call_meets F.slot_str_split (typeIs_str _ _ _) F.entry_str_split (F.args_str_split_2 _ _) (meets_str_split_sep z y t u h1 hy hf hsz hsz2) ?_
        show wants (EP X pins σ Q) X.xe _ { s with toks := _, heap := s.heap.push { cls := .type "list", data := .seq (strsFrom s.toks (partsBetween z (occurrences z y 0 z.length (z.length + 1)) y.length)).toArray } }
        rw [strsFrom_eq]
        exact fin (numbered s.toks _) _ ((numbered_texts _ _).trans ((if_neg (ne_true_of_eq_false h1)).trans (if_neg (ne_true_of_eq_false hf))).symm)
      · exact call_meets F.slot_str_split (typeIs_str _ _ _) F.entry_str_split (F.args_str_split_2 _ _) (meets_str_split_not_found z y t u h1 hy hf)
          (fin [(z, t)] s.toks ((if_neg (ne_true_of_eq_false h1)).trans (if_pos hf)).symm)
    · exact call_meets F.slot_str_split (typeIs_str _ _ _) F.entry_str_split (F.args_str_split_2 _ _) (meets_str_split_cannot_occur z y t u h1)
        (fin [(z, t)] s.toks (if_pos h1).symm)
  · exact h.elim
theorem R.split : XM X "str.split" mSplit := ⟨mt_split⟩
end
/-! ### words with a sign between -/
def jn (c : Nat) : List (List Nat) → List Nat
  | [] => []
  | [p] => p
  | p :: q :: r => p ++ c :: jn c (q :: r)
theorem sep_inj {c : Nat} : ∀ (p q A B : List Nat), c ∉ p → c ∉ q → p ++ c :: A = q ++ c :: B → p = q ∧ A = B
  | [], [], A, B, _, _, h => ⟨rfl, by simpa using h⟩
  | [], b :: q, A, B, _, hq, h => by
    simp at h
    exact absurd (List.mem_cons.mpr (.inl h.1)) hq
  | a :: p, [], A, B, hp, _, h => by
    simp at h
    exact absurd (List.mem_cons.mpr (.inl h.1.symm)) hp
  | a :: p, b :: q, A, B, hp, hq, h => by
    simp at h
    obtain ⟨e1, e2⟩ := h
    obtain ⟨e3, e4⟩ := sep_inj p q A B (fun m => hp (List.mem_cons_of_mem _ m)) (fun m => hq (List.mem_cons_of_mem _ m)) e2
    exact ⟨by rw [e1, e3], e4⟩
theorem jn_inj {c : Nat} : ∀ (ps qs : List (List Nat)), ps ≠ [] → qs ≠ [] → (∀ p ∈ ps, c ∉ p) → (∀ q ∈ qs, c ∉ q) → jn c ps = jn c qs → ps = qs
  | [], _, h, _, _, _, _ => absurd rfl h
  | _, [], _, h, _, _, _ => absurd rfl h
  | [p], [q], _, _, _, _, h => by simp [jn] at h; rw [h]
  | [p], q :: q2 :: r, _, _, hp, _, h => by
    have : c ∈ p := by
      have e : p = q ++ c :: jn c (q2 :: r) := h
      rw [e]; simp
    exact absurd this (hp p List.mem_cons_self)
  | p :: p2 :: r, [q], _, _, _, hq, h => by
    have : c ∈ q := by
      have e : p ++ c :: jn c (p2 :: r) = q := h
      rw [← e]; simp
    exact absurd this (hq q List.mem_cons_self)
  | p :: p2 :: r, q :: q2 :: r', _, _, hp, hq, h => by
    obtain ⟨e1, e2⟩ := sep_inj p q _ _ (hp p List.mem_cons_self) (hq q List.mem_cons_self) h
    have := jn_inj (p2 :: r) (q2 :: r') (by simp) (by simp) (fun x m => hp x (List.mem_cons_of_mem _ m)) (fun x m => hq x (List.mem_cons_of_mem _ m)) e2
    rw [e1, this]
theorem join_jn (c : Nat) : ∀ ps : List Str, (Txt.join (tx [c]) ps).cps.toList = jn c (ps.map fun p => p.cps.toList) := by
  intro ps
  have e : Txt.join (tx [c]) ps = PySem.Str.join (tx [c]) ps := StrLaws.glued_eq_join _ ps
  rw [e]
  induction ps with
  | nil => rfl
  | cons p r ih =>
    cases r with
    | nil => rfl
    | cons q r =>
      show ((p ++ tx [c]) ++ PySem.Str.join (tx [c]) (q :: r)).cps.toList = _
      rw [app_cps, app_cps, ih (by exact StrLaws.glued_eq_join _ _)]
      simp [jn]
theorem split_words {c : Nat} {ps : List Str} (h0 : ps ≠ []) (hp : ∀ p ∈ ps, c ∉ p.cps.toList) : Txt.split (Txt.join (tx [c]) ps) (tx [c]) = ps := by
  have h1 := StrLaws.join_split (Txt.join (tx [c]) ps) (tx [c])
  have h2 : Txt.join (tx [c]) (Txt.split (Txt.join (tx [c]) ps) (tx [c])) = Txt.join (tx [c]) ps := (StrLaws.glued_eq_join _ _).trans h1
  have h3 := StrLaws.split_free (Txt.join (tx [c]) ps) c
  have h4 := split_pos (Txt.join (tx [c]) ps) (tx [c])
  generalize Txt.split (Txt.join (tx [c]) ps) (tx [c]) = qs at h2 h4 h3
  have h5 : jn c (qs.map fun p => p.cps.toList) = jn c (ps.map fun p => p.cps.toList) := by rw [← join_jn, ← join_jn, h2]
  have h6 := jn_inj _ _ (by intro e; simp at e; rw [e] at h4; exact absurd h4 (by decide)) (by simpa using h0) (fun x m => by
    obtain ⟨p, mp, rfl⟩ := List.mem_map.mp m
    exact h3 p mp) (fun x m => by
    obtain ⟨p, mp, rfl⟩ := List.mem_map.mp m
    exact hp p mp) h5
  have key : ∀ l : List Str, (l.map fun p => p.cps.toList).map tx = l := fun l => by
    rw [List.map_map]
    conv => rhs; rw [← List.map_id l]
    apply List.map_congr_left
    intro p _
    exact tx_cps p
  rw [← key qs, h6, key]
theorem blank_eq : (" " : Str) = tx [32] := by decide +kernel
end L2
namespace L2
open PySem PySem.Spec PyProof.Rows
/-! ### a deed's text -/
def txtV : V → Str | .str z => z | .int n => Str.ofString (toString n) | _ => tx []
def txtOf (xs : List V) : Str := Txt.join (tx [32]) (xs.map txtV)
structure Shape (xs : List V) (ns : List Str) (m : Nat) : Prop where
  eq : xs = ns.map V.str ++ [.int (m : Int)]
  two : 2 ≤ ns.length
  four : ns.length ≤ 4
  len : ∀ z ∈ ns, z.length ≤ 8
  free : ∀ z ∈ ns, 32 ∉ z.cps.toList
  pos : 1 ≤ m
  most : m ≤ 1000000000000
theorem isNm.free {z : Str} (h : isNm z) : 32 ∉ z.cps.toList := fun m => absurd (h.2.2 32 m) (by decide)
theorem words_ok : ∀ z ∈ ([("add" : Str), "take", "move", "send", "fetch", "pass"] : List Str), z.length ≤ 8 ∧ 32 ∉ z.cps.toList := by decide +kernel
theorem DeedIs.shape {xs : List V} (h : DeedIs xs) : ∃ ns m, Shape xs ns m := by
  have w : ∀ z : Str, (z = "add" ∨ z = "take" ∨ z = "move" ∨ z = "send" ∨ z = "fetch" ∨ z = "pass") → z.length ≤ 8 ∧ 32 ∉ z.cps.toList := fun z hz => words_ok z (by
    rcases hz with rfl | rfl | rfl | rfl | rfl | rfl <;> simp)
  cases h with
  | one z a n hz ha h1 h2 =>
    obtain ⟨m, rfl⟩ := Int.eq_ofNat_of_zero_le (show 0 ≤ n by omega)
    have wz := w z (by rcases hz with h | h <;> simp [h])
    refine ⟨[z, a], m, rfl, by simp, by simp, ?_, ?_, by omega, by omega⟩
    · exact List.forall_mem_cons.mpr ⟨wz.1, List.forall_mem_cons.mpr ⟨ha.2.1, fun _ h => nomatch h⟩⟩
    · exact List.forall_mem_cons.mpr ⟨wz.2, List.forall_mem_cons.mpr ⟨ha.free, fun _ h => nomatch h⟩⟩
  | two z a b n hz ha hb hn h1 h2 =>
    obtain ⟨m, rfl⟩ := Int.eq_ofNat_of_zero_le (show 0 ≤ n by omega)
    have wz := w z (by rcases hz with h | h | h <;> simp [h])
    refine ⟨[z, a, b], m, rfl, by simp, by simp, ?_, ?_, by omega, by omega⟩
    · exact List.forall_mem_cons.mpr ⟨wz.1, List.forall_mem_cons.mpr ⟨ha.2.1, List.forall_mem_cons.mpr ⟨hb.2.1, fun _ h => nomatch h⟩⟩⟩
    · exact List.forall_mem_cons.mpr ⟨wz.2, List.forall_mem_cons.mpr ⟨ha.free, List.forall_mem_cons.mpr ⟨hb.free, fun _ h => nomatch h⟩⟩⟩
  | three a b c n ha hb hc hn h1 h2 =>
    obtain ⟨m, rfl⟩ := Int.eq_ofNat_of_zero_le (show 0 ≤ n by omega)
    have wz := w "pass" (by simp)
    refine ⟨["pass", a, b, c], m, rfl, by simp, by simp, ?_, ?_, by omega, by omega⟩
    · exact List.forall_mem_cons.mpr ⟨wz.1, List.forall_mem_cons.mpr ⟨ha.2.1, List.forall_mem_cons.mpr ⟨hb.2.1, List.forall_mem_cons.mpr ⟨hc.2.1, fun _ h => nomatch h⟩⟩⟩⟩
    · exact List.forall_mem_cons.mpr ⟨wz.2, List.forall_mem_cons.mpr ⟨ha.free, List.forall_mem_cons.mpr ⟨hb.free, List.forall_mem_cons.mpr ⟨hc.free, fun _ h => nomatch h⟩⟩⟩⟩
/-- the words with a blank behind each -/
def pre (ns : List Str) : List Nat := (ns.map fun z => z.cps.toList ++ [32]).flatten
theorem jn_pre : ∀ (ns : List Str) (q : List Nat), jn 32 (ns.map (fun p => p.cps.toList) ++ [q]) = pre ns ++ q
  | [], q => rfl
  | [z], q => by simp [jn, pre]
  | z :: y :: r, q => by
    have := jn_pre (y :: r) q
    simp [pre] at this ⊢
    simp [jn, this]
theorem pre_snoc (ns : List Str) (z : Str) : pre (ns ++ [z]) = pre ns ++ z.cps.toList ++ [32] := by simp [pre]
theorem pre_len : ∀ (ns : List Str), (∀ z ∈ ns, z.length ≤ 8) → (pre ns).length ≤ 9 * ns.length
  | [], _ => Nat.zero_le _
  | z :: r, h => by
    have h1 := h z List.mem_cons_self
    have h2 := pre_len r fun y m => h y (List.mem_cons_of_mem _ m)
    have e : z.cps.toList.length = z.length := by simp [Str.length]
    have e2 : pre (z :: r) = z.cps.toList ++ [32] ++ pre r := by simp [pre]
    rw [e2, List.length_append, List.length_append, e]
    simp
    omega
theorem Shape.txt {xs : List V} {ns : List Str} {m : Nat} (S : Shape xs ns m) : txtOf xs = tx (pre ns ++ (numS m).cps.toList) := by
  unfold txtOf
  rw [tx_of (Txt.join _ _), join_jn, S.eq, List.map_append, List.map_append]
  have e : List.map (fun p => p.cps.toList) (List.map txtV (List.map V.str ns)) = ns.map (fun p => p.cps.toList) := by rw [List.map_map, List.map_map]; rfl
  rw [e]
  show tx (jn 32 (_ ++ [(numS m).cps.toList])) = _
  rw [jn_pre]
theorem Shape.num {xs : List V} {ns : List Str} {m : Nat} (S : Shape xs ns m) : (numS m).length ≤ 13 := numS_le (k := 12) (Nat.lt_of_le_of_lt S.most (by decide))
theorem Shape.txt_len {xs : List V} {ns : List Str} {m : Nat} (S : Shape xs ns m) : (txtOf xs).length ≤ 49 := by
  rw [S.txt, tx_len, List.length_append]
  have h1 := pre_len ns S.len
  have h2 := S.num
  have h3 := S.four
  have e : (numS m).cps.toList.length = (numS m).length := by simp [Str.length]
  omega
theorem num_free (m : Nat) : 32 ∉ (numS m).cps.toList := fun h => absurd (numS_digits m 32 h) (by omega)
theorem Shape.split {xs : List V} {ns : List Str} {m : Nat} (S : Shape xs ns m) : Txt.split (txtOf xs) (tx [32]) = ns ++ [numS m] := by
  have e : xs.map txtV = ns ++ [numS m] := by
    rw [S.eq, List.map_append, List.map_map]
    show List.map (txtV ∘ V.str) ns ++ [numS m] = _
    congr 1
    conv => rhs; rw [← List.map_id ns]
    rfl
  unfold txtOf
  rw [e]
  refine split_words (by simp) fun p hp => ?_
  rcases List.mem_append.mp hp with h | h
  · exact S.free p h
  · rw [List.mem_singleton.mp h]; exact num_free m
/-- what is read of a text -/
def readV (z : Str) : List V := cut ((Txt.split z (tx [32])).map V.str) none (some (-1)) ++ [optV (numOf (txtV ((atI ((Txt.split z (tx [32])).map V.str) (-1)).getD .non)))]
theorem cut_init {α : Type} (xs : List α) (y : α) : cut (xs ++ [y]) none (some (-1)) = xs := by
  unfold cut HT.sIx
  simp
  have : (-1 + ((xs.length : Int) + 1)).toNat = xs.length := by omega
  rw [this]
  simp
theorem Shape.read {xs : List V} {ns : List Str} {m : Nat} (S : Shape xs ns m) : readV (txtOf xs) = xs := by
  unfold readV
  rw [S.split, List.map_append]
  show cut (ns.map V.str ++ [.str (numS m)]) none (some (-1)) ++ [optV (numOf (txtV ((atI (ns.map V.str ++ [.str (numS m)]) (-1)).getD .non)))] = xs
  rw [cut_init, atI_last]
  show _ ++ [optV (numOf (numS m))] = xs
  rw [num_back (Nat.lt_of_le_of_lt S.most (by decide)), S.eq]
  rfl
def spShown : Sp := fun vs H Q _ => ∃ p xs, vs = [.ref p] ∧ H p = some (.tup xs) ∧ DeedIs xs ∧ ∀ H', Same H H' → Q (.str (txtOf xs)) H'
def spReadOk : Sp := fun vs H Q _ => ∃ z, vs = [.str z] ∧ z.length ≤ 900 ∧ deedB (readV z) = true ∧ ∀ p H', Same H H' → H' p = some (.tup (readV z)) → Q (.ref p) H'
def spTrue : Sp := fun vs H Q _ => ∃ p xs, vs = [.ref p] ∧ H p = some (.tup xs) ∧ DeedIs xs ∧ ∀ H', Same H H' → Q (.bl true) H'
theorem numS_small {m : Nat} (h0 : 0 < m) (h : m < 10) : (numS m).cps.toList = [48 + m] := by
  rw [numS_cps, Nat.toDigits_of_lt_base h]
  have : ∀ m, m < 10 → [Nat.digitChar m].map Char.toNat = [48 + m] := by decide
  exact this m h
theorem numS_big {m : Nat} (h : 10 ≤ m) : (numS m).cps.toList = (numS (m / 10)).cps.toList ++ [48 + m % 10] := by
  have h10 : m % 10 < 10 := Nat.mod_lt m (by decide)
  have t : Nat.toDigits 10 (m / 10) ++ Nat.toDigits 10 (m % 10) = Nat.toDigits 10 (10 * (m / 10) + m % 10) := Nat.toDigits_append_toDigits (by decide) (by omega) h10
  rw [Nat.div_add_mod] at t
  rw [numS_cps, numS_cps, ← t, List.map_append, Nat.toDigits_of_lt_base h10]
  congr 1
  have : ∀ m, m < 10 → [Nat.digitChar m].map Char.toNat = [48 + m] := by decide
  exact this _ h10
theorem fig_at {i : Nat} (h : i < 10) : atI ("0123456789" : Str).cps.toList (i : Int) = some (48 + i) := by
  rw [fig_eq]
  have : ∀ i : Nat, i < 10 → FIG[i]? = some (48 + i) := by decide
  exact atI_nat (this i h)
end L2

namespace KL
open PySem L2
def top (i : Nat) : Stmt := PySem.Challenge.pw_oncedoor_k04_deeds_written_and_read.main.body.getD i (.Pass ⟨0, 0, 0, 0⟩)
abbrev s_is_name : Stmt := top 9
abbrev s_number_of : Stmt := top 10
abbrev s_shown_parts : Stmt := top 11
abbrev s_is_whole : Stmt := top 12
abbrev s_is_made_of : Stmt := top 13
abbrev s_is_deed : Stmt := top 17
abbrev s_fits_word : Stmt := top 18
abbrev s_shown_deed : Stmt := top 19
abbrev s_read_deed : Stmt := top 20
abbrev s_law_mixed : Stmt := top 22
abbrev s_law_deck : Stmt := top 23
abbrev s_law_draw : Stmt := top 24
abbrev s_law_name : Stmt := top 25
abbrev s_law_names : Stmt := top 26
abbrev s_law_amount : Stmt := top 27
abbrev s_law_deed : Stmt := top 28
abbrev s_law_text : Stmt := top 29
abbrev s_law_right : Stmt := top 30
abbrev s_law : Stmt := top 31
theorem sc_is_name : FnScope ["thing"] ["thing"] (defScope s_is_name) := ⟨rfl, rfl, rfl, by decide +kernel, rfl, by decide +kernel, by decide +kernel⟩
theorem sc_number_of : FnScope ["text"] ["text"] (defScope s_number_of) := ⟨rfl, rfl, rfl, by decide +kernel, rfl, by decide +kernel, by decide +kernel⟩
theorem sc_shown_parts : FnScope ["parts"] ["parts"] (defScope s_shown_parts) := ⟨rfl, rfl, rfl, by decide +kernel, rfl, by decide +kernel, by decide +kernel⟩
theorem sc_is_whole : FnScope ["thing", "least", "most"] ["thing", "least", "most"] (defScope s_is_whole) := ⟨rfl, rfl, rfl, by decide +kernel, rfl, by decide +kernel, by decide +kernel⟩
theorem sc_is_made_of : FnScope ["thing", "signs", "longest"] ["thing", "signs", "longest"] (defScope s_is_made_of) := ⟨rfl, rfl, rfl, by decide +kernel, rfl, by decide +kernel, by decide +kernel⟩
theorem sc_is_deed : FnScope ["thing"] ["thing"] (defScope s_is_deed) := ⟨rfl, rfl, rfl, by decide +kernel, rfl, by decide +kernel, by decide +kernel⟩
theorem sc_fits_word : FnScope ["word", "names"] ["word", "names"] (defScope s_fits_word) := ⟨rfl, rfl, rfl, by decide +kernel, rfl, by decide +kernel, by decide +kernel⟩
theorem sc_shown_deed : FnScope ["deed"] ["deed"] (defScope s_shown_deed) := ⟨rfl, rfl, rfl, by decide +kernel, rfl, by decide +kernel, by decide +kernel⟩
theorem sc_read_deed : FnScope ["text", "parts", "deed"] ["text"] (defScope s_read_deed) := ⟨rfl, rfl, rfl, by decide +kernel, rfl, by decide +kernel, by decide +kernel⟩
theorem sc_law_mixed : FnScope ["_law_number", "_law_k", "_law_seed"] ["_law_number", "_law_k"] (defScope s_law_mixed) := ⟨rfl, rfl, rfl, by decide +kernel, rfl, by decide +kernel, by decide +kernel⟩
theorem sc_law_deck : FnScope ["_law_script"] ["_law_script"] (defScope s_law_deck) := ⟨rfl, rfl, rfl, by decide +kernel, rfl, by decide +kernel, by decide +kernel⟩
theorem sc_law_draw : FnScope ["_law_deck_here", "_law_most", "_law_cell"] ["_law_deck_here", "_law_most"] (defScope s_law_draw) := ⟨rfl, rfl, rfl, by decide +kernel, rfl, by decide +kernel, by decide +kernel⟩
theorem sc_law_name : FnScope ["_law_deck_here", "_law_letters"] ["_law_deck_here"] (defScope s_law_name) := ⟨rfl, rfl, rfl, by decide +kernel, rfl, by decide +kernel, by decide +kernel⟩
theorem sc_law_names : FnScope ["_law_deck_here", "_law_many", "_law_letters", "_law_found", "_law_k", "_law_name_here", "_law_others"] ["_law_deck_here", "_law_many"] (defScope s_law_names) := ⟨rfl, rfl, rfl, by decide +kernel, rfl, by decide +kernel, by decide +kernel⟩
theorem sc_law_amount : FnScope ["_law_deck_here", "_law_least", "_law_some"] ["_law_deck_here", "_law_least"] (defScope s_law_amount) := ⟨rfl, rfl, rfl, by decide +kernel, rfl, by decide +kernel, by decide +kernel⟩
theorem sc_law_deed : FnScope ["_law_deck_here", "_law_names_here", "_law_n", "_law_word"] ["_law_deck_here", "_law_names_here", "_law_n"] (defScope s_law_deed) := ⟨rfl, rfl, rfl, by decide +kernel, rfl, by decide +kernel, by decide +kernel⟩
theorem sc_law_text : FnScope ["_law_deed_here", "_law_text_here", "_law_part", "_law_n", "_law_figures"] ["_law_deed_here"] (defScope s_law_text) := ⟨rfl, rfl, rfl, by decide +kernel, rfl, by decide +kernel, by decide +kernel⟩
theorem sc_law_right : FnScope ["_law_deed_here", "_law_text_here", "_law_found"] ["_law_deed_here"] (defScope s_law_right) := ⟨rfl, rfl, rfl, by decide +kernel, rfl, by decide +kernel, by decide +kernel⟩
theorem sc_law : FnScope ["_law_script", "_law_deck_here", "_law_deeds"] ["_law_script"] (defScope s_law) := ⟨rfl, rfl, rfl, by decide +kernel, rfl, by decide +kernel, by decide +kernel⟩
structure Txt (K : PySem.W.Frag) (mg : Str → Option Value) : Prop where
  b_all : mg "all" = none
  b_isinstance : mg "isinstance" = none
  b_str : mg "str" = none
  b_len : mg "len" = none
  b_sum : mg "sum" = none
  b_list : mg "list" = none
  b_reversed : mg "reversed" = none
  b_range : mg "range" = none
  b_bool : mg "bool" = none
  b_int : mg "int" = none
  b_max : mg "max" = none
  b_tuple : mg "tuple" = none
  g_LETTERS : ∃ t, mg "LETTERS" = some (.str ("abcdefghijklmnopqrstuvwxyz") t)
  g_FIGURES : ∃ t, mg "FIGURES" = some (.str ("0123456789") t)
  g_LONGEST_NAME : ∃ t, mg "LONGEST_NAME" = some (.int (8) t)
  g_LONGEST_NUMBER : ∃ t, mg "LONGEST_NUMBER" = some (.int (13) t)
  g_MOST : ∃ t, mg "MOST" = some (.int (1000000000000) t)
structure Top (Pm : Params) (K : PySem.W.Frag) (mg : Str → Option Value) : Prop where
  g_NAME_COUNTS : ∃ a, mg "NAME_COUNTS" = some (.ref a) ∧ KTab K Pm a (WS)
  g_UNLIKE_WORDS : ∃ a, mg "UNLIKE_WORDS" = some (.ref a) ∧ ∀ H, SqT K H a (UW)
section
variable {P : Program} {w : World} {K : PySem.W.Frag} {mg : Str → Option Value} {base : Heap}
theorem ok_mixed (D : DefAt K mg "_law_mixed" s_law_mixed ["_law_number", "_law_k"]) : Callee P w K mg base 1 "_law_mixed" ["_law_number", "_law_k"] spMixed := by
  refine D.go sc_law_mixed (fun vs H Q E h => ?_) (fun f cdv A outer s H vs Q E hr h => ?_)
  · obtain ⟨n, k, rfl, _⟩ := h; rfl
  · obtain ⟨n, k, rfl, q⟩ := h
    refine ⟨_, (R.scons (R.set (i := 2) sc_law_mixed.nd (R.op R.mod (R.op R.mul (R.op R.add (R.op R.add (R.op R.mod (R.v 0) R.int) (R.op R.mul R.int (R.v 1))) R.int) R.int) R.int))
      (R.scons (R.set (i := 2) sc_law_mixed.nd (R.op R.mod (R.op R.add (R.op R.add (R.op R.mul (R.v 2) (R.v 2)) (R.op R.mul R.int (R.v 2))) (R.v 1)) R.int))
      (R.sone (R.ret (R.op R.fdiv (R.op R.mod (R.op R.add (R.op R.mul (R.v 2) R.int) R.int) R.int) R.int))))), ?_⟩
    refine ⟨by show (0 : Int) < _; decide, .inl ⟨by decide, by decide⟩, .inr ⟨by decide, by decide⟩, by show (0 : Int) < _; decide, ?_⟩
    generalize hx : (n % 2147483629 + 6563 * k + 29) * 48271 % 2147483647 = x
    have hx0 : 0 ≤ x := by omega
    have hx1 : x < 2147483647 := by omega
    refine ⟨.inl ⟨by omega, by omega⟩, .inl ⟨by decide, by decide⟩, by show (0 : Int) < _; decide, .inr ⟨by decide, by decide⟩, by show (0 : Int) < _; decide, ⟨by decide, by decide⟩, ?_⟩
    exact q _
theorem ok_draw (c__law_mixed : Callee P w K mg base 1 "_law_mixed" ["_law_number", "_law_k"] spMixed) (D : DefAt K mg "_law_draw" s_law_draw ["_law_deck_here", "_law_most"]) :
    Callee P w K mg base 2 "_law_draw" ["_law_deck_here", "_law_most"] spDraw := by
  refine D.go sc_law_draw (fun vs H Q E h => ?_) (fun f cdv A outer s H vs Q E hr h => ?_)
  · obtain ⟨d, b, m, rfl, _⟩ := h; rfl
  · obtain ⟨d, b, m, rfl, dk, hm, hm2, q⟩ := h
    have hu := hr.units0
    have hr__law_mixed := hr
    obtain ⟨ns, s0, k0, h1, h2, h3⟩ := dk.ex
    have ndb : d ≠ b := ne_of h1 h2 (by
      intro z
      injection z with z
      cases ns with
      | nil => cases z
      | cons z1 zs => injection z with z _; cases z)
    refine ⟨_, (R.scons (R.asg (R.op R.add (R.ix (R.kiL (K := K)) (R.v 0) R.int) R.int) (R.gsub (R.v 0) R.int R.setL))
      (R.scons (R.ife (R.tcmp (R.keqNil (K := K) hu) (R.ix (R.kiL (K := K)) (R.v 0) R.int) (R.lst R.nil))
      (R.sone (R.ret (R.op R.mod (R.fn c__law_mixed hr__law_mixed rfl (R.cons (R.ix (R.kiL (K := K)) (R.v 0) R.int) (R.cons (R.ix (R.kiL (K := K)) (R.v 0) R.int) R.nil))) (R.v 1))))
      R.snil)
      (R.scons (R.set (i := 2) sc_law_draw.nd (R.kbm0 (K := K) PySem.F.plainAttrs_list PySem.F.slot_list_pop PySem.F.type_list_pop R.pop (R.ix (R.kiL (K := K)) (R.v 0) R.int)))
      (R.scons (R.ife (R.tcmp R.lt (R.v 2) (R.op R.pow R.int R.int))
      (R.sone (R.ret (R.op R.mod (R.fn c__law_mixed hr__law_mixed rfl (R.cons (R.v 2) (R.cons (R.ix (R.kiL (K := K)) (R.v 0) R.int) R.nil))) (R.v 1))))
      R.snil)
      (R.scons (R.expr (R.kbm (K := K) PySem.F.plainAttrs_list PySem.F.slot_list_append PySem.F.type_list_append R.append (R.ix (R.kiL (K := K)) (R.v 0) R.int) (R.cons (R.op R.fdiv (R.v 2) (R.v 1)) R.nil)))
      (R.sone (R.ret (R.op R.mod (R.v 2) (R.v 1))))))))), ?_⟩
    refine ⟨_, SqL.of h1, _, rfl, d, _, 2, 2, rfl, rfl, h1, rfl, ?_⟩
    have g1 : (upd H d (.lst [.ref b, .int s0, .int (k0 + 1)])) d = some (.lst [.ref b, .int s0, .int (k0 + 1)]) := upd_same
    have g2 : (upd H d (.lst [.ref b, .int s0, .int (k0 + 1)])) b = some (.lst (ns.map V.int)) := by rw [upd_ne ndb.symm]; exact h2
    have kp1 : Kp d b H (upd H d (.lst [.ref b, .int s0, .int (k0 + 1)])) := fun c o e n1 n2 => by rw [upd_ne n1]; exact e
    show tSeq _ _ _ _ (upd H d (.lst [.ref b, .int s0, .int (k0 + 1)]))
    generalize upd H d (.lst [.ref b, .int s0, .int (k0 + 1)]) = H1 at g1 g2 kp1
    refine ⟨_, SqL.of g1, _, rfl, szl rfl, fun p hp => ⟨b, p, _, rfl, rfl, SqL.of (by rw [upd_ne (ne_of_none g2 hp)]; exact g2), SqL.of upd_same, ?_⟩⟩
    have e1 : (upd H1 p (.lst [])) d = some (.lst [.ref b, .int s0, .int (k0 + 1)]) := by rw [upd_ne (ne_of_none g1 hp)]; exact g1
    have e2 : (upd H1 p (.lst [])) b = some (.lst (ns.map V.int)) := by rw [upd_ne (ne_of_none g2 hp)]; exact g2
    have kp2 : Kp d b H (upd H1 p (.lst [])) := kp1.trans (.new hp)
    generalize upd H1 p (.lst []) = H2 at e1 e2 kp2
    rcases List.eq_nil_or_concat ns with rfl | ⟨init, z, rfl⟩
    · skip
      refine ⟨_, SqL.of e1, _, rfl, _, SqL.of e1, _, rfl, _, _, rfl, fun r => ⟨hm, ?_⟩⟩
      exact q _ _ (Int.emod_nonneg _ (by omega)) (Int.emod_lt_of_pos _ hm) ⟨[], s0, k0 + 1, e1, e2, h3⟩ kp2
    · refine if_f (by simp) ?_
      have e2' : H2 b = some (.lst (init.map V.int ++ [.int z])) := by rw [e2]; simp
      -- pop
      refine ⟨_, SqL.of e1, _, rfl, .inl ⟨rfl, _, SqL.of e2'⟩, b, _, .int z, rfl, rfl, e2', by simp, ?_⟩
      have f1 : (upd H2 b (.lst (init.map V.int ++ [V.int z]).dropLast)) d = some (.lst [.ref b, .int s0, .int (k0 + 1)]) := by rw [upd_ne ndb]; exact e1
      have f2 : (upd H2 b (.lst (init.map V.int ++ [V.int z]).dropLast)) b = some (.lst (init.map V.int)) := by rw [upd_same]; simp
      have kp3 : Kp d b H (upd H2 b (.lst (init.map V.int ++ [V.int z]).dropLast)) := fun c o e n1 n2 => by rw [upd_ne n2]; exact kp2 c o e n1 n2
      show tSeq _ _ _ _ (upd H2 b (.lst (init.map V.int ++ [V.int z]).dropLast))
      generalize upd H2 b (.lst (init.map V.int ++ [V.int z]).dropLast) = H3 at f1 f2 kp3
      have hl : init.length + 1 ≤ 63 := by simpa using h3
      refine ⟨⟨by decide, by decide, by decide⟩, ?_⟩
      refine if_b (fun _ => ?_) (fun _ => ?_)
      · refine ⟨_, SqL.of f1, _, rfl, _, _, rfl, fun r => ⟨hm, ?_⟩⟩
        exact q _ _ (Int.emod_nonneg _ (by omega)) (Int.emod_lt_of_pos _ hm) ⟨init, s0, k0 + 1, f1, f2, by omega⟩ kp3
      · refine ⟨_, SqL.of f1, _, rfl, .inl ⟨rfl, _, SqL.of f2⟩, ⟨hm, hm2⟩, b, _, _, rfl, rfl, f2, Nat.lt_of_le_of_lt (m := 63) (by rw [List.length_map]; omega) (by decide), hm, ?_⟩
        refine q _ _ (Int.emod_nonneg _ (by omega)) (Int.emod_lt_of_pos _ hm) ⟨init ++ [z / m], s0, k0 + 1, by rw [upd_ne ndb]; exact f1, by rw [upd_same]; simp, by simpa using hl⟩ fun c o e n1 n2 => by rw [upd_ne n2]; exact kp3 c o e n1 n2
theorem ok_deck (T : Txt K mg) (D : DefAt K mg "_law_deck" s_law_deck ["_law_script"]) : Callee P w K mg base 1 "_law_deck" ["_law_script"] (spDeck K) := by
  refine D.go sc_law_deck (fun vs H Q E h => ?_) (fun f cdv A outer s H vs Q E hr h => ?_)
  · obtain ⟨a, ns, rfl, _⟩ := h; rfl
  · obtain ⟨a, ns, rfl, hS, q⟩ := h
    refine ⟨_, (R.sone (R.ret (R.lst (R.cons (R.klistrev (K := K) rfl rfl T.b_list rfl T.b_reversed (R.sl (R.ksL (K := K)) (R.v 0) R.pn (R.ps R.int))) (R.cons (R.op R.add (R.callB (R.ksum (K := K) rfl) rfl T.b_sum bb_sum (R.cons (R.sl (R.ksL (K := K)) (R.v 0) R.pn (R.ps R.int)) R.nil)) (R.callB (R.klenL (K := K)) rfl T.b_len bb_len (R.cons (R.sl (R.ksL (K := K)) (R.v 0) R.pn (R.ps R.int)) R.nil))) (R.cons R.int R.nil)))))), ?_⟩
    have hc : cut (ns.map V.int) none (some 63) = (ns.take 63).map V.int := by rw [cut_map]; exact congrArg _ (cut_to ns 63)
    refine ⟨_, hS, fun p1 hp1 => ⟨p1, _, rfl, SqL.of upd_same, fun b hb => ?_⟩⟩
    have s2 : Same H (upd (upd H p1 (.lst (cut (ns.map V.int) none (some 63)))) b (.lst (cut (ns.map V.int) none (some 63)).reverse)) := (same_upd hp1).trans (same_upd hb)
    have g2 : (upd (upd H p1 (.lst (cut (ns.map V.int) none (some 63)))) b (.lst (cut (ns.map V.int) none (some 63)).reverse)) b = some (.lst (((ns.take 63).reverse).map V.int)) := by rw [upd_same, hc, List.map_reverse]
    have hb0 : H b = none := (same_upd hp1).free hb
    show tCons _ _ _ (upd (upd H p1 (.lst (cut (ns.map V.int) none (some 63)))) b (.lst (cut (ns.map V.int) none (some 63)).reverse)) _
    generalize upd (upd H p1 (.lst (cut (ns.map V.int) none (some 63)))) b (.lst (cut (ns.map V.int) none (some 63)).reverse) = H2 at s2 g2
    refine ⟨_, s2.seq hS, fun p2 hp2 => ⟨p2, ns.take 63, rfl, SqL.of (by rw [upd_same, hc]), _, ((s2.trans (same_upd hp2)).seq hS), fun p3 hp3 => ⟨_, .inl (SqL.of upd_same), szl rfl, fun d hd => ?_⟩⟩⟩
    have s4 : Same H (upd (upd H2 p2 (.lst (cut (ns.map V.int) none (some 63)))) p3 (.lst (cut (ns.map V.int) none (some 63)))) := (s2.trans (same_upd hp2)).trans (same_upd hp3)
    have nbd : b ≠ d := ne_of_none (((same_upd hp2).trans (same_upd hp3)) _ _ g2) hd
    refine q d b _ (s4.free hd) hb0 ⟨(ns.take 63).reverse, _, _, upd_same, ?_, ?_⟩ (s4.trans (same_upd hd))
    · rw [upd_ne nbd]
      exact ((same_upd hp2).trans (same_upd hp3)) _ _ g2
    · rw [List.length_reverse, List.length_take]
      exact Nat.min_le_left _ _
theorem ok_made (T : Txt K mg) (D : DefAt K mg "is_made_of" s_is_made_of ["thing", "signs", "longest"]) : Callee P w K mg base 1 "is_made_of" ["thing", "signs", "longest"] spMade := by
  refine D.go sc_is_made_of (fun vs H Q E h => ?_) (fun f cdv A outer s H vs Q E hr h => ?_)
  · obtain ⟨x, sg, n, k, rfl, _⟩ := h; rfl
  · obtain ⟨x, sg, n, k, rfl, hk, hz, q⟩ := h
    refine ⟨_, (R.scons (R.ife (R.tw (R.wor (R.tnot (R.val (R.isi .str (R.v 0) rfl T.b_isinstance rfl T.b_str bb_str))) (R.wor1 (R.tnot (R.tchain R.le R.le R.int (R.callB R.lenS rfl T.b_len bb_len (R.cons (R.v 0) R.nil)) (R.v 2))))))
      (R.sone (R.ret R.bl))
      R.snil)
      (R.sone (R.ret (R.callB (R.kall (K := K) rfl) rfl T.b_all bb_all (R.cons (R.comp rfl (js := [none, some 1]) (N := ["sign", "signs"]) (CompScope.by (defScope s_is_made_of) ["thing", "signs", "longest"] rfl rfl (by decide +kernel)) (gown_name rfl) (R.wS (R.v 0)) (fun C s₂ H₂ fp => ⟨(R.gn (i := 0) (show (["sign", "signs"] : List Str).Nodup by decide +kernel)), R.ts0, (R.cmp R.inS (R.v 0) (R.v 1))⟩)) R.nil))))), ?_⟩
    have no : isK .str k = false → madeOf x sg.cps.toList n = false := fun e => by
      cases x <;> first | rfl | (cases k <;> first | exact hk.elim | cases e)
    refine ⟨k, hk, ?_⟩
    cases x with
    | str z =>
      cases k <;> first | exact hk.elim | skip
      have hz1 := hz z rfl
      refine ⟨szl' hz1, ?_⟩
      refine if_b (fun h1 => ?_) (fun h1 => ?_)
      · refine if_b (fun h2 => ?_) (fun h2 => ?_)
        · have e : madeOf (.str z) sg.cps.toList n = false := by
            rw [madeOf_str]
            have h2' : decide ((z.length : Int) ≤ n) = false := by simpa using h2
            rw [h2']; simp
          have h := q H (Same.refl H)
          rw [e] at h
          exact h
        · refine ⟨z, rfl, comp_pure (seq_str z) (by simp [signs, Str.length] at hz1 ⊢; omega) (fun _ => true) (fun v => match v with | .str y => .bl (decide (y.cps.toList.headD 0 ∈ sg.cps.toList)) | _ => .non) trivial (fun v ys N hv ht hf => ?_) ?_⟩
          · obtain ⟨c, hc, rfl⟩ := List.mem_map.mp hv
            exact ⟨c, rfl, ht rfl⟩
          · intro p hp
            refine ⟨p, z.cps.toList.map (fun c => decide (c ∈ sg.cps.toList)), rfl, SqL.of (by rw [upd_same, List.filter_eq_self.mpr (fun _ _ => rfl)]; unfold signs; rw [List.map_map, List.map_map]; rfl), ?_⟩
            have e : madeOf (.str z) sg.cps.toList n = List.all (z.cps.toList.map (fun c => decide (c ∈ sg.cps.toList))) id := by
              rw [madeOf_str]
              have h2' : decide ((z.length : Int) ≤ n) = true := by simpa using h2
              have h1' : decide (1 ≤ (z.length : Int)) = true := h1
              rw [h2', h1', List.all_map]
              simp [Function.comp_def]
            rw [← e]
            exact q _ (fun c o e => by rw [upd_ne (ne_of_none e hp)]; exact e)
      · have e : madeOf (.str z) sg.cps.toList n = false := by
          rw [madeOf_str]
          have h1' : decide (1 ≤ (z.length : Int)) = false := h1
          rw [h1']; simp
        have h := q H (Same.refl H)
        rw [e] at h
        exact h
    | _ =>
      cases k <;> first | exact hk.elim | exact q H (Same.refl H)

theorem ok_name (T : Txt K mg) (c__law_draw : Callee P w K mg base 2 "_law_draw" ["_law_deck_here", "_law_most"] spDraw) (D : DefAt K mg "_law_name" s_law_name ["_law_deck_here"]) : Callee P w K mg base 3 "_law_name" ["_law_deck_here"] spName := by
  refine D.go sc_law_name (fun vs H Q E h => ?_) (fun f cdv A outer s H vs Q E hr h => ?_)
  · obtain ⟨d, b, rfl, _⟩ := h; rfl
  · obtain ⟨d, b, rfl, dk, q⟩ := h
    have hr__law_draw := hr
    refine ⟨_, (R.scons (R.ife (R.tcmp R.eq (R.fn c__law_draw hr__law_draw rfl (R.cons (R.v 0) (R.cons R.int R.nil))) R.int)
      (R.sone (R.ret (R.ix (R.kiL (K := K)) (R.lst (R.cons R.str (R.cons R.str (R.cons R.str (R.cons R.str (R.cons R.str (R.cons R.str (R.cons R.str (R.cons R.str R.nil))))))))) (R.fn c__law_draw hr__law_draw rfl (R.cons (R.v 0) (R.cons R.int R.nil))))))
      R.snil)
      (R.scons (R.set (i := 1) sc_law_name.nd R.str)
      (R.sone (R.ret (R.kbm (K := K) PySem.F.plainAttrs_str PySem.F.slot_str_join PySem.F.type_str_join (R.kjoin (K := K)) R.str (R.cons (R.comp rfl (js := [none, some 0, some 1]) (N := ["_law_k", "_law_deck_here", "_law_letters"]) (CompScope.by (defScope s_law_name) ["_law_deck_here", "_law_letters"] rfl rfl (by decide +kernel)) (gown_name rfl) (R.range1 rfl T.b_range (R.cons (R.op R.add R.int (R.fn c__law_draw hr__law_draw rfl (R.cons (R.v 0) (R.cons R.int R.nil)))) R.nil)) (fun C s₂ H₂ fp => ⟨(R.gn (i := 0) (show (["_law_k", "_law_deck_here", "_law_letters"] : List Str).Nodup by decide +kernel)), R.ts0, (R.ix R.iS (R.v 2) (R.fn c__law_draw hr__law_draw rfl (R.cons (R.v 1) (R.cons R.int R.nil))))⟩)) R.nil)))))), ?_⟩
    refine ⟨d, b, 4, rfl, dk, by decide, by decide, fun r0 H1 a0 a1 D1 k1 => ?_⟩
    refine if_b (fun _ => ?_) (fun _ => ?_)
    · refine ⟨szl rfl, fun l hl => ⟨d, b, 8, rfl, D1.new hl, by decide, by decide, fun r H2 b0 b1 D2 k2 => ⟨_, SqL.of (k2 l _ upd_same (D1.ne hl).1 (D1.ne hl).2), ?_⟩⟩⟩
      have kp := (k1.trans (.new hl)).trans k2
      rcases eight b0 b1 with rfl | rfl | rfl | rfl | rfl | rfl | rfl | rfl
      all_goals exact ⟨_, rfl, q _ H2 ⟨by decide +kernel, by decide +kernel, by decide +kernel⟩ D2 kp⟩
    · refine ⟨rfl, d, b, 8, rfl, D1, by decide, by decide, fun r H2 b0 b1 D2 k2 => ⟨1 + r, rfl, by omega, by omega, ?_⟩⟩
      have k12 := k1.trans k2
      refine comp_seq (seq_range 0 (1 + r).toNat) (by simp [rangeV]; omega) (fun i ys H' => Dk H' d b ∧ Kp d b H H' ∧ ∃ ts : List Nat, ys = ts.map (fun c => V.str (tx [c])) ∧ ts.length = i ∧ ∀ c ∈ ts, c ∈ LET) (fun i ys H' ⟨_, _, ts, e, e2, _⟩ => ⟨trivial, by rw [e, List.length_map, e2]; exact Nat.le_refl _⟩) ⟨D2, k12, [], rfl, rfl, (fun _ h => nomatch h)⟩ (fun i x ys H' hx ⟨Di, kpi, ts, e, e2, e3⟩ => ?_) (fun ys H' ⟨Di, kpi, ts, e, e2, e3⟩ => ?_)
      · refine ⟨d, b, 26, rfl, Di, by decide, by decide, fun r2 H'' r20 r21 Dj kpj => ⟨by decide +kernel, ?_⟩⟩
        obtain ⟨c, hc, hm⟩ := atI_some (xs := ("abcdefghijklmnopqrstuvwxyz" : Str).cps.toList) r20 (by
          have : (("abcdefghijklmnopqrstuvwxyz" : Str).cps.toList.length : Int) = 26 := by decide +kernel
          rw [this]; exact r21)
        rw [let_eq] at hm
        refine ⟨c, hc, Dj, kpi.trans kpj, ts ++ [c], by rw [e, List.map_append]; rfl, by rw [List.length_append, e2]; rfl, fun c' hc' => ?_⟩
        rcases List.mem_append.mp hc' with h | h
        · exact e3 c' h
        · rw [List.mem_singleton.mp h]; exact hm
      · intro p hp
        have hts : ts.length = (1 + r).toNat := by rw [e2]; simp [rangeV]
        refine ⟨_, p, ts.map (fun c => tx [c]), rfl, rfl, SqL.of (by rw [upd_same, e, List.map_map]; rfl), ?_, ?_⟩
        · rw [sum_ones, List.length_map, emp_eq, tx_len]; simp; omega
        · have hq := q (tx ts) (upd H' p (.lst ys)) ⟨by rw [tx_len]; omega, by rw [tx_len]; omega, fun c hc => e3 c (by simpa using hc)⟩ (Di.new hp) (kpi.trans (.new hp))
          rw [← join_signs, ← emp_eq] at hq
          exact hq
theorem ok_names (T : Txt K mg) (c__law_name : Callee P w K mg base 3 "_law_name" ["_law_deck_here"] spName) (D : DefAt K mg "_law_names" s_law_names ["_law_deck_here", "_law_many"]) : Callee P w K mg base 4 "_law_names" ["_law_deck_here", "_law_many"] spNames := by
  refine D.go sc_law_names (fun vs H Q E h => ?_) (fun f cdv A outer s H vs Q E hr h => ?_)
  · obtain ⟨d, b, m, rfl, _⟩ := h; rfl
  · obtain ⟨d, b, m, rfl, dk, hm, q⟩ := h
    have hr__law_name := hr
    refine ⟨_, (R.scons (R.set (i := 2) sc_law_names.nd R.str)
      (R.scons (R.set (i := 3) sc_law_names.nd (R.lst R.nil))
      (R.scons (R.for_ PassesOwn.never rfl (R.range1 rfl T.b_range (R.cons (R.v 1) R.nil)) (R.gn (i := 4) sc_law_names.nd)
      (R.scons (R.set (i := 5) sc_law_names.nd (R.fn c__law_name hr__law_name rfl (R.cons (R.v 0) R.nil)))
      (R.scons (R.ife (R.tcmp (R.kinQ (K := K)) (R.v 5) (R.v 3))
      (R.scons (R.scomp (i := 6) sc_law_names.nd rfl (Or.inl rfl) rfl (js := [none, some 2]) (N := ["_law_k", "_law_letters"]) (CompScope.by (defScope s_law_names) ["_law_deck_here", "_law_many", "_law_letters", "_law_found", "_law_k", "_law_name_here", "_law_others"] rfl rfl (by decide +kernel)) (gown_name rfl) (R.range1 rfl T.b_range (R.cons R.int R.nil)) (fun C s₂ H₂ fp => ⟨(R.gn (i := 0) (show (["_law_k", "_law_letters"] : List Str).Nodup by decide +kernel)), R.ts0, (R.op R.addS (R.op R.addS (R.ix R.iS (R.v 1) (R.op R.fdiv (R.v 0) R.int)) (R.ix R.iS (R.v 1) (R.op R.mod (R.v 0) R.int))) R.str)⟩) rfl)
      (R.sone (R.set (i := 5) sc_law_names.nd (R.ix (R.kiL (K := K)) (R.comp rfl (js := [none, some 3]) (N := ["_law_other", "_law_found"]) (CompScope.by (defScope s_law_names) ["_law_deck_here", "_law_many", "_law_letters", "_law_found", "_law_k", "_law_name_here", "_law_others"] rfl rfl (by decide +kernel)) (gown_name rfl) (R.kwL (K := K) (R.v 6)) (fun C s₂ H₂ fp => ⟨(R.gn (i := 0) (show (["_law_other", "_law_found"] : List Str).Nodup by decide +kernel)), (R.ts1 (R.tcmp (R.knotInQ (K := K)) (R.v 0) (R.v 1))), (R.v 0)⟩)) R.int))))
      R.snil)
      (R.sone (R.expr (R.kbm (K := K) PySem.F.plainAttrs_list PySem.F.slot_list_append PySem.F.type_list_append R.append (R.v 3) (R.cons (R.v 5) R.nil)))))))
      (R.sone (R.ret (R.v 3)))))), ?_⟩
    refine ⟨szl rfl, fun l hl => ⟨m, rfl, by omega, by omega, ?_⟩⟩
    have hld := dk.ne hl
    have e0 : ((m : Int)).toNat = m := by omega
    refine for_seq (seq_range 0 (m : Int).toNat) (fun i σ H' => ∃ (zs : List Str) (o4 o5 o6 : Option V), σ = [some (.ref d), some (.int m), some (.str "abcdefghijklmnopqrstuvwxyz"), some (.ref l), o4, o5, o6] ∧ zs.length = i ∧ (∀ z ∈ zs, isNm z) ∧ zs.Nodup ∧ H' l = some (.lst (zs.map V.str)) ∧ Dk H' d b ∧ Kp d b H H') (fun _ _ _ _ => trivial) ⟨[], _, _, _, rfl, rfl, (fun _ h => nomatch h), List.nodup_nil, upd_same, dk.new hl, .new hl⟩ ?_ ?_
    · rintro i x σ H1 hx ⟨zs, o4, o5, o6, rfl, hzl, hnm, hnd, g1, D1, k1⟩
      have hi : i < m := by
        have := (List.getElem?_eq_some_iff.mp hx).1
        simp [rangeV] at this
        omega
      refine ⟨d, b, rfl, D1, fun z H2 hz D2 k2 => ?_⟩
      have g2 := k2 l _ g1 hld.1 hld.2
      dsimp only [gName]
      refine cutS (t := tIfS _ _ _) (fun σ' H' => ∃ (z' : Str) (o4 o6 : Option V), σ' = [some (.ref d), some (.int m), some (.str "abcdefghijklmnopqrstuvwxyz"), some (.ref l), o4, some (.str z'), o6] ∧ isNm z' ∧ ¬ z' ∈ zs ∧ H' l = some (.lst (zs.map V.str)) ∧ Dk H' d b ∧ Kp d b H H') (fun nx hnx => ?_) (fun σ' H' hr' => ?_)
      · refine ⟨l, _, rfl, .inl (SqL.of g2), rfl, flat_strs zs, ?_⟩
        dsimp only
        rw [if_neg Bool.false_ne_true, inV_str]
        refine if_b (fun hb => ?_) (fun hb => ?_)
        · refine ⟨100, rfl, by decide, by decide, ?_⟩
          refine comp_seq (seq_range 0 100) (by decide) (fun i ys H' => ys = ((List.range i).map other).map V.str ∧ H' = H2) (fun i ys H' ⟨e, _⟩ => ⟨trivial, by rw [e]; simp⟩) ⟨rfl, rfl⟩ (fun i x ys H' hx ⟨e, e2⟩ => ?_) (fun ys H' ⟨e, e2⟩ => ?_)
          · have hi100 : i < 100 := by
              have := (List.getElem?_eq_some_iff.mp hx).1
              simpa [rangeV] using this
            have ex : x = .int (i : Int) := by
              unfold rangeV at hx
              rw [List.getElem?_map, List.getElem?_range hi100] at hx
              have := Option.some.inj hx
              rw [← this]
              show V.int (0 + (i : Int)) = _
              rw [Int.zero_add]
            subst ex
            have hat : ∀ j : Nat, j < 26 → atI (("abcdefghijklmnopqrstuvwxyz" : Str).cps.toList) (j : Int) = some (LET.getD j 0) := fun j hj => by
              rw [let_eq]
              refine atI_nat ?_
              have : ∀ j, j < 26 → LET[j]? = some (LET.getD j 0) := by decide +kernel
              exact this j hj
            refine ⟨⟨by decide, by decide⟩, by decide +kernel, _, hat (i / 26) (by omega), by show (0 : Int) < _; decide, by decide +kernel, _, hat (i % 26) (by omega), szl rfl, szl' ?_, ?_, e2⟩
            · rw [app_len, tx_len, tx_len, (by decide +kernel : ("q" : Str).length = 1)]; simp
            · rw [e, List.range_succ, List.map_append, List.map_append]
              rfl
          · intro p hp
            subst e2
            have e3 : ys = others.map V.str := by rw [e]; rfl
            subst e3
            have ge := at_upd (u := .lst (others.map V.str)) g2 hp
            refine ⟨p, rfl, ⟨_, SqL.of upd_same⟩, comp_pure (seq_list _ p (others.map V.str)) (by decide +kernel) (fun v => match v with | .str y => !decide (y ∈ zs) | _ => false) id (SqL.of upd_same) (fun v ys N hv ht hf => ?_) ?_⟩
            · obtain ⟨y, hy, rfl⟩ := List.mem_map.mp hv
              refine ⟨l, _, rfl, .inl (SqL.of ge), rfl, flat_strs zs, ?_⟩
              dsimp only
              rw [if_pos rfl, inV_str]
              exact if_b (fun h => ht h) (fun h => hf h)
            · intro p2 hp2
              have ef : (List.map id (List.filter (fun v => match v with | .str y => !decide (y ∈ zs) | _ => false) (others.map V.str))) = (others.filter (fun y => !decide (y ∈ zs))).map V.str := by
                rw [List.map_id, List.filter_map]; rfl
              rw [ef]
              cases hfl : others.filter (fun y => !decide (y ∈ zs)) with
              | nil => exact absurd hfl (some_out others zs others_nodup (by rw [hzl]; show i < 100; omega))
              | cons y ys2 =>
                have hy : y ∈ others.filter (fun y => !decide (y ∈ zs)) := by rw [hfl]; exact List.mem_cons_self
                obtain ⟨hy1, hy2⟩ := List.mem_filter.mp hy
                refine ⟨_, SqL.of upd_same, .str y, atI_nat (j := 0) rfl, ?_⟩
                refine hnx _ _ ⟨y, _, _, rfl, others_nm y hy1, by simpa using hy2, at_upd ge hp2, (D2.new hp).new hp2, ((k1.trans k2).trans (.new hp)).trans (.new hp2)⟩
        · exact hnx _ _ ⟨z, _, _, rfl, hz, of_decide_eq_false hb, g2, D2, k1.trans k2⟩
      · obtain ⟨z', p4, p6, rfl, hz', hno, g3, D3, k3⟩ := hr'
        refine ⟨.inl ⟨rfl, _, SqL.of g3⟩, l, _, _, rfl, rfl, g3, Nat.lt_of_le_of_lt (m := 60) (by rw [List.length_map, hzl]; omega) (by decide), ?_⟩
        refine ⟨zs ++ [z'], _, _, _, rfl, by rw [List.length_append, hzl]; rfl, fun y hy => ?_, ?_, by rw [upd_same, List.map_append]; rfl, ?_, fun c o e n1 n2 => ?_⟩
        · rcases List.mem_append.mp hy with h | h
          · exact hnm y h
          · rw [List.mem_singleton.mp h]; exact hz'
        · exact nd_snoc hnd hno
        · obtain ⟨ns, s0, kk, f1, f2, f3⟩ := D3.ex
          exact ⟨ns, s0, kk, by rw [upd_ne hld.1.symm]; exact f1, by rw [upd_ne hld.2.symm]; exact f2, f3⟩
        · rw [upd_ne (ne_of_none e hl)]; exact k3 c o e n1 n2
    · rintro σ H1 ⟨zs, o4, o5, o6, rfl, hzl, hnm, hnd, g1, D1, k1⟩
      exact q l zs H1 (by rw [hzl]; simp [rangeV]) hnm hnd hl g1 D1 k1
theorem ok_amount (T : Txt K mg) (c__law_draw : Callee P w K mg base 2 "_law_draw" ["_law_deck_here", "_law_most"] spDraw) (D : DefAt K mg "_law_amount" s_law_amount ["_law_deck_here", "_law_least"]) : Callee P w K mg base 3 "_law_amount" ["_law_deck_here", "_law_least"] spAmount := by
  refine D.go sc_law_amount (fun vs H Q E h => ?_) (fun f cdv A outer s H vs Q E hr h => ?_)
  · obtain ⟨d, b, m, rfl, _⟩ := h; rfl
  · obtain ⟨d, b, m, rfl, m0, m1, dk, q⟩ := h
    have hr__law_draw := hr
    refine ⟨_, (R.scons (R.set (i := 2) sc_law_amount.nd (R.lst (R.cons (R.v 1) (R.cons (R.op R.add (R.v 1) R.int) (R.cons (R.op R.pow R.int R.int) (R.cons (R.op R.sub (R.op R.pow R.int R.int) R.int) (R.cons (R.op R.add (R.fn c__law_draw hr__law_draw rfl (R.cons (R.v 0) (R.cons R.int R.nil))) (R.v 1)) R.nil)))))))
      (R.scons (R.expr (R.kbm (K := K) PySem.F.plainAttrs_list PySem.F.slot_list_append PySem.F.type_list_append R.append (R.v 2) (R.cons (R.callB (R.max rfl) rfl T.b_max bb_max (R.cons (R.v 1) (R.cons (R.op R.add (R.op R.mul (R.fn c__law_draw hr__law_draw rfl (R.cons (R.v 0) (R.cons (R.op R.pow R.int R.int) R.nil))) (R.op R.pow R.int R.int)) (R.fn c__law_draw hr__law_draw rfl (R.cons (R.v 0) (R.cons (R.op R.pow R.int R.int) R.nil)))) R.nil))) R.nil)))
      (R.sone (R.ret (R.ix (R.kiL (K := K)) (R.v 2) (R.fn c__law_draw hr__law_draw rfl (R.cons (R.v 0) (R.cons R.int R.nil)))))))), ?_⟩
    have e6 : (10 : Int) ^ (6 : Int).toNat = 1000000 := by decide
    have e12 : (10 : Int) ^ (12 : Int).toNat = 1000000000000 := by decide
    refine ⟨⟨by decide, by decide, by decide⟩, ⟨by decide, by decide, by decide⟩, d, b, 40, rfl, dk, by decide, by decide, fun r1 H1 a0 a1 D1 k1 => ⟨szl rfl, fun l hl => ?_⟩⟩
    have hld := D1.ne hl
    refine ⟨.inl ⟨rfl, _, SqL.of upd_same⟩, ⟨by decide, by decide, by decide⟩, d, b, _, rfl, D1.new hl, by decide, by decide, fun r2 H2 b0 b1 D2 k2 => ⟨⟨by decide, by decide, by decide⟩, .inr ⟨by decide, by decide⟩, ⟨by decide, by decide, by decide⟩, d, b, _, rfl, D2, by decide, by decide, fun r3 H3 c0 c1 D3 k3 => ?_⟩⟩
    rw [e6] at b1 c1
    have g := (k2.trans k3) l _ upd_same hld.1 hld.2
    refine ⟨l, _, _, rfl, rfl, g, by show 5 < sizeLine; decide, ?_⟩
    have D4 : ∀ o, Dk (upd H3 l o) d b := fun o => by
      obtain ⟨ns, s0, kk, f1, f2, f3⟩ := D3.ex
      exact ⟨ns, s0, kk, by rw [upd_ne hld.1.symm]; exact f1, by rw [upd_ne hld.2.symm]; exact f2, f3⟩
    have k4 : ∀ o, Kp d b H (upd H3 l o) := fun o c u e n1 n2 => by
      have hc : c ≠ l := ne_of_none (k1 c u e n1 n2) hl
      rw [upd_ne hc]
      exact (k2.trans k3) c u (by rw [upd_ne hc]; exact k1 c u e n1 n2) n1 n2
    refine ⟨d, b, 6, rfl, D4 _, by decide, by decide, fun r4 H4 d0 d1 D5 k5 => ⟨_, SqL.of (k5 l _ upd_same hld.1 hld.2), ?_⟩⟩
    have kp := (k4 _).trans k5
    have bd : ∀ n : Int, m ≤ n → n ≤ 1000000000000 → Q (.int n) H4 := fun n h0 h1 => q n H4 h0 h1 D5 kp
    rcases six d0 d1 with rfl | rfl | rfl | rfl | rfl | rfl
    · exact ⟨_, rfl, bd _ (by omega) (by omega)⟩
    · exact ⟨_, rfl, bd _ (by omega) (by omega)⟩
    · exact ⟨_, rfl, bd _ (by rw [e12]; omega) (by rw [e12]; omega)⟩
    · exact ⟨_, rfl, bd _ (by rw [e12]; omega) (by rw [e12]; omega)⟩
    · exact ⟨_, rfl, bd _ (by omega) (by omega)⟩
    · refine ⟨_, rfl, bd _ ?_ ?_⟩
      · rw [e6]; split <;> omega
      · rw [e6]; split <;> omega
theorem ok_is_name (T : Txt K mg) (c_is_made_of : Callee P w K mg base 1 "is_made_of" ["thing", "signs", "longest"] spMade) (D : DefAt K mg "is_name" s_is_name ["thing"]) : Callee P w K mg base 2 "is_name" ["thing"] (spTell LET 8) := by
  refine D.go sc_is_name (fun vs H Q E h => ?_) (fun f cdv A outer s H vs Q E hr h => ?_)
  · obtain ⟨x, k, rfl, _⟩ := h; rfl
  · obtain ⟨x, k, rfl, hk, hz, q⟩ := h
    have hr_is_made_of := hr
    refine ⟨_, (R.sone (R.ret (R.fn c_is_made_of hr_is_made_of rfl (R.cons (R.v 0) (R.cons (R.gS rfl T.g_LETTERS) (R.cons (R.gI rfl T.g_LONGEST_NAME) R.nil)))))), ?_⟩
    refine ⟨x, _, 8, k, rfl, hk, hz, fun H' s' => ?_⟩
    rw [let_eq]
    exact q H' s'
theorem ok_whole (T : Txt K mg) (D : DefAt K mg "is_whole" s_is_whole ["thing", "least", "most"]) : Callee P w K mg base 1 "is_whole" ["thing", "least", "most"] spWhole := by
  refine D.go sc_is_whole (fun vs H Q E h => ?_) (fun f cdv A outer s H vs Q E hr h => ?_)
  · obtain ⟨x, lo, hi, rfl, _⟩ := h; rfl
  · obtain ⟨x, lo, hi, rfl, ⟨k, hk, hz⟩, q⟩ := h
    refine ⟨_, (R.scons (R.ife (R.tw (R.wor (R.tnot (R.val (R.isi .int (R.v 0) rfl T.b_isinstance rfl T.b_int bb_int))) (R.wor1 (R.val (R.isi .bl (R.v 0) rfl T.b_isinstance rfl T.b_bool bb_bool)))))
      (R.sone (R.ret R.bl))
      R.snil)
      (R.sone (R.ret (R.chain R.le R.le (R.v 1) (R.v 0) (R.v 2))))), ?_⟩
    have h := q H (Same.refl H)
    refine ⟨k, hk, ?_⟩
    cases x with
    | int n =>
      cases k <;> first | exact hk.elim | skip
      refine ⟨.int, trivial, ?_⟩
      show if decide (lo ≤ n) = true then _ else _
      have e : numV lo hi (.int n) = (decide (lo ≤ n) && decide (n ≤ hi)) := rfl
      refine if_b (fun h1 => ?_) (fun h1 => ?_)
      · rw [e, h1, Bool.true_and] at h; exact h
      · rw [e, h1, Bool.false_and] at h; exact h
    | bl b =>
      cases k <;> first | exact hk.elim | skip
      exact ⟨.bl, trivial, h⟩
    | _ => cases k <;> first | exact hk.elim | exact h
theorem ok_fits (T : Txt K mg) (U : Top w.params K mg) (c_is_name : Callee P w K mg base 2 "is_name" ["thing"] (spTell LET 8)) (D : DefAt K mg "fits_word" s_fits_word ["word", "names"]) : Callee P w K mg base 3 "fits_word" ["word", "names"] spFits := by
  refine D.go sc_fits_word (fun vs H Q E h => ?_) (fun f cdv A outer s H vs Q E hr h => ?_)
  · obtain ⟨x, a, ns, rfl, _⟩ := h; rfl
  · obtain ⟨x, a, ns, rfl, ⟨k, hk, hz⟩, ha, hns, hp, q⟩ := h
    have hr_is_name := hr
    obtain ⟨aN, m_NAME_COUNTS, tN⟩ := U.g_NAME_COUNTS
    obtain ⟨aU, m_UNLIKE_WORDS, tU⟩ := U.g_UNLIKE_WORDS
    refine ⟨_, (R.scons (R.ife (R.tw (R.wor (R.tnot (R.val (R.isi .str (R.v 0) rfl T.b_isinstance rfl T.b_str bb_str))) (R.wor1 (R.tcmp (R.knotInK (K := K) (P := w.params)) (R.v 0) (R.gR rfl m_NAME_COUNTS)))))
      (R.sone (R.ret R.bl))
      R.snil)
      (R.scons (R.ife (R.tw (R.wor (R.tcmp R.ne (R.callB (R.klenL (K := K)) rfl T.b_len bb_len (R.cons (R.v 1) R.nil)) (R.ix (R.kiK (K := K) (P := w.params)) (R.gR rfl m_NAME_COUNTS) (R.v 0))) (R.wor1 (R.tnot (R.val (R.callB (R.kall (K := K) rfl) rfl T.b_all bb_all (R.cons (R.comp rfl (js := [none]) (N := ["name"]) (CompScope.by (defScope s_fits_word) ["word", "names"] rfl rfl (by decide +kernel)) (gown_name rfl) (R.kwT (K := K) (R.v 1)) (fun C s₂ H₂ fp => ⟨(R.gn (i := 0) (show (["name"] : List Str).Nodup by decide +kernel)), R.ts0, (R.fn c_is_name hr_is_name rfl (R.cons (R.v 0) R.nil))⟩)) R.nil)))))))
      (R.sone (R.ret R.bl))
      R.snil)
      (R.sone (R.ret (R.or (R.cmp (R.knotInQ (K := K)) (R.v 0) (R.gR rfl m_UNLIKE_WORDS)) (R.one (R.cmp R.ne (R.ix (R.kiT (K := K)) (R.v 1) R.int) (R.ix (R.kiT (K := K)) (R.v 1) R.int)))))))), ?_⟩
    have h := q H (Same.refl H)
    refine ⟨k, hk, ?_⟩
    cases x with
    | str z =>
      cases k <;> first | exact hk.elim | skip
      refine ⟨WS, tN, ?_⟩
      show if (!(WS.lookup z).isSome) = true then _ else _
      cases e : WS.lookup z with
      | none =>
        have e2 : fitsB (.str z) ns = false := by unfold fitsB; simp only [e]
        rw [e2] at h
        exact h
      | some i =>
        have e2 : fitsB (.str z) ns = (decide ((ns.length : Int) = i) && ns.all nmV && (!inV (.str z) UW || !decide (atI ns 0 = atI ns 1))) := by unfold fitsB; simp only [e]
        refine ⟨ns, .inr (SqT.of ha), WS, i, tN, e, ?_⟩
        refine if_b (fun h1 => ?_) (fun h1 => ?_)
        · have h1' : decide ((ns.length : Int) = i) = false := by simpa using h1
          rw [e2, h1'] at h
          exact h
        · have h1' : decide ((ns.length : Int) = i) = true := by simpa using h1
          refine ⟨a, rfl, ⟨_, SqT.of ha⟩, ?_⟩
          refine comp_seq (seq_tup K a ns) (by omega) (fun j ys H' => ys = (ns.take j).map (fun y => V.bl (nmV y)) ∧ Same H H') (fun j ys H' ⟨e3, s3⟩ => ⟨SqT.of (s3 _ _ ha), by rw [e3, List.length_map, List.length_take]; omega⟩) ⟨rfl, Same.refl H⟩ (fun j y ys H' hy ⟨e3, s3⟩ => ?_) (fun ys H' ⟨e3, s3⟩ => ?_)
          · obtain ⟨ky, hky, hzy⟩ := (hp y (List.mem_of_getElem? hy)).same s3
            refine ⟨y, ky, rfl, hky, hzy, fun H'' s'' => ⟨?_, s3.trans s''⟩⟩
            rw [List.take_add_one, hy, List.map_append, e3]; rfl
          · intro p hpn
            rw [List.take_of_length_le (Nat.le_refl _)] at e3
            have hs : Same H (upd H' p (.lst ys)) := s3.trans (same_upd hpn)
            refine ⟨p, ns.map nmV, rfl, SqL.of (by rw [upd_same, e3, List.map_map]; rfl), ?_⟩
            have e4 : List.all (ns.map nmV) id = ns.all nmV := by rw [List.all_map]; rfl
            have h5 := q _ hs
            dsimp only
            rw [e4]
            cases e5 : ns.all nmV with
            | false =>
              rw [e2, h1', e5] at h5
              exact h5
            | true =>
              rw [e2, h1', e5] at h5
              refine ⟨aU, UW, rfl, .inr (tU _), rfl, rfl, ?_⟩
              show if (!inV (.str z) UW) = true then _ else _
              cases e6 : inV (.str z) UW with
              | false =>
                rw [e6] at h5
                exact h5
              | true =>
                rw [e6] at h5
                have i2 := WS_uw e e6
                have hl : (ns.length : Int) = i := of_decide_eq_true h1'
                obtain ⟨y0, hy0, m0⟩ := atI_some (xs := ns) (i := 0) (by decide) (by omega)
                obtain ⟨y1, hy1, m1⟩ := atI_some (xs := ns) (i := 1) (by decide) (by omega)
                have n0 := List.all_eq_true.mp e5 y0 m0
                have n1 := List.all_eq_true.mp e5 y1 m1
                refine ⟨ns, SqT.of (hs _ _ ha), y0, hy0, ns, SqT.of (hs _ _ ha), y1, hy1, ?_⟩
                rw [hy0, hy1] at h5
                cases y0 <;> first | (unfold nmV madeOf at n0; exact absurd n0 Bool.false_ne_true) | skip
                cases y1 <;> first | (unfold nmV madeOf at n1; exact absurd n1 Bool.false_ne_true) | skip
                rename_i z0 z1
                have e7 : decide (some (V.str z0) = some (V.str z1)) = decide (z0 = z1) := by
                  rw [decide_eq_decide]
                  constructor
                  · intro e8; injection e8 with e8; injection e8
                  · intro e8; rw [e8]
                rw [e7] at h5
                exact h5
    | _ => cases k <;> first | exact hk.elim | exact h
theorem ok_is_deed (T : Txt K mg) (c_fits_word : Callee P w K mg base 3 "fits_word" ["word", "names"] spFits) (c_is_whole : Callee P w K mg base 1 "is_whole" ["thing", "least", "most"] spWhole) (D : DefAt K mg "is_deed" s_is_deed ["thing"]) : Callee P w K mg base 4 "is_deed" ["thing"] spIsDeed := by
  refine D.go sc_is_deed (fun vs H Q E h => ?_) (fun f cdv A outer s H vs Q E hr h => ?_)
  · obtain ⟨x, rfl, _⟩ := h; rfl
  · obtain ⟨x, rfl, ⟨⟨k, hk, hz⟩, hp⟩, hlen, q⟩ := h
    have hr_fits_word := hr
    have hr_is_whole : Room 1 _ := hr.mono (by decide)
    refine ⟨_, (R.scons (R.ife (R.tw (R.wor (R.tnot (R.val (R.isi .tup (R.v 0) rfl T.b_isinstance rfl T.b_tuple bb_tuple))) (R.wor1 (R.tcmp R.lt (R.callB (R.klenL (K := K)) rfl T.b_len bb_len (R.cons (R.v 0) R.nil)) R.int))))
      (R.sone (R.ret R.bl))
      R.snil)
      (R.sone (R.ret (R.and (R.fn c_fits_word hr_fits_word rfl (R.cons (R.ix (R.kiT (K := K)) (R.v 0) R.int) (R.cons (R.sl R.sT (R.v 0) (R.ps R.int) (R.ps (R.neg R.int))) R.nil))) (R.one (R.fn c_is_whole hr_is_whole rfl (R.cons (R.ix (R.kiT (K := K)) (R.v 0) (R.neg R.int)) (R.cons R.int (R.cons (R.gI rfl T.g_MOST) R.nil))))))))), ?_⟩
    have h := q H (Same.refl H)
    refine ⟨k, hk, ?_⟩
    cases x with
    | ref a =>
      cases k <;> first | exact hk.elim | skip
      case tup =>
        obtain ⟨xs, hx⟩ := hk
        have hpx := hp a xs rfl hx
        have hlx := hlen a xs rfl hx
        have eV : deedV H (.ref a) = deedB xs := by unfold deedV; simp only [hx]
        refine ⟨xs, .inr (SqT.of hx), ?_⟩
        refine if_b (fun h1 => ?_) (fun h1 => ?_)
        · have h1' : ((xs.length : Int) < 3) := of_decide_eq_true h1
          have e1 : deedB xs = false := by
            unfold deedB
            rw [decide_eq_false (by omega)]; rfl
          rw [eV, e1] at h
          exact h
        · have h1' : ¬ ((xs.length : Int) < 3) := of_decide_eq_false h1
          have h3 : 3 ≤ xs.length := by omega
          obtain ⟨y0, hy0, m0⟩ := atI_some (xs := xs) (i := 0) (by decide) (by omega)
          refine ⟨xs, SqT.of hx, y0, hy0, xs, hx, fun p H1 s1 g1 => ?_⟩
          refine ⟨y0, p, _, rfl, (hpx y0 m0).same s1, g1, ?_, fun y hy => (hpx y (mid_mem h3 hy)).same s1, fun H2 s2 => ?_⟩
          · have := mid_len h3
            unfold midV at this
            omega
          have e2 : deedB xs = (fitsB y0 (midV xs) && numV 1 1000000000000 ((atI xs (-1)).getD .non)) := by
            unfold deedB
            rw [decide_eq_true h3, hy0]; rfl
          have hs := s1.trans s2
          have h5 := q H2 hs
          show if fitsB y0 (midV xs) = true then _ else _
          cases e3 : fitsB y0 (midV xs) with
          | false =>
            rw [eV, e2, e3] at h5
            exact h5
          | true =>
            rw [eV, e2, e3] at h5
            obtain ⟨yl, hyl, ml⟩ : ∃ v, atI xs (-1) = some v ∧ v ∈ xs := by
              have hj : xs.length - 1 < xs.length := by omega
              refine ⟨xs[xs.length - 1], ?_, List.getElem_mem hj⟩
              unfold atI ixN
              rw [if_neg (by decide), if_pos (by omega)]
              have : ((-1 : Int) + (xs.length : Int)).toNat = xs.length - 1 := by omega
              simp [this, hj]
            refine ⟨xs, SqT.of (hs _ _ hx), yl, hyl, ?_⟩
            refine ⟨yl, 1, 1000000000000, rfl, (hpx yl ml).same hs, fun H3 s3 => ?_⟩
            have h6 := q H3 (hs.trans s3)
            rw [eV, e2, e3, hyl] at h6
            exact h6
      all_goals
        have e1 : deedV H (.ref a) = false := by
          unfold deedV
          first
            | (rcases hk with ⟨xs, e⟩ | ⟨o, xs, e⟩ <;> simp only [e])
            | (obtain ⟨kvs, e⟩ := hk; simp only [e])
        rw [e1] at h
        exact h
    | _ => cases k <;> first | exact hk.elim | exact h
theorem ok_deed (T : Txt K mg) (c__law_draw : Callee P w K mg base 2 "_law_draw" ["_law_deck_here", "_law_most"] spDraw) (D : DefAt K mg "_law_deed" s_law_deed ["_law_deck_here", "_law_names_here", "_law_n"]) : Callee P w K mg base 3 "_law_deed" ["_law_deck_here", "_law_names_here", "_law_n"] spDeed := by
  refine D.go sc_law_deed (fun vs H Q E h => ?_) (fun f cdv A outer s H vs Q E hr h => ?_)
  · obtain ⟨d, b, l, z0, z1, z2, n, rfl, _⟩ := h; rfl
  · obtain ⟨d, b, l, z0, z1, z2, n, rfl, dk, hld, hl, n0, n1, n2, hne, hn1, hn2, q⟩ := h
    have hr__law_draw := hr
    refine ⟨_, (R.scons (R.set (i := 3) sc_law_deed.nd (R.ix (R.kiL (K := K)) (R.lst (R.cons R.str (R.cons R.str (R.cons R.str (R.cons R.str (R.cons R.str (R.cons R.str R.nil))))))) (R.fn c__law_draw hr__law_draw rfl (R.cons (R.v 0) (R.cons R.int R.nil)))))
      (R.scons (R.ife (R.tcmp (R.kinQ (K := K)) (R.v 3) (R.tup (R.cons R.str (R.cons R.str R.nil))))
      (R.sone (R.ret (R.tup (R.cons (R.v 3) (R.cons (R.ix (R.kiL (K := K)) (R.v 1) R.int) (R.cons (R.v 2) R.nil))))))
      R.snil)
      (R.scons (R.ife (R.tcmp R.eq (R.v 3) R.str)
      (R.sone (R.ret (R.tup (R.cons (R.v 3) (R.cons (R.ix (R.kiL (K := K)) (R.v 1) R.int) (R.cons (R.ix (R.kiL (K := K)) (R.v 1) R.int) (R.cons (R.ix (R.kiL (K := K)) (R.v 1) R.int) (R.cons (R.v 2) R.nil))))))))
      R.snil)
      (R.sone (R.ret (R.tup (R.cons (R.v 3) (R.cons (R.ix (R.kiL (K := K)) (R.v 1) R.int) (R.cons (R.ix (R.kiL (K := K)) (R.v 1) R.int) (R.cons (R.v 2) R.nil)))))))))), ?_⟩
    refine ⟨szl rfl, fun p hp => ⟨d, b, 6, rfl, dk.new hp, by decide, by decide, fun r H2 b0 b1 D2 k2 => ⟨_, SqL.of (k2 p _ upd_same (dk.ne hp).1 (dk.ne hp).2), ?_⟩⟩⟩
    have kp : Kp d b H H2 := (Kp.new hp).trans k2
    have hl2 := kp l _ hl hld.1 hld.2
    have nf : ∀ p', H2 p' = none → H p' = none ∨ p' = d ∨ p' = b := fun p' h' => by
      cases e : H p' with
      | none => exact .inl rfl
      | some o =>
        by_cases h1 : p' = d
        · exact .inr (.inl h1)
        · by_cases h2 : p' = b
          · exact .inr (.inr h2)
          · have := kp p' o e h1 h2
            rw [h'] at this; cases this
    have nf' : ∀ p', H2 p' = none → H p' = none := fun p' h' => by
      rcases nf p' h' with h | h | h
      · exact h
      · exact absurd h (D2.ne h').1
      · exact absurd h (D2.ne h').2
    have sl : ∀ {p' : Addr} {o : HO}, H2 p' = none → SqL K (upd H2 p' o) l [.str z0, .str z1, .str z2] := fun h' => SqL.of (same_upd h' _ _ hl2)
    have fin : ∀ (p' : Addr) (xs : List V) (H3 : Hp), Same H2 H3 → H3 p' = none → DeedIs xs → Q (.ref p') (upd H3 p' (.tup xs)) := fun p' xs H3 s3 h' dx => by
      refine q p' xs _ dx (nf' p' ?_) upd_same ((D2.same s3).new h') ((kp.trans s3.kp).trans (.new h'))
      cases e : H2 p' with
      | none => rfl
      | some o => have := s3 _ _ e; rw [h'] at this; cases this
    rcases six b0 b1 with rfl | rfl | rfl | rfl | rfl | rfl
    all_goals refine ⟨_, rfl, szl rfl, fun pt hpt => ⟨pt, _, rfl, .inr (SqT.of upd_same), rfl, rfl, ?_⟩⟩
    · exact ⟨_, sl hpt, _, rfl, szl rfl, fun p' hp' => fin p' _ _ (same_upd hpt) hp' (.one _ _ _ (.inl rfl) n0 hn1 hn2)⟩
    · exact ⟨_, sl hpt, _, rfl, szl rfl, fun p' hp' => fin p' _ _ (same_upd hpt) hp' (.one _ _ _ (.inr rfl) n0 hn1 hn2)⟩
    · exact ⟨_, sl hpt, _, rfl, _, sl hpt, _, rfl, szl rfl, fun p' hp' => fin p' _ _ (same_upd hpt) hp' (.two _ _ _ _ (.inl rfl) n1 n2 hne hn1 hn2)⟩
    · exact ⟨_, sl hpt, _, rfl, _, sl hpt, _, rfl, szl rfl, fun p' hp' => fin p' _ _ (same_upd hpt) hp' (.two _ _ _ _ (.inr (.inl rfl)) n1 n2 hne hn1 hn2)⟩
    · exact ⟨_, sl hpt, _, rfl, _, sl hpt, _, rfl, szl rfl, fun p' hp' => fin p' _ _ (same_upd hpt) hp' (.two _ _ _ _ (.inr (.inr rfl)) n1 n2 hne hn1 hn2)⟩
    · exact ⟨_, sl hpt, _, rfl, _, sl hpt, _, rfl, _, sl hpt, _, rfl, szl rfl, fun p' hp' => fin p' _ _ (same_upd hpt) hp' (.three _ _ _ _ n1 n2 n0 hne hn1 hn2)⟩
theorem zero_eq : ("0" : Str) = tx [48] := by decide +kernel
theorem ok_number (T : Txt K mg) (c_is_made_of : Callee P w K mg base 1 "is_made_of" ["thing", "signs", "longest"] spMade) (D : DefAt K mg "number_of" s_number_of ["text"]) : Callee P w K mg base 2 "number_of" ["text"] spNum := by
  refine D.go sc_number_of (fun vs H Q E h => ?_) (fun f cdv A outer s H vs Q E hr h => ?_)
  · obtain ⟨z, rfl, _⟩ := h; rfl
  · obtain ⟨z, rfl, hz, q⟩ := h
    have hr_is_made_of := hr
    refine ⟨_, (R.scons (R.ife (R.tnot (R.val (R.fn c_is_made_of hr_is_made_of rfl (R.cons (R.v 0) (R.cons (R.gS rfl T.g_FIGURES) (R.cons (R.gI rfl T.g_LONGEST_NUMBER) R.nil))))))
      (R.sone (R.ret R.non))
      R.snil)
      (R.scons (R.ife (R.tw (R.wand (R.tcmp R.eq (R.ix R.iS (R.v 0) R.int) R.str) (R.wand1 (R.tcmp R.ne (R.v 0) R.str))))
      (R.sone (R.ret R.non))
      R.snil)
      (R.sone (R.ret (R.callTy R.intS rfl T.b_int bb_int (R.cons (R.v 0) R.nil)))))), ?_⟩
    refine ⟨.str z, _, 13, .str, rfl, trivial, fun y e => by injection e with e; subst e; exact hz, fun H1 s1 => ?_⟩
    rw [fig_eq]
    have hq := q H1 s1
    refine if_b (fun hm => ?_) (fun hm => ?_)
    · have hm' : madeOf (.str z) FIG 13 = false := by simpa using hm
      have e : numOf z = none := by unfold numOf; rw [if_neg (by rw [hm']; exact Bool.false_ne_true)]
      rw [e] at hq
      exact hq
    · have hm' : madeOf (.str z) FIG 13 = true := by simpa using hm
      have hm2 := hm'
      rw [madeOf_str, Bool.and_eq_true, Bool.and_eq_true] at hm2
      obtain ⟨⟨h1, h2⟩, h3⟩ := hm2
      have h1' : 1 ≤ (z.length : Int) := of_decide_eq_true h1
      have h2' : (z.length : Int) ≤ 13 := of_decide_eq_true h2
      have hl : z.cps.toList.length = z.length := by simp [Str.length]
      obtain ⟨c, r, hcr⟩ : ∃ c r, z.cps.toList = c :: r := by
        cases e : z.cps.toList with
        | nil => rw [e] at hl; simp at hl; omega
        | cons c r => exact ⟨c, r, rfl⟩
      have fin : ¬ (z.cps.toList.head? = some 48 ∧ z ≠ tx [48]) → NumText.AllDigits z.cps.toList ∧ z.cps.toList ≠ [] ∧ z.length ≤ 640 ∧ Q (.int (NumText.digitsVal z.cps.toList : Nat)) H1 := fun hn => by
        have e : numOf z = some (NumText.digitsVal z.cps.toList) := by unfold numOf; rw [if_pos hm', if_neg hn]
        rw [e] at hq
        exact ⟨figs_all h3, by rw [hcr]; simp, by omega, hq⟩
      refine ⟨szl' (by omega), c, by rw [hcr]; exact atI_nat (j := 0) rfl, ?_⟩
      refine if_b (fun hc => ?_) (fun hc => ?_)
      · refine if_b (fun hn => ?_) (fun hn => ?_)
        · have hc' : tx [c] = ("0" : Str) := of_decide_eq_true hc
          rw [zero_eq, tx_inj] at hc'
          have hn' : ¬ z = ("0" : Str) := by simpa using hn
          rw [zero_eq] at hn'
          have e : numOf z = none := by
            unfold numOf
            rw [if_pos hm', if_pos]
            exact ⟨by rw [hcr]; injection hc' with hc'; rw [hc']; rfl, hn'⟩
          rw [e] at hq
          exact hq
        · have hn' : z = ("0" : Str) := by simpa using hn
          rw [zero_eq] at hn'
          exact fin fun ⟨_, h⟩ => h hn'
      · have hc' : ¬ tx [c] = ("0" : Str) := of_decide_eq_false hc
        rw [zero_eq, tx_inj] at hc'
        refine fin fun ⟨h, _⟩ => hc' ?_
        rw [hcr] at h
        have : c = 48 := by simpa using h
        rw [this]
theorem Callee.no {x : Str} {st : Stmt} {N ps : List Str} {k : Nat} (D : DefAt K mg x st ps) (S : FnScope N ps (defScope st)) : Callee P w K mg base (k + 1) x ps (fun _ _ _ _ => False) :=
  D.go S (fun _ _ _ _ h => h.elim) (fun _ _ _ _ _ _ _ _ _ _ h => h.elim)
theorem ok_parts (T : Txt K mg) (D : DefAt K mg "shown_parts" s_shown_parts ["parts"]) : Callee P w K mg base 2 "shown_parts" ["parts"] spShown := by
  have c_shown_parts : Callee P w K mg base 1 "shown_parts" ["parts"] (fun _ _ _ _ => False) := Callee.no D sc_shown_parts
  refine D.go sc_shown_parts (fun vs H Q E h => ?_) (fun f cdv A outer s H vs Q E hr h => ?_)
  · obtain ⟨p, xs, rfl, _⟩ := h; rfl
  · obtain ⟨p, xs, rfl, hp, dx, q⟩ := h
    have hr_shown_parts : Room 1 _ := hr.mono (by decide)
    refine ⟨_, (R.sone (R.ret (R.kbm (K := K) PySem.F.plainAttrs_str PySem.F.slot_str_join PySem.F.type_str_join (R.kjoin (K := K)) R.str (R.cons (R.comp rfl (js := [none]) (N := ["part"]) (CompScope.by (defScope s_shown_parts) ["parts"] rfl rfl (by decide +kernel)) (gown_name rfl) (R.kwT (K := K) (R.v 0)) (fun C s₂ H₂ fp => ⟨(R.gn (i := 0) (show (["part"] : List Str).Nodup by decide +kernel)), R.ts0, (R.ifx (R.val (R.isi .tup (R.v 0) rfl T.b_isinstance rfl T.b_tuple bb_tuple)) (R.fn c_shown_parts hr_shown_parts rfl (R.cons (R.v 0) R.nil)) (R.callTy R.toStr rfl T.b_str bb_str (R.cons (R.v 0) R.nil)))⟩)) R.nil)))), ?_⟩
    obtain ⟨ns, m, S⟩ := dx.shape
    have hlx : xs.length ≤ 5 := dx.flat.1.2
    refine ⟨rfl, p, rfl, ⟨_, SqT.of hp⟩, ?_⟩
    have fl : ∀ y ∈ xs, (∃ z, y = .str z ∧ z.length ≤ 8) ∨ ∃ m : Nat, y = .int (m : Int) ∧ m ≤ 1000000000000 := fun y hy => by
      rw [S.eq] at hy
      rcases List.mem_append.mp hy with h | h
      · obtain ⟨z, hz, rfl⟩ := List.mem_map.mp h
        exact .inl ⟨z, rfl, S.len z hz⟩
      · exact .inr ⟨m, List.mem_singleton.mp h, S.most⟩
    refine comp_seq (seq_tup K p xs) (by omega) (fun j ys H' => ys = ((xs.take j).map txtV).map V.str ∧ H' = H) (fun j ys H' ⟨e, e2⟩ => ⟨by rw [e2]; exact SqT.of hp, by rw [e, List.length_map, List.length_map, List.length_take]; omega⟩) ⟨rfl, rfl⟩ (fun j y ys H' hy ⟨e, e2⟩ => ?_) (fun ys H' ⟨e, e2⟩ => ?_)
    · subst e2
      have key : ((xs.take (j + 1)).map txtV).map V.str = ys ++ [.str (txtV y)] := by rw [List.take_add_one, hy, List.map_append, List.map_append, e]; rfl
      rcases fl y (List.mem_of_getElem? hy) with ⟨z, rfl, _⟩ | ⟨m', rfl, hm'⟩
      · refine ⟨.str, trivial, ?_⟩
        exact ⟨key.symm, rfl⟩
      · refine ⟨.int, trivial, ?_⟩
        exact ⟨⟨by omega, Int.lt_of_le_of_lt (b := 1000000000000) (by omega) (by decide)⟩, key.symm, rfl⟩
    · subst e2
      rw [List.take_of_length_le (Nat.le_refl _)] at e
      intro l hl
      refine ⟨_, l, xs.map txtV, rfl, rfl, SqL.of (by rw [upd_same, e]), ?_, ?_⟩
      · have e1 : ∀ ys : List V, (∀ y ∈ ys, (txtV y).length ≤ 13) → ((ys.map txtV).map (·.length)).sum ≤ 13 * ys.length := by
          intro ys
          induction ys with
          | nil => intro _; exact Nat.le_refl _
          | cons y r ih =>
            intro h
            have h1 := h y List.mem_cons_self
            have h2 := ih fun z m => h z (List.mem_cons_of_mem _ m)
            rw [List.map_cons, List.map_cons, List.sum_cons, List.length_cons]
            omega
        have := e1 xs fun y hy => by
          rcases fl y hy with ⟨z, rfl, hz⟩ | ⟨m', rfl, hm'⟩
          · exact Nat.le_trans hz (by decide)
          · exact numS_le (k := 12) (Nat.lt_of_le_of_lt hm' (by decide))
        have e3 : (" " : Str).length = 1 := by decide +kernel
        rw [e3, List.length_map]
        omega
      · have h := q (upd H' l (.lst ys)) (same_upd hl)
        unfold txtOf at h
        rw [← blank_eq] at h
        exact h
theorem ok_shown (T : Txt K mg) (c_shown_parts : Callee P w K mg base 2 "shown_parts" ["parts"] spShown) (D : DefAt K mg "shown_deed" s_shown_deed ["deed"]) : Callee P w K mg base 3 "shown_deed" ["deed"] spShown := by
  refine D.go sc_shown_deed (fun vs H Q E h => ?_) (fun f cdv A outer s H vs Q E hr h => ?_)
  · obtain ⟨p, xs, rfl, _⟩ := h; rfl
  · obtain ⟨p, xs, rfl, hp, dx, q⟩ := h
    have hr_shown_parts : Room 2 _ := hr.mono (by decide)
    refine ⟨_, (R.sone (R.ret (R.fn c_shown_parts hr_shown_parts rfl (R.cons (R.v 0) R.nil)))), ?_⟩
    exact ⟨p, xs, rfl, hp, dx, q⟩
theorem ok_ltext (T : Txt K mg) (D : DefAt K mg "_law_text" s_law_text ["_law_deed_here"]) : Callee P w K mg base 1 "_law_text" ["_law_deed_here"] spShown := by
  refine D.go sc_law_text (fun vs H Q E h => ?_) (fun f cdv A outer s H vs Q E hr h => ?_)
  · obtain ⟨p, xs, rfl, _⟩ := h; rfl
  · obtain ⟨p, xs, rfl, hp, dx, q⟩ := h
    refine ⟨_, (R.scons (R.set (i := 1) sc_law_text.nd R.str)
      (R.scons (R.for_ PassesOwn.never rfl (R.kwT (K := K) (R.sl R.sT (R.v 0) R.pn (R.ps (R.neg R.int)))) (R.gn (i := 2) sc_law_text.nd)
      (R.sone (R.set (i := 1) sc_law_text.nd (R.op R.addS (R.op R.addS (R.v 1) (R.v 2)) R.str))))
      (R.scons (R.set (i := 3) sc_law_text.nd (R.ix (R.kiT (K := K)) (R.v 0) (R.neg R.int)))
      (R.scons (R.set (i := 4) sc_law_text.nd R.str)
      (R.scons (R.while_ PassesOwn.never (R.tcmp R.gt (R.v 3) R.int)
      (R.scons (R.set (i := 4) sc_law_text.nd (R.op R.addS (R.ix R.iS R.str (R.op R.mod (R.v 3) R.int)) (R.v 4)))
      (R.sone (R.set (i := 3) sc_law_text.nd (R.op R.fdiv (R.v 3) R.int)))))
      (R.sone (R.ret (R.op R.addS (R.v 1) (R.v 4))))))))), ?_⟩
    obtain ⟨ns, m, S⟩ := dx.shape
    refine ⟨xs, hp, fun p1 H1 s1 g1 => ⟨p1, rfl, ⟨_, SqT.of g1⟩, ?_⟩⟩
    have ec : cut xs none (some (-1)) = ns.map V.str := by rw [S.eq]; exact cut_init _ _
    rw [ec] at g1
    refine for_seq (seq_tup K p1 (ns.map V.str)) (fun i σ H' => ∃ o, σ = [some (.ref p), some (.str (tx (pre (ns.take i)))), o, none, none] ∧ H' = H1) (fun i σ H' ⟨_, _, e⟩ => by rw [e]; exact SqT.of g1) ⟨_, by rw [show tx (pre (ns.take 0)) = ("" : Str) from emp_eq.symm]; rfl, rfl⟩ ?_ ?_
    · rintro i x σ H' hx ⟨o, rfl, rfl⟩
      rw [List.getElem?_map] at hx
      cases hc : ns[i]? with
      | none => rw [hc] at hx; cases hx
      | some z =>
        rw [hc] at hx
        cases hx
        have mz : z ∈ ns := List.mem_of_getElem? hc
        have hz := S.len z mz
        have hpl := pre_len (ns.take i) fun y hy => S.len y (List.mem_of_mem_take hy)
        have hti : (ns.take i).length ≤ 4 := Nat.le_trans (by rw [List.length_take]; exact Nat.min_le_right _ _) S.four
        have ez : z.cps.toList.length = z.length := by simp [Str.length]
        have eb : (" " : Str).length = 1 := by decide +kernel
        refine ⟨szl' (by rw [tx_len]; omega), szl' (by rw [tx_of z, tx_app, tx_len, List.length_append, eb]; omega), ?_⟩
        refine ⟨some (.str z), ?_, rfl⟩
        have : tx (pre (ns.take i)) ++ z ++ (" " : Str) = tx (pre (ns.take (i + 1))) := by
          rw [List.take_add_one, hc]
          show _ = tx (pre (ns.take i ++ [z]))
          rw [pre_snoc, blank_eq, tx_of z, tx_app, tx_app, tx_cps]
        rw [this]
        rfl
    · rintro σ H' ⟨o, rfl, rfl⟩
      rw [List.length_map, List.take_of_length_le (Nat.le_refl _)]
      have el : atI xs (-1) = some (.int (m : Int)) := by rw [S.eq]; exact atI_last _ _
      refine ⟨xs, SqT.of (s1 _ _ hp), _, el, ?_⟩
      have hnum := S.num
      have en : (numS m).cps.toList.length = (numS m).length := by simp [Str.length]
      have fin : ∀ H', Same H H' → Q (.str (tx (pre ns) ++ tx (numS m).cps.toList)) H' := fun H' s' => by
        have := q H' s'
        rw [S.txt, ← tx_app] at this
        exact this
      have hpl := pre_len ns S.len
      have h4 := S.four
      show tWhile _ _ _ _ _
      refine ⟨fun k σ H5 => ∃ cs : List Nat, σ = [some (.ref p), some (.str (tx (pre ns))), o, some (.int (k : Int)), some (.str (tx cs))] ∧ H5 = H' ∧ k ≤ 1000000000000 ∧ (k = 0 → cs = (numS m).cps.toList) ∧ (0 < k → (numS k).cps.toList ++ cs = (numS m).cps.toList), ⟨m, [], by rw [← emp_eq]; rfl, rfl, S.most, fun e => absurd S.pos (by omega), fun _ => List.append_nil _⟩, ?_⟩
      rintro k σ H5 ⟨cs, rfl, rfl, hk, h0, h1⟩
      show if decide ((0 : Int) < (k : Int)) = true then _ else _
      refine if_b (fun hb => ?_) (fun hb => ?_)
      · have hk0 : 0 < k := by have := of_decide_eq_true hb; omega
        have hcs : cs.length ≤ 13 := by
          have := congrArg List.length (h1 hk0)
          rw [List.length_append, en] at this
          omega
        refine ⟨_, fun σ' H' h => h, ?_⟩
        refine ⟨(show (0 : Int) < 10 by decide), by decide +kernel, 48 + k % 10, ?_, szl' (by rw [tx_len, tx_len]; simp; omega), ⟨by decide, by decide⟩, ?_⟩
        · have e : ((k : Int) % 10) = ((k % 10 : Nat) : Int) := by omega
          rw [e]
          exact fig_at (Nat.mod_lt k (by decide))
        · refine ⟨k / 10, by omega, [48 + k % 10] ++ cs, ?_, rfl, by omega, fun e => ?_, fun e => ?_⟩
          · rw [tx_app]
            have : ((k : Int) / 10) = ((k / 10 : Nat) : Int) := by omega
            dsimp only
            rw [this]
            rfl
          · have hk10 : k < 10 := by omega
            have := h1 hk0
            rw [numS_small hk0 hk10] at this
            have ek : k % 10 = k := Nat.mod_eq_of_lt hk10
            rw [ek]; exact this
          · have hk10 : 10 ≤ k := by omega
            have := h1 hk0
            rw [numS_big hk10] at this
            rw [← this]; simp
      · have hk0 : k = 0 := by have := of_decide_eq_false hb; omega
        subst hk0
        have := h0 rfl
        subst this
        refine ⟨szl' (by rw [tx_len, tx_len, en]; omega), fin H5 s1⟩
end
end KL

namespace KL
open PySem L2
section
variable {P : Program} {w : World} {K : PySem.W.Frag} {mg : Str → Option Value} {base : Heap}
theorem ok_read_deed (T : Txt K mg) (c_number_of : Callee P w K mg base 2 "number_of" ["text"] spNum) (c_is_deed : Callee P w K mg base 4 "is_deed" ["thing"] spIsDeed) (D : DefAt K mg "read_deed" s_read_deed ["text"]) : Callee P w K mg base 5 "read_deed" ["text"] spReadOk := by
  refine D.go sc_read_deed (fun vs H Q E h => ?_) (fun f cdv A outer s H vs Q E hr h => ?_)
  · obtain ⟨z, rfl, _⟩ := h; rfl
  · obtain ⟨z, rfl, hz, hd, q⟩ := h
    have hr_number_of : Room 2 _ := hr.mono (by decide)
    have hr_is_deed := hr
    refine ⟨_, (R.scons (R.set (i := 1) sc_read_deed.nd (R.kbm (K := K) PySem.F.plainAttrs_str PySem.F.slot_str_split PySem.F.type_str_split R.split (R.v 0) (R.cons R.str R.nil)))
      (R.scons (R.set (i := 2) sc_read_deed.nd (R.callTy (R.ktoTup (K := K)) rfl T.b_tuple bb_tuple (R.cons (R.op R.cat (R.sl (R.ksL (K := K)) (R.v 1) R.pn (R.ps (R.neg R.int))) (R.lst (R.cons (R.fn c_number_of hr_number_of rfl (R.cons (R.ix (R.kiL (K := K)) (R.v 1) (R.neg R.int)) R.nil)) R.nil))) R.nil)))
      (R.scons (R.ife (R.tnot (R.val (R.fn c_is_deed hr_is_deed rfl (R.cons (R.v 2) R.nil))))
      (R.sone R.never)
      R.snil)
      (R.sone (R.ret (R.v 2)))))), ?_⟩
    refine ⟨rfl, by decide +kernel, by omega, fun l hl => ?_⟩
    rw [blank_eq]
    obtain ⟨ws, lw, hws⟩ : ∃ ws lw, Txt.split z (tx [32]) = ws ++ [lw] := by
      have h1 := PyProof.Rows.split_pos z (tx [32])
      have h2 : Txt.split z (tx [32]) ≠ [] := fun e => by rw [e] at h1; exact absurd h1 (by decide)
      exact ⟨_, _, (List.dropLast_concat_getLast h2).symm⟩
    have short : ∀ y ∈ ws ++ [lw], y.length ≤ 900 := fun y hy => Nat.le_trans (PyProof.Rows.part_short (by rw [hws]; exact hy)) hz
    have hn := PyProof.Rows.split_le z (tx [32])
    rw [hws] at hn
    have hn' : ws.length + 1 ≤ z.length + 2 := by simpa using hn
    have er : readV z = ws.map V.str ++ [optV (numOf lw)] := by
      unfold readV
      rw [hws, List.map_append]
      show cut (ws.map V.str ++ [.str lw]) none (some (-1)) ++ [optV (numOf (txtV ((atI (ws.map V.str ++ [.str lw]) (-1)).getD .non)))] = _
      rw [cut_init, atI_last]; rfl
    have em : (ws ++ [lw]).map V.str = ws.map V.str ++ [.str lw] := by rw [List.map_append]; rfl
    rw [hws, em]
    rw [er] at q hd
    have s1 : Same H (upd H l (.lst (ws.map V.str ++ [.str lw]))) := same_upd hl
    have g1 : upd H l (.lst (ws.map V.str ++ [.str lw])) l = some (.lst (ws.map V.str ++ [.str lw])) := upd_same
    dsimp only [gName]
    generalize upd H l (.lst (ws.map V.str ++ [.str lw])) = H1 at s1 g1
    refine ⟨_, SqL.of g1, fun p2 h2 => ?_⟩
    rw [cut_init]
    have s2 := same_upd (o := .lst (ws.map V.str)) h2
    have g2 : upd H1 p2 (.lst (ws.map V.str)) p2 = some (.lst (ws.map V.str)) := upd_same
    dsimp only
    generalize upd H1 p2 (.lst (ws.map V.str)) = H2 at s2 g2
    refine ⟨_, SqL.of (s2 _ _ g1), _, atI_last _ _, ⟨lw, rfl, Nat.le_trans (short lw (by simp)) (by decide), fun H3 s3 => ?_⟩⟩
    refine ⟨szl rfl, fun p4 h4 => ⟨_, _, same_upd h4 _ _ (s3 _ _ g2), upd_same, ?_, fun p5 h5 => ⟨_, SqL.of upd_same, fun p6 h6 => ?_⟩⟩⟩
    · rw [List.length_map]
      refine szl' ?_
      simp
      omega
    have s6 : Same H3 (upd (upd (upd H3 p4 (.lst [optV (numOf lw)])) p5 (.lst (ws.map V.str ++ [optV (numOf lw)]))) p6 (.tup (ws.map V.str ++ [optV (numOf lw)]))) := ((same_upd h4).trans (same_upd h5)).trans (same_upd h6)
    have g6 : upd (upd (upd H3 p4 (.lst [optV (numOf lw)])) p5 (.lst (ws.map V.str ++ [optV (numOf lw)]))) p6 (.tup (ws.map V.str ++ [optV (numOf lw)])) p6 = some (.tup (ws.map V.str ++ [optV (numOf lw)])) := upd_same
    dsimp only [gName]
    generalize upd (upd (upd H3 p4 (.lst [optV (numOf lw)])) p5 (.lst (ws.map V.str ++ [optV (numOf lw)]))) p6 (.tup (ws.map V.str ++ [optV (numOf lw)])) = H6 at s6 g6
    have sA := ((s1.trans s2).trans s3).trans s6
    have eV : deedV H6 (.ref p6) = true := by unfold deedV; simp only [g6]; exact hd
    refine ⟨.ref p6, rfl, ⟨⟨.tup, ⟨_, g6⟩, fun _ e => nomatch e⟩, fun a xs e g y hy => ?_⟩, fun a xs e g => ?_, fun H7 s7 => ?_⟩
    · injection e with e
      rw [← e, g6] at g
      cases g
      rcases List.mem_append.mp hy with m | m
      · obtain ⟨w', hw, rfl⟩ := List.mem_map.mp m
        exact ⟨.str, trivial, fun z' e => by injection e with e; rw [← e]; exact Nat.le_trans (short w' (List.mem_append_left _ hw)) (by decide)⟩
      · rw [List.mem_singleton.mp m]
        cases numOf lw with
        | none => exact ⟨.non, trivial, fun _ e => nomatch e⟩
        | some k => exact ⟨.int, trivial, fun _ e => nomatch e⟩
    · injection e with e
      rw [← e, g6] at g
      cases g
      simp
      omega
    · rw [eV]
      exact q p6 H7 (sA.trans s7) (s7 _ _ g6)
theorem flatRep {H : Hp} : ∀ {xs : List V}, (∀ y ∈ xs, FlatX y) → Paired (Rep H 0) (xs.map TV.sc) xs
  | [], _ => .nil
  | x :: xs, h => .cons (by
      rcases h x List.mem_cons_self with ⟨z, rfl, _⟩ | ⟨n, rfl⟩
      · exact ⟨rfl, rfl⟩
      · exact ⟨rfl, rfl⟩) (flatRep fun y hy => h y (List.mem_cons_of_mem _ hy))
theorem ok_right (T : Txt K mg) (c_shown_deed : Callee P w K mg base 3 "shown_deed" ["deed"] spShown) (c__law_text : Callee P w K mg base 1 "_law_text" ["_law_deed_here"] spShown) (c_read_deed : Callee P w K mg base 5 "read_deed" ["text"] spReadOk) (D : DefAt K mg "_law_right" s_law_right ["_law_deed_here"]) : Callee P w K mg base 6 "_law_right" ["_law_deed_here"] spTrue := by
  refine D.go sc_law_right (fun vs H Q E h => ?_) (fun f cdv A outer s H vs Q E hr h => ?_)
  · obtain ⟨p, xs, rfl, _⟩ := h; rfl
  · obtain ⟨p, xs, rfl, hp, dx, q⟩ := h
    have hr_shown_deed : Room 3 _ := hr.mono (by decide)
    have hr__law_text : Room 1 _ := hr.mono (by decide)
    have hr_read_deed := hr
    have hu := hr.units0
    have hu64 := hr.units
    refine ⟨_, (R.scons (R.set (i := 1) sc_law_right.nd (R.fn c_shown_deed hr_shown_deed rfl (R.cons (R.v 0) R.nil)))
      (R.scons (R.ife (R.tw (R.wor (R.tnot (R.val (R.isi .str (R.v 1) rfl T.b_isinstance rfl T.b_str bb_str))) (R.wor1 (R.tcmp R.ne (R.v 1) (R.fn c__law_text hr__law_text rfl (R.cons (R.v 0) R.nil))))))
      (R.sone (R.ret R.bl))
      R.snil)
      (R.scons (R.set (i := 2) sc_law_right.nd (R.fn c_read_deed hr_read_deed rfl (R.cons (R.v 1) R.nil)))
      (R.scons (R.ife (R.tw (R.wor (R.tnot (R.val (R.isi .tup (R.v 2) rfl T.b_isinstance rfl T.b_tuple bb_tuple))) (R.wor (R.tcmp (R.neD hu64) (R.v 2) (R.v 0)) (R.wor1 (R.val (R.isi .bl (R.ix (R.kiT (K := K)) (R.v 2) (R.neg R.int)) rfl T.b_isinstance rfl T.b_bool bb_bool))))))
      (R.sone (R.ret R.bl))
      R.snil)
      (R.sone (R.ret (R.cmp (R.keqNil (K := K) hu) (R.comp rfl (js := [none]) (N := ["_law_part"]) (CompScope.by (defScope s_law_right) ["_law_deed_here", "_law_text_here", "_law_found"] rfl rfl (by decide +kernel)) (gown_name rfl) (R.kwT (K := K) (R.sl R.sT (R.v 2) R.pn (R.ps (R.neg R.int)))) (fun C s₂ H₂ fp => ⟨(R.gn (i := 0) (show (["_law_part"] : List Str).Nodup by decide +kernel)), (R.ts1 (R.tnot (R.val (R.isi .str (R.v 0) rfl T.b_isinstance rfl T.b_str bb_str)))), (R.v 0)⟩)) (R.lst R.nil)))))))), ?_⟩
    obtain ⟨ns, m, S⟩ := dx.shape
    have hR := S.read
    refine ⟨p, xs, rfl, hp, dx, fun H1 s1 => ⟨.str, trivial, p, xs, rfl, s1 _ _ hp, dx, fun H2 s2 => ?_⟩⟩
    refine if_f (by simp) ?_
    have s12 := s1.trans s2
    refine ⟨txtOf xs, rfl, Nat.le_trans S.txt_len (by decide), by rw [hR]; exact dx.ok, fun p3 H3 s3 g3 => ?_⟩
    rw [hR] at g3
    have s13 := s12.trans s3
    have el : atI xs (-1) = some (.int (m : Int)) := by rw [S.eq]; exact atI_last _ _
    refine ⟨.tup, ⟨_, g3⟩, 1, .tp (xs.map TV.sc), by decide, ⟨p3, xs, rfl, g3, flatRep dx.flat.2⟩, ⟨p, xs, rfl, s13 _ _ hp, flatRep dx.flat.2⟩, xs, SqT.of g3, _, el, .int, trivial, ?_⟩
    refine ⟨xs, g3, fun p4 H4 s4 g4 => ⟨p4, rfl, ⟨_, SqT.of g4⟩, ?_⟩⟩
    have ec : cut xs none (some (-1)) = ns.map V.str := by rw [S.eq]; exact cut_init _ _
    rw [ec] at g4
    refine comp_seq (seq_tup K p4 (ns.map V.str)) (by rw [List.length_map]; have := S.four; omega) (fun j ys H' => ys = [] ∧ H' = H4) (fun j ys H' ⟨e, e2⟩ => ⟨by rw [e2]; exact SqT.of g4, by rw [e]; exact Nat.zero_le _⟩) ⟨rfl, rfl⟩ (fun j y ys H' hy ⟨e, e2⟩ => ?_) (fun ys H' ⟨e, e2⟩ => ?_)
    · obtain ⟨z, hz, rfl⟩ := List.mem_map.mp (List.mem_of_getElem? hy)
      exact ⟨.str, trivial, e, e2⟩
    · subst e e2
      intro p5 h5
      refine ⟨szl rfl, fun p6 h6 => ⟨p5, p6, [], rfl, rfl, SqL.of (at_upd upd_same h6), SqL.of upd_same, ?_⟩⟩
      exact q _ (((s13.trans s4).trans (same_upd h5)).trans (same_upd h6))
def spLaw (K : PySem.W.Frag) : Sp := fun vs H Q _ => ∃ (a : Addr) (ns : List Int), vs = [.ref a] ∧ SqL K H a (ns.map V.int) ∧ ns.length ≤ 63 ∧ ∀ H', Q (.bl true) H'
theorem three {zs : List Str} (h : zs.length = 3) : ∃ a b c, zs = [a, b, c] := by
  match zs, h with
  | [a, b, c], _ => exact ⟨a, b, c, rfl⟩
def Deeds (H : Hp) (ys : List V) : Prop := ∀ y ∈ ys, ∃ p xs, y = .ref p ∧ H p = some (.tup xs) ∧ DeedIs xs
theorem Deeds.kp {d b : Addr} {H H' : Hp} {ys : List V} (D : Dk H d b) (k : Kp d b H H') (h : Deeds H ys) : Deeds H' ys := fun y hy => by
  obtain ⟨p, xs, e, g, dx⟩ := h y hy
  exact ⟨p, xs, e, k _ _ g (D.tup_ne g).1 (D.tup_ne g).2, dx⟩
theorem Deeds.same {H H' : Hp} {ys : List V} (k : Same H H') (h : Deeds H ys) : Deeds H' ys := fun y hy => by
  obtain ⟨p, xs, e, g, dx⟩ := h y hy
  exact ⟨p, xs, e, k _ _ g, dx⟩
theorem ok_law (T : Txt K mg) (c__law_deck : Callee P w K mg base 1 "_law_deck" ["_law_script"] (spDeck K)) (c__law_names : Callee P w K mg base 4 "_law_names" ["_law_deck_here", "_law_many"] spNames) (c__law_amount : Callee P w K mg base 3 "_law_amount" ["_law_deck_here", "_law_least"] spAmount)
    (c__law_deed : Callee P w K mg base 3 "_law_deed" ["_law_deck_here", "_law_names_here", "_law_n"] spDeed) (c__law_right : Callee P w K mg base 6 "_law_right" ["_law_deed_here"] spTrue)
    {f : Addr} {fd : FuncData} (F : Fun K "law" "law" s_law f fd) : FnOk P w K mg base CX0 7 f fd ["_law_script"] (spLaw K) := by
  refine F.go sc_law (fun vs H Q E h => ?_) (fun cdv A outer s H vs Q E hr h => ?_)
  · obtain ⟨a, ns, rfl, _⟩ := h; rfl
  · obtain ⟨a, ns, rfl, hS, hlen, q⟩ := h
    have hr__law_deck : Room 1 _ := hr.mono (by decide)
    have hr__law_names : Room 4 _ := hr.mono (by decide)
    have hr__law_amount : Room 3 _ := hr.mono (by decide)
    have hr__law_deed : Room 3 _ := hr.mono (by decide)
    have hr__law_right : Room 6 _ := hr
    have hu := hr.units0
    refine ⟨_, (R.scons (R.set (i := 1) sc_law.nd (R.fn c__law_deck hr__law_deck rfl (R.cons (R.v 0) R.nil)))
      (R.scons (R.scomp (i := 2) sc_law.nd rfl (Or.inl rfl) rfl (js := [none, some 1]) (N := ["_law_k", "_law_deck_here"]) (CompScope.by (defScope s_law) ["_law_script", "_law_deck_here", "_law_deeds"] rfl rfl (by decide +kernel)) (gown_name rfl) (R.range1 rfl T.b_range (R.cons R.int R.nil)) (fun C s₂ H₂ fp => ⟨(R.gn (i := 0) (show (["_law_k", "_law_deck_here"] : List Str).Nodup by decide +kernel)), R.ts0, (R.fn c__law_deed hr__law_deed rfl (R.cons (R.v 1) (R.cons (R.fn c__law_names hr__law_names rfl (R.cons (R.v 1) (R.cons R.int R.nil))) (R.cons (R.fn c__law_amount hr__law_amount rfl (R.cons (R.v 1) (R.cons R.int R.nil))) R.nil))))⟩) rfl)
      (R.sone (R.ret (R.cmp (R.keqNil (K := K) hu) (R.comp rfl (js := [none]) (N := ["_law_deed_here"]) (CompScope.by (defScope s_law) ["_law_script", "_law_deck_here", "_law_deeds"] rfl rfl (by decide +kernel)) (gown_name rfl) (R.kwL (K := K) (R.op R.cat (R.v 2) (R.v 2))) (fun C s₂ H₂ fp => ⟨(R.gn (i := 0) (show (["_law_deed_here"] : List Str).Nodup by decide +kernel)), (R.ts1 (R.tnot (R.val (R.fn c__law_right hr__law_right rfl (R.cons (R.v 0) R.nil))))), (R.v 0)⟩)) (R.lst R.nil)))))), ?_⟩
    refine ⟨a, ns, rfl, hS, fun d b H1 nd nb D1 s1 => ⟨40, rfl, by decide, by decide, ?_⟩⟩
    refine comp_seq (seq_range 0 40) (by decide) (fun j ys H' => ys.length = j ∧ Dk H' d b ∧ Deeds H' ys) (fun j ys H' ⟨e, _, _⟩ => ⟨trivial, by omega⟩) ⟨rfl, D1, fun _ h => nomatch h⟩ (fun j y ys H2 hy ⟨e, D2, dy⟩ => ?_) (fun ys H' ⟨e, D', dy⟩ => ?_)
    · refine ⟨d, b, 3, rfl, D2, by decide, fun l zs H3 hzl hnm hnd nl gl D3 k3 => ⟨d, b, 1, rfl, by decide, by decide, D3, fun n H4 n1 n2 D4 k4 => ?_⟩⟩
      obtain ⟨z0, z1, z2, rfl⟩ := three hzl
      have nld := D2.ne nl
      have gl4 := k4 l _ gl nld.1 nld.2
      have ne12 : z1 ≠ z2 := by
        have := (List.nodup_cons.mp (List.nodup_cons.mp hnd).2).1
        exact fun e => this (by rw [e]; exact List.mem_cons_self)
      refine ⟨d, b, l, z0, z1, z2, n, rfl, D4, nld, gl4, hnm z0 (by simp), hnm z1 (by simp), hnm z2 (by simp), ne12, n1, n2, fun p xs H5 dx np gp D5 k5 => ?_⟩
      refine ⟨by rw [List.length_append, e]; rfl, D5, fun y hy => ?_⟩
      rcases List.mem_append.mp hy with m | m
      · exact dy.kp D2 ((k3.trans k4).trans k5) y m
      · exact ⟨p, xs, List.mem_singleton.mp m, gp, dx⟩
    · have hl40 : ys.length = 40 := by rw [e]; rfl
      intro l hl
      have dy1 := dy.same (same_upd (o := .lst ys) hl)
      have g1 : upd H' l (.lst ys) l = some (.lst ys) := upd_same
      dsimp only [gName]
      generalize upd H' l (.lst ys) = H2 at dy1 g1
      refine ⟨ys, ys, g1, g1, szl' (by omega), fun p3 h3 => ⟨p3, rfl, ⟨_, SqL.of upd_same⟩, ?_⟩⟩
      have dy2 : Deeds (upd H2 p3 (.lst (ys ++ ys))) (ys ++ ys) := fun y hy => dy1.same (same_upd h3) y ((List.mem_append.mp hy).elim id id)
      have g2 : upd H2 p3 (.lst (ys ++ ys)) p3 = some (.lst (ys ++ ys)) := upd_same
      dsimp only
      generalize upd H2 p3 (.lst (ys ++ ys)) = H3 at dy2 g2
      refine comp_seq (seq_list K p3 (ys ++ ys)) (by rw [List.length_append]; omega) (fun j zs H' => zs = [] ∧ Same H3 H') (fun j zs H' ⟨e, e2⟩ => ⟨SqL.of (e2 _ _ g2), by rw [e]; exact Nat.zero_le _⟩) ⟨rfl, Same.refl _⟩ (fun j y zs H' hy ⟨e, e2⟩ => ?_) (fun zs H' ⟨e, e2⟩ => ?_)
      · obtain ⟨p, xs, rfl, gp, dx⟩ := dy2 y (List.mem_of_getElem? hy)
        exact ⟨p, xs, rfl, e2 _ _ gp, dx, fun H5 s5 => ⟨e, e2.trans s5⟩⟩
      · subst e
        intro p5 h5
        exact ⟨szl rfl, fun p6 h6 => ⟨p5, p6, [], rfl, rfl, SqL.of (at_upd upd_same h6), SqL.of upd_same, q _⟩⟩

end
end KL

namespace KL
open PySem L2
theorem all_mk {l : PySem.W.OpenLaw} {w : World} {K : PySem.W.Frag} {h : Heap} {mg : Str → Option Value} {fa f_is_name f_number_of f_is_whole f_is_made_of f_is_deed f_fits_word f_shown_parts f_shown_deed f_read_deed f_law_mixed f_law_deck f_law_draw f_law_name f_law_names f_law_amount f_law_deed f_law_text f_law_right f_law : Addr} (X : K.In h) (G : h.Ns mainGlobals mg) (hfa : mg "law" = some (.ref fa))
    {od_is_name an_is_name : Option Addr} {sl_is_name : Array (Option Value)} {oc_is_name kV_is_name dc_is_name pm_is_name cd_is_name ct_is_name : Value}
    {od_number_of an_number_of : Option Addr} {sl_number_of : Array (Option Value)} {oc_number_of kV_number_of dc_number_of pm_number_of cd_number_of ct_number_of : Value}
    {od_is_whole an_is_whole : Option Addr} {sl_is_whole : Array (Option Value)} {oc_is_whole kV_is_whole dc_is_whole pm_is_whole cd_is_whole ct_is_whole : Value}
    {od_is_made_of an_is_made_of : Option Addr} {sl_is_made_of : Array (Option Value)} {oc_is_made_of kV_is_made_of dc_is_made_of pm_is_made_of cd_is_made_of ct_is_made_of : Value}
    {od_is_deed an_is_deed : Option Addr} {sl_is_deed : Array (Option Value)} {oc_is_deed kV_is_deed dc_is_deed pm_is_deed cd_is_deed ct_is_deed : Value}
    {od_fits_word an_fits_word : Option Addr} {sl_fits_word : Array (Option Value)} {oc_fits_word kV_fits_word dc_fits_word pm_fits_word cd_fits_word ct_fits_word : Value}
    {od_shown_parts an_shown_parts : Option Addr} {sl_shown_parts : Array (Option Value)} {oc_shown_parts kV_shown_parts dc_shown_parts pm_shown_parts cd_shown_parts ct_shown_parts : Value}
    {od_shown_deed an_shown_deed : Option Addr} {sl_shown_deed : Array (Option Value)} {oc_shown_deed kV_shown_deed dc_shown_deed pm_shown_deed cd_shown_deed ct_shown_deed : Value}
    {od_read_deed an_read_deed : Option Addr} {sl_read_deed : Array (Option Value)} {oc_read_deed kV_read_deed dc_read_deed pm_read_deed cd_read_deed ct_read_deed : Value}
    {od_law_mixed an_law_mixed : Option Addr} {sl_law_mixed : Array (Option Value)} {oc_law_mixed kV_law_mixed dc_law_mixed pm_law_mixed cd_law_mixed ct_law_mixed : Value}
    {od_law_deck an_law_deck : Option Addr} {sl_law_deck : Array (Option Value)} {oc_law_deck kV_law_deck dc_law_deck pm_law_deck cd_law_deck ct_law_deck : Value}
    {od_law_draw an_law_draw : Option Addr} {sl_law_draw : Array (Option Value)} {oc_law_draw kV_law_draw dc_law_draw pm_law_draw cd_law_draw ct_law_draw : Value}
    {od_law_name an_law_name : Option Addr} {sl_law_name : Array (Option Value)} {oc_law_name kV_law_name dc_law_name pm_law_name cd_law_name ct_law_name : Value}
    {od_law_names an_law_names : Option Addr} {sl_law_names : Array (Option Value)} {oc_law_names kV_law_names dc_law_names pm_law_names cd_law_names ct_law_names : Value}
    {od_law_amount an_law_amount : Option Addr} {sl_law_amount : Array (Option Value)} {oc_law_amount kV_law_amount dc_law_amount pm_law_amount cd_law_amount ct_law_amount : Value}
    {od_law_deed an_law_deed : Option Addr} {sl_law_deed : Array (Option Value)} {oc_law_deed kV_law_deed dc_law_deed pm_law_deed cd_law_deed ct_law_deed : Value}
    {od_law_text an_law_text : Option Addr} {sl_law_text : Array (Option Value)} {oc_law_text kV_law_text dc_law_text pm_law_text cd_law_text ct_law_text : Value}
    {od_law_right an_law_right : Option Addr} {sl_law_right : Array (Option Value)} {oc_law_right kV_law_right dc_law_right pm_law_right cd_law_right ct_law_right : Value}
    {od_law an_law : Option Addr} {sl_law : Array (Option Value)} {oc_law kV_law dc_law pm_law cd_law ct_law : Value}
    (a_is_name : PySem.W.nsIn K mainGlobals "is_name" = some (some (.ref f_is_name))) (l_is_name : K.lookup f_is_name = some ⟨oc_is_name, od_is_name, .func (PySem.W.fnOf "is_name" "is_name" (defArgs s_is_name) (defBody s_is_name) (defScope s_is_name) .none kV_is_name dc_is_name pm_is_name an_is_name cd_is_name ct_is_name), sl_is_name⟩) (c_is_name : PySem.W.codeIn K cd_is_name "is_name" = true) (k_is_name : PySem.W.keepIn K (.ref f_is_name) = true)
    (a_number_of : PySem.W.nsIn K mainGlobals "number_of" = some (some (.ref f_number_of))) (l_number_of : K.lookup f_number_of = some ⟨oc_number_of, od_number_of, .func (PySem.W.fnOf "number_of" "number_of" (defArgs s_number_of) (defBody s_number_of) (defScope s_number_of) .none kV_number_of dc_number_of pm_number_of an_number_of cd_number_of ct_number_of), sl_number_of⟩) (c_number_of : PySem.W.codeIn K cd_number_of "number_of" = true) (k_number_of : PySem.W.keepIn K (.ref f_number_of) = true)
    (a_is_whole : PySem.W.nsIn K mainGlobals "is_whole" = some (some (.ref f_is_whole))) (l_is_whole : K.lookup f_is_whole = some ⟨oc_is_whole, od_is_whole, .func (PySem.W.fnOf "is_whole" "is_whole" (defArgs s_is_whole) (defBody s_is_whole) (defScope s_is_whole) .none kV_is_whole dc_is_whole pm_is_whole an_is_whole cd_is_whole ct_is_whole), sl_is_whole⟩) (c_is_whole : PySem.W.codeIn K cd_is_whole "is_whole" = true) (k_is_whole : PySem.W.keepIn K (.ref f_is_whole) = true)
    (a_is_made_of : PySem.W.nsIn K mainGlobals "is_made_of" = some (some (.ref f_is_made_of))) (l_is_made_of : K.lookup f_is_made_of = some ⟨oc_is_made_of, od_is_made_of, .func (PySem.W.fnOf "is_made_of" "is_made_of" (defArgs s_is_made_of) (defBody s_is_made_of) (defScope s_is_made_of) .none kV_is_made_of dc_is_made_of pm_is_made_of an_is_made_of cd_is_made_of ct_is_made_of), sl_is_made_of⟩) (c_is_made_of : PySem.W.codeIn K cd_is_made_of "is_made_of" = true) (k_is_made_of : PySem.W.keepIn K (.ref f_is_made_of) = true)
    (a_is_deed : PySem.W.nsIn K mainGlobals "is_deed" = some (some (.ref f_is_deed))) (l_is_deed : K.lookup f_is_deed = some ⟨oc_is_deed, od_is_deed, .func (PySem.W.fnOf "is_deed" "is_deed" (defArgs s_is_deed) (defBody s_is_deed) (defScope s_is_deed) .none kV_is_deed dc_is_deed pm_is_deed an_is_deed cd_is_deed ct_is_deed), sl_is_deed⟩) (c_is_deed : PySem.W.codeIn K cd_is_deed "is_deed" = true) (k_is_deed : PySem.W.keepIn K (.ref f_is_deed) = true)
    (a_fits_word : PySem.W.nsIn K mainGlobals "fits_word" = some (some (.ref f_fits_word))) (l_fits_word : K.lookup f_fits_word = some ⟨oc_fits_word, od_fits_word, .func (PySem.W.fnOf "fits_word" "fits_word" (defArgs s_fits_word) (defBody s_fits_word) (defScope s_fits_word) .none kV_fits_word dc_fits_word pm_fits_word an_fits_word cd_fits_word ct_fits_word), sl_fits_word⟩) (c_fits_word : PySem.W.codeIn K cd_fits_word "fits_word" = true) (k_fits_word : PySem.W.keepIn K (.ref f_fits_word) = true)
    (a_shown_parts : PySem.W.nsIn K mainGlobals "shown_parts" = some (some (.ref f_shown_parts))) (l_shown_parts : K.lookup f_shown_parts = some ⟨oc_shown_parts, od_shown_parts, .func (PySem.W.fnOf "shown_parts" "shown_parts" (defArgs s_shown_parts) (defBody s_shown_parts) (defScope s_shown_parts) .none kV_shown_parts dc_shown_parts pm_shown_parts an_shown_parts cd_shown_parts ct_shown_parts), sl_shown_parts⟩) (c_shown_parts : PySem.W.codeIn K cd_shown_parts "shown_parts" = true) (k_shown_parts : PySem.W.keepIn K (.ref f_shown_parts) = true)
    (a_shown_deed : PySem.W.nsIn K mainGlobals "shown_deed" = some (some (.ref f_shown_deed))) (l_shown_deed : K.lookup f_shown_deed = some ⟨oc_shown_deed, od_shown_deed, .func (PySem.W.fnOf "shown_deed" "shown_deed" (defArgs s_shown_deed) (defBody s_shown_deed) (defScope s_shown_deed) .none kV_shown_deed dc_shown_deed pm_shown_deed an_shown_deed cd_shown_deed ct_shown_deed), sl_shown_deed⟩) (c_shown_deed : PySem.W.codeIn K cd_shown_deed "shown_deed" = true) (k_shown_deed : PySem.W.keepIn K (.ref f_shown_deed) = true)
    (a_read_deed : PySem.W.nsIn K mainGlobals "read_deed" = some (some (.ref f_read_deed))) (l_read_deed : K.lookup f_read_deed = some ⟨oc_read_deed, od_read_deed, .func (PySem.W.fnOf "read_deed" "read_deed" (defArgs s_read_deed) (defBody s_read_deed) (defScope s_read_deed) .none kV_read_deed dc_read_deed pm_read_deed an_read_deed cd_read_deed ct_read_deed), sl_read_deed⟩) (c_read_deed : PySem.W.codeIn K cd_read_deed "read_deed" = true) (k_read_deed : PySem.W.keepIn K (.ref f_read_deed) = true)
    (a_law_mixed : PySem.W.nsIn K mainGlobals "_law_mixed" = some (some (.ref f_law_mixed))) (l_law_mixed : K.lookup f_law_mixed = some ⟨oc_law_mixed, od_law_mixed, .func (PySem.W.fnOf "_law_mixed" "_law_mixed" (defArgs s_law_mixed) (defBody s_law_mixed) (defScope s_law_mixed) .none kV_law_mixed dc_law_mixed pm_law_mixed an_law_mixed cd_law_mixed ct_law_mixed), sl_law_mixed⟩) (c_law_mixed : PySem.W.codeIn K cd_law_mixed "_law_mixed" = true) (k_law_mixed : PySem.W.keepIn K (.ref f_law_mixed) = true)
    (a_law_deck : PySem.W.nsIn K mainGlobals "_law_deck" = some (some (.ref f_law_deck))) (l_law_deck : K.lookup f_law_deck = some ⟨oc_law_deck, od_law_deck, .func (PySem.W.fnOf "_law_deck" "_law_deck" (defArgs s_law_deck) (defBody s_law_deck) (defScope s_law_deck) .none kV_law_deck dc_law_deck pm_law_deck an_law_deck cd_law_deck ct_law_deck), sl_law_deck⟩) (c_law_deck : PySem.W.codeIn K cd_law_deck "_law_deck" = true) (k_law_deck : PySem.W.keepIn K (.ref f_law_deck) = true)
    (a_law_draw : PySem.W.nsIn K mainGlobals "_law_draw" = some (some (.ref f_law_draw))) (l_law_draw : K.lookup f_law_draw = some ⟨oc_law_draw, od_law_draw, .func (PySem.W.fnOf "_law_draw" "_law_draw" (defArgs s_law_draw) (defBody s_law_draw) (defScope s_law_draw) .none kV_law_draw dc_law_draw pm_law_draw an_law_draw cd_law_draw ct_law_draw), sl_law_draw⟩) (c_law_draw : PySem.W.codeIn K cd_law_draw "_law_draw" = true) (k_law_draw : PySem.W.keepIn K (.ref f_law_draw) = true)
    (a_law_name : PySem.W.nsIn K mainGlobals "_law_name" = some (some (.ref f_law_name))) (l_law_name : K.lookup f_law_name = some ⟨oc_law_name, od_law_name, .func (PySem.W.fnOf "_law_name" "_law_name" (defArgs s_law_name) (defBody s_law_name) (defScope s_law_name) .none kV_law_name dc_law_name pm_law_name an_law_name cd_law_name ct_law_name), sl_law_name⟩) (c_law_name : PySem.W.codeIn K cd_law_name "_law_name" = true) (k_law_name : PySem.W.keepIn K (.ref f_law_name) = true)
    (a_law_names : PySem.W.nsIn K mainGlobals "_law_names" = some (some (.ref f_law_names))) (l_law_names : K.lookup f_law_names = some ⟨oc_law_names, od_law_names, .func (PySem.W.fnOf "_law_names" "_law_names" (defArgs s_law_names) (defBody s_law_names) (defScope s_law_names) .none kV_law_names dc_law_names pm_law_names an_law_names cd_law_names ct_law_names), sl_law_names⟩) (c_law_names : PySem.W.codeIn K cd_law_names "_law_names" = true) (k_law_names : PySem.W.keepIn K (.ref f_law_names) = true)
    (a_law_amount : PySem.W.nsIn K mainGlobals "_law_amount" = some (some (.ref f_law_amount))) (l_law_amount : K.lookup f_law_amount = some ⟨oc_law_amount, od_law_amount, .func (PySem.W.fnOf "_law_amount" "_law_amount" (defArgs s_law_amount) (defBody s_law_amount) (defScope s_law_amount) .none kV_law_amount dc_law_amount pm_law_amount an_law_amount cd_law_amount ct_law_amount), sl_law_amount⟩) (c_law_amount : PySem.W.codeIn K cd_law_amount "_law_amount" = true) (k_law_amount : PySem.W.keepIn K (.ref f_law_amount) = true)
    (a_law_deed : PySem.W.nsIn K mainGlobals "_law_deed" = some (some (.ref f_law_deed))) (l_law_deed : K.lookup f_law_deed = some ⟨oc_law_deed, od_law_deed, .func (PySem.W.fnOf "_law_deed" "_law_deed" (defArgs s_law_deed) (defBody s_law_deed) (defScope s_law_deed) .none kV_law_deed dc_law_deed pm_law_deed an_law_deed cd_law_deed ct_law_deed), sl_law_deed⟩) (c_law_deed : PySem.W.codeIn K cd_law_deed "_law_deed" = true) (k_law_deed : PySem.W.keepIn K (.ref f_law_deed) = true)
    (a_law_text : PySem.W.nsIn K mainGlobals "_law_text" = some (some (.ref f_law_text))) (l_law_text : K.lookup f_law_text = some ⟨oc_law_text, od_law_text, .func (PySem.W.fnOf "_law_text" "_law_text" (defArgs s_law_text) (defBody s_law_text) (defScope s_law_text) .none kV_law_text dc_law_text pm_law_text an_law_text cd_law_text ct_law_text), sl_law_text⟩) (c_law_text : PySem.W.codeIn K cd_law_text "_law_text" = true) (k_law_text : PySem.W.keepIn K (.ref f_law_text) = true)
    (a_law_right : PySem.W.nsIn K mainGlobals "_law_right" = some (some (.ref f_law_right))) (l_law_right : K.lookup f_law_right = some ⟨oc_law_right, od_law_right, .func (PySem.W.fnOf "_law_right" "_law_right" (defArgs s_law_right) (defBody s_law_right) (defScope s_law_right) .none kV_law_right dc_law_right pm_law_right an_law_right cd_law_right ct_law_right), sl_law_right⟩) (c_law_right : PySem.W.codeIn K cd_law_right "_law_right" = true) (k_law_right : PySem.W.keepIn K (.ref f_law_right) = true)
    (a_law : PySem.W.nsIn K mainGlobals "law" = some (some (.ref f_law))) (l_law : K.lookup f_law = some ⟨oc_law, od_law, .func (PySem.W.fnOf "law" "law" (defArgs s_law) (defBody s_law) (defScope s_law) .none kV_law dc_law pm_law an_law cd_law ct_law), sl_law⟩) (c_law : PySem.W.codeIn K cd_law "law" = true) (k_law : PySem.W.keepIn K (.ref f_law) = true)
    (z_all : PySem.W.nsIn K mainGlobals "all" = some none)
    (z_isinstance : PySem.W.nsIn K mainGlobals "isinstance" = some none)
    (z_str : PySem.W.nsIn K mainGlobals "str" = some none)
    (z_len : PySem.W.nsIn K mainGlobals "len" = some none)
    (z_sum : PySem.W.nsIn K mainGlobals "sum" = some none)
    (z_list : PySem.W.nsIn K mainGlobals "list" = some none)
    (z_reversed : PySem.W.nsIn K mainGlobals "reversed" = some none)
    (z_range : PySem.W.nsIn K mainGlobals "range" = some none)
    (z_bool : PySem.W.nsIn K mainGlobals "bool" = some none)
    (z_int : PySem.W.nsIn K mainGlobals "int" = some none)
    (z_max : PySem.W.nsIn K mainGlobals "max" = some none)
    (z_tuple : PySem.W.nsIn K mainGlobals "tuple" = some none)
    {t_LETTERS : Tok} (y_LETTERS : PySem.W.nsIn K mainGlobals "LETTERS" = some (some (.str ("abcdefghijklmnopqrstuvwxyz") t_LETTERS)))
    {t_FIGURES : Tok} (y_FIGURES : PySem.W.nsIn K mainGlobals "FIGURES" = some (some (.str ("0123456789") t_FIGURES)))
    {t_LONGEST_NAME : Tok} (y_LONGEST_NAME : PySem.W.nsIn K mainGlobals "LONGEST_NAME" = some (some (.int (8) t_LONGEST_NAME)))
    {t_LONGEST_NUMBER : Tok} (y_LONGEST_NUMBER : PySem.W.nsIn K mainGlobals "LONGEST_NUMBER" = some (some (.int (13) t_LONGEST_NUMBER)))
    {t_MOST : Tok} (y_MOST : PySem.W.nsIn K mainGlobals "MOST" = some (some (.int (1000000000000) t_MOST)))
    {a_NAME_COUNTS : Addr} {es_NAME_COUNTS : List DictEntry} {n_NAME_COUNTS : Nat} (y_NAME_COUNTS : PySem.W.nsIn K mainGlobals "NAME_COUNTS" = some (some (.ref a_NAME_COUNTS))) (l_NAME_COUNTS : K.lookup a_NAME_COUNTS = some ⟨.type "dict", none, .dict (List.toArray es_NAME_COUNTS) n_NAME_COUNTS, #[]⟩) (t_NAME_COUNTS : Tab w.params es_NAME_COUNTS (WS)) (o_NAME_COUNTS : (a_NAME_COUNTS == sysModules) = false)
    {a_UNLIKE_WORDS : Addr} {its_UNLIKE_WORDS : List Value} {dd_UNLIKE_WORDS : Option Addr} {n_UNLIKE_WORDS : Nat} {sl_UNLIKE_WORDS : Array (Option Value)} (y_UNLIKE_WORDS : PySem.W.nsIn K mainGlobals "UNLIKE_WORDS" = some (some (.ref a_UNLIKE_WORDS))) (l_UNLIKE_WORDS : K.lookup a_UNLIKE_WORDS = some ⟨.type "tuple", dd_UNLIKE_WORDS, .seq (List.toArray its_UNLIKE_WORDS) n_UNLIKE_WORDS, sl_UNLIKE_WORDS⟩) (v_UNLIKE_WORDS : Vals (UW) its_UNLIKE_WORDS)
    : ∃ fd : FuncData, (∀ (s : Shared) (v : Value), BindsTo s fd ⟨[v], []⟩ [("_law_script", v)]) ∧ ∀ base : Heap, K.In base → base.Ns mainGlobals mg → FnOk l.prog w K mg base CX0 7 fa fd ["_law_script"] (spLaw K) := by
  have e := hfa.symm.trans (PySem.W.mg_of X G a_law)
  cases e
  have T : Txt K mg := ⟨PySem.W.mg_none_of X G z_all, PySem.W.mg_none_of X G z_isinstance, PySem.W.mg_none_of X G z_str, PySem.W.mg_none_of X G z_len, PySem.W.mg_none_of X G z_sum, PySem.W.mg_none_of X G z_list, PySem.W.mg_none_of X G z_reversed, PySem.W.mg_none_of X G z_range, PySem.W.mg_none_of X G z_bool, PySem.W.mg_none_of X G z_int, PySem.W.mg_none_of X G z_max, PySem.W.mg_none_of X G z_tuple, ⟨_, PySem.W.mg_of X G y_LETTERS⟩, ⟨_, PySem.W.mg_of X G y_FIGURES⟩, ⟨_, PySem.W.mg_of X G y_LONGEST_NAME⟩, ⟨_, PySem.W.mg_of X G y_LONGEST_NUMBER⟩, ⟨_, PySem.W.mg_of X G y_MOST⟩⟩
  have U : Top w.params K mg := ⟨⟨_, PySem.W.mg_of X G y_NAME_COUNTS, ⟨_, _, l_NAME_COUNTS, t_NAME_COUNTS, o_NAME_COUNTS⟩⟩, ⟨_, PySem.W.mg_of X G y_UNLIKE_WORDS, fun _ => .inr ⟨_, _, _, l_UNLIKE_WORDS, rfl, rfl, by rw [List.size_toArray, ← v_UNLIKE_WORDS.length]; decide, v_UNLIKE_WORDS⟩⟩⟩
  have D_is_name : DefAt K mg "is_name" s_is_name ["thing"] := def_at X G a_is_name l_is_name c_is_name k_is_name (fun _ _ _ _ _ _ us hl => match us, hl with | [_], _ => rfl)
  have D_number_of : DefAt K mg "number_of" s_number_of ["text"] := def_at X G a_number_of l_number_of c_number_of k_number_of (fun _ _ _ _ _ _ us hl => match us, hl with | [_], _ => rfl)
  have D_is_whole : DefAt K mg "is_whole" s_is_whole ["thing", "least", "most"] := def_at X G a_is_whole l_is_whole c_is_whole k_is_whole (fun _ _ _ _ _ _ us hl => match us, hl with | [_, _, _], _ => rfl)
  have D_is_made_of : DefAt K mg "is_made_of" s_is_made_of ["thing", "signs", "longest"] := def_at X G a_is_made_of l_is_made_of c_is_made_of k_is_made_of (fun _ _ _ _ _ _ us hl => match us, hl with | [_, _, _], _ => rfl)
  have D_is_deed : DefAt K mg "is_deed" s_is_deed ["thing"] := def_at X G a_is_deed l_is_deed c_is_deed k_is_deed (fun _ _ _ _ _ _ us hl => match us, hl with | [_], _ => rfl)
  have D_fits_word : DefAt K mg "fits_word" s_fits_word ["word", "names"] := def_at X G a_fits_word l_fits_word c_fits_word k_fits_word (fun _ _ _ _ _ _ us hl => match us, hl with | [_, _], _ => rfl)
  have D_shown_parts : DefAt K mg "shown_parts" s_shown_parts ["parts"] := def_at X G a_shown_parts l_shown_parts c_shown_parts k_shown_parts (fun _ _ _ _ _ _ us hl => match us, hl with | [_], _ => rfl)
  have D_shown_deed : DefAt K mg "shown_deed" s_shown_deed ["deed"] := def_at X G a_shown_deed l_shown_deed c_shown_deed k_shown_deed (fun _ _ _ _ _ _ us hl => match us, hl with | [_], _ => rfl)
  have D_read_deed : DefAt K mg "read_deed" s_read_deed ["text"] := def_at X G a_read_deed l_read_deed c_read_deed k_read_deed (fun _ _ _ _ _ _ us hl => match us, hl with | [_], _ => rfl)
  have D_law_mixed : DefAt K mg "_law_mixed" s_law_mixed ["_law_number", "_law_k"] := def_at X G a_law_mixed l_law_mixed c_law_mixed k_law_mixed (fun _ _ _ _ _ _ us hl => match us, hl with | [_, _], _ => rfl)
  have D_law_deck : DefAt K mg "_law_deck" s_law_deck ["_law_script"] := def_at X G a_law_deck l_law_deck c_law_deck k_law_deck (fun _ _ _ _ _ _ us hl => match us, hl with | [_], _ => rfl)
  have D_law_draw : DefAt K mg "_law_draw" s_law_draw ["_law_deck_here", "_law_most"] := def_at X G a_law_draw l_law_draw c_law_draw k_law_draw (fun _ _ _ _ _ _ us hl => match us, hl with | [_, _], _ => rfl)
  have D_law_name : DefAt K mg "_law_name" s_law_name ["_law_deck_here"] := def_at X G a_law_name l_law_name c_law_name k_law_name (fun _ _ _ _ _ _ us hl => match us, hl with | [_], _ => rfl)
  have D_law_names : DefAt K mg "_law_names" s_law_names ["_law_deck_here", "_law_many"] := def_at X G a_law_names l_law_names c_law_names k_law_names (fun _ _ _ _ _ _ us hl => match us, hl with | [_, _], _ => rfl)
  have D_law_amount : DefAt K mg "_law_amount" s_law_amount ["_law_deck_here", "_law_least"] := def_at X G a_law_amount l_law_amount c_law_amount k_law_amount (fun _ _ _ _ _ _ us hl => match us, hl with | [_, _], _ => rfl)
  have D_law_deed : DefAt K mg "_law_deed" s_law_deed ["_law_deck_here", "_law_names_here", "_law_n"] := def_at X G a_law_deed l_law_deed c_law_deed k_law_deed (fun _ _ _ _ _ _ us hl => match us, hl with | [_, _, _], _ => rfl)
  have D_law_text : DefAt K mg "_law_text" s_law_text ["_law_deed_here"] := def_at X G a_law_text l_law_text c_law_text k_law_text (fun _ _ _ _ _ _ us hl => match us, hl with | [_], _ => rfl)
  have D_law_right : DefAt K mg "_law_right" s_law_right ["_law_deed_here"] := def_at X G a_law_right l_law_right c_law_right k_law_right (fun _ _ _ _ _ _ us hl => match us, hl with | [_], _ => rfl)
  refine ⟨PySem.W.fnOf "law" "law" (defArgs s_law) (defBody s_law) (defScope s_law) .none kV_law dc_law pm_law an_law cd_law ct_law, fun s v => .of_eq rfl, fun base _ _ => ?_⟩
  have F_law := fun_mk (st := s_law) l_law c_law k_law
  have c1 := ok_mixed (P := l.prog) (w := w) (base := base) D_law_mixed
  have c2 := ok_draw c1 D_law_draw
  have c3 := ok_made (P := l.prog) (w := w) (base := base) T D_is_made_of
  have c4 := ok_is_name T c3 D_is_name
  have c5 := ok_whole (P := l.prog) (w := w) (base := base) T D_is_whole
  have c6 := ok_fits T U c4 D_fits_word
  have c7 := ok_is_deed T c6 c5 D_is_deed
  have c8 := ok_deck (P := l.prog) (w := w) (base := base) T D_law_deck
  have c9 := ok_name T c2 D_law_name
  have c10 := ok_names T c9 D_law_names
  have c11 := ok_amount T c2 D_law_amount
  have c12 := ok_deed T c2 D_law_deed
  have c13 := ok_number T c3 D_number_of
  have c14 := ok_shown T (ok_parts (P := l.prog) (w := w) (base := base) T D_shown_parts) D_shown_deed
  have c15 := ok_ltext (P := l.prog) (w := w) (base := base) T D_law_text
  have c16 := ok_read_deed T c13 c7 D_read_deed
  have c17 := ok_right T c14 c15 c16 D_law_right
  exact ok_law T c8 c10 c11 c12 c17 F_law
theorem walk {l : PySem.W.OpenLaw} {q : Program} {loose : List Str} {XP : (Str → Option Value) → Heap → Prop} {YP : World → Heap → Prop} {d : DefRec} {K : Params → PySem.W.Frag} (hn : l.most = some 63) (hdf : d.params.defaults = [])
    (hY : ∀ (w : World) (h : Heap), YP w h → (K w.params).In h)
    (F : ∀ (w : World) (mg : Str → Option Value) (fa : Addr) (h : Heap), (K w.params).In h → h.Ns mainGlobals mg → mg d.name = some (.ref fa) →
      ∃ fd : FuncData, (∀ (s : Shared) (u : Value), BindsTo s fd ⟨[u], []⟩ [("_law_script", u)]) ∧ ∀ base : Heap, (K w.params).In base → base.Ns mainGlobals mg → FnOk l.prog w (K w.params) mg base CX0 7 fa fd ["_law_script"] (spLaw (K w.params))) :
    PySem.W.WalkO q loose XP YP l.row.toRowW d [] (fun f vs => PySem.call f vs) :=
  L2.walk_of (n := 63) (k := 7) (x := "_law_script") (CX := fun _ => CX0) (sp := fun w => spLaw (K w.params)) hn (by decide) hdf ⟨rfl, by decide, by decide⟩ hY F (fun _ _ a ns hl _ hS => ⟨a, ns, rfl, hS, hl, fun _ => rfl⟩) fun _ _ _ _ _ z => z
end KL
def PySem.W.Fast.tw2103819981636799919 : Nat := 0
def PySem.W.Fast.tw5761118297702375079 : Nat := 0
def PySem.W.Fast.tw16917204332313199846 : Nat := 0
def PySem.W.Fast.tw17463728381547740163 : Nat := 0
def PySem.W.Fast.tw10637830115019107437 : Nat := 0
def PySem.W.Fast.tw16026492635599409228 : Nat := 0
def PySem.W.Fast.tw4990386441404931633 : Nat := 0
open PySem PySem.W PyProof.Rows
set_option maxRecDepth 100000 in
set_option maxHeartbeats 0 in
theorem PySem.Challenge.cw_oncedoor_k04_deeds_written_and_read_holds : PySem.Challenge.rw_oncedoor_k04_deeds_written_and_read.Holds := by
  w_on; o_law; k_head; (case hw => w_witness2)
  k_fill
  refine KL.walk (l := PySem.Challenge.rw_oncedoor_k04_deeds_written_and_read) rfl rfl (fun w h Y => PySem.W.kIn_of Y) ?F
  case F =>
    intro w mg fa h KX G hmg
    refine' KL.all_mk KX G hmg ?a_is_name ?l_is_name ?c_is_name ?k_is_name ?a_number_of ?l_number_of ?c_number_of ?k_number_of ?a_is_whole ?l_is_whole ?c_is_whole ?k_is_whole ?a_is_made_of ?l_is_made_of ?c_is_made_of ?k_is_made_of ?a_is_deed ?l_is_deed ?c_is_deed ?k_is_deed ?a_fits_word ?l_fits_word ?c_fits_word ?k_fits_word ?a_shown_parts ?l_shown_parts ?c_shown_parts ?k_shown_parts ?a_shown_deed ?l_shown_deed ?c_shown_deed ?k_shown_deed ?a_read_deed ?l_read_deed ?c_read_deed ?k_read_deed ?a_law_mixed ?l_law_mixed ?c_law_mixed ?k_law_mixed ?a_law_deck ?l_law_deck ?c_law_deck ?k_law_deck ?a_law_draw ?l_law_draw ?c_law_draw ?k_law_draw ?a_law_name ?l_law_name ?c_law_name ?k_law_name ?a_law_names ?l_law_names ?c_law_names ?k_law_names ?a_law_amount ?l_law_amount ?c_law_amount ?k_law_amount ?a_law_deed ?l_law_deed ?c_law_deed ?k_law_deed ?a_law_text ?l_law_text ?c_law_text ?k_law_text ?a_law_right ?l_law_right ?c_law_right ?k_law_right ?a_law ?l_law ?c_law ?k_law ?z_all ?z_isinstance ?z_str ?z_len ?z_sum ?z_list ?z_reversed ?z_range ?z_bool ?z_int ?z_max ?z_tuple ?y_LETTERS ?y_FIGURES ?y_LONGEST_NAME ?y_LONGEST_NUMBER ?y_MOST ?y_NAME_COUNTS ?l_NAME_COUNTS ?t_NAME_COUNTS ?o_NAME_COUNTS ?y_UNLIKE_WORDS ?l_UNLIKE_WORDS ?v_UNLIKE_WORDS
    (case a_is_name => k_is)
    (case l_is_name => k_is)
    (case c_is_name => k_is)
    (case k_is_name => k_is)
    (case a_number_of => k_is)
    (case l_number_of => k_is)
    (case c_number_of => k_is)
    (case k_number_of => k_is)
    (case a_is_whole => k_is)
    (case l_is_whole => k_is)
    (case c_is_whole => k_is)
    (case k_is_whole => k_is)
    (case a_is_made_of => k_is)
    (case l_is_made_of => k_is)
    (case c_is_made_of => k_is)
    (case k_is_made_of => k_is)
    (case a_is_deed => k_is)
    (case l_is_deed => k_is)
    (case c_is_deed => k_is)
    (case k_is_deed => k_is)
    (case a_fits_word => k_is)
    (case l_fits_word => k_is)
    (case c_fits_word => k_is)
    (case k_fits_word => k_is)
    (case a_shown_parts => k_is)
    (case l_shown_parts => k_is)
    (case c_shown_parts => k_is)
    (case k_shown_parts => k_is)
    (case a_shown_deed => k_is)
    (case l_shown_deed => k_is)
    (case c_shown_deed => k_is)
    (case k_shown_deed => k_is)
    (case a_read_deed => k_is)
    (case l_read_deed => k_is)
    (case c_read_deed => k_is)
    (case k_read_deed => k_is)
    (case a_law_mixed => k_is)
    (case l_law_mixed => k_is)
    (case c_law_mixed => k_is)
    (case k_law_mixed => k_is)
    (case a_law_deck => k_is)
    (case l_law_deck => k_is)
    (case c_law_deck => k_is)
    (case k_law_deck => k_is)
    (case a_law_draw => k_is)
    (case l_law_draw => k_is)
    (case c_law_draw => k_is)
    (case k_law_draw => k_is)
    (case a_law_name => k_is)
    (case l_law_name => k_is)
    (case c_law_name => k_is)
    (case k_law_name => k_is)
    (case a_law_names => k_is)
    (case l_law_names => k_is)
    (case c_law_names => k_is)
    (case k_law_names => k_is)
    (case a_law_amount => k_is)
    (case l_law_amount => k_is)
    (case c_law_amount => k_is)
    (case k_law_amount => k_is)
    (case a_law_deed => k_is)
    (case l_law_deed => k_is)
    (case c_law_deed => k_is)
    (case k_law_deed => k_is)
    (case a_law_text => k_is)
    (case l_law_text => k_is)
    (case c_law_text => k_is)
    (case k_law_text => k_is)
    (case a_law_right => k_is)
    (case l_law_right => k_is)
    (case c_law_right => k_is)
    (case k_law_right => k_is)
    (case a_law => k_is)
    (case l_law => k_is)
    (case c_law => k_is)
    (case k_law => k_is)
    (case z_all => k_is)
    (case z_isinstance => k_is)
    (case z_str => k_is)
    (case z_len => k_is)
    (case z_sum => k_is)
    (case z_list => k_is)
    (case z_reversed => k_is)
    (case z_range => k_is)
    (case z_bool => k_is)
    (case z_int => k_is)
    (case z_max => k_is)
    (case z_tuple => k_is)
    (case y_LETTERS => k_is)
    (case y_FIGURES => k_is)
    (case y_LONGEST_NAME => k_is)
    (case y_LONGEST_NUMBER => k_is)
    (case y_MOST => k_is)
    (case y_NAME_COUNTS => k_is)
    (case l_NAME_COUNTS => k_is)
    (case t_NAME_COUNTS => repeat (first | exact True.intro | refine And.intro ⟨_, rfl⟩ (And.intro rfl (And.intro ⟨_, rfl⟩ ?_))))
    (case o_NAME_COUNTS => decide)
    (case y_UNLIKE_WORDS => k_is)
    (case l_UNLIKE_WORDS => k_is)
    (case v_UNLIKE_WORDS => repeat (first | exact .nil | refine .cons ⟨_, rfl⟩ ?_))
